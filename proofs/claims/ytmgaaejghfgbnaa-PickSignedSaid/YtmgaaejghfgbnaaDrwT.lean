/- A law's few of draws. -/
import Derived.Test.YtmgaaejghfgbnaaDrwF
namespace Go.Proofs.Ytmgaaejghfgbnaa
set_option maxRecDepth 100000
open Go.RowKit Go.Shelf
attribute [local go_sem] Oper.semAt_some

set_option maxHeartbeats 4000000 in
theorem fewD_any {A L : Option Addr} (n c m d N M : Nat) (i : Int) (w : World) (hmin : min (n : Int) 503 = (N : Int)) (hmin2 : min (m : Int) 2003 = (M : Int)) (hc : n ≤ c) (hd : m ≤ d) :
    Calls Try.prog 6 #[.agg #[.slice A n c, .int .i64 i, .slice L m d]] w (fun e w' => e = .returned (.agg #[.slice A N c, .int .i64 i, .slice L M d]) ∧ Below w.heap.size w w') := by
  have hb0 := ((Below.refl _ w).alloc (Nat.le_refl _) (.cells #[.slice A n c, .int .i64 i, .slice L m d] 24)).alloc (by simp) (.cells #[.slice none 0 0, .int .i64 0, .slice none 0 0] 24)
  have hp0 := (Blk.new w 24 #[.slice A n c, .int .i64 i, .slice L m d]).alloc (.cells #[.slice none 0 0, .int .i64 0, .slice none 0 0] 24)
  have hq0 := Blk.new (w.alloc (.cells #[.slice A n c, .int .i64 i, .slice L m d] 24)) 24 #[.slice none 0 0, .int .i64 0, .slice none 0 0]
  rw [World.size_alloc] at hq0
  obtain ⟨W0, hW0⟩ : ∃ W0, (w.alloc (.cells #[.slice A n c, .int .i64 i, .slice L m d] 24)).alloc (.cells #[.slice none 0 0, .int .i64 0, .slice none 0 0] 24) = W0 := ⟨_, rfl⟩
  rw [hW0] at hb0 hp0 hq0
  have hN : N ≤ c := by omega
  have hM : M ≤ d := by omega
  have a0 := hp0.cell 0
  have a2 := hp0.cell 2
  have f0 := hp0.frozen 0
  have f2 := hp0.frozen 2
  have HP := Lib.hid hp0
  have HQ := Lib.hid hq0
  have HB := Lib.hid hb0
  clear hb0 hp0 hq0 hc hd
  go_enter Try.func6, Try.ntmps6
  go_wp2_with (fail)
  refine Free.region_seq [15, 17] [1, 3, 8, 10] 15 (fun W' => W'.cell? ⟨w.heap.size, 0, none⟩ = some (.slice A n c) ∧ W'.cell? ⟨w.heap.size, 2, none⟩ = some (.slice L m d)) (by kernel_rfl) (by kernel_rfl) (by kernel_rfl) (by kernel_rfl) (⟨a0, a2⟩) (fun ops hops => ?_)
  clear hops
  iterate 15
    refine Free.Seq.quiet (v := ?_) (a' := ?_) rfl rfl (fun W' hW' => ?_) ?_ ?_
    rotate_left 2
    · first | obtain ⟨s0, s1⟩ := hW' rfl | skip
      go_simp
      try with_reducible rfl
    · simp only [Act.put, List.setIfInBounds_toArray, List.set_cons_zero, List.set_cons_succ]
      try with_reducible rfl
  refine Free.Seq.loud_ rfl (.inl rfl) (fun K hK => ?_)
  go_simp
  refine hK.out _ _ rfl (fun h => absurd h (by decide)) ?_
  clear hK K
  iterate 1
    refine Free.Seq.quiet (v := ?_) (a' := ?_) rfl rfl (fun W' hW' => ?_) ?_ ?_
    rotate_left 2
    · skip
      go_simp
      try with_reducible rfl
    · simp only [Act.put, List.setIfInBounds_toArray, List.set_cons_zero, List.set_cons_succ]
      try with_reducible rfl
  refine Free.Seq.loud_ rfl (.inl rfl) (fun K hK => ?_)
  go_simp
  refine hK.out _ _ rfl (fun h => absurd h (by decide)) ?_
  clear hK K
  refine Free.Seq.nil_ ?_
  obtain ⟨W2, hW2⟩ : ∃ W2, ((W0.setCell ⟨w.heap.size, 0, none⟩ (.slice A N c)).setCell ⟨w.heap.size, 2, none⟩ (.slice L M d)).drew = W2 := ⟨_, rfl⟩
  have hp2 : Blk W2 w.heap.size 24 #[.slice A N c, .int .i64 i, .slice L M d] := hW2 ▸ ((HP.out.set_ 0 (.slice A N c)).set_ 2 (.slice L M d)).drew
  have hq2 : Blk W2 (w.heap.size + 1) 24 #[.slice none 0 0, .int .i64 0, .slice none 0 0] := hW2 ▸ ((HQ.out.other (p := ⟨w.heap.size, 0, none⟩) (by show w.heap.size ≠ _; omega) _).other (p := ⟨w.heap.size, 2, none⟩) (by show w.heap.size ≠ _; omega) _).drew
  have hb2 : Below w.heap.size w W2 := hW2 ▸ ((HB.out.setCell (p := ⟨w.heap.size, 0, none⟩) (Nat.le_refl _) _).setCell (p := ⟨w.heap.size, 2, none⟩) (Nat.le_refl _) _).drew
  rw [hW2]
  have t0 := hp2.cell 0
  have t1 := hp2.cell 1
  have t2 := hp2.cell 2
  obtain ⟨Y1, Y2, Y3, e0, e1, e2, f0', f1', f2', g0, g1, g2, r0, r1, r2, -, -, HYB⟩ := n3_steps hq2 (.slice A N c) (.int .i64 i) (.slice L M d)
  have HB3 := Lib.hid (HYB.out _ _ (Nat.le_succ _) hb2)
  clear hp2 hq2 hb2 hW2 HYB a0 a2 f0 f2 hmin hmin2 hW0
  go_wp2
  exact bodyPost_ret (v := .agg #[.slice A N c, .int .i64 i, .slice L M d]) (by simp [results, Try.results6, go_sem, r0, r1, r2]) rfl ⟨rfl, HB3.out⟩
end Go.Proofs.Ytmgaaejghfgbnaa
