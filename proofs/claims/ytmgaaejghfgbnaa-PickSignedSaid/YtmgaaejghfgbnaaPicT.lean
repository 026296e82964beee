/- The reference of stage 14: Signed, Weighted (by gen_pict.py). -/
import Derived.Test.YtmgaaejghfgbnaaPicS
import Derived.Deep.RegionHeld3
import Derived.Deep.Cut
import Derived.Deep.CutRange
namespace Go.Proofs.Ytmgaaejghfgbnaa
set_option maxRecDepth 100000
open Go.RowKit Go.Shelf
attribute [local go_sem] Oper.semAt_some

set_option maxHeartbeats 4000000 in
theorem rSigned14_bad {A L : Option Addr} (n c m d : Nat) (i most : Int) (w : World) (hno : ¬ (0 ≤ most ∧ most ≤ 20)) : Calls Try.prog 15 #[.agg #[.slice A n c, .int .i64 i, .slice L m d], .int .i64 most] w (RTakeNo w 1) := by
  unfold RTakeNo
  have hb := ((Below.refl _ w).alloc (Nat.le_refl _) (.cells #[.slice A n c, .int .i64 i, .slice L m d] 24)).alloc (by simp) (.cells #[.slice none 0 0, .int .i64 0, .slice none 0 0, .int .i64 0, .slice none 0 0, .int .i64 0] 32)
  have hk0 := (Blk.new w 24 #[.slice A n c, .int .i64 i, .slice L m d]).alloc (.cells #[.slice none 0 0, .int .i64 0, .slice none 0 0, .int .i64 0, .slice none 0 0, .int .i64 0] 32)
  have hk1 := Blk.new (w.alloc (.cells #[.slice A n c, .int .i64 i, .slice L m d] 24)) 32 #[.slice none 0 0, .int .i64 0, .slice none 0 0, .int .i64 0, .slice none 0 0, .int .i64 0]
  rw [World.size_alloc] at hk1
  obtain ⟨W1, hW1⟩ : ∃ W1, (w.alloc (.cells #[.slice A n c, .int .i64 i, .slice L m d] 24)).alloc (.cells #[.slice none 0 0, .int .i64 0, .slice none 0 0, .int .i64 0, .slice none 0 0, .int .i64 0] 32) = W1 := ⟨_, rfl⟩
  rw [hW1] at hb hk0 hk1
  have q0 := hk0.cell 0
  have q1 := hk0.cell 1
  have q2 := hk0.cell 2
  have HK1 := Lib.hid hk1
  have HB := Lib.hid hb
  clear hk0 hk1 hb
  obtain ⟨Y1, Y2, Y3, Y4, Y5, Y6, e0, e1, e2, e3, e4, e5, f0, f1, f2, f3, f4, f5, g0, g1, g2, g3, g4, g5, r0, r1, r2, r3, r4, r5, -, -, HYB⟩ := n6_steps13 HK1.out (.slice none 0 0) (.int .i64 0) (.slice none 0 0) (.int .i64 0) (.slice none 0 0) (.int .i64 1)
  have HB3 := Lib.hid (HYB.out _ _ (Nat.le_succ _) HB.out)
  clear HYB
  by_cases h0 : most < 0
  · have h1 : decide (most < 0) = true := decide_eq_true h0
    clear hno
    go_enter Try.func15, Try.ntmps15
    go_wp2
    exact bodyPost_ret (v := .agg #[.slice none 0 0, .int .i64 0, .slice none 0 0, .int .i64 0, .slice none 0 0, .int .i64 1]) (by simp [results, Try.results15, go_sem, r0, r1, r2, r3, r4, r5]) rfl ⟨rfl, HB3.out⟩
  · have h1 : decide (most < 0) = false := decide_eq_false h0
    have h2 : decide (most > 20) = true := decide_eq_true (by omega)
    clear hno
    go_enter Try.func15, Try.ntmps15
    go_wp2
    exact bodyPost_ret (v := .agg #[.slice none 0 0, .int .i64 0, .slice none 0 0, .int .i64 0, .slice none 0 0, .int .i64 1]) (by simp [results, Try.results15, go_sem, r0, r1, r2, r3, r4, r5]) rfl ⟨rfl, HB3.out⟩
set_option maxHeartbeats 4000000 in
theorem rSigned14_no {A L : Option Addr} (n c m d er : Nat) (i most : Int) (w : World) (hin : 0 ≤ most ∧ most ≤ 20) (he : er = 1 ∨ er = 8) (hk : ∀ W, Below w.heap.size w W → Calls Try.prog 23 #[.agg #[.slice A n c, .int .i64 i, .slice L m d], .int .i64 (2 * most + 1)] W (RTakeNo W er)) :
    Calls Try.prog 15 #[.agg #[.slice A n c, .int .i64 i, .slice L m d], .int .i64 most] w (RTakeNo w er) := by
  unfold RTakeNo at hk ⊢
  have hb := ((Below.refl _ w).alloc (Nat.le_refl _) (.cells #[.slice A n c, .int .i64 i, .slice L m d] 24)).alloc (by simp) (.cells #[.slice none 0 0, .int .i64 0, .slice none 0 0, .int .i64 0, .slice none 0 0, .int .i64 0] 32)
  have hk0 := (Blk.new w 24 #[.slice A n c, .int .i64 i, .slice L m d]).alloc (.cells #[.slice none 0 0, .int .i64 0, .slice none 0 0, .int .i64 0, .slice none 0 0, .int .i64 0] 32)
  have hk1 := Blk.new (w.alloc (.cells #[.slice A n c, .int .i64 i, .slice L m d] 24)) 32 #[.slice none 0 0, .int .i64 0, .slice none 0 0, .int .i64 0, .slice none 0 0, .int .i64 0]
  rw [World.size_alloc] at hk1
  obtain ⟨W1, hW1⟩ : ∃ W1, (w.alloc (.cells #[.slice A n c, .int .i64 i, .slice L m d] 24)).alloc (.cells #[.slice none 0 0, .int .i64 0, .slice none 0 0, .int .i64 0, .slice none 0 0, .int .i64 0] 32) = W1 := ⟨_, rfl⟩
  rw [hW1] at hb hk0 hk1
  have q0 := hk0.cell 0
  have q1 := hk0.cell 1
  have q2 := hk0.cell 2
  have HK1 := Lib.hid hk1
  have HB := Lib.hid hb
  clear hk0 hk1 hb
  have h1 : decide (most < 0) = false := decide_eq_false (by omega)
  have h2 : decide (most > 20) = false := decide_eq_false (by omega)
  have h3 : wrap64 (2 * most) = 2 * most := by unfold wrap64; omega
  have h4 : wrap64 (2 * most + 1) = 2 * most + 1 := by unfold wrap64; omega
  have h5 : ((er : Int) == 0) = false := by rw [beq_eq_false_iff_ne]; omega
  have HT := Lib.hid (hk W1 HB.out)
  clear hk hin he
  go_enter Try.func15, Try.ntmps15
  go_wp2_with (fail)
  refine HT.out.mono ?_
  rintro e w2 ⟨rfl, hb2⟩
  have hbw := HB.out.trans (hb2.mono HB.out.size)
  have hz := Blk.new w2 32 #[.slice none 0 0, .int .i64 0, .slice none 0 0, .int .i64 0, .slice none 0 0, .int .i64 0]
  have hk2 := (HK1.out.below hb2 HK1.out.lt).alloc (.cells #[.slice none 0 0, .int .i64 0, .slice none 0 0, .int .i64 0, .slice none 0 0, .int .i64 0] 32)
  have hlt := (HK1.out.below hb2 HK1.out.lt).lt
  obtain ⟨Z1, Z2, Z3, Z4, Z5, Z6, a0, a1, a2, a3, a4, a5, b0, b1, b2, b3, b4, b5, k0, k1, k2, k3, k4, k5, s0, s1, s2, s3, s4, s5, -, hzh, hzb⟩ := n6_steps13 hz (.slice none 0 0) (.int .i64 0) (.slice none 0 0) (.int .i64 0) (.slice none 0 0) (.int .i64 (er : Int))
  have hk3 : Blk Z6 (w.heap.size + 1) 32 #[.slice none 0 0, .int .i64 0, .slice none 0 0, .int .i64 0, .slice none 0 0, .int .i64 0] := (hzh.out _ (by omega)).trans hk2
  obtain ⟨Y1, Y2, Y3, Y4, Y5, Y6, e0, e1, e2, e3, e4, e5, f0, f1, f2, f3, f4, f5, g0, g1, g2, g3, g4, g5, r0, r1, r2, r3, r4, r5, -, -, HYB⟩ := n6_steps13 hk3 (.slice none 0 0) (.int .i64 0) (.slice none 0 0) (.int .i64 0) (.slice none 0 0) (.int .i64 (er : Int))
  have HB3 := Lib.hid (HYB.out _ _ (Nat.le_succ _) (hzb.out _ _ hbw.size (hbw.alloc hbw.size (.cells #[.slice none 0 0, .int .i64 0, .slice none 0 0, .int .i64 0, .slice none 0 0, .int .i64 0] 32))))
  clear hb2 hbw hz hk2 hk3 hlt hzh hzb HYB
  go_wp2
  exact bodyPost_ret (v := .agg #[.slice none 0 0, .int .i64 0, .slice none 0 0, .int .i64 0, .slice none 0 0, .int .i64 (er : Int)]) (by simp [results, Try.results15, go_sem, r0, r1, r2, r3, r4, r5]) rfl ⟨rfl, HB3.out⟩
set_option maxHeartbeats 8000000 in
theorem rSigned14_yes {A L : Option Addr} {log : List Int} (n c m d j k : Nat) (i most : Int) (w : World) (hin : 0 ≤ most ∧ most ≤ 20) (hk9 : k ≤ 1000000) (hk : ∀ W, Below w.heap.size w W → Calls Try.prog 23 #[.agg #[.slice A n c, .int .i64 i, .slice L m d], .int .i64 (2 * most + 1)] W (RTake W A n c m log (k : Int) j)) :
    Calls Try.prog 15 #[.agg #[.slice A n c, .int .i64 i, .slice L m d], .int .i64 most] w (fun e w' => ∃ L' d', e = .returned (.agg #[.slice A n c, .int .i64 (j : Int), .slice L' (m + 1) d', .int .i64 (Pk.made k), .slice none 0 0, .int .i64 0]) ∧ w'.ownsRow w.heap.size 3 1 (.slice L' (m + 1) d') (m + 1) (ints (log ++ [(k : Int)])) ∧ Below w.heap.size w w') := by
  unfold RTake at hk
  have hb := ((Below.refl _ w).alloc (Nat.le_refl _) (.cells #[.slice A n c, .int .i64 i, .slice L m d] 24)).alloc (by simp) (.cells #[.slice none 0 0, .int .i64 0, .slice none 0 0, .int .i64 0, .slice none 0 0, .int .i64 0] 32)
  have hk0 := (Blk.new w 24 #[.slice A n c, .int .i64 i, .slice L m d]).alloc (.cells #[.slice none 0 0, .int .i64 0, .slice none 0 0, .int .i64 0, .slice none 0 0, .int .i64 0] 32)
  have hk1 := Blk.new (w.alloc (.cells #[.slice A n c, .int .i64 i, .slice L m d] 24)) 32 #[.slice none 0 0, .int .i64 0, .slice none 0 0, .int .i64 0, .slice none 0 0, .int .i64 0]
  rw [World.size_alloc] at hk1
  obtain ⟨W1, hW1⟩ : ∃ W1, (w.alloc (.cells #[.slice A n c, .int .i64 i, .slice L m d] 24)).alloc (.cells #[.slice none 0 0, .int .i64 0, .slice none 0 0, .int .i64 0, .slice none 0 0, .int .i64 0] 32) = W1 := ⟨_, rfl⟩
  rw [hW1] at hb hk0 hk1
  have q0 := hk0.cell 0
  have q1 := hk0.cell 1
  have q2 := hk0.cell 2
  have HK1 := Lib.hid hk1
  have HB := Lib.hid hb
  clear hk0 hk1 hb
  have h1 : decide (most < 0) = false := decide_eq_false (by omega)
  have h2 : decide (most > 20) = false := decide_eq_false (by omega)
  have h3 : wrap64 (2 * most) = 2 * most := by unfold wrap64; omega
  have h4 : wrap64 (2 * most + 1) = 2 * most + 1 := by unfold wrap64; omega
  have hmade := fun W => rMade14_any k hk9 W
  obtain ⟨x, hx⟩ : ∃ x, Pk.made k = x := ⟨_, rfl⟩
  rw [hx] at hmade ⊢
  have HT := Lib.hid (hk W1 HB.out)
  have HM := Lib.hid hmade
  clear hk hin hk9 hmade hx
  go_enter Try.func15, Try.ntmps15
  go_wp2_with (fail)
  refine HT.out.mono ?_
  rintro e w2 ⟨L', d', rfl, hown, hb2⟩
  have hbw := HB.out.trans (hb2.mono HB.out.size)
  have hz := Blk.new w2 32 #[.slice none 0 0, .int .i64 0, .slice none 0 0, .int .i64 0, .slice none 0 0, .int .i64 0]
  have hk2 := (HK1.out.below hb2 HK1.out.lt).alloc (.cells #[.slice none 0 0, .int .i64 0, .slice none 0 0, .int .i64 0, .slice none 0 0, .int .i64 0] 32)
  have hlt := (HK1.out.below hb2 HK1.out.lt).lt
  obtain ⟨Z1, Z2, Z3, Z4, Z5, Z6, a0, a1, a2, a3, a4, a5, b0, b1, b2, b3, b4, b5, k0, k1, k2, k3, k4, k5, s0, s1, s2, s3, s4, s5, hzk, hzh, hzb⟩ := n6_steps13 hz (.slice A n c) (.int .i64 (j : Int)) (.slice L' (m + 1) d') (.int .i64 (k : Int)) (.slice none 0 0) (.int .i64 0)
  have hbz := hzb.out _ _ hbw.size (hbw.alloc hbw.size (.cells #[.slice none 0 0, .int .i64 0, .slice none 0 0, .int .i64 0, .slice none 0 0, .int .i64 0] 32))
  have hk3 : Blk Z6 (w.heap.size + 1) 32 #[.slice none 0 0, .int .i64 0, .slice none 0 0, .int .i64 0, .slice none 0 0, .int .i64 0] := (hzh.out _ (by omega)).trans hk2
  have hown2 := own_ofD (ownT_below hown ((Below.refl _ w2).alloc (Nat.le_refl _) (.cells #[.slice none 0 0, .int .i64 0, .slice none 0 0, .int .i64 0, .slice none 0 0, .int .i64 0] 32))) fun g' hg' => hzh.out g' (by have := (hown.lt g' hg').2; omega)
  have zf := hzk.out.frozen 3
  obtain ⟨Za, hZa⟩ : ∃ Za, Z6.setCell ⟨w2.heap.size, 3, none⟩ (.int .i64 x) = Za := ⟨_, rfl⟩
  have hzk2 : Blk Za w2.heap.size 32 #[.slice A n c, .int .i64 (j : Int), .slice L' (m + 1) d', .int .i64 x, .slice none 0 0, .int .i64 0] := hZa ▸ hzk.out.set_ 3 (.int .i64 x)
  have hk4 : Blk Za (w.heap.size + 1) 32 #[.slice none 0 0, .int .i64 0, .slice none 0 0, .int .i64 0, .slice none 0 0, .int .i64 0] := hZa ▸ hk3.other (p := ⟨w2.heap.size, 3, none⟩) (by show w2.heap.size ≠ _; omega) _
  have hown3 := own_ofD hown2 fun g' hg' => (show Za.heap[g']? = Z6.heap[g']? from hZa ▸ Below.heap_setCell Z6 ⟨w2.heap.size, 3, none⟩ _ g' (by show g' ≠ w2.heap.size; have := (hown.lt g' hg').2; omega))
  have hba : Below w.heap.size w Za := hZa ▸ hbz.setCell (p := ⟨w2.heap.size, 3, none⟩) hbw.size _
  have t0 := hzk2.cell 0
  have t1 := hzk2.cell 1
  have t2 := hzk2.cell 2
  have t3 := hzk2.cell 3
  have t4 := hzk2.cell 4
  have t5 := hzk2.cell 5
  obtain ⟨Y1, Y2, Y3, Y4, Y5, Y6, e0, e1, e2, e3, e4, e5, f0, f1, f2, f3, f4, f5, g0, g1, g2, g3, g4, g5, r0, r1, r2, r3, r4, r5, -, hyh, HYB⟩ := n6_steps13 hk4 (.slice A n c) (.int .i64 (j : Int)) (.slice L' (m + 1) d') (.int .i64 x) (.slice none 0 0) (.int .i64 0)
  have HB3 := Lib.hid (HYB.out _ _ (Nat.le_succ _) hba)
  have hown4 := own_ofD hown3 fun g' hg' => hyh.out g' (by have h8 := (hown.lt g' hg').1; have h9 := HK1.out.lt; omega)
  have HO := Lib.hid (ownT_mono hown4 HB.out.size)
  clear hb2 hbw hz hk2 hk3 hlt hzh hzb hbz HYB hzk hzk2 hk4 hown hown2 hown3 hown4 hba hyh
  go_wp2_with (fail)
  refine (HM.out _).mono ?_
  rintro e w4 ⟨rfl, rfl⟩
  go_wp2
  exact bodyPost_ret (v := .agg #[.slice A n c, .int .i64 (j : Int), .slice L' (m + 1) d', .int .i64 x, .slice none 0 0, .int .i64 0]) (by simp [results, Try.results15, go_sem, r0, r1, r2, r3, r4, r5]) rfl ⟨L', d', rfl, HO.out, HB3.out⟩
set_option maxHeartbeats 4000000 in
theorem rWeighted14_bad {A L Q : Option Addr} {l : List Int} (n c m d q f : Nat) (i : Int) (w : World) (hA : Row w w.heap.size Q (ints l)) (hq : l.length = q) (hq9 : q ≤ 1000000) (hr : Pk.right l = false) : Calls Try.prog 9 #[.agg #[.slice A n c, .int .i64 i, .slice L m d], .slice Q q f] w (RTakeNo w 1) := by
  unfold RTakeNo
  have hb := ((Below.refl _ w).alloc (Nat.le_refl _) (.cells #[.slice A n c, .int .i64 i, .slice L m d] 24)).alloc (by simp) (.cells #[.slice none 0 0, .int .i64 0, .slice none 0 0, .int .i64 0, .slice none 0 0, .int .i64 0] 32)
  have hk0 := (Blk.new w 24 #[.slice A n c, .int .i64 i, .slice L m d]).alloc (.cells #[.slice none 0 0, .int .i64 0, .slice none 0 0, .int .i64 0, .slice none 0 0, .int .i64 0] 32)
  have hk1 := Blk.new (w.alloc (.cells #[.slice A n c, .int .i64 i, .slice L m d] 24)) 32 #[.slice none 0 0, .int .i64 0, .slice none 0 0, .int .i64 0, .slice none 0 0, .int .i64 0]
  rw [World.size_alloc] at hk1
  obtain ⟨W1, hW1⟩ : ∃ W1, (w.alloc (.cells #[.slice A n c, .int .i64 i, .slice L m d] 24)).alloc (.cells #[.slice none 0 0, .int .i64 0, .slice none 0 0, .int .i64 0, .slice none 0 0, .int .i64 0] 32) = W1 := ⟨_, rfl⟩
  rw [hW1] at hb hk0 hk1
  have hwt := rWeights14_any q f W1 ((hA.below hb).more hb.size) hq hq9
  rw [hr] at hwt
  have HWT := Lib.hid hwt
  have q0 := hk0.cell 0
  have q1 := hk0.cell 1
  have q2 := hk0.cell 2
  have HK1 := Lib.hid hk1
  have HB := Lib.hid hb
  clear hk0 hk1 hb
  obtain ⟨Y1, Y2, Y3, Y4, Y5, Y6, e0, e1, e2, e3, e4, e5, f0, f1, f2, f3, f4, f5, g0, g1, g2, g3, g4, g5, r0, r1, r2, r3, r4, r5, -, -, HYB⟩ := n6_steps13 HK1.out (.slice none 0 0) (.int .i64 0) (.slice none 0 0) (.int .i64 0) (.slice none 0 0) (.int .i64 1)
  have HB3 := Lib.hid (HYB.out _ _ (Nat.le_succ _) HB.out)
  clear HYB hwt hA hq hq9 hr
  go_enter Try.func9, Try.ntmps9
  go_wp2_with (fail)
  refine HWT.out.mono ?_
  rintro e w2 ⟨rfl, rfl⟩
  go_wp2
  exact bodyPost_ret (v := .agg #[.slice none 0 0, .int .i64 0, .slice none 0 0, .int .i64 0, .slice none 0 0, .int .i64 1]) (by simp [results, Try.results9, go_sem, r0, r1, r2, r3, r4, r5]) rfl ⟨rfl, HB3.out⟩
set_option maxHeartbeats 8000000 in
theorem rWeighted14_no {A L Q : Option Addr} {l : List Int} (n c m d q f er : Nat) (i : Int) (w : World) (hA : Row w w.heap.size Q (ints l)) (hq : l.length = q) (hq9 : q ≤ 1000000) (_ : q ≤ f) (hr : Pk.right l = true) (he : er = 1 ∨ er = 8) (hk : ∀ W, Below w.heap.size w W → Calls Try.prog 23 #[.agg #[.slice A n c, .int .i64 i, .slice L m d], .int .i64 (Pk.sum l)] W (RTakeNo W er)) :
    Calls Try.prog 9 #[.agg #[.slice A n c, .int .i64 i, .slice L m d], .slice Q q f] w (RTakeNo w er) := by
  unfold RTakeNo at hk ⊢
  obtain ⟨hg, h1, h20, hs0⟩ := Pk.right_good hr
  have hb := ((Below.refl _ w).alloc (Nat.le_refl _) (.cells #[.slice A n c, .int .i64 i, .slice L m d] 24)).alloc (by simp) (.cells #[.slice none 0 0, .int .i64 0, .slice none 0 0, .int .i64 0, .slice none 0 0, .int .i64 0] 32)
  have hk0 := (Blk.new w 24 #[.slice A n c, .int .i64 i, .slice L m d]).alloc (.cells #[.slice none 0 0, .int .i64 0, .slice none 0 0, .int .i64 0, .slice none 0 0, .int .i64 0] 32)
  have hk1 := Blk.new (w.alloc (.cells #[.slice A n c, .int .i64 i, .slice L m d] 24)) 32 #[.slice none 0 0, .int .i64 0, .slice none 0 0, .int .i64 0, .slice none 0 0, .int .i64 0]
  rw [World.size_alloc] at hk1
  obtain ⟨W1, hW1⟩ : ∃ W1, (w.alloc (.cells #[.slice A n c, .int .i64 i, .slice L m d] 24)).alloc (.cells #[.slice none 0 0, .int .i64 0, .slice none 0 0, .int .i64 0, .slice none 0 0, .int .i64 0] 32) = W1 := ⟨_, rfl⟩
  rw [hW1] at hb hk0 hk1
  have hwt := rWeights14_any q f W1 ((hA.below hb).more hb.size) hq hq9
  rw [hr] at hwt
  have hsum := fun W (hW : Below w.heap.size w W) => rSum14_any q f W ((hA.below hW).more hW.size) hq hg (by omega)
  obtain ⟨s, hs⟩ : ∃ s, Pk.sum l = s := ⟨_, rfl⟩
  rw [hs] at hsum hk
  have HWT := Lib.hid hwt
  have HSUM := Lib.hid hsum
  have HTK := Lib.hid hk
  have HK0 := Lib.hid hk0
  have q0 := hk0.cell 0
  have q1 := hk0.cell 1
  have q2 := hk0.cell 2
  have HK1 := Lib.hid hk1
  have HB := Lib.hid hb
  clear hk0 hk1 hb
  clear hwt hsum hk hA hq hq9 hr hg h1 h20 hs0 hs
  have h5 : ((er : Int) == 0) = false := by rw [beq_eq_false_iff_ne]; omega
  clear he
  go_enter Try.func9, Try.ntmps9
  go_wp2_with (fail)
  refine HWT.out.mono ?_
  rintro e w2 ⟨rfl, rfl⟩
  have HSK : Hid (∀ W, Below W1.heap.size W1 W → W.cell? ⟨w.heap.size, 0, none⟩ = some (.slice A n c) ∧ W.cell? ⟨w.heap.size, 1, none⟩ = some (.int .i64 i) ∧ W.cell? ⟨w.heap.size, 2, none⟩ = some (.slice L m d)) := Lib.hid fun W hb =>
    have h1 := HK0.out.below hb HK0.out.lt
    ⟨h1.cell 0, h1.cell 1, h1.cell 2⟩
  have BR := Lib.hid (Below.refl W1.heap.size W1)
  have BD := Lib.hid ((Below.refl W1.heap.size W1).drew)
  have BDA := Lib.hid (((Below.refl W1.heap.size W1).alloc (Nat.le_refl _) (.cells #[.slice none 0 0, .int .i64 0, .slice none 0 0, .int .i64 0, .slice none 0 0, .int .i64 0] 32)).drew)
  have HWB : Hid (∀ W, Below W1.heap.size W1 W → Below w.heap.size w W) := Lib.hid fun W hb => HB.out.trans (hb.mono HB.out.size)
  go_wp2_with (fail)
  go_cut [5] from 10 to 13 (fun bx wx => ∃ (g : Nat), bx = .pointer (some ⟨g, 0, none⟩) ∧ W1.heap.size ≤ g ∧ Hid (Below W1.heap.size W1 wx) ∧ Hid (Blk wx g 32 #[.slice none 0 0, .int .i64 0, .slice none 0 0, .int .i64 0, .slice none 0 0, .int .i64 (er : Int)]))
  case first =>
    go_region_held3 (fun W => W.cell? ⟨w.heap.size, 0, none⟩ = some (.slice A n c) ∧ W.cell? ⟨w.heap.size, 1, none⟩ = some (.int .i64 i) ∧ W.cell? ⟨w.heap.size, 2, none⟩ = some (.slice L m d))
      (first | (refine HSK.out _ ?_; first | with_reducible exact BR.out | with_reducible exact BD.out | with_reducible exact BDA.out | with_reducible exact hA | with_reducible exact hA.alloc hA.size _ | with_reducible exact hAA | with_reducible exact hYY))
      (first
        | (go_at_call 24; refine (HSUM.out _ (HWB.out _ ?_)).mono ?_; (first | with_reducible exact BD.out | with_reducible exact BDA.out); rintro e wq ⟨rfl, rfl⟩)
        | (go_at_call 23; refine (HTK.out _ (HWB.out _ ?_)).mono ?_; (first | with_reducible exact BD.out | with_reducible exact BDA.out); rintro e wa ⟨rfl, hba⟩; (first
            | (have hA : Below W1.heap.size W1 wa := BDA.out.trans (hba.mono BDA.out.size); have hG := (Blk.new W1 32 #[.slice none 0 0, .int .i64 0, .slice none 0 0, .int .i64 0, .slice none 0 0, .int .i64 0]).drew.below hba (Blk.new W1 32 #[.slice none 0 0, .int .i64 0, .slice none 0 0, .int .i64 0, .slice none 0 0, .int .i64 0]).drew.lt; have hAA := hA; have hsz := Nat.le_refl W1.heap.size; have hAW : W1.heap.size ≤ (W1.alloc (.cells #[.slice none 0 0, .int .i64 0, .slice none 0 0, .int .i64 0, .slice none 0 0, .int .i64 0] 32)).drew.heap.size := BDA.out.size; obtain ⟨Y1, Y2, Y3, Y4, Y5, Y6, e0, e1, e2, e3, e4, e5, f0, f1, f2, f3, f4, f5, g0, g1, g2, g3, g4, g5, r0, r1, r2, r3, r4, r5, hk9, hh9, hb9⟩ := n6_steps13 hG (.slice none 0 0) (.int .i64 0) (.slice none 0 0) (.int .i64 0) (.slice none 0 0) (.int .i64 (er : Int)); have hYY : Below W1.heap.size W1 Y6 := hb9.out _ _ hsz hAA; have SHK := hk9; clear hk9 hh9 hb9 hG)
            | (have hA : Below W1.heap.size W1 wa := BD.out.trans (hba.mono BD.out.size); obtain ⟨WB, hWB⟩ : ∃ WB, wa.alloc (.cells #[.slice none 0 0, .int .i64 0, .slice none 0 0, .int .i64 0, .slice none 0 0, .int .i64 0] 32) = WB := ⟨_, rfl⟩; have hG : Blk WB wa.heap.size 32 #[.slice none 0 0, .int .i64 0, .slice none 0 0, .int .i64 0, .slice none 0 0, .int .i64 0] := hWB ▸ Blk.new _ _ _; have hAA : Below W1.heap.size W1 WB := hWB ▸ hA.alloc hA.size _; have hsz := hA.size; have hAW : W1.heap.size ≤ W1.drew.heap.size := BD.out.size; obtain ⟨Y1, Y2, Y3, Y4, Y5, Y6, e0, e1, e2, e3, e4, e5, f0, f1, f2, f3, f4, f5, g0, g1, g2, g3, g4, g5, r0, r1, r2, r3, r4, r5, hk9, hh9, hb9⟩ := n6_steps13 hG (.slice none 0 0) (.int .i64 0) (.slice none 0 0) (.int .i64 0) (.slice none 0 0) (.int .i64 (er : Int)); have hYY : Below W1.heap.size W1 Y6 := hb9.out _ _ hsz hAA; have SHK := hk9; clear hk9 hh9 hb9 hG))))
    all_goals go_wp2_with fail
    all_goals go_meet
    all_goals exact ⟨_, rfl, hsz, Lib.hid hYY, SHK⟩
  case rest =>
    obtain ⟨g, rfl, hwg, HBC, HKG⟩ := hcut
    have hk3 := HK1.out.below HBC.out HK1.out.lt
    have hlt := HK1.out.lt
    have HBW := Lib.hid (HWB.out _ HBC.out)
    clear BR BD BDA HSK
    have t0 := HKG.out.cell 0
    have t1 := HKG.out.cell 1
    have t2 := HKG.out.cell 2
    have t3 := HKG.out.cell 3
    have t4 := HKG.out.cell 4
    have t5 := HKG.out.cell 5
    obtain ⟨Y1, Y2, Y3, Y4, Y5, Y6, e0, e1, e2, e3, e4, e5, f0, f1, f2, f3, f4, f5, g0, g1, g2, g3, g4, g5, r0, r1, r2, r3, r4, r5, -, -, HYB⟩ := n6_steps13 hk3 (.slice none 0 0) (.int .i64 0) (.slice none 0 0) (.int .i64 0) (.slice none 0 0) (.int .i64 (er : Int))
    have HB3 := Lib.hid (HYB.out _ _ (Nat.le_succ _) HBW.out)
    clear hk3 hlt HYB
    go_wp2
    exact bodyPost_ret (v := .agg #[.slice none 0 0, .int .i64 0, .slice none 0 0, .int .i64 0, .slice none 0 0, .int .i64 (er : Int)]) (by simp [results, Try.results9, go_sem, r0, r1, r2, r3, r4, r5]) rfl ⟨rfl, HB3.out⟩
set_option maxHeartbeats 8000000 in
theorem rWeighted14_yes {A L Q : Option Addr} {l log : List Int} (n c m d q f j : Nat) (i x : Int) (w : World) (hA : Row w w.heap.size Q (ints l)) (hq : l.length = q) (hq9 : q ≤ 1000000) (hf : q ≤ f) (hr : Pk.right l = true) (hk : ∀ W, Below w.heap.size w W → Calls Try.prog 23 #[.agg #[.slice A n c, .int .i64 i, .slice L m d], .int .i64 (Pk.sum l)] W (RTake W A n c m log x j)) :
    Calls Try.prog 9 #[.agg #[.slice A n c, .int .i64 i, .slice L m d], .slice Q q f] w (fun e w' => ∃ L' d', e = .returned (.agg #[.slice A n c, .int .i64 (j : Int), .slice L' (m + 1) d', .int .i64 (Pk.picks l x : Nat), .slice none 0 0, .int .i64 0]) ∧ w'.ownsRow w.heap.size 3 1 (.slice L' (m + 1) d') (m + 1) (ints (log ++ [x])) ∧ Below w.heap.size w w') := by
  unfold RTake at hk
  obtain ⟨hg, h1, h20, hs0⟩ := Pk.right_good hr
  have hb := ((Below.refl _ w).alloc (Nat.le_refl _) (.cells #[.slice A n c, .int .i64 i, .slice L m d] 24)).alloc (by simp) (.cells #[.slice none 0 0, .int .i64 0, .slice none 0 0, .int .i64 0, .slice none 0 0, .int .i64 0] 32)
  have hk0 := (Blk.new w 24 #[.slice A n c, .int .i64 i, .slice L m d]).alloc (.cells #[.slice none 0 0, .int .i64 0, .slice none 0 0, .int .i64 0, .slice none 0 0, .int .i64 0] 32)
  have hk1 := Blk.new (w.alloc (.cells #[.slice A n c, .int .i64 i, .slice L m d] 24)) 32 #[.slice none 0 0, .int .i64 0, .slice none 0 0, .int .i64 0, .slice none 0 0, .int .i64 0]
  rw [World.size_alloc] at hk1
  obtain ⟨W1, hW1⟩ : ∃ W1, (w.alloc (.cells #[.slice A n c, .int .i64 i, .slice L m d] 24)).alloc (.cells #[.slice none 0 0, .int .i64 0, .slice none 0 0, .int .i64 0, .slice none 0 0, .int .i64 0] 32) = W1 := ⟨_, rfl⟩
  rw [hW1] at hb hk0 hk1
  have hwt := rWeights14_any q f W1 ((hA.below hb).more hb.size) hq hq9
  rw [hr] at hwt
  have hsum := fun W (hW : Below w.heap.size w W) => rSum14_any q f W ((hA.below hW).more hW.size) hq hg (by omega)
  have hpk := fun W (hW : Below w.heap.size w W) => rPicks14_any q f x W ((hA.below hW).more hW.size) hq hg (by omega) hf
  obtain ⟨p, hp⟩ : ∃ p, Pk.picks l x = p := ⟨_, rfl⟩
  rw [hp] at hpk ⊢
  have HPK := Lib.hid hpk
  obtain ⟨s, hs⟩ : ∃ s, Pk.sum l = s := ⟨_, rfl⟩
  rw [hs] at hsum hk
  have HWT := Lib.hid hwt
  have HSUM := Lib.hid hsum
  have HTK := Lib.hid hk
  have HK0 := Lib.hid hk0
  have q0 := hk0.cell 0
  have q1 := hk0.cell 1
  have q2 := hk0.cell 2
  have HK1 := Lib.hid hk1
  have HB := Lib.hid hb
  clear hk0 hk1 hb
  clear hwt hsum hk hA hq hq9 hr hg h1 h20 hs0 hs hf hpk hp
  go_enter Try.func9, Try.ntmps9
  go_wp2_with (fail)
  refine HWT.out.mono ?_
  rintro e w2 ⟨rfl, rfl⟩
  have HSK : Hid (∀ W, Below W1.heap.size W1 W → W.cell? ⟨w.heap.size, 0, none⟩ = some (.slice A n c) ∧ W.cell? ⟨w.heap.size, 1, none⟩ = some (.int .i64 i) ∧ W.cell? ⟨w.heap.size, 2, none⟩ = some (.slice L m d)) := Lib.hid fun W hb =>
    have h1 := HK0.out.below hb HK0.out.lt
    ⟨h1.cell 0, h1.cell 1, h1.cell 2⟩
  have BR := Lib.hid (Below.refl W1.heap.size W1)
  have BD := Lib.hid ((Below.refl W1.heap.size W1).drew)
  have BDA := Lib.hid (((Below.refl W1.heap.size W1).alloc (Nat.le_refl _) (.cells #[.slice none 0 0, .int .i64 0, .slice none 0 0, .int .i64 0, .slice none 0 0, .int .i64 0] 32)).drew)
  have HWB : Hid (∀ W, Below W1.heap.size W1 W → Below w.heap.size w W) := Lib.hid fun W hb => HB.out.trans (hb.mono HB.out.size)
  go_wp2_with (fail)
  go_cut [5] from 10 to 13 (fun bx wx => ∃ (g : Nat) (L' : Option Addr) (d' : Nat), bx = .pointer (some ⟨g, 0, none⟩) ∧ W1.heap.size ≤ g ∧ Hid (Below W1.heap.size W1 wx) ∧ Hid (Blk wx g 32 #[.slice A n c, .int .i64 (j : Int), .slice L' (m + 1) d', .int .i64 x, .slice none 0 0, .int .i64 0]) ∧ Hid (wx.ownsRow W1.heap.size 3 1 (.slice L' (m + 1) d') (m + 1) (ints (log ++ [x]))))
  case first =>
    go_region_held3 (fun W => W.cell? ⟨w.heap.size, 0, none⟩ = some (.slice A n c) ∧ W.cell? ⟨w.heap.size, 1, none⟩ = some (.int .i64 i) ∧ W.cell? ⟨w.heap.size, 2, none⟩ = some (.slice L m d))
      (first | (refine HSK.out _ ?_; first | with_reducible exact BR.out | with_reducible exact BD.out | with_reducible exact BDA.out | with_reducible exact hA | with_reducible exact hA.alloc hA.size _ | with_reducible exact hAA | with_reducible exact hYY))
      (first
        | (go_at_call 24; refine (HSUM.out _ (HWB.out _ ?_)).mono ?_; (first | with_reducible exact BD.out | with_reducible exact BDA.out); rintro e wq ⟨rfl, rfl⟩)
        | (go_at_call 23; refine (HTK.out _ (HWB.out _ ?_)).mono ?_; (first | with_reducible exact BD.out | with_reducible exact BDA.out); rintro e wa ⟨L', d', rfl, hown, hba⟩; (first
            | (have hA : Below W1.heap.size W1 wa := BDA.out.trans (hba.mono BDA.out.size); have hG := (Blk.new W1 32 #[.slice none 0 0, .int .i64 0, .slice none 0 0, .int .i64 0, .slice none 0 0, .int .i64 0]).drew.below hba (Blk.new W1 32 #[.slice none 0 0, .int .i64 0, .slice none 0 0, .int .i64 0, .slice none 0 0, .int .i64 0]).drew.lt; have hAA := hA; have hsz := Nat.le_refl W1.heap.size; have hAW : W1.heap.size ≤ (W1.alloc (.cells #[.slice none 0 0, .int .i64 0, .slice none 0 0, .int .i64 0, .slice none 0 0, .int .i64 0] 32)).drew.heap.size := BDA.out.size; have hne : ∀ g', (Value.slice L' (m + 1) d').ownBlock = some g' → g' ≠ W1.heap.size := fun g' hg' => (by have h8 : (W1.alloc (.cells #[.slice none 0 0, .int .i64 0, .slice none 0 0, .int .i64 0, .slice none 0 0, .int .i64 0] 32)).heap.size ≤ g' := (hown.lt g' hg').1; rw [World.size_alloc] at h8; omega); obtain ⟨Y1, Y2, Y3, Y4, Y5, Y6, e0, e1, e2, e3, e4, e5, f0, f1, f2, f3, f4, f5, g0, g1, g2, g3, g4, g5, r0, r1, r2, r3, r4, r5, hk9, hh9, hb9⟩ := n6_steps13 hG (.slice A n c) (.int .i64 (j : Int)) (.slice L' (m + 1) d') (.int .i64 x) (.slice none 0 0) (.int .i64 0); have hYY : Below W1.heap.size W1 Y6 := hb9.out _ _ hsz hAA; have hog := hown; have HO := Lib.hid (own_ofD (ownT_mono hog hAW) fun g' hg' => hh9.out g' (hne g' hg')); clear hog; have SHK := hk9; clear hk9 hh9 hb9 hG)
            | (have hA : Below W1.heap.size W1 wa := BD.out.trans (hba.mono BD.out.size); obtain ⟨WB, hWB⟩ : ∃ WB, wa.alloc (.cells #[.slice none 0 0, .int .i64 0, .slice none 0 0, .int .i64 0, .slice none 0 0, .int .i64 0] 32) = WB := ⟨_, rfl⟩; have hG : Blk WB wa.heap.size 32 #[.slice none 0 0, .int .i64 0, .slice none 0 0, .int .i64 0, .slice none 0 0, .int .i64 0] := hWB ▸ Blk.new _ _ _; have hAA : Below W1.heap.size W1 WB := hWB ▸ hA.alloc hA.size _; have hsz := hA.size; have hAW : W1.heap.size ≤ W1.drew.heap.size := BD.out.size; have hne : ∀ g', (Value.slice L' (m + 1) d').ownBlock = some g' → g' ≠ wa.heap.size := fun g' hg' => (by have h8 := (hown.lt g' hg').2; omega); obtain ⟨Y1, Y2, Y3, Y4, Y5, Y6, e0, e1, e2, e3, e4, e5, f0, f1, f2, f3, f4, f5, g0, g1, g2, g3, g4, g5, r0, r1, r2, r3, r4, r5, hk9, hh9, hb9⟩ := n6_steps13 hG (.slice A n c) (.int .i64 (j : Int)) (.slice L' (m + 1) d') (.int .i64 x) (.slice none 0 0) (.int .i64 0); have hYY : Below W1.heap.size W1 Y6 := hb9.out _ _ hsz hAA; have hog := hWB ▸ hown.alloc (.cells #[.slice none 0 0, .int .i64 0, .slice none 0 0, .int .i64 0, .slice none 0 0, .int .i64 0] 32); have HO := Lib.hid (own_ofD (ownT_mono hog hAW) fun g' hg' => hh9.out g' (hne g' hg')); clear hog; have SHK := hk9; clear hk9 hh9 hb9 hG))))
    all_goals go_wp2_with fail
    all_goals go_meet
    all_goals exact ⟨_, _, _, rfl, hsz, Lib.hid hYY, SHK, HO⟩
  case rest =>
    obtain ⟨g, L', d', rfl, hwg, HBC, HKG, HOW⟩ := hcut
    have hk3 := HK1.out.below HBC.out HK1.out.lt
    have hlt := HK1.out.lt
    have HBW := Lib.hid (HWB.out _ HBC.out)
    clear BR BD BDA HSK
    have zf := HKG.out.frozen 3
    have z3 := HKG.out.cell 3
    have z5 := HKG.out.cell 5
    obtain ⟨Za, hZa⟩ : ∃ Za, wc.setCell ⟨g, 3, none⟩ (.int .i64 (p : Int)) = Za := ⟨_, rfl⟩
    have hzk2 : Blk Za g 32 #[.slice A n c, .int .i64 (j : Int), .slice L' (m + 1) d', .int .i64 (p : Int), .slice none 0 0, .int .i64 0] := hZa ▸ HKG.out.set_ 3 (.int .i64 (p : Int))
    have hk4 : Blk Za (w.heap.size + 1) 32 #[.slice none 0 0, .int .i64 0, .slice none 0 0, .int .i64 0, .slice none 0 0, .int .i64 0] := hZa ▸ hk3.other (p := ⟨g, 3, none⟩) (by show g ≠ _; omega) _
    have hown := HOW.out
    have hown3 := own_ofD hown fun g' hg' => (show Za.heap[g']? = wc.heap[g']? from hZa ▸ Below.heap_setCell wc ⟨g, 3, none⟩ _ g' (by
      obtain ⟨cs, hbk⟩ := own_blkD hown hg'
      exact hbk.ty_neD HKG.out (by decide)))
    have hba : Below w.heap.size w Za := hZa ▸ HBW.out.setCell (p := ⟨g, 3, none⟩) (Nat.le_trans HB.out.size hwg) _
    have t0 := hzk2.cell 0
    have t1 := hzk2.cell 1
    have t2 := hzk2.cell 2
    have t3 := hzk2.cell 3
    have t4 := hzk2.cell 4
    have t5 := hzk2.cell 5
    obtain ⟨Y1, Y2, Y3, Y4, Y5, Y6, e0, e1, e2, e3, e4, e5, f0, f1, f2, f3, f4, f5, g0, g1, g2, g3, g4, g5, r0, r1, r2, r3, r4, r5, -, hyh, HYB⟩ := n6_steps13 hk4 (.slice A n c) (.int .i64 (j : Int)) (.slice L' (m + 1) d') (.int .i64 (p : Int)) (.slice none 0 0) (.int .i64 0)
    have HB3 := Lib.hid (HYB.out _ _ (Nat.le_succ _) hba)
    have hown4 := own_ofD hown3 fun g' hg' => hyh.out g' (by have h8 := (hown.lt g' hg').1; omega)
    have HO := Lib.hid (ownT_mono hown4 HB.out.size)
    clear hk3 hzk2 hk4 hown hown3 hown4 hba hyh HYB hlt
    go_wp2_with (fail)
    refine (HPK.out _ HBW.out).mono ?_
    rintro e w4 ⟨rfl, rfl⟩
    go_wp2
    exact bodyPost_ret (v := .agg #[.slice A n c, .int .i64 (j : Int), .slice L' (m + 1) d', .int .i64 (p : Int), .slice none 0 0, .int .i64 0]) (by simp [results, Try.results9, go_sem, r0, r1, r2, r3, r4, r5]) rfl ⟨L', d', rfl, HO.out, HB3.out⟩
end Go.Proofs.Ytmgaaejghfgbnaa
