/- The walk of package pick's Signed. -/
import Derived.Test.YtmgaaejghfgbnaaPicB
import Derived.Test.YtmgaaejghfgbnaaDrwF
namespace Go.Proofs.Ytmgaaejghfgbnaa
set_option maxRecDepth 100000
open Go.RowKit Go.Shelf
attribute [local go_sem] Oper.semAt_some

/-- What a choice answers, where it chooses: x the choice, v what it makes. -/
def PTake14 (w : World) (n m : Nat) (list log : List Int) (x v : Int) (i : Nat) (e : Ending) (w' : World) : Prop :=
  ∃ A c L d, e = .returned (.tuple #[.agg #[.slice A n c, .int .i64 (i : Int), .slice L (m + 1) d], .int .i64 v, .int .i64 0]) ∧ w'.ownsRow w.heap.size 3 1 (.slice A n c) n (ints list) ∧
    w'.ownsRow w.heap.size 3 1 (.slice L (m + 1) d) (m + 1) (ints (log ++ [x])) ∧ Below w.heap.size w w'
set_option maxHeartbeats 2000000 in
theorem pSigned14_bad {A L : Option Addr} (n c m d : Nat) (i most : Int) (w : World) (hno : ¬ (0 ≤ most ∧ most ≤ 20)) :
    Calls Try.prog 13 #[.agg #[.slice A n c, .int .i64 i, .slice L m d], .int .i64 most] w (TakeNo13 w 1) := by
  unfold TakeNo13
  have hb := ((Below.refl _ w).alloc (Nat.le_refl _) (.cells #[.slice A n c, .int .i64 i, .slice L m d] 24)).alloc (by simp) (.cells #[.slice none 0 0, .int .i64 0, .slice none 0 0] 24)
  have hk0 := (Blk.new w 24 #[.slice A n c, .int .i64 i, .slice L m d]).alloc (.cells #[.slice none 0 0, .int .i64 0, .slice none 0 0] 24)
  have hk1 := Blk.new (w.alloc (.cells #[.slice A n c, .int .i64 i, .slice L m d] 24)) 24 #[.slice none 0 0, .int .i64 0, .slice none 0 0]
  rw [World.size_alloc] at hk1
  obtain ⟨W1, hW1⟩ : ∃ W1, (w.alloc (.cells #[.slice A n c, .int .i64 i, .slice L m d] 24)).alloc (.cells #[.slice none 0 0, .int .i64 0, .slice none 0 0] 24) = W1 := ⟨_, rfl⟩
  rw [hW1] at hb hk0 hk1
  have him := isMost14_any most W1
  rw [decide_eq_false hno] at him
  obtain ⟨Y1, Y2, Y3, e0, e1, e2, f0, f1, f2, g0, g1, g2, r0, r1, r2, -, -, HYB⟩ := n3_steps hk1 (.slice none 0 0) (.int .i64 0) (.slice none 0 0)
  have HB3 := Lib.hid (HYB.out _ _ (Nat.le_succ _) hb)
  have HIM := Lib.hid him
  clear hk0 hk1 hb HYB him hno
  go_enter Try.func13, Try.ntmps13
  go_wp2_with (fail)
  refine HIM.out.mono ?_
  rintro e w1 ⟨rfl, rfl⟩
  go_wp2
  exact bodyPost_ret (v := .tuple #[.agg #[.slice none 0 0, .int .i64 0, .slice none 0 0], .int .i64 0, .int .i64 1]) (by simp [results, Try.results13, go_sem, r0, r1, r2]) rfl ⟨rfl, HB3.out⟩
set_option maxHeartbeats 2000000 in
theorem pSigned14_no {A L : Option Addr} (n c m d er : Nat) (i most : Int) (w : World) (hin : 0 ≤ most ∧ most ≤ 20) (he : er = 1 ∨ er = 8) (hk : ∀ W, Below w.heap.size w W → Calls Try.prog 19 #[.agg #[.slice A n c, .int .i64 i, .slice L m d], .int .i64 (2 * most + 1)] W (TakeNo13 W er)) :
    Calls Try.prog 13 #[.agg #[.slice A n c, .int .i64 i, .slice L m d], .int .i64 most] w (TakeNo13 w er) := by
  unfold TakeNo13 at hk ⊢
  have hb := ((Below.refl _ w).alloc (Nat.le_refl _) (.cells #[.slice A n c, .int .i64 i, .slice L m d] 24)).alloc (by simp) (.cells #[.slice none 0 0, .int .i64 0, .slice none 0 0] 24)
  have hk0 := (Blk.new w 24 #[.slice A n c, .int .i64 i, .slice L m d]).alloc (.cells #[.slice none 0 0, .int .i64 0, .slice none 0 0] 24)
  have hk1 := Blk.new (w.alloc (.cells #[.slice A n c, .int .i64 i, .slice L m d] 24)) 24 #[.slice none 0 0, .int .i64 0, .slice none 0 0]
  rw [World.size_alloc] at hk1
  obtain ⟨W1, hW1⟩ : ∃ W1, (w.alloc (.cells #[.slice A n c, .int .i64 i, .slice L m d] 24)).alloc (.cells #[.slice none 0 0, .int .i64 0, .slice none 0 0] 24) = W1 := ⟨_, rfl⟩
  rw [hW1] at hb hk0 hk1
  have him := isMost14_any most W1
  rw [decide_eq_true hin] at him
  have q0 := hk0.cell 0
  have q1 := hk0.cell 1
  have q2 := hk0.cell 2
  have ha : wrap64 (2 * most) = 2 * most := by unfold wrap64; omega
  have ha2 : wrap64 (2 * most + 1) = 2 * most + 1 := by unfold wrap64; omega
  have hez : ((er : Int) != 0) = true := by rw [bne_iff_ne]; omega
  have hez2 : ¬ er = 0 := by omega
  have HT := Lib.hid (hk W1 hb)
  have HIM := Lib.hid him
  have HB := Lib.hid hb
  have HK1 := Lib.hid hk1
  clear hk0 hk1 hb him hin hk he
  go_enter Try.func13, Try.ntmps13
  go_wp2_with (fail)
  refine HIM.out.mono ?_
  rintro e w1 ⟨rfl, rfl⟩
  go_wp2_with (fail)
  refine HT.out.mono ?_
  rintro e w1 ⟨rfl, hb1⟩
  have hk2 := (HK1.out.below hb1 HK1.out.lt).alloc (.cells #[.slice none 0 0, .int .i64 0, .slice none 0 0] 24)
  have hk3 := Blk.new w1 24 #[.slice none 0 0, .int .i64 0, .slice none 0 0]
  have hne : w.heap.size + 1 ≠ w1.heap.size := by have := (HK1.out.below hb1 HK1.out.lt).lt; omega
  obtain ⟨Z1, Z2, Z3, d0, d1, d2, h0, h1, h2, i0, i1, i2, j0, j1, j2, hz, hzh, hzb⟩ := n3_steps hk3 (.slice none 0 0) (.int .i64 0) (.slice none 0 0)
  have hk4 : Blk Z3 (w.heap.size + 1) 24 #[.slice none 0 0, .int .i64 0, .slice none 0 0] := (hzh.out _ hne).trans hk2
  obtain ⟨Y1, Y2, Y3, e0, e1, e2, f0, f1, f2, g0, g1, g2, r0, r1, r2, -, -, HYB⟩ := n3_steps hk4 (.slice none 0 0) (.int .i64 0) (.slice none 0 0)
  have hbw := HB.out.trans (hb1.mono HB.out.size)
  have HB3 := Lib.hid (HYB.out _ _ (Nat.le_succ _) (hzb.out _ _ hbw.size (hbw.alloc hbw.size (.cells #[.slice none 0 0, .int .i64 0, .slice none 0 0] 24))))
  clear hk2 hk3 hk4 hb1 HYB hz hzh hzb hbw hne
  go_wp2
  exact bodyPost_ret (v := .tuple #[.agg #[.slice none 0 0, .int .i64 0, .slice none 0 0], .int .i64 0, .int .i64 (er : Int)]) (by simp [results, Try.results13, go_sem, r0, r1, r2]) rfl ⟨rfl, HB3.out⟩
set_option maxHeartbeats 4000000 in
theorem pSigned14_yes {A L : Option Addr} {list log : List Int} (n c m d k j : Nat) (i most : Int) (w : World) (hin : 0 ≤ most ∧ most ≤ 20) (hk9 : k ≤ 1000000) (hk : ∀ W, Below w.heap.size w W → Calls Try.prog 19 #[.agg #[.slice A n c, .int .i64 i, .slice L m d], .int .i64 (2 * most + 1)] W (Take13 W n m list log (k : Int) j)) :
    Calls Try.prog 13 #[.agg #[.slice A n c, .int .i64 i, .slice L m d], .int .i64 most] w (PTake14 w n m list log (k : Int) (Pk.made k) j) := by
  unfold Take13 at hk
  unfold PTake14
  have hb := ((Below.refl _ w).alloc (Nat.le_refl _) (.cells #[.slice A n c, .int .i64 i, .slice L m d] 24)).alloc (by simp) (.cells #[.slice none 0 0, .int .i64 0, .slice none 0 0] 24)
  have hk0 := (Blk.new w 24 #[.slice A n c, .int .i64 i, .slice L m d]).alloc (.cells #[.slice none 0 0, .int .i64 0, .slice none 0 0] 24)
  have hk1 := Blk.new (w.alloc (.cells #[.slice A n c, .int .i64 i, .slice L m d] 24)) 24 #[.slice none 0 0, .int .i64 0, .slice none 0 0]
  rw [World.size_alloc] at hk1
  obtain ⟨W1, hW1⟩ : ∃ W1, (w.alloc (.cells #[.slice A n c, .int .i64 i, .slice L m d] 24)).alloc (.cells #[.slice none 0 0, .int .i64 0, .slice none 0 0] 24) = W1 := ⟨_, rfl⟩
  rw [hW1] at hb hk0 hk1
  have him := isMost14_any most W1
  rw [decide_eq_true hin] at him
  have q0 := hk0.cell 0
  have q1 := hk0.cell 1
  have q2 := hk0.cell 2
  have ha : wrap64 (2 * most) = 2 * most := by unfold wrap64; omega
  have ha2 : wrap64 (2 * most + 1) = 2 * most + 1 := by unfold wrap64; omega
  have HT := Lib.hid (hk W1 hb)
  have HIM := Lib.hid him
  have HB := Lib.hid hb
  have HK1 := Lib.hid hk1
  have HNB := Lib.hid (number14_any k hk9)
  clear hk0 hk1 hb him hin hk
  go_enter Try.func13, Try.ntmps13
  go_wp2_with (fail)
  refine HIM.out.mono ?_
  rintro e w1 ⟨rfl, rfl⟩
  go_wp2_with (fail)
  refine HT.out.mono ?_
  rintro e w1 ⟨A1, c1, L1, d1, rfl, hla, hlo, hb1⟩
  have hk2 := (HK1.out.below hb1 HK1.out.lt).alloc (.cells #[.slice none 0 0, .int .i64 0, .slice none 0 0] 24)
  have hk3 := Blk.new w1 24 #[.slice none 0 0, .int .i64 0, .slice none 0 0]
  have hlt := (HK1.out.below hb1 HK1.out.lt).lt
  obtain ⟨Z1, Z2, Z3, d0, d1', d2, h0, h1, h2, i0, i1, i2', j0, j1, j2, hz, hzh, hzb⟩ := n3_steps hk3 (.slice A1 n c1) (.int .i64 (j : Int)) (.slice L1 (m + 1) d1)
  have hbz : Below w1.heap.size w1 Z3 := hzb.out _ _ (Nat.le_refl _) ((Below.refl _ w1).alloc (Nat.le_refl _) (.cells #[.slice none 0 0, .int .i64 0, .slice none 0 0] 24))
  have hk4 : Blk Z3 (w.heap.size + 1) 24 #[.slice none 0 0, .int .i64 0, .slice none 0 0] := (hzh.out _ (by omega)).trans hk2
  obtain ⟨Y1, Y2, Y3, e0, e1, e2, f0, f1, f2, g0, g1, g2, r0, r1, r2, -, hyh, HYB⟩ := n3_steps hk4 (.slice A1 n c1) (.int .i64 (j : Int)) (.slice L1 (m + 1) d1)
  have hbw := HB.out.trans (hb1.mono HB.out.size)
  have HB3 := Lib.hid (HYB.out _ _ (Nat.le_succ _) (hbw.trans (hbz.mono hbw.size)))
  have hge := HB.out.size
  have hA2 := own_ofD (ownT_below hla hbz) fun g' hg' => hyh.out g' (by have := (hla.lt g' hg').1; have := HK1.out.lt; omega)
  have hL2 := own_ofD (ownT_below hlo hbz) fun g' hg' => hyh.out g' (by have := (hlo.lt g' hg').1; have := HK1.out.lt; omega)
  have HA2 := Lib.hid (ownT_mono hA2 hge)
  have HL2 := Lib.hid (ownT_mono hL2 hge)
  have hyw := hyh.out w1.heap.size (by omega)
  have k0 := (World.cell?_of_block (a := ⟨w1.heap.size, 0, none⟩) hyw).trans j0
  have k1 := (World.cell?_of_block (a := ⟨w1.heap.size, 1, none⟩) hyw).trans j1
  have k2 := (World.cell?_of_block (a := ⟨w1.heap.size, 2, none⟩) hyw).trans j2
  clear hyw hk2 hk3 hk4 hb1 HYB hz hzh hzb hbw hlt hyh hA2 hL2 hge hla hlo hbz
  go_wp2_with (fail)
  go_region_held3 (fun W => W.cell? ⟨w1.heap.size, 0, none⟩ = some (.slice A1 n c1) ∧ W.cell? ⟨w1.heap.size, 1, none⟩ = some (.int .i64 (j : Int)) ∧ W.cell? ⟨w1.heap.size, 2, none⟩ = some (.slice L1 (m + 1) d1)) (first | exact ⟨j0, j1, j2⟩ | exact ⟨k0, k1, k2⟩) (first | (go_at_call 28; refine (HNB.out _).mono ?_; rintro e wq ⟨rfl, rfl⟩))
  go_wp2
  exact bodyPost_ret (v := .tuple #[.agg #[.slice A1 n c1, .int .i64 (j : Int), .slice L1 (m + 1) d1], .int .i64 (Pk.made k), .int .i64 0]) (by simp [results, Try.results13, go_sem, r0, r1, r2]) rfl ⟨A1, c1, L1, d1, rfl, HA2.out, HL2.out, HB3.out.drew⟩
end Go.Proofs.Ytmgaaejghfgbnaa
