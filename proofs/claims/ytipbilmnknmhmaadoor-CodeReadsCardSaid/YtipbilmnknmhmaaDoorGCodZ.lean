/- Walk of the law CodeReads. -/
import Derived.Test.YtipbilmnknmhmaaDoorGCodRp
import Derived.Test.YtipbilmnknmhmaaDoorGCodK
import Derived.Test.YtipbilmnknmhmaaDoorGLawO
import Derived.Test.YtipbilmnknmhmaaDoorGFree
namespace Go.Proofs.YtipbilmnknmhmaaDoor
set_option maxRecDepth 100000
open Go.RowKit Go.Shelf Go.Sort
attribute [local go_sem] Oper.semAt_some

theorem parse_len8 (names : List ByteArray) (up : List Nat) (s : List UInt8) : (Cd.parse names up s).1.length ≤ 12 := by
  by_cases h : (Cd.parse names up s).2.2 = 0
  · have := (Cd.parse_right h).2
    unfold Cd.rightB at this
    simp only [Bool.and_eq_true, decide_eq_true_eq] at this
    exact this.1
  · rw [Cd.parse_none h]
    exact Nat.zero_le _
set_option maxHeartbeats 16000000 in
theorem codeReads_any {A A' : Option Addr} {n1 : List ByteArray} {u1 : List Nat} (c c' : Nat) (s : ByteArray) (w : World) (hi : Ins w) (hN : Row w w.heap.size A (strs n1)) (hU : Ups w w.heap.size A' u1) (hc : n1.length ≤ c) (hc' : u1.length ≤ c') (hm : c ≤ maxLen) (hm' : c' ≤ maxLen) (hs : ∀ s ∈ n1, s.size ≤ maxLen) (hsz : s.size ≤ maxLen) :
    Calls Tryd.prog 3 #[.agg #[.slice A n1.length c, .slice A' u1.length c'], .string s] w (Tells w true) := by
  obtain ⟨M, hM⟩ : ∃ M, min s.size 2010 = M := ⟨_, rfl⟩
  have hmin : min (s.size : Int) 2010 = (M : Int) := by omega
  have hM1 : M ≤ s.size := by omega
  have hM2 : M ≤ 2010 := by omega
  obtain ⟨x, hx⟩ : ∃ x, s.extract 0 M = x := ⟨_, rfl⟩
  have hxs : x.size ≤ maxLen := by rw [← hx, ByteArray.size_extract]; unfold maxLen; omega
  have hfa := fun W (hW : Below w.heap.size w W) => few_any w.heap.size c c' W hW.size (hN.below hW) (hU.below hW) hc hc' hm hm' hs
  have hbk := Blk.new w 25 #[.slice A n1.length c, .slice A' u1.length c']
  have hb0 : Below w.heap.size w (w.alloc (.cells #[.slice A n1.length c, .slice A' u1.length c'] 25)).drew := ((Below.refl _ w).alloc (Nat.le_refl _) _).drew
  unfold maxLen at hsz
  have HX := Lib.hid hxs
  have HFA := Lib.hid hfa
  have HBK := Lib.hid hbk
  have HB0 := Lib.hid hb0
  have HI := Lib.hid hi
  clear hM hxs hfa hbk hb0 hN hU hc hc' hm hm' hs hi
  go_enter Tryd.func3, Tryd.ntmps3
  go_wp2
  refine Free.region_seq [1, 7, 8] [0] 1 (fun W' => W'.cell? ⟨w.heap.size, 0, none⟩ = some (.slice A n1.length c) ∧ W'.cell? ⟨w.heap.size, 1, none⟩ = some (.slice A' u1.length c')) (by kernel_rfl) (by kernel_rfl) (by kernel_rfl) (by kernel_rfl) (⟨HBK.out.cell 0, HBK.out.cell 1⟩) (fun ops hops => ?_)
  clear hops
  iterate 1
    refine Free.Seq.quiet (v := ?_) (a' := ?_) rfl rfl (fun W' hW' => ?_) ?_ ?_
    rotate_left 2
    · first | obtain ⟨s0, s1⟩ := hW' rfl | skip
      go_simp
      try with_reducible rfl
    · simp only [Act.put, List.setIfInBounds_toArray, List.set_cons_zero, List.set_cons_succ]
      try with_reducible rfl
  refine Free.Seq.loud_ rfl (.inl rfl) (fun K hK => ?_)
  go_simp
  refine (HFA.out _ HB0.out).mono ?_
  rintro e w1 ⟨v, names, up, rfl, hlw, hb1⟩
  have hfw : FewW w w1 v := ⟨names, up, fun W2 k => hlw W2 (k.mono_ (by simp))⟩
  obtain ⟨A1, k1, c1, A2, k2, c2, rfl⟩ := hfw.two
  dsimp only
  have hk1 : Blk w1 w.heap.size 25 #[.slice A n1.length c, .slice A' u1.length c'] := HBK.out.drew.below hb1 HBK.out.drew.lt
  have hc0 := hk1.cell 0
  have hc1 := hk1.cell 1
  have hf0 := hk1.frozen 0
  have hf1 := hk1.frozen 1
  have HB1 := Lib.hid (HB0.out.trans (hb1.mono HB0.out.size))
  refine hK.out _ _ rfl (fun h => absurd h (by decide)) ?_
  clear hK K hb1
  iterate 5
    refine Free.Seq.quiet (v := ?_) (a' := ?_) rfl rfl (fun W' hW' => ?_) ?_ ?_
    rotate_left 2
    · skip
      go_simp
      try with_reducible rfl
    · simp only [Act.put, List.setIfInBounds_toArray, List.set_cons_zero, List.set_cons_succ]
      try with_reducible rfl
  refine Free.Seq.loud_ rfl (.inl rfl) (fun K hK => ?_)
  go_simp
  refine hK.out _ _ rfl (fun h => absurd h (by decide)) ?_
  clear hK K
  refine Free.Seq.loud_ rfl (.inl rfl) (fun K hK => ?_)
  go_simp
  refine hK.out _ _ rfl (fun h => absurd h (by decide)) ?_
  clear hK K
  refine Free.Seq.nil_ ?_
  obtain ⟨W2, hW2⟩ : ∃ W2, (w1.setCell ⟨w.heap.size, 0, none⟩ (.slice A1 k1 c1)).setCell ⟨w.heap.size, 1, none⟩ (.slice A2 k2 c2) = W2 := ⟨_, rfl⟩
  have hone : One w (.slice A1 k1 c1) (.slice A2 k2 c2) names up W2 := by
    rw [← hW2]
    refine ⟨(hk1.set_ 0 _).set_ 1 _, hlw _ ?_, (HB1.out.setCell (p := ⟨w.heap.size, 0, none⟩) (Nat.le_refl _) _).setCell (p := ⟨w.heap.size, 1, none⟩) (Nat.le_refl _) _⟩
    exact ((Keeps.set_ (p := ⟨w.heap.size, 0, none⟩) (Nat.le_refl _) (by simp)).trans_ (Keeps.set_ (p := ⟨w.heap.size, 1, none⟩) (Nat.le_refl _) (by simp)))
  have hps := fun W (hW : One w (.slice A1 k1 c1) (.slice A2 k2 c2) names up W) => cparse_any x HX.out W hW.la (HI.out.below hW.below HI.out.lt)
  have hrp := fun W (hW : One w (.slice A1 k1 c1) (.slice A2 k2 c2) names up W) => rParse8_any x HX.out W hW.la
  have HAL := Lib.hid (fun W (hW : One w (.slice A1 k1 c1) (.slice A2 k2 c2) names up W) => alive8_any W (HI.out.below hW.below HI.out.lt))
  have hln := parse_len8 names up x.data.toList
  obtain ⟨⟨y, at2, e2⟩, hy⟩ : ∃ r, Cd.parse names up x.data.toList = r := ⟨_, rfl⟩
  rw [hy] at hps hrp hln
  dsimp only at hln
  have HPS := Lib.hid hps
  have HRP := Lib.hid hrp
  have HLN := Lib.hid hln
  have h20 := hone.a.cell 0
  have h21 := hone.a.cell 1
  have HONE2 := Lib.hid hone
  obtain ⟨ny, hny⟩ : ∃ ny, y.length = ny := ⟨_, rfl⟩
  have HNY := Lib.hid hny
  rw [hW2]
  clear hW2 hlw hfw hk1 hc0 hc1 hf0 hf1 hps hrp hone hx hy hny hln
  go_wp2_with (fail)
  refine (HPS.out W2 HONE2.out).mono ?_
  rintro e w3 ⟨v3, rfl, ⟨A6, c6, rfl, hr6, -⟩, hb3⟩
  dsimp only
  have HR3 := Lib.hid hr6
  have hone3 := one_stable _ _ _ _ _ _ _ HONE2.out hb3
  have h30 := hone3.a.cell 0
  have h31 := hone3.a.cell 1
  have HONE3 := Lib.hid hone3
  clear hone3 hb3 h20 h21 HONE2
  clear hr6 HPS
  rw [HNY.out]
  go_wp2_with (fail)
  refine (HRP.out w3 HONE3.out).mono ?_
  rintro e w4 ⟨v4, rfl, ⟨A8, c8, rfl, hr8, -⟩, hb4⟩
  dsimp only
  have hal : Below w4.heap.size w4 (w4.alloc (.cells #[.slice A8 y.length c8, .int .i64 at2, .int .i64 (e2 : Int)] 32)) := (Below.refl _ _).alloc (Nat.le_refl _) _
  have HR4 := Lib.hid ((((HR3.out.below hb4).more hb4.size).below hal).more hal.size)
  have HQ4 := Lib.hid ((hr8.below hal).more hal.size)
  have hbk := Blk.new w4 32 #[.slice A8 y.length c8, .int .i64 at2, .int .i64 (e2 : Int)]
  have hone4 := one_stable _ _ _ _ _ _ _ HONE3.out hb4
  have hone5 := one_stable _ _ _ _ _ _ _ hone4 hal
  obtain ⟨w5, hw5⟩ : ∃ w5, w4.alloc (.cells #[.slice A8 y.length c8, .int .i64 at2, .int .i64 (e2 : Int)] 32) = w5 := ⟨_, rfl⟩
  rw [hw5] at HR4 HQ4 hbk hone5
  rw [HNY.out] at hw5 hbk ⊢
  have HONE5 := Lib.hid hone5
  have HBC := Lib.hid hbk
  have hal5 := HAL.out w5 hone5
  have HA5 := Lib.hid hal5
  clear hr8 hb4 hal hbk hone4 hone5 HONE3 HR3 HRP h30 h31 hal5
  go_wp2_with (fail)
  refine HA5.out.mono ?_
  rintro e w6 ⟨rfl, hb6⟩
  have hbc := HBC.out.below hb6 HBC.out.lt
  have d0 : w6.cell? ⟨w4.heap.size, 0, none⟩ = some (.slice A8 ny c8) := hbc.cell 0
  have d1 : w6.cell? ⟨w4.heap.size, 1, none⟩ = some (.int .i64 at2) := hbc.cell 1
  have d2 : w6.cell? ⟨w4.heap.size, 2, none⟩ = some (.int .i64 (e2 : Int)) := hbc.cell 2
  have hsm := rSame_in c6 c8 w6 ((HR4.out.below hb6).more hb6.size) ((HQ4.out.below hb6).more hb6.size) (by have := HLN.out; omega) (by have := HLN.out; omega)
  rw [decide_eq_true (rfl : y = y), HNY.out] at hsm
  have HSM := Lib.hid hsm
  have HB6 := Lib.hid (HONE5.out.below.trans (hb6.mono HONE5.out.below.size))
  clear hbc hsm hb6 hw5 HR4 HQ4 HONE5 HBC HA5
  go_wp2_with (fail)
  refine HSM.out.mono ?_
  rintro e w7 ⟨rfl, hb7⟩
  have HB7 := Lib.hid (HB6.out.trans (hb7.mono HB6.out.size))
  clear hb7 HB6 HSM d0 d1 d2
  go_wp2
  go_ret
  exact ⟨rfl, HB7.out⟩
end Go.Proofs.YtipbilmnknmhmaaDoor
