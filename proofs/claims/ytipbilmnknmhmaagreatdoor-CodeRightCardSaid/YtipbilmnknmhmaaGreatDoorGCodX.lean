/- Walk of the law CodeBack. -/
import Derived.Test.YtipbilmnknmhmaaGreatDoorGNotT
import Derived.Test.YtipbilmnknmhmaaGreatDoorGCodK
import Derived.Test.YtipbilmnknmhmaaGreatDoorGLawO
import Derived.Test.YtipbilmnknmhmaaGreatDoorGFree
import Derived.Test.YtipbilmnknmhmaaGreatDoorGPub
namespace Go.Proofs.YtipbilmnknmhmaaGreatDoor
set_option maxRecDepth 100000
open Go.RowKit Go.Shelf Go.Sort
attribute [local go_sem] Oper.semAt_some

theorem icells_take (l : List Cd.In) (n : Nat) : icells (l.take n) = (icells l).take (n * 3) := by
  induction l generalizing n with
  | nil => simp [icells]
  | cons x r ih =>
    cases n with
    | zero => simp [icells]
    | succ n =>
      have := ih n
      simp only [icells, List.take_succ_cons, List.flatMap_cons] at this ⊢
      rw [this, show (n + 1) * 3 = n * 3 + 1 + 1 + 1 by omega]
      rfl
theorem row_cut8 {w : World} {B : Nat} {R : Option Addr} {l : List Cd.In} (h : Row w B R (icells l)) (n : Nat) : Row w B R (icells (l.take n)) := by rw [icells_take]; exact h.take _
theorem one_row8 {w W : World} {x0 x1 : Value} {n1 : List ByteArray} {u1 : List Nat} {R : Option Addr} {xs : List Value} (h : Row w w.heap.size R xs) (hW : One w x0 x1 n1 u1 W) : Row W W.heap.size R xs := (h.below hW.below).more hW.below.size
/-! The walk. -/
end Go.Proofs.YtipbilmnknmhmaaGreatDoor

/- Walk of the law CodeRight (by gen_cody.py). -/
namespace Go.Proofs.YtipbilmnknmhmaaGreatDoor
set_option maxRecDepth 100000
open Go.RowKit Go.Shelf Go.Sort
attribute [local go_sem] Oper.semAt_some

set_option maxHeartbeats 16000000 in
theorem codeRight_any {A A' R Q : Option Addr} {n1 : List ByteArray} {u1 : List Nat} {al0 bl0 : List Cd.In} (c c' cr cq : Nat) (w : World) (hi : Ins w) (hN : Row w w.heap.size A (strs n1)) (hU : Ups w w.heap.size A' u1) (hR : Row w w.heap.size R (icells al0)) (hQ : Row w w.heap.size Q (icells bl0)) (hc : n1.length ≤ c) (hc' : u1.length ≤ c') (hcr : al0.length ≤ cr) (hcq : bl0.length ≤ cq) (hm : c ≤ maxLen) (hm' : c' ≤ maxLen) (hmr : cr ≤ maxLen) (hmq : cq ≤ maxLen) (hs : ∀ s ∈ n1, s.size ≤ maxLen) :
    Calls Tryz.prog 3 #[.agg #[.slice A n1.length c, .slice A' u1.length c'], .slice R al0.length cr, .slice Q bl0.length cq] w (Tells w true) := by
  have hfa := fun W (hW : Below w.heap.size w W) => few_any w.heap.size c c' W hW.size (hN.below hW) (hU.below hW) hc hc' hm hm' hs
  have hbk := Blk.new w 25 #[.slice A n1.length c, .slice A' u1.length c']
  have hb0 : Below w.heap.size w (w.alloc (.cells #[.slice A n1.length c, .slice A' u1.length c'] 25)).drew := ((Below.refl _ w).alloc (Nat.le_refl _) _).drew
  have hr := row_cut8 hR 15
  have hq := row_cut8 hQ 15
  obtain ⟨N, hNe⟩ : ∃ N, (al0.take 15).length = N := ⟨_, rfl⟩
  obtain ⟨M, hMe⟩ : ∃ M, (bl0.take 15).length = M := ⟨_, rfl⟩
  have hN1 : min (al0.length : Int) 15 = (N : Int) := by rw [← hNe, List.length_take]; omega
  have hM1 : min (bl0.length : Int) 15 = (M : Int) := by rw [← hMe, List.length_take]; omega
  have hNc : (N ≤ cr) = True := eq_true (by rw [← hNe, List.length_take]; omega)
  have hMc : (M ≤ cq) = True := eq_true (by rw [← hMe, List.length_take]; omega)
  have hN6 : N ≤ 15 := by rw [← hNe, List.length_take]; omega
  have hM6 : M ≤ 15 := by rw [← hMe, List.length_take]; omega
  generalize al0.take 15 = al at *
  generalize bl0.take 15 = bl at *
  unfold maxLen at hmr hmq
  have hrb : (al0.length : Int) ≤ 9223372036854775807 := by omega
  have hqb : (bl0.length : Int) ≤ 9223372036854775807 := by omega
  have HFA := Lib.hid hfa
  have HBK := Lib.hid hbk
  have HB0 := Lib.hid hb0
  have HR := Lib.hid hr
  have HQ := Lib.hid hq
  have HNE := Lib.hid hNe
  have HME := Lib.hid hMe
  have HI := Lib.hid hi
  clear hfa hbk hb0 hr hq hN hU hR hQ hc hc' hcr hcq hm hm' hmr hmq hs hNe hMe hi
  generalize al0.length = rn at *
  generalize bl0.length = qn at *
  go_enter Tryz.func3, Tryz.ntmps3
  go_wp2
  refine Free.region_seq [1, 12, 13, 14] [0] 1 (fun W' => W'.cell? ⟨w.heap.size, 0, none⟩ = some (.slice A n1.length c) ∧ W'.cell? ⟨w.heap.size, 1, none⟩ = some (.slice A' u1.length c')) (by kernel_rfl) (by kernel_rfl) (by kernel_rfl) (by kernel_rfl) (⟨HBK.out.cell 0, HBK.out.cell 1⟩) (fun ops hops => ?_)
  clear hops
  iterate 1
    refine Free.Seq.quiet (v := ?_) (a' := ?_) rfl rfl (fun W' hW' => ?_) ?_ ?_
    rotate_left 2
    · first | obtain ⟨s0, s1⟩ := hW' rfl | skip
      go_simp
      try with_reducible rfl
    · simp only [Act.put, List.setIfInBounds_toArray, List.set_cons_zero, List.set_cons_succ]
      try with_reducible rfl
  refine Free.Seq.loud_ rfl (.inl rfl) (fun K hK => ?_)
  go_simp
  refine (HFA.out _ HB0.out).mono ?_
  rintro e w1 ⟨v, names, up, rfl, hlw, hb1⟩
  have hfw : FewW w w1 v := ⟨names, up, fun W2 k => hlw W2 (k.mono_ (by simp))⟩
  obtain ⟨A1, k1, c1, A2, k2, c2, rfl⟩ := hfw.two
  dsimp only
  have hk1 : Blk w1 w.heap.size 25 #[.slice A n1.length c, .slice A' u1.length c'] := HBK.out.drew.below hb1 HBK.out.drew.lt
  have hc0 := hk1.cell 0
  have hc1 := hk1.cell 1
  have hf0 := hk1.frozen 0
  have hf1 := hk1.frozen 1
  have HB1 := Lib.hid (HB0.out.trans (hb1.mono HB0.out.size))
  refine hK.out _ _ rfl (fun h => absurd h (by decide)) ?_
  clear hK K hb1
  iterate 10
    refine Free.Seq.quiet (v := ?_) (a' := ?_) rfl rfl (fun W' hW' => ?_) ?_ ?_
    rotate_left 2
    · skip
      go_simp
      try with_reducible rfl
    · simp only [Act.put, List.setIfInBounds_toArray, List.set_cons_zero, List.set_cons_succ]
      try with_reducible rfl
  refine Free.Seq.loud_ rfl (.inl rfl) (fun K hK => ?_)
  go_simp
  refine hK.out _ _ rfl (fun h => absurd h (by decide)) ?_
  clear hK K
  refine Free.Seq.loud_ rfl (.inl rfl) (fun K hK => ?_)
  go_simp
  refine hK.out _ _ rfl (fun h => absurd h (by decide)) ?_
  clear hK K
  refine Free.Seq.loud_ rfl (.inl rfl) (fun K hK => ?_)
  go_simp
  refine hK.out _ _ rfl (fun h => absurd h (by decide)) ?_
  clear hK K
  refine Free.Seq.nil_ ?_
  obtain ⟨W2, hW2⟩ : ∃ W2, (w1.setCell ⟨w.heap.size, 0, none⟩ (.slice A1 k1 c1)).setCell ⟨w.heap.size, 1, none⟩ (.slice A2 k2 c2) = W2 := ⟨_, rfl⟩
  have hone : One w (.slice A1 k1 c1) (.slice A2 k2 c2) names up W2 := by
    rw [← hW2]
    refine ⟨(hk1.set_ 0 _).set_ 1 _, hlw _ ?_, (HB1.out.setCell (p := ⟨w.heap.size, 0, none⟩) (Nat.le_refl _) _).setCell (p := ⟨w.heap.size, 1, none⟩) (Nat.le_refl _) _⟩
    exact ((Keeps.set_ (p := ⟨w.heap.size, 0, none⟩) (Nat.le_refl _) (by simp)).trans_ (Keeps.set_ (p := ⟨w.heap.size, 1, none⟩) (Nat.le_refl _) (by simp)))
  have hal : al.length ≤ 1000 := by rw [HNE.out]; omega
  have hbl : bl.length ≤ 1000 := by rw [HME.out]; omega
  have htx := fun W (hW : One w (.slice A1 k1 c1) (.slice A2 k2 c2) names up W) => ctext_any cr W hW.la (one_row8 HR.out hW) hal (HI.out.below hW.below HI.out.lt)
  have hck := fun W (hW : One w (.slice A1 k1 c1) (.slice A2 k2 c2) names up W) => rCheck_any W hW.la
  have hrr := fun W (hW : One w (.slice A1 k1 c1) (.slice A2 k2 c2) names up W) => rRightI_any cr W hW.la (one_row8 HR.out hW) hal
  have hri := fun W (hW : One w (.slice A1 k1 c1) (.slice A2 k2 c2) names up W) => cRight_any cr W hW.la (one_row8 HR.out hW) hal
  have hlk := fun W (hW : One w (.slice A1 k1 c1) (.slice A2 k2 c2) names up W) => cLike_any cr cq W (one_row8 HR.out hW) (one_row8 HQ.out hW) hal hbl
  have hsm := fun W (hW : One w (.slice A1 k1 c1) (.slice A2 k2 c2) names up W) => rSame_in cr cq W (one_row8 HR.out hW) (one_row8 HQ.out hW) hal hbl
  have hls := fun W (hW : One w (.slice A1 k1 c1) (.slice A2 k2 c2) names up W) => cLike_any cr cr W (one_row8 HR.out hW) (one_row8 HR.out hW) hal hal
  have HAL := Lib.hid (fun W (hW : One w (.slice A1 k1 c1) (.slice A2 k2 c2) names up W) => alive8_any W (HI.out.below hW.below HI.out.lt))
  have htr := fun (h0 : checkN names up = 0) (h1 : Cd.rightB up.length al = true) W (hW : One w (.slice A1 k1 c1) (.slice A2 k2 c2) names up W) => rTextC_any h0 cr W hW.la (one_row8 HR.out hW) h1
  rw [decide_eq_true (rfl : al = al)] at hls
  rw [← check_same] at hck
  rw [HNE.out] at htx hrr hri hlk hsm hls htr
  rw [HME.out] at hlk hsm
  unfold Cd.text at htx
  unfold Cd.pubB at hri
  generalize decide (al = bl) = d at *
  have hdd : (d != d) = false := by cases d <;> rfl
  have HLK := Lib.hid hlk
  have HSM := Lib.hid hsm
  have HLS := Lib.hid hls
  have h20 := hone.a.cell 0
  have h21 := hone.a.cell 1
  have HONE2 := Lib.hid hone
  generalize Lx.pack (Cd.textL names al) = tx at *
  obtain ⟨n, hn⟩ : ∃ n, checkN names up = n := ⟨_, rfl⟩
  obtain ⟨b, hbr⟩ : ∃ b, Cd.rightB up.length al = b := ⟨_, rfl⟩
  rw [hn] at htx hck hri htr
  rw [hbr] at htx hrr hri htr
  rw [hW2]
  clear hW2 hlw hfw hk1 hc0 hc1 hf0 hf1 hone hal hbl hlk hsm hls hn hbr
  by_cases hz : n = 0
  · subst hz
    rw [decide_eq_true rfl, Bool.true_and] at hri
    rw [if_pos rfl] at htx
    have HCK := Lib.hid hck
    have HRR := Lib.hid hrr
    have HRI := Lib.hid hri
    clear hck hrr hri
    cases b with
    | true =>
      rw [if_pos rfl] at htx
      have HTX := Lib.hid htx
      have HTR := Lib.hid (htr rfl rfl)
      have hbe : (tx.toList == tx.toList) = true := by simp
      clear htx htr
      go_wp2_with (fail)
      refine (HTX.out _ HONE2.out).mono ?_
      rintro e w3 ⟨rfl, hb3⟩
      have hone3 := one_stable _ _ _ _ _ _ _ HONE2.out hb3
      have h30 := hone3.a.cell 0
      have h31 := hone3.a.cell 1
      have HONE3 := Lib.hid hone3
      clear hone3 hb3 h20 h21 HONE2
      dsimp only

      go_wp2_with (fail)
      refine (HCK.out _ HONE3.out).mono ?_
      rintro e w4 ⟨rfl, hb4⟩
      have hone4 := one_stable _ _ _ _ _ _ _ HONE3.out hb4
      have h40 := hone4.a.cell 0
      have h41 := hone4.a.cell 1
      have HONE4 := Lib.hid hone4
      clear hone4 hb4 h30 h31 HONE3
      dsimp only

      go_wp2_with (fail)
      refine (HRR.out _ HONE4.out).mono ?_
      rintro e w5 ⟨rfl, hb5⟩
      have hone5 := one_stable _ _ _ _ _ _ _ HONE4.out hb5
      have h50 := hone5.a.cell 0
      have h51 := hone5.a.cell 1
      have HONE5 := Lib.hid hone5
      clear hone5 hb5 h40 h41 HONE4
      dsimp only

      go_wp2_with (fail)
      refine (HRI.out _ HONE5.out).mono ?_
      rintro e w6 ⟨rfl, hb6⟩
      have hone6 := one_stable _ _ _ _ _ _ _ HONE5.out hb6
      have h60 := hone6.a.cell 0
      have h61 := hone6.a.cell 1
      have HONE6 := Lib.hid hone6
      clear hone6 hb6 h50 h51 HONE5
      dsimp only

      go_wp2_with (fail)
      refine (HLK.out _ HONE6.out).mono ?_
      rintro e w7 ⟨rfl, hb7⟩
      have hone7 := one_stable _ _ _ _ _ _ _ HONE6.out hb7
      have h70 := hone7.a.cell 0
      have h71 := hone7.a.cell 1
      have HONE7 := Lib.hid hone7
      clear hone7 hb7 h60 h61 HONE6
      dsimp only

      go_wp2_with (fail)
      refine (HSM.out _ HONE7.out).mono ?_
      rintro e w8 ⟨rfl, hb8⟩
      have hone8 := one_stable _ _ _ _ _ _ _ HONE7.out hb8
      have h80 := hone8.a.cell 0
      have h81 := hone8.a.cell 1
      have HONE8 := Lib.hid hone8
      clear hone8 hb8 h70 h71 HONE7
      dsimp only

      go_wp2_with (fail)
      refine (HLS.out _ HONE8.out).mono ?_
      rintro e w9 ⟨rfl, hb9⟩
      have hone9 := one_stable _ _ _ _ _ _ _ HONE8.out hb9
      have h90 := hone9.a.cell 0
      have h91 := hone9.a.cell 1
      have HONE9 := Lib.hid hone9
      clear hone9 hb9 h80 h81 HONE8
      dsimp only

      go_wp2_with (fail)
      refine (HAL.out _ HONE9.out).mono ?_
      rintro e w10 ⟨rfl, hb10⟩
      have hone10 := one_stable _ _ _ _ _ _ _ HONE9.out hb10
      have h100 := hone10.a.cell 0
      have h101 := hone10.a.cell 1
      have HONE10 := Lib.hid hone10
      clear hone10 hb10 h90 h91 HONE9
      dsimp only

      go_wp2_with (fail)
      refine (HTR.out _ HONE10.out).mono ?_
      rintro e w11 ⟨rfl, hb11⟩
      have hone11 := one_stable _ _ _ _ _ _ _ HONE10.out hb11
      have h110 := hone11.a.cell 0
      have h111 := hone11.a.cell 1
      have HONE11 := Lib.hid hone11
      clear hone11 hb11 h100 h101 HONE10
      dsimp only

      go_wp2
      go_ret
      exact ⟨rfl, HONE11.out.below⟩
    | false =>
      rw [if_neg (by decide)] at htx
      have HTX := Lib.hid htx
      clear htx htr
      go_wp2_with (fail)
      refine (HTX.out _ HONE2.out).mono ?_
      rintro e w3 ⟨rfl, hb3⟩
      have hone3 := one_stable _ _ _ _ _ _ _ HONE2.out hb3
      have h30 := hone3.a.cell 0
      have h31 := hone3.a.cell 1
      have HONE3 := Lib.hid hone3
      clear hone3 hb3 h20 h21 HONE2
      dsimp only

      go_wp2_with (fail)
      refine (HCK.out _ HONE3.out).mono ?_
      rintro e w4 ⟨rfl, hb4⟩
      have hone4 := one_stable _ _ _ _ _ _ _ HONE3.out hb4
      have h40 := hone4.a.cell 0
      have h41 := hone4.a.cell 1
      have HONE4 := Lib.hid hone4
      clear hone4 hb4 h30 h31 HONE3
      dsimp only

      go_wp2_with (fail)
      refine (HRR.out _ HONE4.out).mono ?_
      rintro e w5 ⟨rfl, hb5⟩
      have hone5 := one_stable _ _ _ _ _ _ _ HONE4.out hb5
      have h50 := hone5.a.cell 0
      have h51 := hone5.a.cell 1
      have HONE5 := Lib.hid hone5
      clear hone5 hb5 h40 h41 HONE4
      dsimp only

      go_wp2_with (fail)
      refine (HRI.out _ HONE5.out).mono ?_
      rintro e w6 ⟨rfl, hb6⟩
      have hone6 := one_stable _ _ _ _ _ _ _ HONE5.out hb6
      have h60 := hone6.a.cell 0
      have h61 := hone6.a.cell 1
      have HONE6 := Lib.hid hone6
      clear hone6 hb6 h50 h51 HONE5
      dsimp only

      go_wp2_with (fail)
      refine (HLK.out _ HONE6.out).mono ?_
      rintro e w7 ⟨rfl, hb7⟩
      have hone7 := one_stable _ _ _ _ _ _ _ HONE6.out hb7
      have h70 := hone7.a.cell 0
      have h71 := hone7.a.cell 1
      have HONE7 := Lib.hid hone7
      clear hone7 hb7 h60 h61 HONE6
      dsimp only

      go_wp2_with (fail)
      refine (HSM.out _ HONE7.out).mono ?_
      rintro e w8 ⟨rfl, hb8⟩
      have hone8 := one_stable _ _ _ _ _ _ _ HONE7.out hb8
      have h80 := hone8.a.cell 0
      have h81 := hone8.a.cell 1
      have HONE8 := Lib.hid hone8
      clear hone8 hb8 h70 h71 HONE7
      dsimp only

      go_wp2_with (fail)
      refine (HLS.out _ HONE8.out).mono ?_
      rintro e w9 ⟨rfl, hb9⟩
      have hone9 := one_stable _ _ _ _ _ _ _ HONE8.out hb9
      have h90 := hone9.a.cell 0
      have h91 := hone9.a.cell 1
      have HONE9 := Lib.hid hone9
      clear hone9 hb9 h80 h81 HONE8
      dsimp only

      go_wp2_with (fail)
      refine (HAL.out _ HONE9.out).mono ?_
      rintro e w10 ⟨rfl, hb10⟩
      have hone10 := one_stable _ _ _ _ _ _ _ HONE9.out hb10
      have h100 := hone10.a.cell 0
      have h101 := hone10.a.cell 1
      have HONE10 := Lib.hid hone10
      clear hone10 hb10 h90 h91 HONE9
      dsimp only

      go_wp2
      go_ret
      exact ⟨rfl, HONE10.out.below⟩
  · rw [decide_eq_false hz, Bool.false_and] at hri
    rw [if_neg hz] at htx
    have h1 : ((n : Int) == 0) = false := by rw [beq_eq_false_iff_ne]; omega
    have h2 : ((n : Int) != 0) = true := by rw [bne_iff_ne]; omega
    have HCK := Lib.hid hck
    have HRI := Lib.hid hri
    have HTX := Lib.hid htx
    clear hck hri htx htr hrr hz
    go_wp2_with (fail)
    refine (HTX.out _ HONE2.out).mono ?_
    rintro e w3 ⟨rfl, hb3⟩
    have hone3 := one_stable _ _ _ _ _ _ _ HONE2.out hb3
    have h30 := hone3.a.cell 0
    have h31 := hone3.a.cell 1
    have HONE3 := Lib.hid hone3
    clear hone3 hb3 h20 h21 HONE2
    dsimp only

    go_wp2_with (fail)
    refine (HCK.out _ HONE3.out).mono ?_
    rintro e w4 ⟨rfl, hb4⟩
    have hone4 := one_stable _ _ _ _ _ _ _ HONE3.out hb4
    have h40 := hone4.a.cell 0
    have h41 := hone4.a.cell 1
    have HONE4 := Lib.hid hone4
    clear hone4 hb4 h30 h31 HONE3
    dsimp only

    go_wp2_with (fail)
    refine (HRI.out _ HONE4.out).mono ?_
    rintro e w5 ⟨rfl, hb5⟩
    have hone5 := one_stable _ _ _ _ _ _ _ HONE4.out hb5
    have h50 := hone5.a.cell 0
    have h51 := hone5.a.cell 1
    have HONE5 := Lib.hid hone5
    clear hone5 hb5 h40 h41 HONE4
    dsimp only

    go_wp2_with (fail)
    refine (HLK.out _ HONE5.out).mono ?_
    rintro e w6 ⟨rfl, hb6⟩
    have hone6 := one_stable _ _ _ _ _ _ _ HONE5.out hb6
    have h60 := hone6.a.cell 0
    have h61 := hone6.a.cell 1
    have HONE6 := Lib.hid hone6
    clear hone6 hb6 h50 h51 HONE5
    dsimp only

    go_wp2_with (fail)
    refine (HSM.out _ HONE6.out).mono ?_
    rintro e w7 ⟨rfl, hb7⟩
    have hone7 := one_stable _ _ _ _ _ _ _ HONE6.out hb7
    have h70 := hone7.a.cell 0
    have h71 := hone7.a.cell 1
    have HONE7 := Lib.hid hone7
    clear hone7 hb7 h60 h61 HONE6
    dsimp only

    go_wp2_with (fail)
    refine (HLS.out _ HONE7.out).mono ?_
    rintro e w8 ⟨rfl, hb8⟩
    have hone8 := one_stable _ _ _ _ _ _ _ HONE7.out hb8
    have h80 := hone8.a.cell 0
    have h81 := hone8.a.cell 1
    have HONE8 := Lib.hid hone8
    clear hone8 hb8 h70 h71 HONE7
    dsimp only

    go_wp2_with (fail)
    refine (HAL.out _ HONE8.out).mono ?_
    rintro e w9 ⟨rfl, hb9⟩
    have hone9 := one_stable _ _ _ _ _ _ _ HONE8.out hb9
    have h90 := hone9.a.cell 0
    have h91 := hone9.a.cell 1
    have HONE9 := Lib.hid hone9
    clear hone9 hb9 h80 h81 HONE8
    dsimp only

    go_wp2
    go_ret
    exact ⟨rfl, HONE9.out.below⟩
end Go.Proofs.YtipbilmnknmhmaaGreatDoor
