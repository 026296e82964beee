/- Walk of the law CodeBack. -/
import Derived.Test.YtipbilmnknmhmaaDoorGNotT
import Derived.Test.YtipbilmnknmhmaaDoorGCodK
import Derived.Test.YtipbilmnknmhmaaDoorGLawO
import Derived.Test.YtipbilmnknmhmaaDoorGFree
namespace Go.Proofs.YtipbilmnknmhmaaDoor
set_option maxRecDepth 100000
open Go.RowKit Go.Shelf Go.Sort
attribute [local go_sem] Oper.semAt_some

theorem icells_take (l : List Cd.In) (n : Nat) : icells (l.take n) = (icells l).take (n * 3) := by
  induction l generalizing n with
  | nil => simp [icells]
  | cons x r ih =>
    cases n with
    | zero => simp [icells]
    | succ n =>
      have := ih n
      simp only [icells, List.take_succ_cons, List.flatMap_cons] at this ⊢
      rw [this, show (n + 1) * 3 = n * 3 + 1 + 1 + 1 by omega]
      rfl
theorem row_cut8 {w : World} {B : Nat} {R : Option Addr} {l : List Cd.In} (h : Row w B R (icells l)) (n : Nat) : Row w B R (icells (l.take n)) := by rw [icells_take]; exact h.take _
theorem one_row8 {w W : World} {x0 x1 : Value} {n1 : List ByteArray} {u1 : List Nat} {R : Option Addr} {xs : List Value} (h : Row w w.heap.size R xs) (hW : One w x0 x1 n1 u1 W) : Row W W.heap.size R xs := (h.below hW.below).more hW.below.size
/-- What a text tells, and what is read of it. -/
theorem text_back8 {names : List ByteArray} {up : List Nat} {l : List Cd.In} {s : ByteArray} (h : Cd.text names up l = (s, 0)) : checkN names up = 0 ∧ Cd.rightB up.length l = true ∧ s = Lx.pack (Cd.textL names l) ∧ Cd.parse names up s.data.toList = (l, 0, 0) ∧ s.size ≤ 348 := by
  unfold Cd.text at h
  by_cases hc : checkN names up = 0
  · rw [if_pos hc] at h
    by_cases hr : Cd.rightB up.length l = true
    · rw [if_pos hr] at h
      injection h with h _
      subst h
      have hl := Cd.textL_len (Cd.names_of hc) hr
      refine ⟨hc, hr, rfl, ?_, ?_⟩
      · rw [Lx.pack_list]
        exact Cd.parse_text hc hr
      · rw [← ByteArray.size_data, ← Array.length_toList, Lx.pack_list]
        exact hl
    · rw [if_neg hr] at h
      injection h with _ h
      cases h
  · rw [if_neg hc] at h
    injection h with _ h
    exact absurd h hc
theorem right_len8 {k : Nat} {l : List Cd.In} (h : Cd.rightB k l = true) : l.length ≤ 12 := by
  unfold Cd.rightB at h
  simp only [Bool.and_eq_true, decide_eq_true_eq] at h
  exact h.1
/-! The walk. -/
set_option maxHeartbeats 16000000 in
theorem codeBack_any {A A' R : Option Addr} {n1 : List ByteArray} {u1 : List Nat} {al0 : List Cd.In} (c c' cr : Nat) (s : ByteArray) (w : World) (hi : Ins w) (hN : Row w w.heap.size A (strs n1)) (hU : Ups w w.heap.size A' u1) (hR : Row w w.heap.size R (icells al0)) (hc : n1.length ≤ c) (hc' : u1.length ≤ c') (hcr : al0.length ≤ cr) (hm : c ≤ maxLen) (hm' : c' ≤ maxLen) (hmr : cr ≤ maxLen) (hs : ∀ s ∈ n1, s.size ≤ maxLen) (hsz : s.size ≤ maxLen) :
    Calls Tryd.prog 4 #[.agg #[.slice A n1.length c, .slice A' u1.length c'], .slice R al0.length cr, .string s] w (Tells w true) := by
  obtain ⟨M, hM⟩ : ∃ M, min s.size 2010 = M := ⟨_, rfl⟩
  have hmin : min (s.size : Int) 2010 = (M : Int) := by omega
  have hM1 : M ≤ s.size := by omega
  have hM2 : M ≤ 2010 := by omega
  obtain ⟨x, hx⟩ : ∃ x, s.extract 0 M = x := ⟨_, rfl⟩
  have hxs : x.size ≤ maxLen := by rw [← hx, ByteArray.size_extract]; unfold maxLen; omega
  have hfa := fun W (hW : Below w.heap.size w W) => few_any w.heap.size c c' W hW.size (hN.below hW) (hU.below hW) hc hc' hm hm' hs
  have hbk := Blk.new w 25 #[.slice A n1.length c, .slice A' u1.length c']
  have hb0 : Below w.heap.size w (w.alloc (.cells #[.slice A n1.length c, .slice A' u1.length c'] 25)).drew := ((Below.refl _ w).alloc (Nat.le_refl _) _).drew
  have hr := row_cut8 hR 15
  obtain ⟨N, hNe⟩ : ∃ N, (al0.take 15).length = N := ⟨_, rfl⟩
  have hN1 : min (al0.length : Int) 15 = (N : Int) := by rw [← hNe, List.length_take]; omega
  have hNc : (N ≤ cr) = True := eq_true (by rw [← hNe, List.length_take]; omega)
  have hN6 : N ≤ 15 := by rw [← hNe, List.length_take]; omega
  generalize al0.take 15 = al at *
  unfold maxLen at hmr hsz
  have hrb : (al0.length : Int) ≤ 9223372036854775807 := by omega
  have HX := Lib.hid hxs
  have HFA := Lib.hid hfa
  have HBK := Lib.hid hbk
  have HB0 := Lib.hid hb0
  have HR := Lib.hid hr
  have HNE := Lib.hid hNe
  have HI := Lib.hid hi
  clear hM hxs hfa hbk hb0 hr hN hU hR hc hc' hcr hm hm' hmr hs hNe hi
  generalize al0.length = rn at *
  go_enter Tryd.func4, Tryd.ntmps4
  go_wp2
  refine Free.region_seq [1, 12, 13, 14] [0] 1 (fun W' => W'.cell? ⟨w.heap.size, 0, none⟩ = some (.slice A n1.length c) ∧ W'.cell? ⟨w.heap.size, 1, none⟩ = some (.slice A' u1.length c')) (by kernel_rfl) (by kernel_rfl) (by kernel_rfl) (by kernel_rfl) (⟨HBK.out.cell 0, HBK.out.cell 1⟩) (fun ops hops => ?_)
  clear hops
  iterate 1
    refine Free.Seq.quiet (v := ?_) (a' := ?_) rfl rfl (fun W' hW' => ?_) ?_ ?_
    rotate_left 2
    · first | obtain ⟨s0, s1⟩ := hW' rfl | skip
      go_simp
      try with_reducible rfl
    · simp only [Act.put, List.setIfInBounds_toArray, List.set_cons_zero, List.set_cons_succ]
      try with_reducible rfl
  refine Free.Seq.loud_ rfl (.inl rfl) (fun K hK => ?_)
  go_simp
  refine (HFA.out _ HB0.out).mono ?_
  rintro e w1 ⟨v, names, up, rfl, hlw, hb1⟩
  have hfw : FewW w w1 v := ⟨names, up, fun W2 k => hlw W2 (k.mono_ (by simp))⟩
  obtain ⟨A1, k1, c1, A2, k2, c2, rfl⟩ := hfw.two
  dsimp only
  have hk1 : Blk w1 w.heap.size 25 #[.slice A n1.length c, .slice A' u1.length c'] := HBK.out.drew.below hb1 HBK.out.drew.lt
  have hc0 := hk1.cell 0
  have hc1 := hk1.cell 1
  have hf0 := hk1.frozen 0
  have hf1 := hk1.frozen 1
  have HB1 := Lib.hid (HB0.out.trans (hb1.mono HB0.out.size))
  refine hK.out _ _ rfl (fun h => absurd h (by decide)) ?_
  clear hK K hb1
  iterate 10
    refine Free.Seq.quiet (v := ?_) (a' := ?_) rfl rfl (fun W' hW' => ?_) ?_ ?_
    rotate_left 2
    · skip
      go_simp
      try with_reducible rfl
    · simp only [Act.put, List.setIfInBounds_toArray, List.set_cons_zero, List.set_cons_succ]
      try with_reducible rfl
  refine Free.Seq.loud_ rfl (.inl rfl) (fun K hK => ?_)
  go_simp
  refine hK.out _ _ rfl (fun h => absurd h (by decide)) ?_
  clear hK K
  refine Free.Seq.loud_ rfl (.inl rfl) (fun K hK => ?_)
  go_simp
  refine hK.out _ _ rfl (fun h => absurd h (by decide)) ?_
  clear hK K
  refine Free.Seq.loud_ rfl (.inl rfl) (fun K hK => ?_)
  go_simp
  refine hK.out _ _ rfl (fun h => absurd h (by decide)) ?_
  clear hK K
  refine Free.Seq.nil_ ?_
  obtain ⟨W2, hW2⟩ : ∃ W2, (w1.setCell ⟨w.heap.size, 0, none⟩ (.slice A1 k1 c1)).setCell ⟨w.heap.size, 1, none⟩ (.slice A2 k2 c2) = W2 := ⟨_, rfl⟩
  have hone : One w (.slice A1 k1 c1) (.slice A2 k2 c2) names up W2 := by
    rw [← hW2]
    refine ⟨(hk1.set_ 0 _).set_ 1 _, hlw _ ?_, (HB1.out.setCell (p := ⟨w.heap.size, 0, none⟩) (Nat.le_refl _) _).setCell (p := ⟨w.heap.size, 1, none⟩) (Nat.le_refl _) _⟩
    exact ((Keeps.set_ (p := ⟨w.heap.size, 0, none⟩) (Nat.le_refl _) (by simp)).trans_ (Keeps.set_ (p := ⟨w.heap.size, 1, none⟩) (Nat.le_refl _) (by simp)))
  have HTXS := Lib.hid (fun (l : List Cd.In) (A : Option Addr) (cc : Nat) W (hW : One w (.slice A1 k1 c1) (.slice A2 k2 c2) names up W) (hr : Row W W.heap.size A (icells l)) (hl : l.length ≤ 1000) => ctext_any cc W hW.la hr hl (HI.out.below hW.below HI.out.lt))
  have HPS := Lib.hid (fun (x : ByteArray) W (hx : x.size ≤ maxLen) (hW : One w (.slice A1 k1 c1) (.slice A2 k2 c2) names up W) => cparse_any x hx W hW.la (HI.out.below hW.below HI.out.lt))
  have HAL := Lib.hid (fun W (hW : One w (.slice A1 k1 c1) (.slice A2 k2 c2) names up W) => alive8_any W (HI.out.below hW.below HI.out.lt))
  have htx := HTXS.out al R cr W2 hone (one_row8 HR.out hone) (by rw [HNE.out]; omega)
  obtain ⟨⟨s1, n1'⟩, hs1⟩ : ∃ r, Cd.text names up al = r := ⟨_, rfl⟩
  rw [hs1, HNE.out] at htx
  have HTX := Lib.hid htx
  have HS1 := Lib.hid hs1
  have h20 := hone.a.cell 0
  have h21 := hone.a.cell 1
  have HONE2 := Lib.hid hone
  rw [hW2]
  clear hW2 hlw hfw hk1 hc0 hc1 hf0 hf1 htx hs1 hone hx
  go_wp2_with (fail)
  refine HTX.out.mono ?_
  rintro e w3 ⟨rfl, hb3⟩
  have hone3 := one_stable _ _ _ _ _ _ _ HONE2.out hb3
  have h30 := hone3.a.cell 0
  have h31 := hone3.a.cell 1
  have HONE3 := Lib.hid hone3
  clear hone3 hb3 h20 h21 HONE2
  clear HTX
  dsimp only
  by_cases hn1 : n1' = 0
  · subst hn1
    have htb := text_back8 HS1.out
    have hp1 := HPS.out s1 w3 (by unfold maxLen; have := htb.2.2.2.2; omega) HONE3.out
    rw [htb.2.2.2.1] at hp1
    have HP1 := Lib.hid hp1
    clear hp1 htb HS1
    go_wp2_with (fail)
    refine HP1.out.mono ?_
    rintro e w4 ⟨v, rfl, ⟨A4, c4, rfl, hr4, -⟩, hb4⟩
    have HR4 := Lib.hid hr4
    have hone4 := one_stable _ _ _ _ _ _ _ HONE3.out hb4
    have h40 := hone4.a.cell 0
    have h41 := hone4.a.cell 1
    have HONE4 := Lib.hid hone4
    clear hone4 hb4 h30 h31 HONE3
    have hsm := rSame_in c4 cr w4 HR4.out (one_row8 HR.out HONE4.out) (by rw [HNE.out]; omega) (by rw [HNE.out]; omega)
    rw [decide_eq_true (rfl : al = al), HNE.out] at hsm
    have HSM := Lib.hid hsm
    clear hsm hr4 HP1
    dsimp only
    rw [HNE.out]
    go_wp2_with (fail)
    refine HSM.out.mono ?_
    rintro e w5 ⟨rfl, hb5⟩
    have hone5 := one_stable _ _ _ _ _ _ _ HONE4.out hb5
    have h50 := hone5.a.cell 0
    have h51 := hone5.a.cell 1
    have HONE5 := Lib.hid hone5
    clear hone5 hb5 h40 h41 HONE4
    clear HSM HR4
    have hp2 := HPS.out x w5 HX.out HONE5.out
    obtain ⟨⟨y, at2, e2⟩, hy⟩ : ∃ r, Cd.parse names up x.data.toList = r := ⟨_, rfl⟩
    rw [hy] at hp2
    have HP2 := Lib.hid hp2
    clear hp2
    by_cases he2 : e2 = 0
    · subst he2
      have hpr := Cd.parse_right (names := names) (up := up) (s := x.data.toList) (by rw [hy])
      rw [hy] at hpr
      dsimp only at hpr
      have hyl := right_len8 hpr.2
      have htx : Cd.text names up y = (Lx.pack (Cd.textL names y), 0) := by unfold Cd.text; rw [if_pos hpr.1, if_pos hpr.2]
      have htb := text_back8 htx
      have hpb : Cd.pubB names up y = true := by unfold Cd.pubB; rw [decide_eq_true hpr.1, hpr.2]; rfl
      have HTB := Lib.hid htb
      generalize Lx.pack (Cd.textL names y) = z at *
      have HTX2 := Lib.hid (fun A c W (hW : One w (.slice A1 k1 c1) (.slice A2 k2 c2) names up W) (hr : Row W W.heap.size A (icells y)) => htx ▸ HTXS.out y A c W hW hr (by omega))
      have HRI := Lib.hid (fun A c W (hW : One w (.slice A1 k1 c1) (.slice A2 k2 c2) names up W) (hr : Row W W.heap.size A (icells y)) => hpb ▸ cRight_any (l := y) c W hW.la hr (by omega))
      have HYL := Lib.hid hyl
      have HPZ := Lib.hid (fun W hW => htb.2.2.2.1 ▸ HPS.out z W (by unfold maxLen; have := htb.2.2.2.2; omega) hW)
      clear htx hpr htb hpb hy hyl HTXS
      go_wp2_with (fail)
      refine HP2.out.mono ?_
      rintro e w6 ⟨v, rfl, ⟨A6, c6, rfl, hr6, -⟩, hb6⟩
      have hone6 := one_stable _ _ _ _ _ _ _ HONE5.out hb6
      have h60 := hone6.a.cell 0
      have h61 := hone6.a.cell 1
      have HONE6 := Lib.hid hone6
      clear hone6 hb6 h50 h51 HONE5
      have HR6 := Lib.hid hr6
      clear hr6 HP2
      obtain ⟨ny, hny⟩ : ∃ ny, y.length = ny := ⟨_, rfl⟩
      have HNY := Lib.hid hny
      have htx := HTX2.out A6 c6 w6 HONE6.out HR6.out
      dsimp only
      rw [hny] at htx ⊢
      have HT := Lib.hid htx
      clear htx hny
      go_wp2_with (fail)
      refine HT.out.mono ?_
      rintro e w7 ⟨rfl, hb7⟩
      have HR7 := Lib.hid ((HR6.out.below hb7).more hb7.size)
      have hone7 := one_stable _ _ _ _ _ _ _ HONE6.out hb7
      have h70 := hone7.a.cell 0
      have h71 := hone7.a.cell 1
      have HONE7 := Lib.hid hone7
      clear hone7 hb7 h60 h61 HONE6
      have hp3 := HPZ.out w7 HONE7.out
      have HP3 := Lib.hid hp3
      clear hp3 HT HR6
      dsimp only
      go_wp2_with (fail)
      refine HP3.out.mono ?_
      rintro e w8 ⟨v, rfl, ⟨A8, c8, rfl, hr8, -⟩, hb8⟩
      have HR8 := Lib.hid ((HR7.out.below hb8).more hb8.size)
      have HQ8 := Lib.hid hr8
      have hone8 := one_stable _ _ _ _ _ _ _ HONE7.out hb8
      have h80 := hone8.a.cell 0
      have h81 := hone8.a.cell 1
      have HONE8 := Lib.hid hone8
      clear hone8 hb8 h70 h71 HONE7
      clear hr8 HR7 HP3
      have hal := HAL.out w8 HONE8.out
      have HALC := Lib.hid hal
      clear hal
      dsimp only
      rw [HNY.out]
      go_wp2_with (fail)
      refine HALC.out.mono ?_
      rintro e w9 ⟨rfl, hb9⟩
      have HR9 := Lib.hid ((HR8.out.below hb9).more hb9.size)
      have HQ9 := Lib.hid ((HQ8.out.below hb9).more hb9.size)
      have hone9 := one_stable _ _ _ _ _ _ _ HONE8.out hb9
      have h90 := hone9.a.cell 0
      have h91 := hone9.a.cell 1
      have HONE9 := Lib.hid hone9
      clear hone9 hb9 h80 h81 HONE8
      clear HR8 HQ8 HALC
      have hri := HRI.out A6 c6 w9 HONE9.out HR9.out
      rw [HNY.out] at hri
      have HRC := Lib.hid hri
      clear hri
      go_wp2_with (fail)
      refine HRC.out.mono ?_
      rintro e w10 ⟨rfl, hb10⟩
      have HR10 := Lib.hid ((HR9.out.below hb10).more hb10.size)
      have HQ10 := Lib.hid ((HQ9.out.below hb10).more hb10.size)
      have hone10 := one_stable _ _ _ _ _ _ _ HONE9.out hb10
      have h100 := hone10.a.cell 0
      have h101 := hone10.a.cell 1
      have HONE10 := Lib.hid hone10
      clear hone10 hb10 h90 h91 HONE9
      clear HR9 HQ9 HRC
      have hsm := rSame_in c6 c8 w10 HR10.out HQ10.out (by have := HYL.out; omega) (by have := HYL.out; omega)
      rw [decide_eq_true (rfl : y = y), HNY.out] at hsm
      have HSM := Lib.hid hsm
      clear hsm
      go_wp2_with (fail)
      refine HSM.out.mono ?_
      rintro e w11 ⟨rfl, hb11⟩
      have hone11 := one_stable _ _ _ _ _ _ _ HONE10.out hb11
      have h110 := hone11.a.cell 0
      have h111 := hone11.a.cell 1
      have HONE11 := Lib.hid hone11
      clear hone11 hb11 h100 h101 HONE10
      go_wp2
      go_ret
      exact ⟨rfl, HONE11.out.below⟩
    · have hnil : y = [] := by
        have := Cd.parse_none (names := names) (up := up) (s := x.data.toList) (by rw [hy]; exact he2)
        rw [hy] at this
        exact this
      subst hnil
      have he3 : ((e2 : Int) != 0) = true := by rw [bne_iff_ne]; omega
      clear hy he2
      go_wp2_with (fail)
      refine HP2.out.mono ?_
      rintro e w6 ⟨v, rfl, ⟨A6, c6, rfl, -, -⟩, hb6⟩
      have hone6 := one_stable _ _ _ _ _ _ _ HONE5.out hb6
      have h60 := hone6.a.cell 0
      have h61 := hone6.a.cell 1
      have HONE6 := Lib.hid hone6
      clear hone6 hb6 h50 h51 HONE5
      clear HP2
      have hal := HAL.out w6 HONE6.out
      have HALC := Lib.hid hal
      clear hal
      dsimp only [List.length_nil]
      go_wp2_with (fail)
      refine HALC.out.mono ?_
      rintro e w7 ⟨rfl, hb7⟩
      have hone7 := one_stable _ _ _ _ _ _ _ HONE6.out hb7
      have h70 := hone7.a.cell 0
      have h71 := hone7.a.cell 1
      have HONE7 := Lib.hid hone7
      clear hone7 hb7 h60 h61 HONE6
      go_wp2
      go_ret
      exact ⟨rfl, HONE7.out.below⟩
  · have hne : ((n1' : Int) == 0) = false := by rw [beq_eq_false_iff_ne]; omega
    clear HS1 hn1
    have hp2 := HPS.out x w3 HX.out HONE3.out
    obtain ⟨⟨y, at2, e2⟩, hy⟩ : ∃ r, Cd.parse names up x.data.toList = r := ⟨_, rfl⟩
    rw [hy] at hp2
    have HP2 := Lib.hid hp2
    clear hp2
    by_cases he2 : e2 = 0
    · subst he2
      have hpr := Cd.parse_right (names := names) (up := up) (s := x.data.toList) (by rw [hy])
      rw [hy] at hpr
      dsimp only at hpr
      have hyl := right_len8 hpr.2
      have htx : Cd.text names up y = (Lx.pack (Cd.textL names y), 0) := by unfold Cd.text; rw [if_pos hpr.1, if_pos hpr.2]
      have htb := text_back8 htx
      have hpb : Cd.pubB names up y = true := by unfold Cd.pubB; rw [decide_eq_true hpr.1, hpr.2]; rfl
      have HTB := Lib.hid htb
      generalize Lx.pack (Cd.textL names y) = z at *
      have HTX2 := Lib.hid (fun A c W (hW : One w (.slice A1 k1 c1) (.slice A2 k2 c2) names up W) (hr : Row W W.heap.size A (icells y)) => htx ▸ HTXS.out y A c W hW hr (by omega))
      have HRI := Lib.hid (fun A c W (hW : One w (.slice A1 k1 c1) (.slice A2 k2 c2) names up W) (hr : Row W W.heap.size A (icells y)) => hpb ▸ cRight_any (l := y) c W hW.la hr (by omega))
      have HYL := Lib.hid hyl
      have HPZ := Lib.hid (fun W hW => htb.2.2.2.1 ▸ HPS.out z W (by unfold maxLen; have := htb.2.2.2.2; omega) hW)
      clear htx hpr htb hpb hy hyl HTXS
      go_wp2_with (fail)
      refine HP2.out.mono ?_
      rintro e w4 ⟨v, rfl, ⟨A6, c6, rfl, hr6, -⟩, hb4⟩
      have hone4 := one_stable _ _ _ _ _ _ _ HONE3.out hb4
      have h40 := hone4.a.cell 0
      have h41 := hone4.a.cell 1
      have HONE4 := Lib.hid hone4
      clear hone4 hb4 h30 h31 HONE3
      have HR6 := Lib.hid hr6
      clear hr6 HP2
      obtain ⟨ny, hny⟩ : ∃ ny, y.length = ny := ⟨_, rfl⟩
      have HNY := Lib.hid hny
      have htx := HTX2.out A6 c6 w4 HONE4.out HR6.out
      dsimp only
      rw [hny] at htx ⊢
      have HT := Lib.hid htx
      clear htx hny
      go_wp2_with (fail)
      refine HT.out.mono ?_
      rintro e w5 ⟨rfl, hb5⟩
      have HR7 := Lib.hid ((HR6.out.below hb5).more hb5.size)
      have hone5 := one_stable _ _ _ _ _ _ _ HONE4.out hb5
      have h50 := hone5.a.cell 0
      have h51 := hone5.a.cell 1
      have HONE5 := Lib.hid hone5
      clear hone5 hb5 h40 h41 HONE4
      have hp3 := HPZ.out w5 HONE5.out
      have HP3 := Lib.hid hp3
      clear hp3 HT HR6
      dsimp only
      go_wp2_with (fail)
      refine HP3.out.mono ?_
      rintro e w6 ⟨v, rfl, ⟨A8, c8, rfl, hr8, -⟩, hb6⟩
      have HR8 := Lib.hid ((HR7.out.below hb6).more hb6.size)
      have HQ8 := Lib.hid hr8
      have hone6 := one_stable _ _ _ _ _ _ _ HONE5.out hb6
      have h60 := hone6.a.cell 0
      have h61 := hone6.a.cell 1
      have HONE6 := Lib.hid hone6
      clear hone6 hb6 h50 h51 HONE5
      clear hr8 HR7 HP3
      have hal := HAL.out w6 HONE6.out
      have HALC := Lib.hid hal
      clear hal
      dsimp only
      rw [HNY.out]
      go_wp2_with (fail)
      refine HALC.out.mono ?_
      rintro e w7 ⟨rfl, hb7⟩
      have HR9 := Lib.hid ((HR8.out.below hb7).more hb7.size)
      have HQ9 := Lib.hid ((HQ8.out.below hb7).more hb7.size)
      have hone7 := one_stable _ _ _ _ _ _ _ HONE6.out hb7
      have h70 := hone7.a.cell 0
      have h71 := hone7.a.cell 1
      have HONE7 := Lib.hid hone7
      clear hone7 hb7 h60 h61 HONE6
      clear HR8 HQ8 HALC
      have hri := HRI.out A6 c6 w7 HONE7.out HR9.out
      rw [HNY.out] at hri
      have HRC := Lib.hid hri
      clear hri
      go_wp2_with (fail)
      refine HRC.out.mono ?_
      rintro e w8 ⟨rfl, hb8⟩
      have HR10 := Lib.hid ((HR9.out.below hb8).more hb8.size)
      have HQ10 := Lib.hid ((HQ9.out.below hb8).more hb8.size)
      have hone8 := one_stable _ _ _ _ _ _ _ HONE7.out hb8
      have h80 := hone8.a.cell 0
      have h81 := hone8.a.cell 1
      have HONE8 := Lib.hid hone8
      clear hone8 hb8 h70 h71 HONE7
      clear HR9 HQ9 HRC
      have hsm := rSame_in c6 c8 w8 HR10.out HQ10.out (by have := HYL.out; omega) (by have := HYL.out; omega)
      rw [decide_eq_true (rfl : y = y), HNY.out] at hsm
      have HSM := Lib.hid hsm
      clear hsm
      go_wp2_with (fail)
      refine HSM.out.mono ?_
      rintro e w9 ⟨rfl, hb9⟩
      have hone9 := one_stable _ _ _ _ _ _ _ HONE8.out hb9
      have h90 := hone9.a.cell 0
      have h91 := hone9.a.cell 1
      have HONE9 := Lib.hid hone9
      clear hone9 hb9 h80 h81 HONE8
      go_wp2
      go_ret
      exact ⟨rfl, HONE9.out.below⟩
    · have hnil : y = [] := by
        have := Cd.parse_none (names := names) (up := up) (s := x.data.toList) (by rw [hy]; exact he2)
        rw [hy] at this
        exact this
      subst hnil
      have he3 : ((e2 : Int) != 0) = true := by rw [bne_iff_ne]; omega
      clear hy he2
      go_wp2_with (fail)
      refine HP2.out.mono ?_
      rintro e w4 ⟨v, rfl, ⟨A6, c6, rfl, -, -⟩, hb4⟩
      have hone4 := one_stable _ _ _ _ _ _ _ HONE3.out hb4
      have h40 := hone4.a.cell 0
      have h41 := hone4.a.cell 1
      have HONE4 := Lib.hid hone4
      clear hone4 hb4 h30 h31 HONE3
      clear HP2
      have hal := HAL.out w4 HONE4.out
      have HALC := Lib.hid hal
      clear hal
      dsimp only [List.length_nil]
      go_wp2_with (fail)
      refine HALC.out.mono ?_
      rintro e w5 ⟨rfl, hb5⟩
      have hone5 := one_stable _ _ _ _ _ _ _ HONE4.out hb5
      have h50 := hone5.a.cell 0
      have h51 := hone5.a.cell 1
      have HONE5 := Lib.hid hone5
      clear hone5 hb5 h40 h41 HONE4
      go_wp2
      go_ret
      exact ⟨rfl, HONE5.out.below⟩
end Go.Proofs.YtipbilmnknmhmaaDoor
