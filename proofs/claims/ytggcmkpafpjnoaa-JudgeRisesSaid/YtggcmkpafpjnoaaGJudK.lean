/- The law's alive (stage 7), and the walk of the law JudgeComes. -/
import Derived.Lib.QuietBelow
import Derived.Deep.Cut
import Derived.Test.YtggcmkpafpjnoaaGJudI
import Derived.Test.YtggcmkpafpjnoaaGPub
import Derived.Test.YtggcmkpafpjnoaaGLawO
import Derived.Test.YtggcmkpafpjnoaaGFree
namespace Go.Proofs.Ytggcmkpafpjnoaa
set_option maxRecDepth 100000
open Go.RowKit Go.Shelf Go.Sort

theorem dWhy7 : jWhy dNames dUp [9, 10, 12] [0, 1, 2, 0] true = 0 := by decide +kernel
theorem dVal7 : labelV dUp [9, 10, 12] [0, 1, 2, 0] 0 = 3 := by decide +kernel
set_option maxHeartbeats 2000000 in
theorem alive7_any (w : World) : Calls Try.prog 10 #[] w fun e w' => e = .returned (.bool true) ∧ Below w.heap.size w w' := by
  obtain ⟨W0, hW0⟩ : ∃ W0 : World, (((w.alloc (.cells #[.string ⟨#[97]⟩, .string ⟨#[98]⟩, .string ⟨#[99]⟩, .string ⟨#[100]⟩] 9)).alloc (.cells #[.int .u32 15, .int .u32 10, .int .u32 12, .int .u32 8] 44)).alloc (.cells #[.slice (some ⟨w.heap.size, 0, none⟩) 4 4, .slice (some ⟨w.heap.size + 1, 0, none⟩) 4 4] 25)) = W0 := ⟨_, rfl⟩
  have hlat := alive_lat w
  have hB : Below w.heap.size w W0 := by rw [← hW0]; exact (((Below.refl _ w).alloc (Nat.le_refl _) _).alloc (by simp) _).alloc (by simp; omega) _
  have hsz : W0.heap.size = w.heap.size + 3 := by rw [← hW0]; simp
  rw [hW0] at hlat
  rw [← hsz] at hlat
  have hB1 : Below W0.heap.size W0 ((W0.alloc (.cells #[.int .i64 9, .int .i64 10, .int .i64 12] 3)).alloc (.cells #[.int .i64 0, .int .i64 1, .int .i64 2, .int .i64 0] 3)) := ((Below.refl _ W0).alloc (Nat.le_refl _) _).alloc (by simp) _
  have hr1 : Row ((W0.alloc (.cells #[.int .i64 9, .int .i64 10, .int .i64 12] 3)).alloc (.cells #[.int .i64 0, .int .i64 1, .int .i64 2, .int .i64 0] 3)) ((W0.alloc (.cells #[.int .i64 9, .int .i64 10, .int .i64 12] 3)).alloc (.cells #[.int .i64 0, .int .i64 1, .int .i64 2, .int .i64 0] 3)).heap.size (some ⟨W0.heap.size, 0, none⟩) (ints [9, 10, 12]) :=
    (((Blk.new W0 3 (ints [9, 10, 12]).toArray).alloc (.cells #[.int .i64 0, .int .i64 1, .int .i64 2, .int .i64 0] 3)).row).more (by simp)
  have hr2 : Row ((W0.alloc (.cells #[.int .i64 9, .int .i64 10, .int .i64 12] 3)).alloc (.cells #[.int .i64 0, .int .i64 1, .int .i64 2, .int .i64 0] 3)) ((W0.alloc (.cells #[.int .i64 9, .int .i64 10, .int .i64 12] 3)).alloc (.cells #[.int .i64 0, .int .i64 1, .int .i64 2, .int .i64 0] 3)).heap.size (some ⟨W0.heap.size + 1, 0, none⟩) (ints [0, 1, 2, 0]) :=
    ((Blk.at' (W := W0.alloc (.cells #[.int .i64 9, .int .i64 10, .int .i64 12] 3)) (t := 3) (cs := (ints [0, 1, 2, 0]).toArray) (g := W0.heap.size + 1) (by simp)).row).more (by simp)
  have hj := label_any (rule := [9, 10, 12]) (labs := [0, 1, 2, 0]) 3 4 _ ((hlat.below hB1).more hB1.size) hr1 (by decide) hr2 (by decide)
  rw [dWhy7, dVal7] at hj
  have hbl : Blk W0 (w.heap.size + 1 + 1) 25 #[.slice (some ⟨w.heap.size, 0, none⟩) 4 4, .slice (some ⟨w.heap.size + 1, 0, none⟩) 4 4] := by rw [← hW0]; exact Blk.at' (by simp)
  have HJ : Hid (Calls Try.prog 8 #[.agg #[.slice (some ⟨w.heap.size, 0, none⟩) 4 4, .slice (some ⟨w.heap.size + 1, 0, none⟩) 4 4], .slice (some ⟨W0.heap.size, 0, none⟩) 3 3, .slice (some ⟨W0.heap.size + 1, 0, none⟩) 4 4] ((W0.alloc (.cells #[.int .i64 9, .int .i64 10, .int .i64 12] 3)).alloc (.cells #[.int .i64 0, .int .i64 1, .int .i64 2, .int .i64 0] 3)) fun e w' => e = .returned (.tuple #[.int .i64 ((3 : Nat) : Int), .int .i64 ((0 : Nat) : Int)]) ∧ Below ((W0.alloc (.cells #[.int .i64 9, .int .i64 10, .int .i64 12] 3)).alloc (.cells #[.int .i64 0, .int .i64 1, .int .i64 2, .int .i64 0] 3)).heap.size ((W0.alloc (.cells #[.int .i64 9, .int .i64 10, .int .i64 12] 3)).alloc (.cells #[.int .i64 0, .int .i64 1, .int .i64 2, .int .i64 0] 3)) w') := Lib.hid hj
  have HB := Lib.hid hB
  have HB1 := Lib.hid hB1
  have HW0 := Lib.hid hW0
  have hc0 := hbl.cell 0
  have hc1 := hbl.cell 1
  clear hj hB hB1 hW0 hlat hr1 hr2 hbl hsz
  go_enter Try.func10, Try.ntmps10
  go_upto_region 2 with (fail)
  rw [HW0.out]
  go_wp2_with (fail)
  refine HJ.out.mono ?_
  rintro e w1 ⟨rfl, hb1⟩
  go_wp2
  go_ret
  exact ⟨rfl, (HB.out.trans (HB1.out.mono HB.out.size)).trans (hb1.mono (by have := HB.out.size; have := HB1.out.size; omega))⟩
end Go.Proofs.Ytggcmkpafpjnoaa

/- The walk of the law JudgeComes. -/
namespace Go.Proofs.Ytggcmkpafpjnoaa
set_option maxRecDepth 100000
open Go.RowKit Go.Shelf Go.Sort

theorem ints_take (l : List Int) (n : Nat) : ints (l.take n) = (ints l).take n := by simp [ints, List.map_take]
theorem row_cut {w : World} {B : Nat} {R : Option Addr} {l : List Int} (h : Row w B R (ints l)) (n : Nat) : Row w B R (ints (l.take n)) := by rw [ints_take]; exact h.take n
theorem one_row {w W : World} {x0 x1 : Value} {n1 : List ByteArray} {u1 : List Nat} {R : Option Addr} {xs : List Value} (h : Row w w.heap.size R xs) (hW : One w x0 x1 n1 u1 W) : Row W W.heap.size R xs := (h.below hW.below).more hW.below.size
theorem fieldV0 (b : Bool) (a f : Int) (W : World) : (Instr.field 36 (.agg #[.bool b, .int .i64 a, .int .i64 f]) 0).run Try.prog W = .ok (.bool b) W := by kernel_rfl
theorem fieldV1 (b : Bool) (a f : Int) (W : World) : (Instr.field 36 (.agg #[.bool b, .int .i64 a, .int .i64 f]) 1).run Try.prog W = .ok (.int .i64 a) W := by kernel_rfl
set_option maxHeartbeats 8000000 in
theorem comes_any {A A' R L : Option Addr} {n1 : List ByteArray} {u1 : List Nat} {r labs : List Int} (c c' cr cl : Nat) (w : World) (hN : Row w w.heap.size A (strs n1)) (hU : Ups w w.heap.size A' u1) (hR : Row w w.heap.size R (ints r)) (hL : Row w w.heap.size L (ints labs)) (hc : n1.length ≤ c) (hc' : u1.length ≤ c') (hcr : r.length ≤ cr) (hcl : labs.length ≤ cl) (hm : c ≤ maxLen) (hm' : c' ≤ maxLen) (hmr : cr ≤ maxLen) (hml : cl ≤ maxLen) (hs : ∀ s ∈ n1, s.size ≤ maxLen) :
    Calls Try.prog 3 #[.agg #[.slice A n1.length c, .slice A' u1.length c'], .slice R r.length cr, .slice L labs.length cl] w fun e w' => e = .returned (.bool true) ∧ Below w.heap.size w w' := by
  have hfa := fun W (hW : Below w.heap.size w W) => few_any w.heap.size c c' W hW.size (hN.below hW) (hU.below hW) hc hc' hm hm' hs
  have hbk := Blk.new w 25 #[.slice A n1.length c, .slice A' u1.length c']
  have hb0 : Below w.heap.size w (w.alloc (.cells #[.slice A n1.length c, .slice A' u1.length c'] 25)).drew := ((Below.refl _ w).alloc (Nat.le_refl _) _).drew
  have hr := row_cut hR 45
  have hl := row_cut hL 6
  obtain ⟨N, hNe⟩ : ∃ N, (r.take 45).length = N := ⟨_, rfl⟩
  obtain ⟨M, hMe⟩ : ∃ M, (labs.take 6).length = M := ⟨_, rfl⟩
  have hN1 : min (r.length : Int) 45 = (N : Int) := by rw [← hNe, List.length_take]; omega
  have hM1 : min (labs.length : Int) 6 = (M : Int) := by rw [← hMe, List.length_take]; omega
  have hNc : (N ≤ cr) = True := eq_true (by rw [← hNe, List.length_take]; omega)
  have hMc : (M ≤ cl) = True := eq_true (by rw [← hMe, List.length_take]; omega)
  have hN6 : N ≤ 45 := by rw [← hNe, List.length_take]; omega
  have hM6 : M ≤ 6 := by rw [← hMe, List.length_take]; omega
  generalize r.take 45 = rr at *
  generalize labs.take 6 = ll at *
  unfold maxLen at hmr hml
  have hrb : (r.length : Int) ≤ 9223372036854775807 := by omega
  have hlb : (labs.length : Int) ≤ 9223372036854775807 := by omega
  have HFA := Lib.hid hfa
  have HBK := Lib.hid hbk
  have HB0 := Lib.hid hb0
  have HR := Lib.hid hr
  have HL := Lib.hid hl
  have HNE := Lib.hid hNe
  have HME := Lib.hid hMe
  clear hfa hbk hb0 hr hl hN hU hR hL hc hc' hcr hcl hm hm' hmr hml hs hNe hMe
  generalize r.length = rn at *
  generalize labs.length = ln at *
  go_enter Try.func3, Try.ntmps3
  go_wp2
  refine Free.region_seq [1, 12, 13, 14] [0] 1 (fun W' => W'.cell? ⟨w.heap.size, 0, none⟩ = some (.slice A n1.length c) ∧ W'.cell? ⟨w.heap.size, 1, none⟩ = some (.slice A' u1.length c')) (by kernel_rfl) (by kernel_rfl) (by kernel_rfl) (by kernel_rfl) (⟨HBK.out.cell 0, HBK.out.cell 1⟩) (fun ops hops => ?_)
  clear hops
  iterate 1
    refine Free.Seq.quiet (v := ?_) (a' := ?_) rfl rfl (fun W' hW' => ?_) ?_ ?_
    rotate_left 2
    · first | obtain ⟨s0, s1⟩ := hW' rfl | skip
      go_simp
      try with_reducible rfl
    · simp only [Act.put, List.setIfInBounds_toArray, List.set_cons_zero, List.set_cons_succ]
      try with_reducible rfl
  refine Free.Seq.loud_ rfl (.inl rfl) (fun K hK => ?_)
  go_simp
  refine (HFA.out _ HB0.out).mono ?_
  rintro e w1 ⟨v, names, up, rfl, hlw, hb1⟩
  have hfw : FewW w w1 v := ⟨names, up, fun W2 k => hlw W2 (k.mono_ (by simp))⟩
  obtain ⟨A1, k1, c1, A2, k2, c2, rfl⟩ := hfw.two
  dsimp only
  have hk1 : Blk w1 w.heap.size 25 #[.slice A n1.length c, .slice A' u1.length c'] := HBK.out.drew.below hb1 HBK.out.drew.lt
  have hc0 := hk1.cell 0
  have hc1 := hk1.cell 1
  have hf0 := hk1.frozen 0
  have hf1 := hk1.frozen 1
  have HB1 := Lib.hid (HB0.out.trans (hb1.mono HB0.out.size))
  refine hK.out _ _ rfl (fun h => absurd h (by decide)) ?_
  clear hK K hb1
  iterate 10
    refine Free.Seq.quiet (v := ?_) (a' := ?_) rfl rfl (fun W' hW' => ?_) ?_ ?_
    rotate_left 2
    · skip
      go_simp
      try with_reducible rfl
    · simp only [Act.put, List.setIfInBounds_toArray, List.set_cons_zero, List.set_cons_succ]
      try with_reducible rfl
  refine Free.Seq.loud_ rfl (.inl rfl) (fun K hK => ?_)
  go_simp
  refine hK.out _ _ rfl (fun h => absurd h (by decide)) ?_
  clear hK K
  refine Free.Seq.loud_ rfl (.inl rfl) (fun K hK => ?_)
  go_simp
  refine hK.out _ _ rfl (fun h => absurd h (by decide)) ?_
  clear hK K
  refine Free.Seq.loud_ rfl (.inl rfl) (fun K hK => ?_)
  go_simp
  refine hK.out _ _ rfl (fun h => absurd h (by decide)) ?_
  clear hK K
  refine Free.Seq.nil_ ?_
  obtain ⟨W2, hW2⟩ : ∃ W2, (w1.setCell ⟨w.heap.size, 0, none⟩ (.slice A1 k1 c1)).setCell ⟨w.heap.size, 1, none⟩ (.slice A2 k2 c2) = W2 := ⟨_, rfl⟩
  have hone : One w (.slice A1 k1 c1) (.slice A2 k2 c2) names up W2 := by
    rw [← hW2]
    refine ⟨(hk1.set_ 0 _).set_ 1 _, hlw _ ?_, (HB1.out.setCell (p := ⟨w.heap.size, 0, none⟩) (Nat.le_refl _) _).setCell (p := ⟨w.heap.size, 1, none⟩) (Nat.le_refl _) _⟩
    exact ((Keeps.set_ (p := ⟨w.heap.size, 0, none⟩) (Nat.le_refl _) (by simp)).trans_ (Keeps.set_ (p := ⟨w.heap.size, 1, none⟩) (Nat.le_refl _) (by simp)))
  have hcd := fun W (hW : One w (.slice A1 k1 c1) (.slice A2 k2 c2) names up W) => cond_any (labs := ll) cr cl W hW.la (one_row HR.out hW) (by rw [HNE.out]; omega) (one_row HL.out hW) (by rw [HME.out]; omega)
  have hla := fun W (hW : One w (.slice A1 k1 c1) (.slice A2 k2 c2) names up W) => label_any (labs := ll) cr cl W hW.la (one_row HR.out hW) (by rw [HNE.out]; omega) (one_row HL.out hW) (by rw [HME.out]; omega)
  have hm0 := fun W (hW : One w (.slice A1 k1 c1) (.slice A2 k2 c2) names up W) => jmay_any (labs := ll) cr cl false W hW.la (one_row HR.out hW) (by rw [HNE.out]; omega) (one_row HL.out hW) (by rw [HME.out]; omega)
  have hm1 := fun W (hW : One w (.slice A1 k1 c1) (.slice A2 k2 c2) names up W) => jmay_any (labs := ll) cr cl true W hW.la (one_row HR.out hW) (by rw [HNE.out]; omega) (one_row HL.out hW) (by rw [HME.out]; omega)
  have hj0 := fun (h0 : jWhy names up rr ll false = 0) W (hW : One w (.slice A1 k1 c1) (.slice A2 k2 c2) names up W) => rJudge_any (labs := ll) cr cl false h0 (by rw [HNE.out]; omega) W hW.la (one_row HR.out hW) (one_row HL.out hW)
  have hj1 := fun (h0 : jWhy names up rr ll true = 0) W (hW : One w (.slice A1 k1 c1) (.slice A2 k2 c2) names up W) => rJudge_any (labs := ll) cr cl true h0 (by rw [HNE.out]; omega) W hW.la (one_row HR.out hW) (one_row HL.out hW)
  rw [HNE.out, HME.out] at hcd hla hm0 hm1 hj0 hj1
  unfold Whyed at hm0 hm1
  unfold GaveV at hj0 hj1
  have hcv : condV up rr ll (jWhy names up rr ll false) = if jWhy names up rr ll false = 0 then Jg.Is (Jg.val (jops up ll) rr) else false := rfl
  have hlv : labelV up rr ll (jWhy names up rr ll true) = if jWhy names up rr ll true = 0 then Jg.A (Jg.val (jops up ll) rr) else 0 := rfl
  generalize jWhy names up rr ll false = p0 at *
  generalize jWhy names up rr ll true = p1 at *
  generalize Jg.Is (Jg.val (jops up ll) rr) = x at *
  generalize Jg.A (Jg.val (jops up ll) rr) = y at *
  obtain ⟨b0, hb0e⟩ : ∃ b0, condV up rr ll p0 = b0 := ⟨_, rfl⟩
  obtain ⟨a0, ha0e⟩ : ∃ a0, labelV up rr ll p1 = a0 := ⟨_, rfl⟩
  rw [hb0e] at hcd hcv
  rw [ha0e] at hla hlv
  have HCV := Lib.hid hcv
  have HLV := Lib.hid hlv
  have h00 := hone.a.cell 0
  have h01 := hone.a.cell 1
  have hfd0 := fieldV0
  have hfd1 := fieldV1
  rw [hW2]
  clear hW2 hlw hfw hk1 hc0 hc1 hf0 hf1 hcv hlv hb0e ha0e
  have HONE := Lib.hid hone
  have HCD := Lib.hid hcd
  have HLA := Lib.hid hla
  have HM0 := Lib.hid hm0
  have HM1 := Lib.hid hm1
  have HJ0 := Lib.hid hj0
  have HJ1 := Lib.hid hj1
  clear hcd hla hm0 hm1 hj0 hj1 hone
  go_wp2_with (fail)
  refine (HCD.out W2 HONE.out).mono ?_
  rintro e w3 ⟨rfl, hb3⟩
  have hone3 := one_stable _ _ _ _ _ _ _ HONE.out hb3
  have h30 := hone3.a.cell 0
  have h31 := hone3.a.cell 1
  have HONE3 := Lib.hid hone3
  clear hone3 hb3 h00 h01 HONE
  go_wp2_with (fail)
  refine (HLA.out w3 HONE3.out).mono ?_
  rintro e w4 ⟨rfl, hb4⟩
  have hone4 := one_stable _ _ _ _ _ _ _ HONE3.out hb4
  have h40 := fun d os => cell_regrown (hone4.a.cell 0) d os
  have h41 := fun d os => cell_regrown (hone4.a.cell 1) d os
  have HG4 := Lib.hid (fun d os => (one_stable _ _ _ _ _).grown hone4 d os)
  clear hone4 hb4 h30 h31 HONE3 HCD HLA
  go_wp2
  refine wp_region_quiet_below (by kernel_rfl) (by kernel_rfl) ?_
  repeat (quiet_step ((go_at_call 9; first | (with_reducible exact Calls.regrown_of (HM0.out _ (HG4.out _ _))) | (with_reducible exact Calls.regrown_of (HM1.out _ (HG4.out _ _))))))
  refine wpQuiet_nil ?_
  rintro _ ⟨⟨d, os⟩, rfl⟩
  have hone5 := HG4.out d os
  have h50 := hone5.a.cell 0
  have h51 := hone5.a.cell 1
  have HONE5 := Lib.hid hone5
  clear hone5 h40 h41 HG4 HM0 HM1
  generalize grow (redrawn w4 d) os = w5 at *
  go_wp2_with (fail)
  refine (alive7_any w5).mono ?_
  rintro e w6 ⟨rfl, hb6⟩
  have hone6 := one_stable _ _ _ _ _ _ _ HONE5.out hb6
  have h60 := hone6.a.cell 0
  have h61 := hone6.a.cell 1
  have HONE6 := Lib.hid hone6
  clear hone6 hb6 h50 h51 HONE5
  by_cases z0 : p0 = 0
  · subst z0
    have hbx : b0 = x := HCV.out.trans (if_pos rfl)
    subst hbx
    have HJA := Lib.hid (HJ0.out rfl)
    clear HJ0
    have hbb : (b0 != b0) = false := by cases b0 <;> rfl
    go_wp2_with (fail)
    refine (HJA.out w6 HONE6.out).mono ?_
    rintro e w7 ⟨rfl, hb7⟩
    have hone7 := one_stable _ _ _ _ _ _ _ HONE6.out hb7
    have h70 := hone7.a.cell 0
    have h71 := hone7.a.cell 1
    have HONE7 := Lib.hid hone7
    clear hone7 hb7 h60 h61 HONE6
    by_cases z1 : p1 = 0
    · subst z1
      have hay : a0 = y := HLV.out.trans (if_pos rfl)
      subst hay
      have HJB := Lib.hid (HJ1.out rfl)
      clear HJ1
      go_wp2_with (fail)
      refine (HJB.out w7 HONE7.out).mono ?_
      rintro e w8 ⟨rfl, hb8⟩
      have HONE8 := Lib.hid (one_stable _ _ _ _ _ _ _ HONE7.out hb8)
      clear hb8
      go_wp2
      go_ret
      exact ⟨rfl, HONE8.out.below⟩
    · have hay : a0 = 0 := HLV.out.trans (if_neg z1)
      subst hay
      have hz1 : ((p1 : Int) == 0) = false := zero_some z1
      have hz2 : ((p1 : Int) != 0) = true := by rw [bne_iff_ne]; omega
      clear HJ1 z1
      go_wp2
      go_ret
      exact ⟨rfl, HONE7.out.below⟩
  · have hbx : b0 = false := HCV.out.trans (if_neg z0)
    subst hbx
    have hz1 : ((p0 : Int) == 0) = false := zero_some z0
    have hz2 : ((p0 : Int) != 0) = true := by rw [bne_iff_ne]; omega
    clear HJ0 z0
    by_cases z1 : p1 = 0
    · subst z1
      have hay : a0 = y := HLV.out.trans (if_pos rfl)
      subst hay
      have HJB := Lib.hid (HJ1.out rfl)
      clear HJ1
      go_wp2_with (fail)
      refine (HJB.out w6 HONE6.out).mono ?_
      rintro e w8 ⟨rfl, hb8⟩
      have HONE8 := Lib.hid (one_stable _ _ _ _ _ _ _ HONE6.out hb8)
      clear hb8
      go_wp2
      go_ret
      exact ⟨rfl, HONE8.out.below⟩
    · have hay : a0 = 0 := HLV.out.trans (if_neg z1)
      subst hay
      have hz3 : ((p1 : Int) == 0) = false := zero_some z1
      have hz4 : ((p1 : Int) != 0) = true := by rw [bne_iff_ne]; omega
      clear HJ1 z1
      go_wp2
      go_ret
      exact ⟨rfl, HONE6.out.below⟩
end Go.Proofs.Ytggcmkpafpjnoaa
