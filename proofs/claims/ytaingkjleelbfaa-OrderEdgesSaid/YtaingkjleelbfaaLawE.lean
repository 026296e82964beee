/- Walk of the law OrderEdges. -/
import Derived.Test.YtaingkjleelbfaaOrdW
import Derived.Test.YtaingkjleelbfaaBox1
import Derived.Test.YtaingkjleelbfaaSame
namespace Go.Proofs.Ytaingkjleelbfaa
open Go.RowKit Go.Shelf Go.Sort

set_option maxRecDepth 100000 in
set_option maxHeartbeats 4000000 in
theorem edgesLaw_any {A A' : Option Addr} {n1 : List ByteArray} {u1 : List Nat} (c c' : Nat) (name : ByteArray) (w : World) (hk : name.size ≤ maxLen)
    (hN : Row w w.heap.size A (strs n1)) (hU : Ups w w.heap.size A' u1) (hc : n1.length ≤ c) (hc' : u1.length ≤ c') (hm : c ≤ maxLen) (hm' : c' ≤ maxLen) (hs : ∀ s ∈ n1, s.size ≤ maxLen) :
    Calls Try.prog 5 #[.agg #[.slice A n1.length c, .slice A' u1.length c'], .string name] w fun e w' => e = .returned (.bool true) ∧ Below w.heap.size w w' := by
  have hfa := fun W (hW : Below w.heap.size w W) => few_any w.heap.size c c' W hW.size (hN.below hW) (hU.below hW) hc hc' hm hm' hs
  have HFA := Lib.hid hfa
  clear hfa hN hU hs
  unfold maxLen at hk
  have hks : (name.size : Int) ≤ 9223372036854775807 := by omega
  by_cases hs15 : (15 : Int) < name.size
  · have hs16 : (15 : Int) ≤ name.size := by omega
    go_enter Try.func5, Try.ntmps5
    go_wp2
    refine Free.region_each (by kernel_rfl) (by kernel_rfl)
      (fun k => [some (.agg #[.slice A n1.length c, .slice A' u1.length c']), none, some (.string name), some (.string name), some (.int .i64 name.size), some (.int .i64 15), some (.string (name.extract 0 15)), none, some (.string (name.extract 0 15))].getD k none)
      (Box1 w (.slice A n1.length c) (.slice A' u1.length c') 1 7) (fun _ => undef) (Box1.start _) ?_ ?_
    · refine ⟨?_, ?_, ?_, ?_, ?_, ?_, ?_, ?_, ?_, trivial⟩
      · refine Free.step_val _ rfl rfl fun done r W ρ hρ hcst hfun hJ hV hC hd hdeps => ?_
        have e0 : ρ (.tmp 2) = .pointer (some ⟨w.heap.size, 0, none⟩) := by rw [hρ]; rfl
        have hold := hJ.old (Free.not_done hC 7 0 (by rfl) (by decide) hd)
        have c0 : W.cell? ⟨w.heap.size, 0, none⟩ = some (.slice A n1.length c) := by rw [hold.cell]; rfl
        have c1 : W.cell? ⟨w.heap.size, 1, none⟩ = some (.slice A' u1.length c') := by rw [hold.cell]; rfl
        clear hρ
        refine ⟨?_, hJ.pass (by decide)⟩
        go_simp
      · refine Free.step_any rfl rfl fun done r W ρ hρ hcst hfun hJ hV hC hd hdeps => ?_
        have e0 : ρ (.tmp 10) = .agg #[.slice A n1.length c, .slice A' u1.length c'] := by rw [hρ]; exact hV 0 _ (hdeps 0 (by decide)) rfl
        have hno := Free.not_done hC 7 1 (by rfl) (by decide) hd
        clear hρ
        go_simp
        exact (HFA.out W hJ.below).mono fun e w' ⟨v, _, _, he, hl, hb⟩ => ⟨v, he, hJ.call (by decide) hno hl hb⟩
      · refine Free.step_val _ rfl rfl fun done r W ρ hρ hcst hfun hJ hV hC hd hdeps => ?_
        have e0 : ρ (.tmp 1) = .string name := by rw [hρ]; rfl
        clear hρ
        refine ⟨?_, hJ.pass (by decide)⟩
        go_simp
      · refine Free.step_val _ rfl rfl fun done r W ρ hρ hcst hfun hJ hV hC hd hdeps => ?_
        have e0 : ρ (.tmp 1) = .string name := by rw [hρ]; rfl
        clear hρ
        refine ⟨?_, hJ.pass (by decide)⟩
        go_simp
      · refine Free.step_val _ rfl rfl fun done r W ρ hρ hcst hfun hJ hV hC hd hdeps => ?_
        have e0 : ρ (.tmp 13) = .string name := by rw [hρ]; exact hV 3 _ (hdeps 3 (by decide)) rfl
        clear hρ
        refine ⟨?_, hJ.pass (by decide)⟩
        go_simp
      · refine Free.step_val _ rfl rfl fun done r W ρ hρ hcst hfun hJ hV hC hd hdeps => ?_
        have e0 : ρ (.tmp 14) = .int .i64 name.size := by rw [hρ]; exact hV 4 _ (hdeps 4 (by decide)) rfl
        clear hρ
        refine ⟨?_, hJ.pass (by decide)⟩
        go_simp
      · refine Free.step_val _ rfl rfl fun done r W ρ hρ hcst hfun hJ hV hC hd hdeps => ?_
        have e0 : ρ (.tmp 12) = .string name := by rw [hρ]; exact hV 2 _ (hdeps 2 (by decide)) rfl
        have e1 : ρ (.tmp 15) = .int .i64 15 := by rw [hρ]; exact hV 5 _ (hdeps 5 (by decide)) rfl
        clear hρ
        refine ⟨?_, hJ.pass (by decide)⟩
        go_simp
      · refine Free.step_any rfl rfl fun done r W ρ hρ hcst hfun hJ hV hC hd hdeps => ?_
        have e0 : ρ (.tmp 2) = .pointer (some ⟨w.heap.size, 0, none⟩) := by rw [hρ]; rfl
        have e1 : ρ (.tmp 11) = r 1 := by rw [hρ]; rfl
        have hold := hJ.old hd
        obtain ⟨y0, y1, y2, y3, y4, y5, hy⟩ := (hJ.ra (hdeps 1 (by decide))).two
        rw [hy] at e1
        have c0 : W.cell? ⟨w.heap.size, 0, none⟩ = some (.slice A n1.length c) := by rw [hold.cell]; rfl
        have c1 : W.cell? ⟨w.heap.size, 1, none⟩ = some (.slice A' u1.length c') := by rw [hold.cell]; rfl
        have f0 := hold.frozen 0
        have f1 := hold.frozen 1
        have hfin := hJ.set_ (by decide) (hdeps 1 (by decide)) hy hd
        clear hρ hy
        go_simp
        exact hfin
      · refine Free.step_val _ rfl rfl fun done r W ρ hρ hcst hfun hJ hV hC hd hdeps => ?_
        have e0 : ρ (.tmp 16) = .string (name.extract 0 15) := by rw [hρ]; exact hV 6 _ (hdeps 6 (by decide)) rfl
        clear hρ
        refine ⟨?_, hJ.pass (by decide)⟩
        go_simp
    · intro done r W hall hJ hV
      obtain ⟨A1, m1, c1, A2, m2, c2, names, up, e1, hone⟩ := hJ.fin (hall 1 (by decide)) (hall 7 (by decide))
      have e0 := hV 0 _ (hall 0 (by decide)) rfl
      have e2 := hV 2 _ (hall 2 (by decide)) rfl
      have e3 := hV 3 _ (hall 3 (by decide)) rfl
      have e4 := hV 4 _ (hall 4 (by decide)) rfl
      have e5 := hV 5 _ (hall 5 (by decide)) rfl
      have e6 := hV 6 _ (hall 6 (by decide)) rfl
      have e8 := hV 8 _ (hall 8 (by decide)) rfl
      simp only [Free.putAll, Nat.zero_add, e0, e1, e2, e3, e4, e5, e6, e8]
      clear hJ hV hall e0 e1 e2 e3 e4 e5 e6 e8 HFA
      have hc0 := hone.a.cell 0
      have hc1 := hone.a.cell 1
      have hed := edges_any W hone.la
      have hrc := fun W (hW : One w (.slice A1 m1 c1) (.slice A2 m2 c2) names up W) => rCheck_any W hW.la
      obtain ⟨k, hk⟩ : ∃ k, checkN names up = k := ⟨_, rfl⟩
      have hfi := fun W (hW : One w (.slice A1 m1 c1) (.slice A2 m2 c2) names up W) => find_any (name.extract 0 15) W hW.la
      have hfv : findN names up (name.extract 0 15) = (if k = 0 then if (idxN names (name.extract 0 15)).isSome then 0 else 9 else k) ∧ findV names up (name.extract 0 15) = (if k = 0 then (idxN names (name.extract 0 15)).getD 0 else 0) ∧ edgesR names up = if k = 0 then Ordr.edges up else [] := by subst hk; exact ⟨rfl, rfl, rfl⟩
      rw [hfv.1, hfv.2.1] at hfi
      rw [hk, hfv.2.2] at hed
      rw [← check_same, hk] at hrc
      have HCK := Lib.hid hk
      have HONE := Lib.hid hone
      have HRC := Lib.hid hrc
      clear hk hrc hone hfv
      by_cases hz : k = 0
      · subst hz
        simp only [if_true] at hed hfi
        have h8 := (len_of_checkN HCK.out).2
        have hre := fun W (hW : One w (.slice A1 m1 c1) (.slice A2 m2 c2) names up W) => rEdges_any W hW.la h8
        have hrf := fun W (hW : One w (.slice A1 m1 c1) (.slice A2 m2 c2) names up W) => rFind_any (name.extract 0 15) W hW.la
        have HED := Lib.hid hed
        have HFI := Lib.hid hfi
        have HRE := Lib.hid hre
        have HRF := Lib.hid hrf
        clear hed hfi hre hrf
        go_wp2_with (fail)
        refine HED.out.mono ?_
        rintro e wa ⟨xe, rfl, hes, hba⟩
        obtain ⟨E, d, rfl, hE, hd, hel⟩ := hes
        have ho1 := one_stable _ _ _ _ _ _ _ HONE.out hba
        have hc0 := ho1.a.cell 0
        have hc1 := ho1.a.cell 1
        have hf2 := HFI.out wa ho1
        have HES : Hid (IsEdges wa wa.heap.size (.slice E (Ordr.edges up).length d) (Ordr.edges up)) := ⟨E, d, rfl, hE, hd, hel⟩
        have HO1 := Lib.hid ho1
        clear ho1 hba hE HED HFI HONE
        cases hix : idxN names (name.extract 0 15) with
        | none =>
          rw [hix] at hf2
          simp only [Option.isSome_none, Option.getD_none, Bool.false_eq_true, if_false] at hf2
          have HIX := Lib.hid (idxI_none hix)
          have HF2 := Lib.hid hf2
          clear hf2 hix
          go_wp2_with (fail)
          refine HF2.out.mono ?_
          rintro e wb ⟨rfl, hbb⟩
          have ho2 := one_stable _ _ _ _ _ _ _ HO1.out hbb
          have hc0 := ho2.a.cell 0
          have hc1 := ho2.a.cell 1
          have HC2 := Lib.hid (HRC.out wb ho2)
          have HO2 := Lib.hid ho2
          have HES2 := Lib.hid (stable_edges _ _ _ _ HES.out hbb)
          clear ho2 hbb HF2 HO1 HRC HES
          go_wp2_with (fail)
          refine HC2.out.mono ?_
          rintro e wc ⟨rfl, hbc⟩
          have ho3 := one_stable _ _ _ _ _ _ _ HO2.out hbc
          have hc0 := ho3.a.cell 0
          have hc1 := ho3.a.cell 1
          have HE3 := Lib.hid (HRE.out wc ho3)
          have HO3 := Lib.hid ho3
          have HES3 := Lib.hid (stable_edges _ _ _ _ HES2.out hbc)
          clear ho3 hbc HC2 HO2 HES2 HRE
          go_wp2_with (fail)
          refine HE3.out.mono ?_
          rintro e wd ⟨xr, rfl, hxr, hbd⟩
          have ho4 := one_stable _ _ _ _ _ _ _ HO3.out hbd
          have hsm := rSameE_any wd (stable_edges _ _ _ _ HES3.out hbd) hxr
          rw [decide_eq_true (rfl : Ordr.edges up = Ordr.edges up)] at hsm
          have HSM := Lib.hid hsm
          have HO4 := Lib.hid ho4
          clear ho4 hsm hbd hxr HE3 HO3 HES3
          go_wp2_with (fail)
          refine HSM.out.mono ?_
          rintro e we ⟨rfl, nq, rfl⟩
          have ho5 := (one_stable _ _ _ _ _).drewN HO4.out nq
          have hc0 := ho5.a.cell 0
          have hc1 := ho5.a.cell 1
          have HO5 := Lib.hid ho5
          clear ho5 HSM
          go_wp2_with (fail)
          refine (alive2_any _).mono ?_
          rintro e wf ⟨rfl, hbf⟩
          have ho6 := one_stable _ _ _ _ _ _ _ HO5.out hbf
          have hc0 := ho6.a.cell 0
          have hc1 := ho6.a.cell 1
          have hrf := HRF.out wf ho6
          rw [HIX.out] at hrf
          have HF6 := Lib.hid hrf
          have HO6 := Lib.hid ho6
          clear ho6 hbf hrf HO5 HO4
          go_wp2_with (fail)
          refine HF6.out.mono ?_
          rintro e wg ⟨rfl, hbg⟩
          have ho7 := one_stable _ _ _ _ _ _ _ HO6.out hbg
          have hc0 := ho7.a.cell 0
          have hc1 := ho7.a.cell 1
          have hrf := HRF.out wg ho7
          rw [HIX.out] at hrf
          have HF7 := Lib.hid hrf
          have HO7 := Lib.hid ho7
          clear ho7 hbg hrf HO6 HF6
          go_wp2_with (fail)
          go_ret
          exact ⟨rfl, HO7.out.below⟩
        | some j =>
          rw [hix] at hf2
          simp only [Option.isSome_some, Option.getD_some, if_true] at hf2
          have HIX := Lib.hid (idxI_some hix)
          have HF2 := Lib.hid hf2
          clear hf2 hix
          go_wp2_with (fail)
          refine HF2.out.mono ?_
          rintro e wb ⟨rfl, hbb⟩
          have ho2 := one_stable _ _ _ _ _ _ _ HO1.out hbb
          have hc0 := ho2.a.cell 0
          have hc1 := ho2.a.cell 1
          have HC2 := Lib.hid (HRC.out wb ho2)
          have HO2 := Lib.hid ho2
          have HES2 := Lib.hid (stable_edges _ _ _ _ HES.out hbb)
          clear ho2 hbb HF2 HO1 HRC HES
          go_wp2_with (fail)
          refine HC2.out.mono ?_
          rintro e wc ⟨rfl, hbc⟩
          have ho3 := one_stable _ _ _ _ _ _ _ HO2.out hbc
          have hc0 := ho3.a.cell 0
          have hc1 := ho3.a.cell 1
          have HE3 := Lib.hid (HRE.out wc ho3)
          have HO3 := Lib.hid ho3
          have HES3 := Lib.hid (stable_edges _ _ _ _ HES2.out hbc)
          clear ho3 hbc HC2 HO2 HES2 HRE
          go_wp2_with (fail)
          refine HE3.out.mono ?_
          rintro e wd ⟨xr, rfl, hxr, hbd⟩
          have ho4 := one_stable _ _ _ _ _ _ _ HO3.out hbd
          have hsm := rSameE_any wd (stable_edges _ _ _ _ HES3.out hbd) hxr
          rw [decide_eq_true (rfl : Ordr.edges up = Ordr.edges up)] at hsm
          have HSM := Lib.hid hsm
          have HO4 := Lib.hid ho4
          clear ho4 hsm hbd hxr HE3 HO3 HES3
          go_wp2_with (fail)
          refine HSM.out.mono ?_
          rintro e we ⟨rfl, nq, rfl⟩
          have ho5 := (one_stable _ _ _ _ _).drewN HO4.out nq
          have hc0 := ho5.a.cell 0
          have hc1 := ho5.a.cell 1
          have HO5 := Lib.hid ho5
          clear ho5 HSM
          go_wp2_with (fail)
          refine (alive2_any _).mono ?_
          rintro e wf ⟨rfl, hbf⟩
          have ho6 := one_stable _ _ _ _ _ _ _ HO5.out hbf
          have hc0 := ho6.a.cell 0
          have hc1 := ho6.a.cell 1
          have hrf := HRF.out wf ho6
          rw [HIX.out] at hrf
          have HF6 := Lib.hid hrf
          have HO6 := Lib.hid ho6
          clear ho6 hbf hrf HO5 HO4
          go_wp2_with (fail)
          refine HF6.out.mono ?_
          rintro e wg ⟨rfl, hbg⟩
          have ho7 := one_stable _ _ _ _ _ _ _ HO6.out hbg
          have hc0 := ho7.a.cell 0
          have hc1 := ho7.a.cell 1
          have hrf := HRF.out wg ho7
          rw [HIX.out] at hrf
          have HF7 := Lib.hid hrf
          have HO7 := Lib.hid ho7
          clear ho7 hbg hrf HO6 HF6
          go_wp2_with (fail)
          refine HF7.out.mono ?_
          rintro e wh ⟨rfl, hbh⟩
          go_wp2
          go_ret
          exact ⟨rfl, (one_stable _ _ _ _ _ _ _ HO7.out hbh).below⟩
      · have hz1 : ((k : Int) == 0) = false := by rw [beq_eq_false_iff_ne]; omega
        have hz2 : ((k : Int) != 0) = true := by rw [bne_iff_ne]; omega
        simp only [if_neg hz] at hed hfi
        have HED := Lib.hid hed
        have HFI := Lib.hid hfi
        clear hed hfi hz
        go_wp2_with (fail)
        refine HED.out.mono ?_
        rintro e wa ⟨xe, rfl, hes, hba⟩
        obtain ⟨E, d, rfl, hE, hd, hel⟩ := hes
        have ho1 := one_stable _ _ _ _ _ _ _ HONE.out hba
        have hc0 := ho1.a.cell 0
        have hc1 := ho1.a.cell 1
        have HF2 := Lib.hid (HFI.out wa ho1)
        have HO1 := Lib.hid ho1
        clear ho1 hba hE HED HFI HONE
        go_wp2_with (fail)
        refine HF2.out.mono ?_
        rintro e wb ⟨rfl, hbb⟩
        have ho2 := one_stable _ _ _ _ _ _ _ HO1.out hbb
        have hc0 := ho2.a.cell 0
        have hc1 := ho2.a.cell 1
        have HC2 := Lib.hid (HRC.out wb ho2)
        have HO2 := Lib.hid ho2
        clear ho2 hbb HF2 HO1 HRC
        go_wp2_with (fail)
        refine HC2.out.mono ?_
        rintro e wc ⟨rfl, hbc⟩
        have ho3 := one_stable _ _ _ _ _ _ _ HO2.out hbc
        have HO3 := Lib.hid ho3
        clear ho3 hbc HC2 HO2
        go_wp2_with (go_at_call 10; refine (alive2_any _).mono ?_; rintro e wd ⟨rfl, hbd⟩)
        go_ret
        exact ⟨rfl, (one_stable _ _ _ _ _ _ _ HO3.out hbd).below⟩
  · have hp15 : ((15 : Int) < name.size) = False := eq_false hs15
    have hs16 : (name.size : Int) ≤ 15 := by omega
    have hex : name.extract 0 name.size = name := by simp
    clear hs15
    go_enter Try.func5, Try.ntmps5
    go_wp2
    refine Free.region_each (by kernel_rfl) (by kernel_rfl)
      (fun k => [some (.agg #[.slice A n1.length c, .slice A' u1.length c']), none, some (.string name), some (.string name), some (.int .i64 name.size), some (.int .i64 name.size), some (.string (name)), none, some (.string (name))].getD k none)
      (Box1 w (.slice A n1.length c) (.slice A' u1.length c') 1 7) (fun _ => undef) (Box1.start _) ?_ ?_
    · refine ⟨?_, ?_, ?_, ?_, ?_, ?_, ?_, ?_, ?_, trivial⟩
      · refine Free.step_val _ rfl rfl fun done r W ρ hρ hcst hfun hJ hV hC hd hdeps => ?_
        have e0 : ρ (.tmp 2) = .pointer (some ⟨w.heap.size, 0, none⟩) := by rw [hρ]; rfl
        have hold := hJ.old (Free.not_done hC 7 0 (by rfl) (by decide) hd)
        have c0 : W.cell? ⟨w.heap.size, 0, none⟩ = some (.slice A n1.length c) := by rw [hold.cell]; rfl
        have c1 : W.cell? ⟨w.heap.size, 1, none⟩ = some (.slice A' u1.length c') := by rw [hold.cell]; rfl
        clear hρ
        refine ⟨?_, hJ.pass (by decide)⟩
        go_simp
      · refine Free.step_any rfl rfl fun done r W ρ hρ hcst hfun hJ hV hC hd hdeps => ?_
        have e0 : ρ (.tmp 10) = .agg #[.slice A n1.length c, .slice A' u1.length c'] := by rw [hρ]; exact hV 0 _ (hdeps 0 (by decide)) rfl
        have hno := Free.not_done hC 7 1 (by rfl) (by decide) hd
        clear hρ
        go_simp
        exact (HFA.out W hJ.below).mono fun e w' ⟨v, _, _, he, hl, hb⟩ => ⟨v, he, hJ.call (by decide) hno hl hb⟩
      · refine Free.step_val _ rfl rfl fun done r W ρ hρ hcst hfun hJ hV hC hd hdeps => ?_
        have e0 : ρ (.tmp 1) = .string name := by rw [hρ]; rfl
        clear hρ
        refine ⟨?_, hJ.pass (by decide)⟩
        go_simp
      · refine Free.step_val _ rfl rfl fun done r W ρ hρ hcst hfun hJ hV hC hd hdeps => ?_
        have e0 : ρ (.tmp 1) = .string name := by rw [hρ]; rfl
        clear hρ
        refine ⟨?_, hJ.pass (by decide)⟩
        go_simp
      · refine Free.step_val _ rfl rfl fun done r W ρ hρ hcst hfun hJ hV hC hd hdeps => ?_
        have e0 : ρ (.tmp 13) = .string name := by rw [hρ]; exact hV 3 _ (hdeps 3 (by decide)) rfl
        clear hρ
        refine ⟨?_, hJ.pass (by decide)⟩
        go_simp
      · refine Free.step_val _ rfl rfl fun done r W ρ hρ hcst hfun hJ hV hC hd hdeps => ?_
        have e0 : ρ (.tmp 14) = .int .i64 name.size := by rw [hρ]; exact hV 4 _ (hdeps 4 (by decide)) rfl
        clear hρ
        refine ⟨?_, hJ.pass (by decide)⟩
        go_simp
      · refine Free.step_val _ rfl rfl fun done r W ρ hρ hcst hfun hJ hV hC hd hdeps => ?_
        have e0 : ρ (.tmp 12) = .string name := by rw [hρ]; exact hV 2 _ (hdeps 2 (by decide)) rfl
        have e1 : ρ (.tmp 15) = .int .i64 name.size := by rw [hρ]; exact hV 5 _ (hdeps 5 (by decide)) rfl
        clear hρ
        refine ⟨?_, hJ.pass (by decide)⟩
        go_simp
      · refine Free.step_any rfl rfl fun done r W ρ hρ hcst hfun hJ hV hC hd hdeps => ?_
        have e0 : ρ (.tmp 2) = .pointer (some ⟨w.heap.size, 0, none⟩) := by rw [hρ]; rfl
        have e1 : ρ (.tmp 11) = r 1 := by rw [hρ]; rfl
        have hold := hJ.old hd
        obtain ⟨y0, y1, y2, y3, y4, y5, hy⟩ := (hJ.ra (hdeps 1 (by decide))).two
        rw [hy] at e1
        have c0 : W.cell? ⟨w.heap.size, 0, none⟩ = some (.slice A n1.length c) := by rw [hold.cell]; rfl
        have c1 : W.cell? ⟨w.heap.size, 1, none⟩ = some (.slice A' u1.length c') := by rw [hold.cell]; rfl
        have f0 := hold.frozen 0
        have f1 := hold.frozen 1
        have hfin := hJ.set_ (by decide) (hdeps 1 (by decide)) hy hd
        clear hρ hy
        go_simp
        exact hfin
      · refine Free.step_val _ rfl rfl fun done r W ρ hρ hcst hfun hJ hV hC hd hdeps => ?_
        have e0 : ρ (.tmp 16) = .string (name) := by rw [hρ]; exact hV 6 _ (hdeps 6 (by decide)) rfl
        clear hρ
        refine ⟨?_, hJ.pass (by decide)⟩
        go_simp
    · intro done r W hall hJ hV
      obtain ⟨A1, m1, c1, A2, m2, c2, names, up, e1, hone⟩ := hJ.fin (hall 1 (by decide)) (hall 7 (by decide))
      have e0 := hV 0 _ (hall 0 (by decide)) rfl
      have e2 := hV 2 _ (hall 2 (by decide)) rfl
      have e3 := hV 3 _ (hall 3 (by decide)) rfl
      have e4 := hV 4 _ (hall 4 (by decide)) rfl
      have e5 := hV 5 _ (hall 5 (by decide)) rfl
      have e6 := hV 6 _ (hall 6 (by decide)) rfl
      have e8 := hV 8 _ (hall 8 (by decide)) rfl
      simp only [Free.putAll, Nat.zero_add, e0, e1, e2, e3, e4, e5, e6, e8]
      clear hJ hV hall e0 e1 e2 e3 e4 e5 e6 e8 HFA
      have hc0 := hone.a.cell 0
      have hc1 := hone.a.cell 1
      have hed := edges_any W hone.la
      have hrc := fun W (hW : One w (.slice A1 m1 c1) (.slice A2 m2 c2) names up W) => rCheck_any W hW.la
      obtain ⟨k, hk⟩ : ∃ k, checkN names up = k := ⟨_, rfl⟩
      have hfi := fun W (hW : One w (.slice A1 m1 c1) (.slice A2 m2 c2) names up W) => find_any (name) W hW.la
      have hfv : findN names up (name) = (if k = 0 then if (idxN names (name)).isSome then 0 else 9 else k) ∧ findV names up (name) = (if k = 0 then (idxN names (name)).getD 0 else 0) ∧ edgesR names up = if k = 0 then Ordr.edges up else [] := by subst hk; exact ⟨rfl, rfl, rfl⟩
      rw [hfv.1, hfv.2.1] at hfi
      rw [hk, hfv.2.2] at hed
      rw [← check_same, hk] at hrc
      have HCK := Lib.hid hk
      have HONE := Lib.hid hone
      have HRC := Lib.hid hrc
      clear hk hrc hone hfv
      by_cases hz : k = 0
      · subst hz
        simp only [if_true] at hed hfi
        have h8 := (len_of_checkN HCK.out).2
        have hre := fun W (hW : One w (.slice A1 m1 c1) (.slice A2 m2 c2) names up W) => rEdges_any W hW.la h8
        have hrf := fun W (hW : One w (.slice A1 m1 c1) (.slice A2 m2 c2) names up W) => rFind_any (name) W hW.la
        have HED := Lib.hid hed
        have HFI := Lib.hid hfi
        have HRE := Lib.hid hre
        have HRF := Lib.hid hrf
        clear hed hfi hre hrf
        go_wp2_with (fail)
        refine HED.out.mono ?_
        rintro e wa ⟨xe, rfl, hes, hba⟩
        obtain ⟨E, d, rfl, hE, hd, hel⟩ := hes
        have ho1 := one_stable _ _ _ _ _ _ _ HONE.out hba
        have hc0 := ho1.a.cell 0
        have hc1 := ho1.a.cell 1
        have hf2 := HFI.out wa ho1
        have HES : Hid (IsEdges wa wa.heap.size (.slice E (Ordr.edges up).length d) (Ordr.edges up)) := ⟨E, d, rfl, hE, hd, hel⟩
        have HO1 := Lib.hid ho1
        clear ho1 hba hE HED HFI HONE
        cases hix : idxN names (name) with
        | none =>
          rw [hix] at hf2
          simp only [Option.isSome_none, Option.getD_none, Bool.false_eq_true, if_false] at hf2
          have HIX := Lib.hid (idxI_none hix)
          have HF2 := Lib.hid hf2
          clear hf2 hix
          go_wp2_with (fail)
          refine HF2.out.mono ?_
          rintro e wb ⟨rfl, hbb⟩
          have ho2 := one_stable _ _ _ _ _ _ _ HO1.out hbb
          have hc0 := ho2.a.cell 0
          have hc1 := ho2.a.cell 1
          have HC2 := Lib.hid (HRC.out wb ho2)
          have HO2 := Lib.hid ho2
          have HES2 := Lib.hid (stable_edges _ _ _ _ HES.out hbb)
          clear ho2 hbb HF2 HO1 HRC HES
          go_wp2_with (fail)
          refine HC2.out.mono ?_
          rintro e wc ⟨rfl, hbc⟩
          have ho3 := one_stable _ _ _ _ _ _ _ HO2.out hbc
          have hc0 := ho3.a.cell 0
          have hc1 := ho3.a.cell 1
          have HE3 := Lib.hid (HRE.out wc ho3)
          have HO3 := Lib.hid ho3
          have HES3 := Lib.hid (stable_edges _ _ _ _ HES2.out hbc)
          clear ho3 hbc HC2 HO2 HES2 HRE
          go_wp2_with (fail)
          refine HE3.out.mono ?_
          rintro e wd ⟨xr, rfl, hxr, hbd⟩
          have ho4 := one_stable _ _ _ _ _ _ _ HO3.out hbd
          have hsm := rSameE_any wd (stable_edges _ _ _ _ HES3.out hbd) hxr
          rw [decide_eq_true (rfl : Ordr.edges up = Ordr.edges up)] at hsm
          have HSM := Lib.hid hsm
          have HO4 := Lib.hid ho4
          clear ho4 hsm hbd hxr HE3 HO3 HES3
          go_wp2_with (fail)
          refine HSM.out.mono ?_
          rintro e we ⟨rfl, nq, rfl⟩
          have ho5 := (one_stable _ _ _ _ _).drewN HO4.out nq
          have hc0 := ho5.a.cell 0
          have hc1 := ho5.a.cell 1
          have HO5 := Lib.hid ho5
          clear ho5 HSM
          go_wp2_with (fail)
          refine (alive2_any _).mono ?_
          rintro e wf ⟨rfl, hbf⟩
          have ho6 := one_stable _ _ _ _ _ _ _ HO5.out hbf
          have hc0 := ho6.a.cell 0
          have hc1 := ho6.a.cell 1
          have hrf := HRF.out wf ho6
          rw [HIX.out] at hrf
          have HF6 := Lib.hid hrf
          have HO6 := Lib.hid ho6
          clear ho6 hbf hrf HO5 HO4
          go_wp2_with (fail)
          refine HF6.out.mono ?_
          rintro e wg ⟨rfl, hbg⟩
          have ho7 := one_stable _ _ _ _ _ _ _ HO6.out hbg
          have hc0 := ho7.a.cell 0
          have hc1 := ho7.a.cell 1
          have hrf := HRF.out wg ho7
          rw [HIX.out] at hrf
          have HF7 := Lib.hid hrf
          have HO7 := Lib.hid ho7
          clear ho7 hbg hrf HO6 HF6
          go_wp2_with (fail)
          go_ret
          exact ⟨rfl, HO7.out.below⟩
        | some j =>
          rw [hix] at hf2
          simp only [Option.isSome_some, Option.getD_some, if_true] at hf2
          have HIX := Lib.hid (idxI_some hix)
          have HF2 := Lib.hid hf2
          clear hf2 hix
          go_wp2_with (fail)
          refine HF2.out.mono ?_
          rintro e wb ⟨rfl, hbb⟩
          have ho2 := one_stable _ _ _ _ _ _ _ HO1.out hbb
          have hc0 := ho2.a.cell 0
          have hc1 := ho2.a.cell 1
          have HC2 := Lib.hid (HRC.out wb ho2)
          have HO2 := Lib.hid ho2
          have HES2 := Lib.hid (stable_edges _ _ _ _ HES.out hbb)
          clear ho2 hbb HF2 HO1 HRC HES
          go_wp2_with (fail)
          refine HC2.out.mono ?_
          rintro e wc ⟨rfl, hbc⟩
          have ho3 := one_stable _ _ _ _ _ _ _ HO2.out hbc
          have hc0 := ho3.a.cell 0
          have hc1 := ho3.a.cell 1
          have HE3 := Lib.hid (HRE.out wc ho3)
          have HO3 := Lib.hid ho3
          have HES3 := Lib.hid (stable_edges _ _ _ _ HES2.out hbc)
          clear ho3 hbc HC2 HO2 HES2 HRE
          go_wp2_with (fail)
          refine HE3.out.mono ?_
          rintro e wd ⟨xr, rfl, hxr, hbd⟩
          have ho4 := one_stable _ _ _ _ _ _ _ HO3.out hbd
          have hsm := rSameE_any wd (stable_edges _ _ _ _ HES3.out hbd) hxr
          rw [decide_eq_true (rfl : Ordr.edges up = Ordr.edges up)] at hsm
          have HSM := Lib.hid hsm
          have HO4 := Lib.hid ho4
          clear ho4 hsm hbd hxr HE3 HO3 HES3
          go_wp2_with (fail)
          refine HSM.out.mono ?_
          rintro e we ⟨rfl, nq, rfl⟩
          have ho5 := (one_stable _ _ _ _ _).drewN HO4.out nq
          have hc0 := ho5.a.cell 0
          have hc1 := ho5.a.cell 1
          have HO5 := Lib.hid ho5
          clear ho5 HSM
          go_wp2_with (fail)
          refine (alive2_any _).mono ?_
          rintro e wf ⟨rfl, hbf⟩
          have ho6 := one_stable _ _ _ _ _ _ _ HO5.out hbf
          have hc0 := ho6.a.cell 0
          have hc1 := ho6.a.cell 1
          have hrf := HRF.out wf ho6
          rw [HIX.out] at hrf
          have HF6 := Lib.hid hrf
          have HO6 := Lib.hid ho6
          clear ho6 hbf hrf HO5 HO4
          go_wp2_with (fail)
          refine HF6.out.mono ?_
          rintro e wg ⟨rfl, hbg⟩
          have ho7 := one_stable _ _ _ _ _ _ _ HO6.out hbg
          have hc0 := ho7.a.cell 0
          have hc1 := ho7.a.cell 1
          have hrf := HRF.out wg ho7
          rw [HIX.out] at hrf
          have HF7 := Lib.hid hrf
          have HO7 := Lib.hid ho7
          clear ho7 hbg hrf HO6 HF6
          go_wp2_with (fail)
          refine HF7.out.mono ?_
          rintro e wh ⟨rfl, hbh⟩
          go_wp2
          go_ret
          exact ⟨rfl, (one_stable _ _ _ _ _ _ _ HO7.out hbh).below⟩
      · have hz1 : ((k : Int) == 0) = false := by rw [beq_eq_false_iff_ne]; omega
        have hz2 : ((k : Int) != 0) = true := by rw [bne_iff_ne]; omega
        simp only [if_neg hz] at hed hfi
        have HED := Lib.hid hed
        have HFI := Lib.hid hfi
        clear hed hfi hz
        go_wp2_with (fail)
        refine HED.out.mono ?_
        rintro e wa ⟨xe, rfl, hes, hba⟩
        obtain ⟨E, d, rfl, hE, hd, hel⟩ := hes
        have ho1 := one_stable _ _ _ _ _ _ _ HONE.out hba
        have hc0 := ho1.a.cell 0
        have hc1 := ho1.a.cell 1
        have HF2 := Lib.hid (HFI.out wa ho1)
        have HO1 := Lib.hid ho1
        clear ho1 hba hE HED HFI HONE
        go_wp2_with (fail)
        refine HF2.out.mono ?_
        rintro e wb ⟨rfl, hbb⟩
        have ho2 := one_stable _ _ _ _ _ _ _ HO1.out hbb
        have hc0 := ho2.a.cell 0
        have hc1 := ho2.a.cell 1
        have HC2 := Lib.hid (HRC.out wb ho2)
        have HO2 := Lib.hid ho2
        clear ho2 hbb HF2 HO1 HRC
        go_wp2_with (fail)
        refine HC2.out.mono ?_
        rintro e wc ⟨rfl, hbc⟩
        have ho3 := one_stable _ _ _ _ _ _ _ HO2.out hbc
        have HO3 := Lib.hid ho3
        clear ho3 hbc HC2 HO2
        go_wp2_with (go_at_call 10; refine (alive2_any _).mono ?_; rintro e wd ⟨rfl, hbd⟩)
        go_ret
        exact ⟨rfl, (one_stable _ _ _ _ _ _ _ HO3.out hbd).below⟩
end Go.Proofs.Ytaingkjleelbfaa
