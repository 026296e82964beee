/- Walk of the law LatticeTells. -/
import Derived.Test.YtgplnlpbpcpacaaLawKit
import Derived.Lib.QuietBelow
namespace Go.Proofs.Ytgplnlpbpcpacaa
open Go.RowKit Go.Sort

theorem Law.grown {w : World} {x0 x1 : Value} {names : List ByteArray} {up : List Nat} {W : World} (h : Law w x0 x1 names up W) (d : Nat) (os : Array Obj) : Law w x0 x1 names up (grow (redrawn W d) os) := (h.next (below_regrown W d os)).1

set_option maxHeartbeats 8000000 in
theorem tells_any {A A' : Option Addr} {names : List ByteArray} {up : List Nat} (c c' : Nat) (a b : Int) (w : World) (hN : Row w w.heap.size A (strs names)) (hU : Ups w w.heap.size A' up) (hc : names.length ≤ c) (hc' : up.length ≤ c') (hm : c ≤ maxLen) (hm' : c' ≤ maxLen) (hs : ∀ s ∈ names, s.size ≤ maxLen) :
    Calls Try.prog 4 #[.agg #[.slice A names.length c, .slice A' up.length c'], .int .i64 a, .int .i64 b] w fun e w' => e = .returned (.bool true) ∧ Below w.heap.size w w' := by
  have hb0 : Below w.heap.size w (w.alloc (.cells #[.slice A names.length c, .slice A' up.length c'] 25)) := (Below.refl _ w).alloc (Nat.le_refl _) _
  have hfew := few_any w.heap.size c c' (w.alloc (.cells #[.slice A names.length c, .slice A' up.length c'] 25)) (by simp) (hN.below hb0) (hU.below hb0) hc hc' hm hm' hs
  have p0 : Blk (w.alloc (.cells #[.slice A names.length c, .slice A' up.length c'] 25)) w.heap.size 25 #[.slice A names.length c, .slice A' up.length c'] := Blk.new _ _ _
  have HFEW := Lib.hid hfew
  have HP0 := Lib.hid p0
  clear hfew p0 hb0 hN hU hs
  go_enter Try.func4, Try.ntmps4
  go_wp2_with (go_at_call 6; refine HFEW.out.mono ?_)
  rintro e w1 ⟨v, names', up', rfl, hlat, hb1⟩
  rw [World.size_alloc] at hlat hb1
  obtain ⟨x0, x1, rfl, ⟨A0, n0, c0, rfl⟩, ⟨A1, n1, c1, rfl⟩⟩ := lat_agg (hlat w1 ⟨Nat.le_refl _, fun _ _ _ => rfl⟩)
  have hp1 := HP0.out.below hb1 (Nat.lt_succ_self _)
  have hc00 : w1.cell? ⟨w.heap.size, 0, none⟩ = some (.slice A names.length c) := by rw [hp1.cell]; rfl
  have hc01 : w1.cell? ⟨w.heap.size, 1, none⟩ = some (.slice A' up.length c') := by rw [hp1.cell]; rfl
  have hf00 := hp1.frozen 0
  have hf01 := hp1.frozen 1
  have HLAW := Lib.hid (law_start hlat hb1)
  clear hlat hb1 hp1 HFEW HP0
  go_wp2_with (fail)
  have hlaw := HLAW.out
  obtain ⟨W2, hW2⟩ : ∃ W2 : World, ((w1.setCell ⟨w.heap.size, 0, none⟩ (.slice A0 n0 c0)).setCell ⟨w.heap.size, 1, none⟩ (.slice A1 n1 c1)) = W2 := ⟨_, rfl⟩
  rw [hW2] at hlaw ⊢
  have hk0 := hlaw.1.c0
  have hk1 := hlaw.1.c1
  clear hW2 HLAW hc00 hc01 hf00 hf01
  obtain ⟨n, hn⟩ : ∃ n, checkN names' up' = n := ⟨_, rfl⟩
  have HN := Lib.hid hn
  have hrc := fun (W : World) (hW : Law w (.slice A0 n0 c0) (.slice A1 n1 c1) names' up' W) => rCheck_any W hW.2
  have hfl := fun (W : World) (hW : Law w (.slice A0 n0 c0) (.slice A1 n1 c1) names' up' W) => hW.call (Flows_any a b W hW.2)
  have hjo := fun (W : World) (hW : Law w (.slice A0 n0 c0) (.slice A1 n1 c1) names' up' W) => hW.call (Join_any a b W hW.2)
  have hme := fun (W : World) (hW : Law w (.slice A0 n0 c0) (.slice A1 n1 c1) names' up' W) => hW.call (Meet_any a b W hW.2)
  have hhe := fun (W : World) (hW : Law w (.slice A0 n0 c0) (.slice A1 n1 c1) names' up' W) => hW.call (Height_any a W hW.2)
  have hta := fun (W : World) (hW : Law w (.slice A0 n0 c0) (.slice A1 n1 c1) names' up' W) => hW.call (there_any a W hW.2)
  have htb := fun (W : World) (hW : Law w (.slice A0 n0 c0) (.slice A1 n1 c1) names' up' W) => hW.call (there_any b W hW.2)
  have hal := fun (W : World) (hW : Law w (.slice A0 n0 c0) (.slice A1 n1 c1) names' up' W) => hW.call (alive_any W)
  rw [← check_same, hn] at hrc
  have HAL := Lib.hid hal
  have eL : labN names' up' a b = if n = 0 then if isLab up' a && isLab up' b then 0 else 9 else n := by unfold labN; rw [hn]
  have eO : labN names' up' a a = if n = 0 then if isLab up' a && isLab up' a then 0 else 9 else n := by unfold labN; rw [hn]
  clear hal hn
  by_cases hz : n = 0
  · subst hz
    rw [if_pos rfl] at eL eO
    have HLT := Lib.hid (latt_of HN.out)
    cases la : isLab up' a
    · rw [la] at eL eO hta
      simp only [Bool.false_and, Bool.and_self, Bool.false_eq_true, if_false] at eL eO
      have e1 : flowsR names' up' a b = false := by unfold flowsR; rw [eL, if_neg (by decide)]
      have e2 : joinR names' up' a b = 0 := by unfold joinR; rw [eL, if_neg (by decide)]
      have e3 : meetR names' up' a b = 0 := by unfold meetR; rw [eL, if_neg (by decide)]
      have e4 : heightR names' up' a = 0 := by unfold heightR; rw [eO, if_neg (by decide)]
      rw [e1, eL] at hfl
      rw [e2, eL] at hjo
      rw [e3, eL] at hme
      rw [e4, eO] at hhe
      have HTA := Lib.hid hta
      clear e1 e2 e3 e4 eL eO hta htb la
      have HRC := Lib.hid hrc
      have HFL := Lib.hid hfl
      have HJO := Lib.hid hjo
      have HME := Lib.hid hme
      have HHE := Lib.hid hhe
      clear hrc hfl hjo hme hhe
      go_wp2_with (first
        | (go_at_call 14; refine (HFL.out _ (by assumption)).mono ?_; rintro e w' ⟨rfl, hlaw', hq0, hq1⟩)
        | (go_at_call 15; refine (HJO.out _ (by assumption)).mono ?_; rintro e w' ⟨rfl, hlaw', hq0, hq1⟩)
        | (go_at_call 16; refine (HME.out _ (by assumption)).mono ?_; rintro e w' ⟨rfl, hlaw', hq0, hq1⟩)
        | (go_at_call 17; refine (HHE.out _ (by assumption)).mono ?_; rintro e w' ⟨rfl, hlaw', hq0, hq1⟩))
      have hlawR := show Law w (.slice A0 n0 c0) (.slice A1 n1 c1) names' up' _ by assumption
      have hg0 := fun d os => cell_regrown hlawR.1.c0 d os
      have hg1 := fun d os => cell_regrown hlawR.1.c1 d os
      refine wp_region_quiet_below (by kernel_rfl) (by kernel_rfl) ?_
      repeat (quiet_step ((go_at_call 7; exact Calls.regrown_of (HRC.out _ (hlawR.grown _ _)))))
      refine wpQuiet_nil ?_
      rintro _ ⟨⟨d, os⟩, rfl⟩
      have hlaw3 := hlawR.grown d os
      have hr0 := hlaw3.1.c0
      have hr1 := hlaw3.1.c1
      clear hg0 hg1
      go_wp2_with (first
        | (go_at_call 11; refine (HAL.out _ (by assumption)).mono ?_; rintro e w' ⟨rfl, hlaw', hq0, hq1⟩)
        | (go_at_call 18; refine (HTA.out _ (by assumption)).mono ?_; rintro e w' ⟨rfl, hlaw', hq0, hq1⟩))
      go_ret
      exact ⟨rfl, (show Law w (.slice A0 n0 c0) (.slice A1 n1 c1) names' up' _ by assumption).1.2⟩
    · obtain ⟨a, rfl, hal⟩ : ∃ a' : Nat, a = a' ∧ a' < up'.length := by
        unfold isLab at la
        simp only [decide_eq_true_eq] at la
        exact ⟨a.toNat, by omega, by omega⟩
      rw [la] at eL eO hta
      simp only [Bool.true_and, Bool.and_self, if_true] at eL eO
      have e4 : heightR names' up' a = Lat.htS up' a := by unfold heightR; rw [eO, if_pos rfl]; rfl
      have hrh := fun (W : World) (hW : Law w (.slice A0 n0 c0) (.slice A1 n1 c1) names' up' W) => hW.call (rHeight_any (by have := HLT.out.few; omega) HLT.out.ord (up'.length + 1) a W hW.2 hal (by have := Lat.belowN_le up' a; omega) (by have := HLT.out.few; omega))
      have eh : Lat.ht up' (up'.length + 1) a = Lat.htS up' a := rfl
      rw [eh] at hrh
      rw [e4, eO] at hhe
      obtain ⟨ha, hha⟩ : ∃ ha, Lat.htS up' a = ha := ⟨_, rfl⟩
      rw [hha] at hrh hhe
      have HRH := Lib.hid hrh
      have HTA := Lib.hid hta
      clear hrh hta eh hha e4 eO
      cases lb : isLab up' b
      · rw [lb] at eL htb
        simp only [Bool.false_eq_true, if_false] at eL
        have e1 : flowsR names' up' a b = false := by unfold flowsR; rw [eL, if_neg (by decide)]
        have e2 : joinR names' up' a b = 0 := by unfold joinR; rw [eL, if_neg (by decide)]
        have e3 : meetR names' up' a b = 0 := by unfold meetR; rw [eL, if_neg (by decide)]
        rw [e1, eL] at hfl
        rw [e2, eL] at hjo
        rw [e3, eL] at hme
        have HTB := Lib.hid htb
        clear e1 e2 e3 eL htb la lb
        have HRC := Lib.hid hrc
        have HFL := Lib.hid hfl
        have HJO := Lib.hid hjo
        have HME := Lib.hid hme
        have HHE := Lib.hid hhe
        clear hrc hfl hjo hme hhe
        go_wp2_with (first
          | (go_at_call 14; refine (HFL.out _ (by assumption)).mono ?_; rintro e w' ⟨rfl, hlaw', hq0, hq1⟩)
          | (go_at_call 15; refine (HJO.out _ (by assumption)).mono ?_; rintro e w' ⟨rfl, hlaw', hq0, hq1⟩)
          | (go_at_call 16; refine (HME.out _ (by assumption)).mono ?_; rintro e w' ⟨rfl, hlaw', hq0, hq1⟩)
          | (go_at_call 17; refine (HHE.out _ (by assumption)).mono ?_; rintro e w' ⟨rfl, hlaw', hq0, hq1⟩))
        have hlawR := show Law w (.slice A0 n0 c0) (.slice A1 n1 c1) names' up' _ by assumption
        have hg0 := fun d os => cell_regrown hlawR.1.c0 d os
        have hg1 := fun d os => cell_regrown hlawR.1.c1 d os
        refine wp_region_quiet_below (by kernel_rfl) (by kernel_rfl) ?_
        repeat (quiet_step ((go_at_call 7; exact Calls.regrown_of (HRC.out _ (hlawR.grown _ _)))))
        refine wpQuiet_nil ?_
        rintro _ ⟨⟨d, os⟩, rfl⟩
        have hlaw3 := hlawR.grown d os
        have hr0 := hlaw3.1.c0
        have hr1 := hlaw3.1.c1
        clear hg0 hg1
        go_wp2_with (first
          | (go_at_call 18; (first | (with_reducible refine (HTA.out _ (by assumption)).mono ?_) | (with_reducible refine (HTB.out _ (by assumption)).mono ?_)); rintro e w' ⟨rfl, hlaw', hq0, hq1⟩)
          | (go_at_call 11; refine (HAL.out _ (by assumption)).mono ?_; rintro e w' ⟨rfl, hlaw', hq0, hq1⟩)
          | (go_at_call 19; refine (HRH.out _ (by assumption)).mono ?_; rintro e w' ⟨rfl, hlaw', hq0, hq1⟩))
        go_ret
        exact ⟨rfl, (show Law w (.slice A0 n0 c0) (.slice A1 n1 c1) names' up' _ by assumption).1.2⟩
      · obtain ⟨b, rfl, hbl⟩ : ∃ b' : Nat, b = b' ∧ b' < up'.length := by
          unfold isLab at lb
          simp only [decide_eq_true_eq] at lb
          exact ⟨b.toNat, by omega, by omega⟩
        rw [lb] at eL htb
        simp only [if_true] at eL
        have e1 : flowsR names' up' a b = Lat.fl up' a b := by unfold flowsR; rw [eL, if_pos rfl]; rfl
        have e2 : joinR names' up' a b = Lat.leastN up' (Lat.joinS up' a b) := by unfold joinR; rw [eL, if_pos rfl]; rfl
        have e3 : meetR names' up' a b = Lat.leastN (Lat.turned up') (Lat.joinS (Lat.turned up') a b) := by unfold meetR; rw [eL, if_pos rfl]; rfl
        rw [e1, eL] at hfl
        rw [e2, eL] at hjo
        rw [e3, eL] at hme
        have hrf := fun (W : World) (hW : Law w (.slice A0 n0 c0) (.slice A1 n1 c1) names' up' W) => hW.call (rFlows_any a b W hW.2 hal (by have := HLT.out.few; omega))
        have hrj := fun (W : World) (hW : Law w (.slice A0 n0 c0) (.slice A1 n1 c1) names' up' W) => hW.call (rJoin_any a b W hW.2 hal hbl)
        have hrm := fun (W : World) (hW : Law w (.slice A0 n0 c0) (.slice A1 n1 c1) names' up' W) => hW.call (rMeet_any a b W hW.2 hal hbl)
        rw [HLT.out.rJoin_eq hal hbl] at hrj
        rw [HLT.out.rMeet_eq hal hbl] at hrm
        obtain ⟨x, hx⟩ : ∃ x, Lat.fl up' a b = x := ⟨_, rfl⟩
        obtain ⟨y, hy⟩ : ∃ y, Lat.leastN up' (Lat.joinS up' a b) = y := ⟨_, rfl⟩
        obtain ⟨z, hzz⟩ : ∃ z, Lat.leastN (Lat.turned up') (Lat.joinS (Lat.turned up') a b) = z := ⟨_, rfl⟩
        rw [hx] at hfl hrf
        rw [hy] at hjo hrj
        rw [hzz] at hme hrm
        have HTB := Lib.hid htb
        have HRF := Lib.hid hrf
        have HRJ := Lib.hid hrj
        have HRM := Lib.hid hrm
        clear e1 e2 e3 eL htb la lb hrf hrj hrm hx hy hzz
        have HRC := Lib.hid hrc
        have HFL := Lib.hid hfl
        have HJO := Lib.hid hjo
        have HME := Lib.hid hme
        have HHE := Lib.hid hhe
        clear hrc hfl hjo hme hhe
        go_wp2_with (first
          | (go_at_call 14; refine (HFL.out _ (by assumption)).mono ?_; rintro e w' ⟨rfl, hlaw', hq0, hq1⟩)
          | (go_at_call 15; refine (HJO.out _ (by assumption)).mono ?_; rintro e w' ⟨rfl, hlaw', hq0, hq1⟩)
          | (go_at_call 16; refine (HME.out _ (by assumption)).mono ?_; rintro e w' ⟨rfl, hlaw', hq0, hq1⟩)
          | (go_at_call 17; refine (HHE.out _ (by assumption)).mono ?_; rintro e w' ⟨rfl, hlaw', hq0, hq1⟩))
        have hlawR := show Law w (.slice A0 n0 c0) (.slice A1 n1 c1) names' up' _ by assumption
        have hg0 := fun d os => cell_regrown hlawR.1.c0 d os
        have hg1 := fun d os => cell_regrown hlawR.1.c1 d os
        refine wp_region_quiet_below (by kernel_rfl) (by kernel_rfl) ?_
        repeat (quiet_step ((go_at_call 7; exact Calls.regrown_of (HRC.out _ (hlawR.grown _ _)))))
        refine wpQuiet_nil ?_
        rintro _ ⟨⟨d, os⟩, rfl⟩
        have hlaw3 := hlawR.grown d os
        have hr0 := hlaw3.1.c0
        have hr1 := hlaw3.1.c1
        clear hg0 hg1
        go_wp2_with (first
          | (go_at_call 18; (first | (with_reducible refine (HTA.out _ (by assumption)).mono ?_) | (with_reducible refine (HTB.out _ (by assumption)).mono ?_)); rintro e w' ⟨rfl, hlaw', hq0, hq1⟩)
          | (go_at_call 11; refine (HAL.out _ (by assumption)).mono ?_; rintro e w' ⟨rfl, hlaw', hq0, hq1⟩)
          | (go_at_call 19; refine (HRH.out _ (by assumption)).mono ?_; rintro e w' ⟨rfl, hlaw', hq0, hq1⟩)
          | (go_at_call 20; refine (HRF.out _ (by assumption)).mono ?_; rintro e w' ⟨rfl, hlaw', hq0, hq1⟩)
          | (go_at_call 21; refine (HRJ.out _ (by assumption)).mono ?_; rintro e w' ⟨rfl, hlaw', hq0, hq1⟩)
          | (go_at_call 22; refine (HRM.out _ (by assumption)).mono ?_; rintro e w' ⟨rfl, hlaw', hq0, hq1⟩))
        go_ret
        exact ⟨rfl, (show Law w (.slice A0 n0 c0) (.slice A1 n1 c1) names' up' _ by assumption).1.2⟩
  · rw [if_neg hz] at eL eO
    have e1 : flowsR names' up' a b = false := by unfold flowsR; rw [eL, if_neg hz]
    have e2 : joinR names' up' a b = 0 := by unfold joinR; rw [eL, if_neg hz]
    have e3 : meetR names' up' a b = 0 := by unfold meetR; rw [eL, if_neg hz]
    have e4 : heightR names' up' a = 0 := by unfold heightR; rw [eO, if_neg hz]
    rw [e1, eL] at hfl
    rw [e2, eL] at hjo
    rw [e3, eL] at hme
    rw [e4, eO] at hhe
    have hz1 : ((n : Int) == 0) = false := by rw [beq_eq_false_iff_ne]; omega
    have hz2 : ((n : Int) != 0) = true := by rw [bne_iff_ne]; omega
    clear e1 e2 e3 e4 eL eO hta htb
    have HRC := Lib.hid hrc
    have HFL := Lib.hid hfl
    have HJO := Lib.hid hjo
    have HME := Lib.hid hme
    have HHE := Lib.hid hhe
    clear hrc hfl hjo hme hhe
    go_wp2_with (first
      | (go_at_call 14; refine (HFL.out _ (by assumption)).mono ?_; rintro e w' ⟨rfl, hlaw', hq0, hq1⟩)
      | (go_at_call 15; refine (HJO.out _ (by assumption)).mono ?_; rintro e w' ⟨rfl, hlaw', hq0, hq1⟩)
      | (go_at_call 16; refine (HME.out _ (by assumption)).mono ?_; rintro e w' ⟨rfl, hlaw', hq0, hq1⟩)
      | (go_at_call 17; refine (HHE.out _ (by assumption)).mono ?_; rintro e w' ⟨rfl, hlaw', hq0, hq1⟩))
    have hlawR := show Law w (.slice A0 n0 c0) (.slice A1 n1 c1) names' up' _ by assumption
    have hg0 := fun d os => cell_regrown hlawR.1.c0 d os
    have hg1 := fun d os => cell_regrown hlawR.1.c1 d os
    refine wp_region_quiet_below (by kernel_rfl) (by kernel_rfl) ?_
    repeat (quiet_step ((go_at_call 7; exact Calls.regrown_of (HRC.out _ (hlawR.grown _ _)))))
    refine wpQuiet_nil ?_
    rintro _ ⟨⟨d, os⟩, rfl⟩
    have hlaw3 := hlawR.grown d os
    have hr0 := hlaw3.1.c0
    have hr1 := hlaw3.1.c1
    clear hg0 hg1
    go_wp2_with (first
      | (go_at_call 11; refine (HAL.out _ (by assumption)).mono ?_; rintro e w' ⟨rfl, hlaw', hq0, hq1⟩))
    go_ret
    exact ⟨rfl, (show Law w (.slice A0 n0 c0) (.slice A1 n1 c1) names' up' _ by assumption).1.2⟩
end Go.Proofs.Ytgplnlpbpcpacaa
