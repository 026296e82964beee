/- Walk of the law LatticeChecks. -/
import Derived.Test.YtgplnlpbpcpacaaLawKit
namespace Go.Proofs.Ytgplnlpbpcpacaa
open Go.RowKit

set_option maxHeartbeats 4000000 in
theorem checks_any {A A' : Option Addr} {names : List ByteArray} {up : List Nat} (c c' : Nat) (w : World) (hN : Row w w.heap.size A (strs names)) (hU : Ups w w.heap.size A' up) (hc : names.length ≤ c) (hc' : up.length ≤ c') (hm : c ≤ maxLen) (hm' : c' ≤ maxLen) (hs : ∀ s ∈ names, s.size ≤ maxLen) :
    Calls Try.prog 3 #[.agg #[.slice A names.length c, .slice A' up.length c']] w fun e w' => e = .returned (.bool true) ∧ Below w.heap.size w w' := by
  have hb0 : Below w.heap.size w (w.alloc (.cells #[.slice A names.length c, .slice A' up.length c'] 25)) := (Below.refl _ w).alloc (Nat.le_refl _) _
  have hfew := few_any w.heap.size c c' (w.alloc (.cells #[.slice A names.length c, .slice A' up.length c'] 25)) (by simp) (hN.below hb0) (hU.below hb0) hc hc' hm hm' hs
  have p0 : Blk (w.alloc (.cells #[.slice A names.length c, .slice A' up.length c'] 25)) w.heap.size 25 #[.slice A names.length c, .slice A' up.length c'] := Blk.new _ _ _
  have HFEW := Lib.hid hfew
  have HP0 := Lib.hid p0
  clear hfew p0 hb0 hN hU hs
  go_enter Try.func3, Try.ntmps3
  go_wp2_with (go_at_call 6; refine HFEW.out.mono ?_)
  rintro e w1 ⟨v, names', up', rfl, hlat, hb1⟩
  rw [World.size_alloc] at hlat hb1
  obtain ⟨x0, x1, rfl, ⟨A0, n0, c0, rfl⟩, ⟨A1, n1, c1, rfl⟩⟩ := lat_agg (hlat w1 ⟨Nat.le_refl _, fun _ _ _ => rfl⟩)
  have hp1 := HP0.out.below hb1 (Nat.lt_succ_self _)
  have hc00 : w1.cell? ⟨w.heap.size, 0, none⟩ = some (.slice A names.length c) := by rw [hp1.cell]; rfl
  have hc01 : w1.cell? ⟨w.heap.size, 1, none⟩ = some (.slice A' up.length c') := by rw [hp1.cell]; rfl
  have hf00 := hp1.frozen 0
  have hf01 := hp1.frozen 1
  have HLAW := Lib.hid (law_start hlat hb1)
  clear hlat hb1 hp1 HFEW HP0
  go_wp2_with (fail)
  have hlaw := HLAW.out
  obtain ⟨W2, hW2⟩ : ∃ W2 : World, ((w1.setCell ⟨w.heap.size, 0, none⟩ (.slice A0 n0 c0)).setCell ⟨w.heap.size, 1, none⟩ (.slice A1 n1 c1)) = W2 := ⟨_, rfl⟩
  rw [hW2] at hlaw ⊢
  have hk0 := hlaw.1.c0
  have hk1 := hlaw.1.c1
  clear hW2 HLAW hc00 hc01 hf00 hf01
  obtain ⟨n, hn⟩ : ∃ n, checkN names' up' = n := ⟨_, rfl⟩
  have HN := Lib.hid hn
  have hrc := fun W (hW : Law w (.slice A0 n0 c0) (.slice A1 n1 c1) names' up' W) => hW.call (rCheck_any W hW.2)
  have hch := fun W (hW : Law w (.slice A0 n0 c0) (.slice A1 n1 c1) names' up' W) => hW.call (check_any W hW.2)
  have hbo := fun W (hW : Law w (.slice A0 n0 c0) (.slice A1 n1 c1) names' up' W) => hW.call (Bottom_any W hW.2)
  have hto := fun W (hW : Law w (.slice A0 n0 c0) (.slice A1 n1 c1) names' up' W) => hW.call (Top_any W hW.2)
  have hal := fun W (hW : Law w (.slice A0 n0 c0) (.slice A1 n1 c1) names' up' W) => hW.call (alive_any W)
  rw [← check_same, hn] at hrc
  rw [hn] at hch hbo hto
  have HRC := Lib.hid hrc
  have HCH := Lib.hid hch
  have HAL := Lib.hid hal
  clear hrc hch hal hn
  by_cases hz : n = 0
  · subst hz
    have hl := latt_of HN.out
    have eb : bottomR names' up' = rBotTo up' up'.length := by unfold bottomR; rw [if_pos HN.out, hl.bottom]
    have et : topR names' up' = rTopTo up' up'.length := by unfold topR; rw [if_pos HN.out, hl.top]
    have hrb := fun W (hW : Law w (.slice A0 n0 c0) (.slice A1 n1 c1) names' up' W) => hW.call (rBottom_any W hW.2 hl.one (fun a b ha hb => hl.meet ha hb))
    have hrt := fun W (hW : Law w (.slice A0 n0 c0) (.slice A1 n1 c1) names' up' W) => hW.call (rTop_any W hW.2 hl.one (fun a b ha hb => hl.join ha hb))
    rw [← eb] at hrb
    rw [← et] at hrt
    obtain ⟨b, hb⟩ : ∃ b, bottomR names' up' = b := ⟨_, rfl⟩
    obtain ⟨t, ht⟩ : ∃ t, topR names' up' = t := ⟨_, rfl⟩
    rw [hb] at hrb hbo
    rw [ht] at hrt hto
    have HRB := Lib.hid hrb
    have HRT := Lib.hid hrt
    have HBO := Lib.hid hbo
    have HTO := Lib.hid hto
    clear hrb hrt hbo hto hb ht eb et hl
    go_wp2_with (first
      | (go_at_call 7; refine (HRC.out _ (by assumption)).mono ?_; rintro e w' ⟨rfl, hlaw', hq0, hq1⟩)
      | (go_at_call 8; refine (HBO.out _ (by assumption)).mono ?_; rintro e w' ⟨rfl, hlaw', hq0, hq1⟩)
      | (go_at_call 9; refine (HTO.out _ (by assumption)).mono ?_; rintro e w' ⟨rfl, hlaw', hq0, hq1⟩)
      | (go_at_call 10; refine (HCH.out _ (by assumption)).mono ?_; rintro e w' ⟨rfl, hlaw', hq0, hq1⟩)
      | (go_at_call 11; refine (HAL.out _ (by assumption)).mono ?_; rintro e w' ⟨rfl, hlaw', hq0, hq1⟩)
      | (go_at_call 12; refine (HRB.out _ (by assumption)).mono ?_; rintro e w' ⟨rfl, hlaw', hq0, hq1⟩)
      | (go_at_call 13; refine (HRT.out _ (by assumption)).mono ?_; rintro e w' ⟨rfl, hlaw', hq0, hq1⟩))
    go_ret
    exact ⟨rfl, (show Law w (.slice A0 n0 c0) (.slice A1 n1 c1) names' up' _ by assumption).1.2⟩
  · have eb : bottomR names' up' = 0 := by unfold bottomR; rw [HN.out, if_neg hz]
    have et : topR names' up' = 0 := by unfold topR; rw [HN.out, if_neg hz]
    rw [eb] at hbo
    rw [et] at hto
    have HBO := Lib.hid hbo
    have HTO := Lib.hid hto
    have hz1 : ((n : Int) == 0) = false := by rw [beq_eq_false_iff_ne]; omega
    have hz2 : ((n : Int) != 0) = true := by rw [bne_iff_ne]; omega
    clear hbo hto eb et
    go_wp2_with (first
      | (go_at_call 7; refine (HRC.out _ (by assumption)).mono ?_; rintro e w' ⟨rfl, hlaw', hq0, hq1⟩)
      | (go_at_call 8; refine (HBO.out _ (by assumption)).mono ?_; rintro e w' ⟨rfl, hlaw', hq0, hq1⟩)
      | (go_at_call 9; refine (HTO.out _ (by assumption)).mono ?_; rintro e w' ⟨rfl, hlaw', hq0, hq1⟩)
      | (go_at_call 10; refine (HCH.out _ (by assumption)).mono ?_; rintro e w' ⟨rfl, hlaw', hq0, hq1⟩)
      | (go_at_call 11; refine (HAL.out _ (by assumption)).mono ?_; rintro e w' ⟨rfl, hlaw', hq0, hq1⟩))
    go_ret
    exact ⟨rfl, (show Law w (.slice A0 n0 c0) (.slice A1 n1 c1) names' up' _ by assumption).1.2⟩
end Go.Proofs.Ytgplnlpbpcpacaa
