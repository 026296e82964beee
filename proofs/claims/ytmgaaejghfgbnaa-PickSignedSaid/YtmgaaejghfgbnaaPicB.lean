/- Package pick: Least, isMost, number, choiceOf, Unsigned. -/
import Derived.Test.YtmgaaejghfgbnaaPicA
namespace Go.Proofs.Ytmgaaejghfgbnaa
set_option maxRecDepth 100000
open Go.RowKit Go.Shelf
attribute [local go_sem] Oper.semAt_some

/-- A number and an error. -/
def TellsP (w : World) (r : Int × Nat) (e : Ending) (w' : World) : Prop := e = .returned (.tuple #[.int .i64 r.1, .int .i64 (r.2 : Int)]) ∧ Below w.heap.size w w'
theorem ints_take14 (l : List Int) (k : Nat) : (ints l).take k = ints (l.take k) := by simp [ints, List.map_take]
set_option maxHeartbeats 2000000 in
theorem pLeast14_any {A : Option Addr} {l : List Int} (n c : Nat) (i : Int) (w : World) (h : Row w w.heap.size A (ints l)) (hn : l.length = n) (hn9 : n ≤ 1000000) (hc : n ≤ c) :
    Calls Try.prog 8 #[.slice A n c, .int .i64 i] w (TellsP w (Pk.least l i)) := by
  unfold TellsP
  have hmb := mayBe14_any (A := A) n c w h hn hn9
  obtain ⟨res, hres⟩ : ∃ res, Pk.least l i = res := ⟨_, rfl⟩
  rw [hres]
  unfold Pk.least at hres
  by_cases hr : Pk.right l = true
  · obtain ⟨hg, h1, h20, hs0⟩ := Pk.right_good hr
    rw [hr] at hmb
    rw [if_pos hr] at hres
    have HMB := Lib.hid hmb
    clear hmb hs0
    by_cases hi : 0 ≤ i ∧ i < n
    · obtain ⟨k, rfl⟩ : ∃ k : Nat, i = (k : Int) := ⟨i.toNat, by omega⟩
      have hlt : k < l.length := by omega
      have hkn : k < n := by omega
      have hkc : k ≤ c := by omega
      have hx : l[k]? = some (l[k]'hlt) := List.getElem?_eq_getElem _
      have hxd : l.getD k 0 = l[k]'hlt := by rw [List.getD_eq_getElem?_getD, hx]; rfl
      have hgx := Pk.good_of hg (List.mem_of_getElem? hx)
      rw [Int.toNat_natCast, hxd, hn] at hres
      have htot : ∀ W, Below w.heap.size w W → Calls Try.prog 20 #[.slice A k c] W fun e w' => e = .returned (.int .i64 (Pk.sum (l.take k))) ∧ Below W.heap.size W w' := fun W hW =>
        total14_any k c W (by have := ((h.below hW).more hW.size).take k; rwa [ints_take14] at this) (by rw [List.length_take]; omega) (Pk.good_take hg k) (by omega)
      have HT := Lib.hid htot
      obtain ⟨xv, hxv⟩ : ∃ xv, l[k]'hlt = xv := ⟨_, rfl⟩
      rw [hxv] at hres hgx
      have hcell : ∀ W, Below w.heap.size w W → ∃ ad, A = some ad ∧ W.cell? (ad.add k) = some (.int .i64 xv) := fun W hW => by
        obtain ⟨ad, hA, -, c0⟩ := irow_at ((h.below hW).more hW.size) hlt
        rw [hxv] at c0
        exact ⟨ad, hA, c0⟩
      have HCELL := Lib.hid hcell
      clear hx hxd hxv hcell htot h hn hg
      by_cases h0 : xv = 0
      · subst h0
        rw [if_neg (by omega)] at hres
        subst hres
        go_enter Try.func8, Try.ntmps8
        go_wp2_with (fail)
        refine HMB.out.mono ?_
        rintro e w1 ⟨rfl, hb1⟩
        obtain ⟨ad, hA, c0⟩ := HCELL.out w1 hb1
        subst hA
        have HB := Lib.hid hb1
        clear hb1 HCELL HT
        go_wp2
        go_ret2
        exact ⟨rfl, HB.out⟩
      · have hz : (xv == (0 : Int)) = false := by rw [beq_eq_false_iff_ne]; exact h0
        rw [if_pos ⟨by omega, by omega, by omega⟩] at hres
        subst hres
        generalize Pk.sum (l.take k) = s at *
        clear hgx h0
        go_enter Try.func8, Try.ntmps8
        go_wp2_with (fail)
        refine HMB.out.mono ?_
        rintro e w1 ⟨rfl, hb1⟩
        obtain ⟨ad, hA, c0⟩ := HCELL.out w1 hb1
        subst hA
        have HB := Lib.hid hb1
        clear hb1 HCELL
        go_wp2_with (fail)
        refine (HT.out w1 HB.out).mono ?_
        rintro e w2 ⟨rfl, hb2⟩
        have HB2 := Lib.hid (HB.out.trans (hb2.mono HB.out.size))
        clear hb2
        go_wp2
        go_ret2
        exact ⟨rfl, HB2.out⟩
    · rw [if_neg (by rw [hn]; exact fun h => hi ⟨h.1, h.2.1⟩)] at hres
      subst hres
      clear h hn hg
      by_cases hi0 : i < 0
      · have hl : decide (i < 0) = true := decide_eq_true hi0
        go_enter Try.func8, Try.ntmps8
        go_wp2_with (fail)
        refine HMB.out.mono ?_
        rintro e w1 ⟨rfl, hb1⟩
        have HB := Lib.hid hb1
        clear hb1
        go_wp2
        go_ret2
        exact ⟨rfl, HB.out⟩
      · have hl : decide (i < 0) = false := decide_eq_false hi0
        have hl2 : decide (i ≥ (n : Int)) = true := decide_eq_true (by omega)
        go_enter Try.func8, Try.ntmps8
        go_wp2_with (fail)
        refine HMB.out.mono ?_
        rintro e w1 ⟨rfl, hb1⟩
        have HB := Lib.hid hb1
        clear hb1
        go_wp2
        go_ret2
        exact ⟨rfl, HB.out⟩
  · rw [if_neg hr] at hres
    have hrf : Pk.right l = false := by simpa using hr
    rw [hrf] at hmb
    subst hres
    have HMB := Lib.hid hmb
    clear h hn hmb hr hrf
    go_enter Try.func8, Try.ntmps8
    go_wp2_with (fail)
    refine HMB.out.mono ?_
    rintro e w1 ⟨rfl, hb1⟩
    have HB := Lib.hid hb1
    clear hb1
    go_wp2
    go_ret2
    exact ⟨rfl, HB.out⟩

theorem isMost14_any (most : Int) (w : World) : Calls Try.prog 27 #[.int .i64 most] w fun e w' => e = .returned (.bool (decide (0 ≤ most ∧ most ≤ 20))) ∧ w = w' := by
  by_cases h0 : most ≥ 0
  · by_cases h1 : most ≤ 20
    · have e0 : decide (most ≥ 0) = true := decide_eq_true h0
      have e1 : decide (most ≤ 20) = true := decide_eq_true h1
      rw [decide_eq_true (show 0 ≤ most ∧ most ≤ 20 from ⟨h0, h1⟩)]
      clear h0 h1
      go_enter Try.func27, Try.ntmps27
      go_wp2
      go_ret
      exact ⟨rfl, rfl⟩
    · have e0 : decide (most ≥ 0) = true := decide_eq_true h0
      have e1 : decide (most ≤ 20) = false := decide_eq_false h1
      rw [decide_eq_false (fun h => h1 h.2)]
      clear h0 h1
      go_enter Try.func27, Try.ntmps27
      go_wp2
      go_ret
      exact ⟨rfl, rfl⟩
  · have e0 : decide (most ≥ 0) = false := decide_eq_false h0
    rw [decide_eq_false (fun h => h0 h.1)]
    clear h0
    go_enter Try.func27, Try.ntmps27
    go_wp2
    go_ret
    exact ⟨rfl, rfl⟩
theorem number14_any (k : Nat) (hk : k ≤ 1000000) (w : World) : Calls Try.prog 28 #[.int .i64 (k : Int)] w fun e w' => e = .returned (.int .i64 (Pk.made k)) ∧ w = w' := by
  have h1 : (k : Int).tmod 2 = ((k % 2 : Nat) : Int) := by rw [Int.tmod_eq_emod_of_nonneg (by omega)]; omega
  unfold Pk.made
  by_cases h : k % 2 = 1
  · rw [if_pos h]
    have h3 : (((k % 2 : Nat) : Int) == 1) = true := by rw [h]; rfl
    have h5 : wrap64 ((k : Int) + 1) = (k : Int) + 1 := by unfold wrap64; omega
    have h2 : ((k : Int) + 1).tdiv 2 = ((k / 2 : Nat) : Int) + 1 := by rw [Int.tdiv_eq_ediv_of_nonneg (by omega)]; omega
    have h6 : wrap64 (((k / 2 : Nat) : Int) + 1) = ((k / 2 : Nat) : Int) + 1 := by unfold wrap64; omega
    generalize ((k / 2 : Nat) : Int) + 1 = q at *
    clear h
    go_enter Try.func28, Try.ntmps28
    go_wp2
    go_ret
    exact ⟨congrArg (fun z => Ending.returned (.int .i64 z)) h6, rfl⟩
  · rw [if_neg h]
    have h3 : (((k % 2 : Nat) : Int) == 1) = false := by rw [beq_eq_false_iff_ne]; omega
    have h5 : wrap64 (-(k : Int)) = -(k : Int) := by unfold wrap64; omega
    have h2 : (-(k : Int)).tdiv 2 = -((k / 2 : Nat) : Int) := by rw [Int.neg_tdiv, Int.tdiv_eq_ediv_of_nonneg (by omega)]; omega
    have h6 : wrap64 (-((k / 2 : Nat) : Int)) = -((k / 2 : Nat) : Int) := by unfold wrap64; omega
    generalize -((k / 2 : Nat) : Int) = q at *
    clear h
    go_enter Try.func28, Try.ntmps28
    go_wp2
    go_ret
    exact ⟨congrArg (fun z => Ending.returned (.int .i64 z)) h6, rfl⟩
theorem choiceOf14_any (n : Int) (h1 : -20 ≤ n) (h2 : n ≤ 20) (w : World) : Calls Try.prog 29 #[.int .i64 n] w fun e w' => e = .returned (.int .i64 (Pk.back n : Nat)) ∧ w = w' := by
  unfold Pk.back
  by_cases h : n > 0
  · have e0 : decide (n > 0) = true := decide_eq_true h
    have e1 : (((2 * n - 1).toNat : Nat) : Int) = 2 * n - 1 := by omega
    have e2 : wrap64 (2 * n) = 2 * n := by unfold wrap64; omega
    have e3 : wrap64 (2 * n - 1) = 2 * n - 1 := by unfold wrap64; omega
    rw [if_pos h, e1]
    clear h h1 h2 e1
    go_enter Try.func29, Try.ntmps29
    go_wp2
    go_ret
    exact ⟨congrArg (fun z => Ending.returned (.int .i64 z)) e3, rfl⟩
  · have e0 : decide (n > 0) = false := decide_eq_false h
    have e1 : (((-2 * n).toNat : Nat) : Int) = -2 * n := by omega
    have e2 : wrap64 (-2 * n) = -2 * n := by unfold wrap64; omega
    rw [if_neg h, e1]
    clear h h1 h2 e1
    go_enter Try.func29, Try.ntmps29
    go_wp2
    go_ret
    exact ⟨congrArg (fun z => Ending.returned (.int .i64 z)) e2, rfl⟩
theorem pUnsigned14_any (most n : Int) (w : World) : Calls Try.prog 14 #[.int .i64 most, .int .i64 n] w (TellsP w (Pk.unsigned most n)) := by
  unfold TellsP
  have him := isMost14_any most w
  have HB0 := Lib.hid (Below.refl w.heap.size w)
  obtain ⟨res, hres⟩ : ∃ res, Pk.unsigned most n = res := ⟨_, rfl⟩
  rw [hres]
  unfold Pk.unsigned at hres
  by_cases hr : 0 ≤ most ∧ most ≤ 20
  · rw [decide_eq_true hr] at him
    rw [if_pos hr] at hres
    have HIM := Lib.hid him
    clear him
    have e0 : wrap64 (-most) = -most := by unfold wrap64; omega
    by_cases hlo : n < -most
    · have e1 : decide (n < -most) = true := decide_eq_true hlo
      rw [if_neg (by omega)] at hres
      subst hres
      clear hr hlo
      go_enter Try.func14, Try.ntmps14
      go_wp2_with (fail)
      refine HIM.out.mono ?_
      rintro e w1 ⟨rfl, rfl⟩
      go_wp2
      go_ret2
      exact ⟨rfl, HB0.out⟩
    · have e1 : decide (n < -most) = false := decide_eq_false hlo
      by_cases hhi : n > most
      · have e2 : decide (n > most) = true := decide_eq_true hhi
        rw [if_neg (by omega)] at hres
        subst hres
        clear hr hlo hhi
        go_enter Try.func14, Try.ntmps14
        go_wp2_with (fail)
        refine HIM.out.mono ?_
        rintro e w1 ⟨rfl, rfl⟩
        go_wp2
        go_ret2
        exact ⟨rfl, HB0.out⟩
      · have e2 : decide (n > most) = false := decide_eq_false hhi
        rw [if_pos ⟨by omega, by omega⟩] at hres
        subst hres
        have HCO := Lib.hid (choiceOf14_any n (by omega) (by omega) w)
        generalize (Pk.back n : Int) = q at *
        clear hr hlo hhi
        go_enter Try.func14, Try.ntmps14
        go_wp2_with (fail)
        refine HIM.out.mono ?_
        rintro e w1 ⟨rfl, rfl⟩
        go_wp2_with (fail)
        refine HCO.out.mono ?_
        rintro e w2 ⟨rfl, rfl⟩
        go_wp2
        go_ret2
        exact ⟨rfl, HB0.out⟩
  · rw [decide_eq_false hr] at him
    rw [if_neg hr] at hres
    subst hres
    have HIM := Lib.hid him
    clear him hr
    go_enter Try.func14, Try.ntmps14
    go_wp2_with (fail)
    refine HIM.out.mono ?_
    rintro e w1 ⟨rfl, rfl⟩
    go_wp2
    go_ret2
    exact ⟨rfl, HB0.out⟩
end Go.Proofs.Ytmgaaejghfgbnaa
