/- The reference of stage 14: Sum, Weights, Picks, Made, Least, Unsigned. -/
import Derived.Test.YtmgaaejghfgbnaaPicP
import Derived.Test.YtmgaaejghfgbnaaDrwS
namespace Go.Proofs.Ytmgaaejghfgbnaa
set_option maxRecDepth 100000
open Go.RowKit Go.Shelf
attribute [local go_sem] Oper.semAt_some

theorem rSum14_any {A : Option Addr} {l : List Int} (n c : Nat) (w : World) (h : Row w w.heap.size A (ints l)) (hn : l.length = n) (hg : Pk.good l = true) (hl : n ≤ 1000) :
    Calls Try.prog 24 #[.slice A n c] w fun e w' => e = .returned (.int .i64 (Pk.sum l)) ∧ w = w' := by
  have H := Lib.hid h
  have HN := Lib.hid hn
  have HG := Lib.hid hg
  clear h hn hg
  go_enter Try.func24, Try.ntmps24
  go_wp2
  go_loopw [3, 8] (fun s i wr => ∃ (k : Nat), k ≤ n ∧ i = .int .i64 k ∧ s = .int .i64 (Pk.sum (l.take k)) ∧ wr = w) (fun _ i _ => n - (intOf i).toNat)
  case atStart => exact ⟨0, Nat.zero_le _, rfl, rfl, rfl⟩
  case round =>
    obtain ⟨k, hk, rfl, rfl, hwr⟩ := hrel
    obtain rfl := hwr.symm
    by_cases hlt : k < n
    · obtain ⟨ad, hA, hb, c0⟩ := irow_at H.out (show k < l.length by rw [HN.out]; exact hlt)
      have hx : l[k]? = some (l[k]'(by rw [HN.out]; exact hlt)) := List.getElem?_eq_getElem _
      subst hA
      have hgx := Pk.good_of HG.out (List.mem_of_getElem? hx)
      generalize l[k]'(by rw [HN.out]; exact hlt) = x at *
      have hs := Pk.sum_step hx
      have h0 := Pk.sum_low (Pk.good_take HG.out k)
      rw [List.length_take, HN.out] at h0
      obtain ⟨s0, hs0⟩ : ∃ s0, Pk.sum (l.take k) = s0 := ⟨_, rfl⟩
      rw [hs0] at hs h0 ⊢
      have hw : wrap64 (s0 + x) = s0 + x := by unfold wrap64; omega
      have HS := Lib.hid hs
      clear hx hgx hs h0 hs0
      go_wp2
      go_roundw
      case rel => exact ⟨k + 1, by omega, by go_num, by rw [HS.out, hw], trivial⟩
      case measure => simp [intOf]; omega
    · obtain rfl : k = n := by omega
      have hall : l.take k = l := List.take_of_length_le (by rw [HN.out]; exact Nat.le_refl _)
      rw [hall]
      clear hall
      go_wp2
      go_ret
      exact ⟨rfl, rfl⟩
theorem rWeights14_any {A : Option Addr} {l : List Int} (n c : Nat) (w : World) (h : Row w w.heap.size A (ints l)) (hn : l.length = n) (hn9 : n ≤ 1000000) :
    Calls Try.prog 22 #[.slice A n c] w fun e w' => e = .returned (.bool (Pk.right l)) ∧ w = w' := by
  obtain ⟨res, hres⟩ : ∃ res, Pk.right l = res := ⟨_, rfl⟩
  rw [hres]
  have hsum := fun (hg : Pk.good l = true) (hl : n ≤ 1000) => rSum14_any (A := A) n c w h hn hg hl
  have H := Lib.hid h
  have HN := Lib.hid hn
  have HRES := Lib.hid hres
  have HSUM := Lib.hid hsum
  clear h hn hres hsum
  go_enter Try.func22, Try.ntmps22
  go_wp2
  go_loopw [7] (fun i wr => ∃ (k : Nat), k ≤ n ∧ i = .int .i64 k ∧ Hid (Pk.good (l.take k) = true) ∧ wr = w) (fun i _ => n - (intOf i).toNat)
  case atStart => exact ⟨0, Nat.zero_le _, rfl, Lib.hid rfl, rfl⟩
  case round =>
    obtain ⟨k, hk, rfl, HK, hwr⟩ := hrel
    obtain rfl := hwr.symm
    by_cases hlt : k < n
    · obtain ⟨ad, hA, hb, c0⟩ := irow_at H.out (show k < l.length by rw [HN.out]; exact hlt)
      have hx : l[k]? = some (l[k]'(by rw [HN.out]; exact hlt)) := List.getElem?_eq_getElem _
      subst hA
      generalize l[k]'(by rw [HN.out]; exact hlt) = x at *
      by_cases hgx : 0 ≤ x ∧ x ≤ 100
      · have HK2 : Hid (Pk.good (l.take (k + 1)) = true) := Lib.hid (by
          rw [List.take_add_one, hx, Option.toList_some]
          unfold Pk.good at *
          rw [List.all_append, HK.out]
          simp
          exact hgx)
        have h1 : decide (x < 0) = false := decide_eq_false (by omega)
        have h2 : decide (x > 100) = false := decide_eq_false (by omega)
        clear hx hgx
        go_wp2
        go_roundw
        case rel => exact ⟨k + 1, by omega, by go_num, HK2, trivial⟩
        case measure => simp [intOf]; omega
      · have hbad : res = false := by
          rw [← HRES.out]
          by_cases e : Pk.right l = true
          · exact absurd (Pk.good_of (Pk.right_good e).1 (List.mem_of_getElem? hx)) hgx
          · simpa using e
        have HBAD := Lib.hid hbad
        clear hx hbad
        by_cases h0 : x < 0
        · have h1 : decide (x < 0) = true := decide_eq_true h0
          clear hgx h0
          go_wp2
          go_ret
          exact ⟨by rw [HBAD.out]; rfl, rfl⟩
        · have h1 : decide (x < 0) = false := decide_eq_false h0
          have h2 : decide (x > 100) = true := decide_eq_true (by omega)
          clear hgx h0
          go_wp2
          go_ret
          exact ⟨by rw [HBAD.out]; rfl, rfl⟩
    · obtain rfl : k = n := by omega
      have hg : Pk.good l = true := by
        have h := HK.out
        rwa [List.take_of_length_le (by rw [HN.out]; exact Nat.le_refl _)] at h
      have hr : res = decide (1 ≤ k ∧ k ≤ 20 ∧ 0 < Pk.sum l) := by
        rw [← HRES.out]
        unfold Pk.right
        rw [hg, HN.out, Bool.true_and]
      have HR := Lib.hid hr
      have HG := Lib.hid hg
      clear hg hr
      by_cases h1 : 1 ≤ k
      · by_cases h2 : k ≤ 20
        · have hsm := HSUM.out HG.out (by omega)
          obtain ⟨s, hs⟩ : ∃ s, Pk.sum l = s := ⟨_, rfl⟩
          rw [hs] at hsm
          have HS := Lib.hid hsm
          have HSE := Lib.hid hs
          clear hsm hs
          by_cases h3 : 0 < s
          · have h4 : decide (s > 0) = true := decide_eq_true h3
            have htt : res = true := by rw [HR.out, HSE.out]; exact decide_eq_true ⟨h1, h2, h3⟩
            have HTT := Lib.hid htt
            clear htt
            go_wp2_with (fail)
            refine HS.out.mono ?_
            rintro e w1 ⟨rfl, rfl⟩
            go_wp2
            go_ret
            exact ⟨by rw [HTT.out]; rfl, rfl⟩
          · have h4 : decide (s > 0) = false := decide_eq_false h3
            have htt : res = false := by rw [HR.out, HSE.out]; exact decide_eq_false fun h => h3 h.2.2
            have HTT := Lib.hid htt
            clear htt
            go_wp2_with (fail)
            refine HS.out.mono ?_
            rintro e w1 ⟨rfl, rfl⟩
            go_wp2
            go_ret
            exact ⟨by rw [HTT.out]; rfl, rfl⟩
        · have htt : res = false := by rw [HR.out]; exact decide_eq_false fun h => h2 h.2.1
          have HTT := Lib.hid htt
          clear htt
          go_wp2
          go_ret
          exact ⟨by rw [HTT.out]; rfl, rfl⟩
      · have htt : res = false := by rw [HR.out]; exact decide_eq_false fun h => h1 h.1
        have HTT := Lib.hid htt
        clear htt
        go_wp2
        go_ret
        exact ⟨by rw [HTT.out]; rfl, rfl⟩
theorem rPicks14_any {A : Option Addr} {l : List Int} (n c : Nat) (v : Int) (w : World) (h : Row w w.heap.size A (ints l)) (hn : l.length = n) (hg : Pk.good l = true) (hl : n ≤ 1000) (hc : n ≤ c) :
    Calls Try.prog 25 #[.slice A n c, .int .i64 v] w fun e w' => e = .returned (.int .i64 (Pk.picks l v : Nat)) ∧ w = w' := by
  have hsum : ∀ k, k < n → Calls Try.prog 24 #[.slice A (k + 1) c] w (fun e w' => e = .returned (.int .i64 (Pk.sum (l.take (k + 1)))) ∧ w = w') := fun k hk => by
    have h2 := h.take (k + 1)
    refine rSum14_any (k + 1) c w ?_ (by rw [List.length_take]; omega) (Pk.good_take hg _) (by omega)
    unfold ints at h2 ⊢
    rwa [List.map_take]
  have HN := Lib.hid hn
  have HSUM := Lib.hid hsum
  clear h hn hg hsum
  go_enter Try.func25, Try.ntmps25
  go_wp2
  go_loopw [8] (fun i wr => ∃ (k : Nat), k ≤ n ∧ i = .int .i64 k ∧ Hid (∀ j, j < k → Pk.sum (l.take (j + 1)) ≤ v) ∧ wr = w) (fun i _ => n - (intOf i).toNat)
  case atStart => exact ⟨0, Nat.zero_le _, rfl, Lib.hid fun j hj => absurd hj (by omega), rfl⟩
  case round =>
    obtain ⟨k, hk, rfl, HK, hwr⟩ := hrel
    obtain rfl := hwr.symm
    by_cases hlt : k < n
    · have hs := HSUM.out k hlt
      obtain ⟨s, hse⟩ : ∃ s, Pk.sum (l.take (k + 1)) = s := ⟨_, rfl⟩
      rw [hse] at hs
      have HS := Lib.hid hs
      clear hs
      by_cases hv : s > v
      · have h1 : decide (s > v) = true := decide_eq_true hv
        have hp := Pk.picks_at (l := l) (n := v) (k := k) (by rw [HN.out]; exact hlt) HK.out (by rw [hse]; exact hv)
        have HP := Lib.hid hp
        clear hp hse hv
        go_wp2_with (fail)
        refine HS.out.mono ?_
        rintro e w1 ⟨rfl, rfl⟩
        go_wp2
        go_ret
        exact ⟨by rw [HP.out]; rfl, rfl⟩
      · have h1 : decide (s > v) = false := decide_eq_false hv
        have HK2 : Hid (∀ j, j < k + 1 → Pk.sum (l.take (j + 1)) ≤ v) := Lib.hid fun j hj => by
          by_cases e : j = k
          · subst e; omega
          · exact HK.out j (by omega)
        clear hse hv
        go_wp2_with (fail)
        refine HS.out.mono ?_
        rintro e w1 ⟨rfl, rfl⟩
        go_wp2
        go_roundw
        case rel => exact ⟨k + 1, by omega, by go_num, HK2, trivial⟩
        case measure => simp [intOf]; omega
    · obtain rfl : k = n := by omega
      have hp := Pk.picks_none (l := l) (n := v) (by rw [HN.out]; exact HK.out)
      have HP := Lib.hid hp
      clear hp
      go_wp2
      go_ret
      exact ⟨by rw [HP.out]; rfl, rfl⟩
theorem rMade14_any (k : Nat) (hk : k ≤ 1000000) (w : World) : Calls Try.prog 30 #[.int .i64 (k : Int)] w fun e w' => e = .returned (.int .i64 (Pk.made k)) ∧ w = w' := by
  have h1 : (k : Int).tmod 2 = ((k % 2 : Nat) : Int) := by rw [Int.tmod_eq_emod_of_nonneg (by omega)]; omega
  have h2 : (k : Int).tdiv 2 = ((k / 2 : Nat) : Int) := by rw [Int.tdiv_eq_ediv_of_nonneg (by omega)]; omega
  unfold Pk.made
  by_cases h : k % 2 = 1
  · rw [if_pos h]
    have h3 : (((k % 2 : Nat) : Int) == 1) = true := by rw [h]; rfl
    have h4 : ((k / 2 : Nat) : Int) ≤ 1000000 := by omega
    obtain ⟨q, hq⟩ : ∃ q, k / 2 = q := ⟨_, rfl⟩
    rw [hq] at h2 h4 ⊢
    clear hq
    go_enter Try.func30, Try.ntmps30
    go_wp2
    go_ret
    exact ⟨rfl, rfl⟩
  · rw [if_neg h]
    have h3 : (((k % 2 : Nat) : Int) == 1) = false := by rw [beq_eq_false_iff_ne]; omega
    have h4 : ((k / 2 : Nat) : Int) ≤ 1000000 := by omega
    obtain ⟨q, hq⟩ : ∃ q, k / 2 = q := ⟨_, rfl⟩
    rw [hq] at h2 h4 ⊢
    clear hq
    have h5 : wrap64 (0 - (q : Int)) = -(q : Int) := by unfold wrap64; omega
    go_enter Try.func30, Try.ntmps30
    go_wp2
    go_ret
    exact ⟨rfl, rfl⟩
end Go.Proofs.Ytmgaaejghfgbnaa
