/- Walk of the reference's may. -/
import Derived.Test.YtaingkjleelbfaaRefOrd
namespace Go.Proofs.Ytaingkjleelbfaa
open Go.RowKit

def nameAt (names : List ByteArray) (k : Nat) : ByteArray := names.getD k ByteArray.empty
def dist (names : List ByteArray) (i j : Nat) : Bool := !streq (nameAt names j) (nameAt names i)
def lineOk (names : List ByteArray) (up : List Nat) (i : Nat) : Bool := (nameOk (nameAt names i) && !highB (up.getD i 0) up.length) && (List.range i).all (dist names i)
def rMay (names : List ByteArray) (up : List Nat) : Bool :=
  (decide (1 ≤ up.length) && decide (up.length ≤ 8) && decide (names.length = up.length)) && (List.range names.length).all (lineOk names up)

set_option maxHeartbeats 4000000 in
theorem rMay_any {v : Value} {names : List ByteArray} {up : List Nat} (w : World) (h : IsLat w w.heap.size v names up) :
    Calls Try.prog 38 #[v] w fun e w' => e = .returned (.bool (rMay names up)) ∧ Below w.heap.size w w' := by
  have h' := h
  obtain ⟨⟨A, A', c, c', rfl, hN, hU⟩, hshort, ⟨hf1, hf2⟩, hcaps⟩ := h'
  obtain ⟨hcap, hcap'⟩ := hcaps _ _ _ _ _ _ rfl
  have hst := At.start w (.slice A names.length c) (.slice A' up.length c')
  have HST := Lib.hid hst
  clear h hst hcaps
  by_cases z1 : up.length < 1
  · have HM : Hid (rMay names up = false) := by unfold Hid rMay; simp; omega
    go_enter Try.func38, Try.ntmps38
    go_wp2
    go_ret
    exact ⟨ret_bool (by rw [HM.out]), HST.out.2⟩
  by_cases z2 : 8 < up.length
  · have HM : Hid (rMay names up = false) := by unfold Hid rMay; simp; omega
    go_enter Try.func38, Try.ntmps38
    go_wp2
    go_ret
    exact ⟨ret_bool (by rw [HM.out]), HST.out.2⟩
  by_cases z3 : ¬ names.length = up.length
  · have HM : Hid (rMay names up = false) := by unfold Hid rMay; simp [z3]
    have z4 : ((names.length : Int) != (up.length : Int)) = true := by rw [bne_iff_ne]; omega
    go_enter Try.func38, Try.ntmps38
    go_wp2
    go_ret
    exact ⟨ret_bool (by rw [HM.out]), HST.out.2⟩
  have z3 : names.length = up.length := Decidable.not_not.1 z3
  have HM : Hid (rMay names up = (List.range names.length).all (lineOk names up)) := by unfold Hid rMay; simp [z3]; omega
  have z4 : ((names.length : Int) != (up.length : Int)) = false := by rw [bne_eq_false_iff_eq]; omega
  have Z3 := Lib.hid z3
  clear z3
  go_enter Try.func38, Try.ntmps38
  go_wp2
  go_loopw [29] (fun i wr => ∃ k : Nat, k ≤ names.length ∧ i = .int .i64 k ∧ (List.range k).all (lineOk names up) = true ∧ At w (.slice A names.length c) (.slice A' up.length c') wr) (fun i _ => names.length - (intOf i).toNat)
  case atStart => exact ⟨0, Nat.zero_le _, rfl, rfl, HST.out⟩
  case round =>
    obtain ⟨k, hk, rfl, hall, hat⟩ := hrel
    have HALL := Lib.hid hall
    have hc0 := hat.c0
    have hc1 := hat.c1
    clear hall
    by_cases hlt : k < names.length
    · have hlu : k < up.length := by rw [← Z3.out]; exact hlt
      obtain ⟨ad, x, rfl, _, hx, hx32, hcx⟩ := (hU.below hat.2).at_ hlu
      obtain ⟨ad2, s, rfl, _, hs, hcs⟩ := strs_at (hN.below hat.2) hlt
      have hsl := hshort s (List.mem_of_getElem? hs)
      have hline : lineOk names up k = ((nameOk s && !highB x up.length) && (List.range k).all (dist names k)) := by unfold lineOk nameAt; simp only [List.getD_eq_getElem?_getD, hx, hs, Option.getD_some]
      have HLINE := Lib.hid hline
      have HX := Lib.hid hx
      have HS := Lib.hid hs
      clear hx hs hline
      have hnm := fun nq => refName_any s (wr.drewN nq) hsl
      have hhi := fun nq => high_any x up.length (wr.drewN nq) hx32 hf2
      cases e1 : nameOk s
      · rw [e1] at hnm
        have HNM := Lib.hid hnm
        have HE1 := Lib.hid e1
        clear hnm hhi e1
        go_wp2_with (fail)
        go_quiet (first | (go_at_call 52; exact quiet_eq (HNM.out _)))
        go_wp2
        go_ret
        exact ⟨ret_bool (by rw [HM.out, all_range_false hlt (by rw [HLINE.out, HE1.out]; rfl)]), below_drewN_ hat.2 _⟩
      · rw [e1] at hnm
        have HNM := Lib.hid hnm
        have HE1 := Lib.hid e1
        clear hnm e1
        cases e2 : highB x up.length
        · rw [e2] at hhi
          have HHI := Lib.hid hhi
          have HE2 := Lib.hid e2
          clear hhi e2
          go_wp2_with (fail)
          go_quiet (first | (go_at_call 52; exact quiet_eq (HNM.out _)) | (go_at_call 53; exact quiet_eq (HHI.out _)))
          go_wp2
          have hatq : At w (.slice (some ad2) names.length c) (.slice (some ad) up.length c') (wr.drewN nq) := ⟨hat.1.drewN nq, below_drewN_ hat.2 nq⟩
          go_loopw [53] (fun i wr => ∃ j : Nat, j ≤ k ∧ i = .int .i64 j ∧ (List.range j).all (dist names k) = true ∧ At w (.slice (some ad2) names.length c) (.slice (some ad) up.length c') wr) (fun i _ => k - (intOf i).toNat)
          case atStart => exact ⟨0, Nat.zero_le _, rfl, rfl, hatq⟩
          case round =>
            clear hatq hat hc0 hc1 hcs hcx
            obtain ⟨j, hj, rfl, hallj, hatj⟩ := hrel
            have HALLJ := Lib.hid hallj
            have hcj0 := hatj.c0
            have hcj1 := hatj.c1
            clear hallj
            by_cases hlj : j < k
            · obtain ⟨ad3, t, he, _, ht, hct⟩ := strs_at (hN.below hatj.2) (show j < names.length by omega)
              obtain rfl : ad3 = ad2 := by injection he with he; exact he.symm
              have hds : dist names k j = !streq t s := by unfold dist nameAt; simp only [List.getD_eq_getElem?_getD, HS.out, ht, Option.getD_some]
              have HDS := Lib.hid hds
              clear he hds ht
              cases hst : (t.toList == s.toList)
              · have HST' : Hid (streq t s = false) := hst
                go_wp2
                go_roundw
                case rel => exact ⟨j + 1, by omega, by go_num, by rw [all_succ, HALLJ.out, HDS.out, HST'.out]; rfl, hatj⟩
                case measure => simp [intOf]; omega
              · have HST' : Hid (streq t s = true) := hst
                go_wp2
                go_ret
                exact ⟨ret_bool (by rw [HM.out, all_range_false hlt (by rw [HLINE.out, HE1.out, HE2.out, all_range_false hlj (by rw [HDS.out, HST'.out]; rfl)]; rfl)]), hatj.2⟩
            · obtain rfl : j = k := by omega
              go_wp2
              go_roundw
              case rel => exact ⟨j + 1, by omega, by go_num, by rw [all_succ, HALL.out, HLINE.out, HE1.out, HE2.out, HALLJ.out]; rfl, hatj⟩
              case measure => simp [intOf]; omega
        · rw [e2] at hhi
          have HHI := Lib.hid hhi
          have HE2 := Lib.hid e2
          clear hhi e2
          go_wp2_with (fail)
          go_quiet (first | (go_at_call 52; exact quiet_eq (HNM.out _)) | (go_at_call 53; exact quiet_eq (HHI.out _)))
          go_wp2
          go_ret
          exact ⟨ret_bool (by rw [HM.out, all_range_false hlt (by rw [HLINE.out, HE1.out, HE2.out]; rfl)]), below_drewN_ hat.2 _⟩
    · obtain rfl : k = names.length := by omega
      go_wp2
      go_ret
      exact ⟨ret_bool (by rw [HM.out, HALL.out]), hat.2⟩
end Go.Proofs.Ytaingkjleelbfaa
