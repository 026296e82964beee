/- Walk of the reference's order. -/
import Derived.Test.YtaingkjleelbfaaRef
namespace Go.Proofs.Ytaingkjleelbfaa
open Go.RowKit

def tri (up : List Nat) (a b c : Nat) : Bool := !(Lat.fl up a b && Lat.fl up b c && !Lat.fl up a c)
def duo (up : List Nat) (a b : Nat) : Bool := !(a != b && Lat.fl up a b && Lat.fl up b a) && (List.range up.length).all (tri up a b)
def uno (up : List Nat) (a : Nat) : Bool := Lat.fl up a a && (List.range up.length).all (duo up a)
def rOrder (up : List Nat) : Bool := (List.range up.length).all (uno up)
theorem all_succ {f : Nat → Bool} (k : Nat) : (List.range (k + 1)).all f = ((List.range k).all f && f k) := by simp [List.range_succ]

set_option maxHeartbeats 4000000 in
theorem rOrder_any {v : Value} {names : List ByteArray} {up : List Nat} (w : World) (h : IsLat w w.heap.size v names up) :
    Calls Try.prog 39 #[v] w fun e w' => e = .returned (.bool (rOrder up)) ∧ Below w.heap.size w w' := by
  have h' := h
  obtain ⟨⟨A, A', c, c', rfl, -, -⟩, -, ⟨hf1, hf2⟩, -⟩ := h'
  have hst := At.start w (.slice A names.length c) (.slice A' up.length c')
  have HFL := Lib.hid (fun (i j : Nat) (W : World) (hW : At w (.slice A names.length c) (.slice A' up.length c') W) hi hj => At.flows h i j hW hi hj)
  have HR : Hid (rOrder up = (List.range up.length).all (uno up)) := rfl
  clear h
  go_enter Try.func39, Try.ntmps39
  go_wp2
  go_loopw [9] (fun i wr => ∃ a : Nat, a ≤ up.length ∧ i = .int .i64 a ∧ (List.range a).all (uno up) = true ∧ At w (.slice A names.length c) (.slice A' up.length c') wr) (fun i _ => up.length - (intOf i).toNat)
  case atStart => exact ⟨0, Nat.zero_le _, rfl, rfl, hst⟩
  case round =>
    obtain ⟨a, ha, rfl, hall, hat⟩ := hrel
    have HALL := Lib.hid hall
    have hc0 := hat.c0
    have hc1 := hat.c1
    clear hall hst
    by_cases hla : a < up.length
    · have HU : Hid (uno up a = (Lat.fl up a a && (List.range up.length).all (duo up a))) := rfl
      obtain ⟨wo, rfl⟩ : ∃ wo : World, wo = wr := ⟨_, rfl⟩
      cases e0 : Lat.fl up a a
      · have HE0 := Lib.hid e0
        go_wp2_with (go_at_call 42; refine (HFL.out _ _ _ (by assumption) (by omega) (by omega)).mono ?_; rintro e w' ⟨rfl, hat', hc0', hc1'⟩)
        go_ret
        exact ⟨ret_bool (by rw [HR.out, all_range_false hla (by rw [HU.out, HE0.out]; rfl)]), (show At w (.slice A names.length c) (.slice A' up.length c') _ by assumption).2⟩
      · have HE0 := Lib.hid e0
        go_wp2_with (go_at_call 42; refine (HFL.out _ _ _ (by assumption) (by omega) (by omega)).mono ?_; rintro e w1 ⟨rfl, hat1, hc01, hc11⟩)
        go_loopw [20] (fun i wr => ∃ b : Nat, b ≤ up.length ∧ i = .int .i64 b ∧ (List.range b).all (duo up a) = true ∧ At w (.slice A names.length c) (.slice A' up.length c') wr) (fun i _ => up.length - (intOf i).toNat)
        case atStart => exact ⟨0, Nat.zero_le _, rfl, rfl, by assumption⟩
        case round =>
          obtain ⟨b, hb, rfl, hallb, hatb⟩ := hrel
          have HALLB := Lib.hid hallb
          have hcb0 := hatb.c0
          have hcb1 := hatb.c1
          clear hallb hat hc0 hc1 hat1 hc01 hc11
          by_cases hlb : b < up.length
          · have HD : Hid (duo up a b = (!(a != b && Lat.fl up a b && Lat.fl up b a) && (List.range up.length).all (tri up a b))) := rfl
            obtain ⟨wo2, rfl⟩ : ∃ wo : World, wo = wr := ⟨_, rfl⟩
            by_cases hab : a = b
            · have hb2 : ((a : Int) != (b : Int)) = false := by rw [bne_eq_false_iff_eq]; omega
              have HDB : Hid ((!(a != b && Lat.fl up a b && Lat.fl up b a)) = true) := by unfold Hid; simp [hab]
              have HAB := Lib.hid hab
              clear hab
              cases e1 : Lat.fl up a b
              · have HE1 := Lib.hid e1
                go_wp2_with (go_at_call 42; refine (HFL.out _ _ _ (by assumption) (by omega) (by omega)).mono ?_; rintro e w' ⟨rfl, hat', hc0', hc1'⟩)
                go_loopw [41] (fun i wr => ∃ c₂ : Nat, c₂ ≤ up.length ∧ i = .int .i64 c₂ ∧ (List.range c₂).all (tri up a b) = true ∧ At w (.slice A names.length c) (.slice A' up.length c') wr) (fun i _ => up.length - (intOf i).toNat)
                case atStart => exact ⟨0, Nat.zero_le _, rfl, rfl, by assumption⟩
                case round =>
                  obtain ⟨d, hd, rfl, hallc, hatd⟩ := hrel
                  have HALLC := Lib.hid hallc
                  have hcd0 := hatd.c0
                  have hcd1 := hatd.c1
                  clear hallc
                  by_cases hld : d < up.length
                  · have HT : Hid (tri up a b d = !(Lat.fl up a b && Lat.fl up b d && !Lat.fl up a d)) := rfl
                    cases e4 : Lat.fl up b d
                    · have HE4 := Lib.hid e4
                      go_wp2_with (go_at_call 42; refine (HFL.out _ _ _ (by assumption) (by omega) (by omega)).mono ?_; rintro e w' ⟨rfl, hatq, hcq0, hcq1⟩)
                      go_roundw
                      case rel => exact ⟨d + 1, by omega, by go_num, by rw [all_succ, HALLC.out, HT.out, HE4.out]; simp, by assumption⟩
                      case measure => simp [intOf]; omega
                    · have HE4 := Lib.hid e4
                      cases e5 : Lat.fl up a d
                      · have HE5 := Lib.hid e5
                        go_wp2_with (go_at_call 42; refine (HFL.out _ _ _ (by assumption) (by omega) (by omega)).mono ?_; rintro e w' ⟨rfl, hatq, hcq0, hcq1⟩)
                        go_roundw
                        case rel => exact ⟨d + 1, by omega, by go_num, by rw [all_succ, HALLC.out, HT.out, HE1.out]; simp, by assumption⟩
                        case measure => simp [intOf]; omega
                      · have HE5 := Lib.hid e5
                        go_wp2_with (go_at_call 42; refine (HFL.out _ _ _ (by assumption) (by omega) (by omega)).mono ?_; rintro e w' ⟨rfl, hatq, hcq0, hcq1⟩)
                        go_roundw
                        case rel => exact ⟨d + 1, by omega, by go_num, by rw [all_succ, HALLC.out, HT.out, HE4.out, HE5.out]; simp, by assumption⟩
                        case measure => simp [intOf]; omega
                  · obtain rfl : d = up.length := by omega
                    have hdd : duo up a b = true := by rw [HD.out, HALLC.out, HDB.out]; rfl
                    have HDD := Lib.hid hdd
                    clear hdd
                    go_wp2
                    go_roundw
                    case rel => exact ⟨b + 1, by omega, by go_num, by rw [all_succ, HALLB.out, HDD.out]; rfl, hatd⟩
                    case measure => simp [intOf]; omega
              · have HE1 := Lib.hid e1
                go_wp2_with (go_at_call 42; refine (HFL.out _ _ _ (by assumption) (by omega) (by omega)).mono ?_; rintro e w' ⟨rfl, hat', hc0', hc1'⟩)
                go_loopw [41] (fun i wr => ∃ c₂ : Nat, c₂ ≤ up.length ∧ i = .int .i64 c₂ ∧ (List.range c₂).all (tri up a b) = true ∧ At w (.slice A names.length c) (.slice A' up.length c') wr) (fun i _ => up.length - (intOf i).toNat)
                case atStart => exact ⟨0, Nat.zero_le _, rfl, rfl, by assumption⟩
                case round =>
                  obtain ⟨d, hd, rfl, hallc, hatd⟩ := hrel
                  have HALLC := Lib.hid hallc
                  have hcd0 := hatd.c0
                  have hcd1 := hatd.c1
                  clear hallc
                  by_cases hld : d < up.length
                  · have HT : Hid (tri up a b d = !(Lat.fl up a b && Lat.fl up b d && !Lat.fl up a d)) := rfl
                    cases e4 : Lat.fl up b d
                    · have HE4 := Lib.hid e4
                      go_wp2_with (go_at_call 42; refine (HFL.out _ _ _ (by assumption) (by omega) (by omega)).mono ?_; rintro e w' ⟨rfl, hatq, hcq0, hcq1⟩)
                      go_roundw
                      case rel => exact ⟨d + 1, by omega, by go_num, by rw [all_succ, HALLC.out, HT.out, HE4.out]; simp, by assumption⟩
                      case measure => simp [intOf]; omega
                    · have HE4 := Lib.hid e4
                      cases e5 : Lat.fl up a d
                      · have HE5 := Lib.hid e5
                        go_wp2_with (go_at_call 42; refine (HFL.out _ _ _ (by assumption) (by omega) (by omega)).mono ?_; rintro e w' ⟨rfl, hatq, hcq0, hcq1⟩)
                        (go_ret
                         exact ⟨ret_bool (by rw [HR.out, all_range_false hla (by rw [HU.out, HE0.out, all_range_false hlb (by rw [HD.out, all_range_false hld (by rw [HT.out, HE1.out, HE4.out, HE5.out]; rfl)]; simp)]; rfl)]), (show At w (.slice A names.length c) (.slice A' up.length c') _ by assumption).2⟩)
                      · have HE5 := Lib.hid e5
                        go_wp2_with (go_at_call 42; refine (HFL.out _ _ _ (by assumption) (by omega) (by omega)).mono ?_; rintro e w' ⟨rfl, hatq, hcq0, hcq1⟩)
                        go_roundw
                        case rel => exact ⟨d + 1, by omega, by go_num, by rw [all_succ, HALLC.out, HT.out, HE4.out, HE5.out]; simp, by assumption⟩
                        case measure => simp [intOf]; omega
                  · obtain rfl : d = up.length := by omega
                    have hdd : duo up a b = true := by rw [HD.out, HALLC.out, HDB.out]; rfl
                    have HDD := Lib.hid hdd
                    clear hdd
                    go_wp2
                    go_roundw
                    case rel => exact ⟨b + 1, by omega, by go_num, by rw [all_succ, HALLB.out, HDD.out]; rfl, hatd⟩
                    case measure => simp [intOf]; omega
            · have hb2 : ((a : Int) != (b : Int)) = true := by rw [bne_iff_ne]; omega
              cases e1 : Lat.fl up a b
              · have HE1 := Lib.hid e1
                have HDB : Hid ((!(a != b && Lat.fl up a b && Lat.fl up b a)) = true) := by unfold Hid; simp [e1]
                go_wp2_with (go_at_call 42; refine (HFL.out _ _ _ (by assumption) (by omega) (by omega)).mono ?_; rintro e w' ⟨rfl, hat', hc0', hc1'⟩)
                go_loopw [41] (fun i wr => ∃ c₂ : Nat, c₂ ≤ up.length ∧ i = .int .i64 c₂ ∧ (List.range c₂).all (tri up a b) = true ∧ At w (.slice A names.length c) (.slice A' up.length c') wr) (fun i _ => up.length - (intOf i).toNat)
                case atStart => exact ⟨0, Nat.zero_le _, rfl, rfl, by assumption⟩
                case round =>
                  obtain ⟨d, hd, rfl, hallc, hatd⟩ := hrel
                  have HALLC := Lib.hid hallc
                  have hcd0 := hatd.c0
                  have hcd1 := hatd.c1
                  clear hallc
                  by_cases hld : d < up.length
                  · have HT : Hid (tri up a b d = !(Lat.fl up a b && Lat.fl up b d && !Lat.fl up a d)) := rfl
                    cases e4 : Lat.fl up b d
                    · have HE4 := Lib.hid e4
                      go_wp2_with (go_at_call 42; refine (HFL.out _ _ _ (by assumption) (by omega) (by omega)).mono ?_; rintro e w' ⟨rfl, hatq, hcq0, hcq1⟩)
                      go_roundw
                      case rel => exact ⟨d + 1, by omega, by go_num, by rw [all_succ, HALLC.out, HT.out, HE4.out]; simp, by assumption⟩
                      case measure => simp [intOf]; omega
                    · have HE4 := Lib.hid e4
                      cases e5 : Lat.fl up a d
                      · have HE5 := Lib.hid e5
                        go_wp2_with (go_at_call 42; refine (HFL.out _ _ _ (by assumption) (by omega) (by omega)).mono ?_; rintro e w' ⟨rfl, hatq, hcq0, hcq1⟩)
                        go_roundw
                        case rel => exact ⟨d + 1, by omega, by go_num, by rw [all_succ, HALLC.out, HT.out, HE1.out]; simp, by assumption⟩
                        case measure => simp [intOf]; omega
                      · have HE5 := Lib.hid e5
                        go_wp2_with (go_at_call 42; refine (HFL.out _ _ _ (by assumption) (by omega) (by omega)).mono ?_; rintro e w' ⟨rfl, hatq, hcq0, hcq1⟩)
                        go_roundw
                        case rel => exact ⟨d + 1, by omega, by go_num, by rw [all_succ, HALLC.out, HT.out, HE4.out, HE5.out]; simp, by assumption⟩
                        case measure => simp [intOf]; omega
                  · obtain rfl : d = up.length := by omega
                    have hdd : duo up a b = true := by rw [HD.out, HALLC.out, HDB.out]; rfl
                    have HDD := Lib.hid hdd
                    clear hdd
                    go_wp2
                    go_roundw
                    case rel => exact ⟨b + 1, by omega, by go_num, by rw [all_succ, HALLB.out, HDD.out]; rfl, hatd⟩
                    case measure => simp [intOf]; omega
              · have HE1 := Lib.hid e1
                cases e2 : Lat.fl up b a
                · have HE2 := Lib.hid e2
                  have HDB : Hid ((!(a != b && Lat.fl up a b && Lat.fl up b a)) = true) := by unfold Hid; simp [e2]
                  go_wp2_with (go_at_call 42; refine (HFL.out _ _ _ (by assumption) (by omega) (by omega)).mono ?_; rintro e w' ⟨rfl, hat', hc0', hc1'⟩)
                  go_loopw [41] (fun i wr => ∃ c₂ : Nat, c₂ ≤ up.length ∧ i = .int .i64 c₂ ∧ (List.range c₂).all (tri up a b) = true ∧ At w (.slice A names.length c) (.slice A' up.length c') wr) (fun i _ => up.length - (intOf i).toNat)
                  case atStart => exact ⟨0, Nat.zero_le _, rfl, rfl, by assumption⟩
                  case round =>
                    obtain ⟨d, hd, rfl, hallc, hatd⟩ := hrel
                    have HALLC := Lib.hid hallc
                    have hcd0 := hatd.c0
                    have hcd1 := hatd.c1
                    clear hallc
                    by_cases hld : d < up.length
                    · have HT : Hid (tri up a b d = !(Lat.fl up a b && Lat.fl up b d && !Lat.fl up a d)) := rfl
                      cases e4 : Lat.fl up b d
                      · have HE4 := Lib.hid e4
                        go_wp2_with (go_at_call 42; refine (HFL.out _ _ _ (by assumption) (by omega) (by omega)).mono ?_; rintro e w' ⟨rfl, hatq, hcq0, hcq1⟩)
                        go_roundw
                        case rel => exact ⟨d + 1, by omega, by go_num, by rw [all_succ, HALLC.out, HT.out, HE4.out]; simp, by assumption⟩
                        case measure => simp [intOf]; omega
                      · have HE4 := Lib.hid e4
                        cases e5 : Lat.fl up a d
                        · have HE5 := Lib.hid e5
                          go_wp2_with (go_at_call 42; refine (HFL.out _ _ _ (by assumption) (by omega) (by omega)).mono ?_; rintro e w' ⟨rfl, hatq, hcq0, hcq1⟩)
                          (go_ret
                           exact ⟨ret_bool (by rw [HR.out, all_range_false hla (by rw [HU.out, HE0.out, all_range_false hlb (by rw [HD.out, all_range_false hld (by rw [HT.out, HE1.out, HE4.out, HE5.out]; rfl)]; simp)]; rfl)]), (show At w (.slice A names.length c) (.slice A' up.length c') _ by assumption).2⟩)
                        · have HE5 := Lib.hid e5
                          go_wp2_with (go_at_call 42; refine (HFL.out _ _ _ (by assumption) (by omega) (by omega)).mono ?_; rintro e w' ⟨rfl, hatq, hcq0, hcq1⟩)
                          go_roundw
                          case rel => exact ⟨d + 1, by omega, by go_num, by rw [all_succ, HALLC.out, HT.out, HE4.out, HE5.out]; simp, by assumption⟩
                          case measure => simp [intOf]; omega
                    · obtain rfl : d = up.length := by omega
                      have hdd : duo up a b = true := by rw [HD.out, HALLC.out, HDB.out]; rfl
                      have HDD := Lib.hid hdd
                      clear hdd
                      go_wp2
                      go_roundw
                      case rel => exact ⟨b + 1, by omega, by go_num, by rw [all_succ, HALLB.out, HDD.out]; rfl, hatd⟩
                      case measure => simp [intOf]; omega
                · have HE2 := Lib.hid e2
                  go_wp2_with (go_at_call 42; refine (HFL.out _ _ _ (by assumption) (by omega) (by omega)).mono ?_; rintro e w' ⟨rfl, hat', hc0', hc1'⟩)
                  go_ret
                  exact ⟨ret_bool (by rw [HR.out, all_range_false hla (by rw [HU.out, HE0.out, all_range_false hlb (by rw [HD.out, HE1.out, HE2.out]; simp [hab])]; rfl)]), (show At w (.slice A names.length c) (.slice A' up.length c') _ by assumption).2⟩
          · obtain rfl : b = up.length := by omega
            go_wp2
            go_roundw
            case rel => exact ⟨a + 1, by omega, by go_num, by rw [all_succ, HALL.out, HU.out, HE0.out, HALLB.out]; rfl, hatb⟩
            case measure => simp [intOf]; omega
    · obtain rfl : a = up.length := by omega
      go_wp2
      go_ret
      exact ⟨ret_bool (by rw [HR.out, HALL.out]), hat.2⟩
end Go.Proofs.Ytaingkjleelbfaa
