/- Walks of the reference's Check, Bottom, Top, and of the law's there. -/
import Derived.Test.YtaingkjleelbfaaRefMay
namespace Go.Proofs.Ytaingkjleelbfaa
open Go.RowKit

def bothOk (up : List Nat) (a b : Nat) : Bool := !(decide (rJoin up a b < 0) || decide (rMeet up a b < 0))
def rBoth (up : List Nat) (a : Nat) : Bool := (List.range up.length).all (bothOk up a)
def rCheckN (names : List ByteArray) (up : List Nat) : Nat := if rMay names up then if rOrder up then if (List.range up.length).all (rBoth up) then 0 else 3 else 2 else 1

theorem rMeet_bd {up : List Nat} {a b : Nat} (h : 0 ≤ rMeet up a b) : ∃ c : Nat, rMeet up a b = c ∧ c < up.length ∧ mOk up a b c = true := by
  unfold rMeet at h ⊢
  cases e : (List.range up.length).find? (mOk up a b) with
  | none => rw [e] at h; simp at h
  | some c => exact ⟨c, rfl, by simpa using List.mem_of_find?_eq_some e, List.find?_some e⟩
theorem rJoin_bd {up : List Nat} {a b : Nat} (h : 0 ≤ rJoin up a b) : ∃ c : Nat, rJoin up a b = c ∧ c < up.length ∧ jOk up a b c = true := by
  unfold rJoin at h ⊢
  cases e : (List.range up.length).find? (jOk up a b) with
  | none => rw [e] at h; simp at h
  | some c => exact ⟨c, rfl, by simpa using List.mem_of_find?_eq_some e, List.find?_some e⟩

set_option maxHeartbeats 4000000 in
theorem rCheck_any {v : Value} {names : List ByteArray} {up : List Nat} (w : World) (h : IsLat w w.heap.size v names up) :
    Calls Try.prog 17 #[v] w fun e w' => e = .returned (.int .i64 (rCheckN names up : Nat)) ∧ Below w.heap.size w w' := by
  have h' := h
  obtain ⟨⟨A, A', c, c', rfl, -, -⟩, -, ⟨hf1, hf2⟩, -⟩ := h'
  have hst := At.start w (.slice A names.length c) (.slice A' up.length c')
  have HMAY := Lib.hid (fun (W : World) (hW : At w (.slice A names.length c) (.slice A' up.length c') W) => (rMay_any W (hW.lat h)).mono (R' := fun e w' => e = .returned (.bool (rMay names up)) ∧ At w (.slice A names.length c) (.slice A' up.length c') w' ∧ w'.cell? ⟨w.heap.size, 0, none⟩ = some (.slice A names.length c) ∧ w'.cell? ⟨w.heap.size, 1, none⟩ = some (.slice A' up.length c')) fun _ _ ⟨he, hb⟩ => ⟨he, hW.next hb, (hW.next hb).c0, (hW.next hb).c1⟩)
  have HORD := Lib.hid (fun (W : World) (hW : At w (.slice A names.length c) (.slice A' up.length c') W) => (rOrder_any W (hW.lat h)).mono (R' := fun e w' => e = .returned (.bool (rOrder up)) ∧ At w (.slice A names.length c) (.slice A' up.length c') w' ∧ w'.cell? ⟨w.heap.size, 0, none⟩ = some (.slice A names.length c) ∧ w'.cell? ⟨w.heap.size, 1, none⟩ = some (.slice A' up.length c')) fun _ _ ⟨he, hb⟩ => ⟨he, hW.next hb, (hW.next hb).c0, (hW.next hb).c1⟩)
  have HJ := Lib.hid (fun (a b : Nat) (W : World) (hW : At w (.slice A names.length c) (.slice A' up.length c') W) (ha : a < up.length) (hb : b < up.length) => (rJoin_any a b W (hW.lat h) ha hb).mono (R' := fun e w' => e = .returned (.int .i64 (rJoin up a b)) ∧ At w (.slice A names.length c) (.slice A' up.length c') w' ∧ w'.cell? ⟨w.heap.size, 0, none⟩ = some (.slice A names.length c) ∧ w'.cell? ⟨w.heap.size, 1, none⟩ = some (.slice A' up.length c')) fun _ _ ⟨he, hb⟩ => ⟨he, hW.next hb, (hW.next hb).c0, (hW.next hb).c1⟩)
  have HM := Lib.hid (fun (a b : Nat) (W : World) (hW : At w (.slice A names.length c) (.slice A' up.length c') W) (ha : a < up.length) (hb : b < up.length) => (rMeet_any a b W (hW.lat h) ha hb).mono (R' := fun e w' => e = .returned (.int .i64 (rMeet up a b)) ∧ At w (.slice A names.length c) (.slice A' up.length c') w' ∧ w'.cell? ⟨w.heap.size, 0, none⟩ = some (.slice A names.length c) ∧ w'.cell? ⟨w.heap.size, 1, none⟩ = some (.slice A' up.length c')) fun _ _ ⟨he, hb⟩ => ⟨he, hW.next hb, (hW.next hb).c0, (hW.next hb).c1⟩)
  have HR : Hid (rCheckN names up = if rMay names up then if rOrder up then if (List.range up.length).all (rBoth up) then 0 else 3 else 2 else 1) := rfl
  clear h
  cases e1 : rMay names up
  · have HE1 := Lib.hid e1
    go_enter Try.func17, Try.ntmps17
    go_wp2_with (go_at_call 38; refine (HMAY.out _ (by assumption)).mono ?_; rintro e w' ⟨rfl, hat, hc0, hc1⟩)
    go_ret
    exact ⟨ret_i64 (by rw [HR.out, HE1.out]; rfl), (show At w (.slice A names.length c) (.slice A' up.length c') _ by assumption).2⟩
  · have HE1 := Lib.hid e1
    cases e2 : rOrder up
    · have HE2 := Lib.hid e2
      go_enter Try.func17, Try.ntmps17
      go_wp2_with (first | (go_at_call 38; refine (HMAY.out _ (by assumption)).mono ?_; rintro e w' ⟨rfl, hat, hc0, hc1⟩) | (go_at_call 39; refine (HORD.out _ (by assumption)).mono ?_; rintro e w' ⟨rfl, hat, hc0, hc1⟩))
      go_ret
      exact ⟨ret_i64 (by rw [HR.out, HE1.out, HE2.out]; rfl), (show At w (.slice A names.length c) (.slice A' up.length c') _ by assumption).2⟩
    · have HE2 := Lib.hid e2
      go_enter Try.func17, Try.ntmps17
      go_wp2_with (first | (go_at_call 38; refine (HMAY.out _ (by assumption)).mono ?_; rintro e w' ⟨rfl, hat, hc0, hc1⟩) | (go_at_call 39; refine (HORD.out _ (by assumption)).mono ?_; rintro e w' ⟨rfl, hat, hc0, hc1⟩))
      go_loopw [14] (fun i wr => ∃ a : Nat, a ≤ up.length ∧ i = .int .i64 a ∧ (List.range a).all (rBoth up) = true ∧ At w (.slice A names.length c) (.slice A' up.length c') wr) (fun i _ => up.length - (intOf i).toNat)
      case atStart => exact ⟨0, Nat.zero_le _, rfl, rfl, by assumption⟩
      case round =>
        obtain ⟨a, ha, rfl, hall, hata⟩ := hrel
        have HALL := Lib.hid hall
        have hca0 := hata.c0
        have hca1 := hata.c1
        clear hall hst
        by_cases hla : a < up.length
        · obtain ⟨wo, rfl⟩ : ∃ wo : World, wo = wr := ⟨_, rfl⟩
          go_wp2
          go_loopw [20] (fun i wr => ∃ b : Nat, b ≤ up.length ∧ i = .int .i64 b ∧ (List.range b).all (bothOk up a) = true ∧ At w (.slice A names.length c) (.slice A' up.length c') wr) (fun i _ => up.length - (intOf i).toNat)
          case atStart => exact ⟨0, Nat.zero_le _, rfl, rfl, hata⟩
          case round =>
            obtain ⟨b, hb, rfl, hallb, hatb⟩ := hrel
            have HALLB := Lib.hid hallb
            have hcb0 := hatb.c0
            have hcb1 := hatb.c1
            clear hallb hata hca0 hca1
            by_cases hlb : b < up.length
            · have hbo : bothOk up a b = !(decide (rJoin up a b < 0) || decide (rMeet up a b < 0)) := rfl
              have HBO := Lib.hid hbo
              have hj := fun W hW => HJ.out a b W hW hla hlb
              have hm := fun W hW => HM.out a b W hW hla hlb
              obtain ⟨x, hx⟩ : ∃ x, rJoin up a b = x := ⟨_, rfl⟩
              obtain ⟨y, hy⟩ : ∃ y, rMeet up a b = y := ⟨_, rfl⟩
              rw [hx] at hj
              rw [hy] at hm
              have HX := Lib.hid hx
              have HY := Lib.hid hy
              have HJ' := Lib.hid hj
              have HM' := Lib.hid hm
              clear hbo hj hm hx hy
              by_cases x0 : x < 0
              · go_wp2_with (first | (go_at_call 40; refine (HJ'.out _ (by assumption)).mono ?_; rintro e w' ⟨rfl, hat, hc0, hc1⟩) | (go_at_call 41; refine (HM'.out _ (by assumption)).mono ?_; rintro e w' ⟨rfl, hat, hc0, hc1⟩))
                go_ret
                exact ⟨ret_i64 (by rw [HR.out, HE1.out, HE2.out, all_range_false hla (all_range_false hlb (by rw [HBO.out, HX.out]; simp [x0]))]; rfl), (show At w (.slice A names.length c) (.slice A' up.length c') _ by assumption).2⟩
              · by_cases y0 : y < 0
                · go_wp2_with (first | (go_at_call 40; refine (HJ'.out _ (by assumption)).mono ?_; rintro e w' ⟨rfl, hat, hc0, hc1⟩) | (go_at_call 41; refine (HM'.out _ (by assumption)).mono ?_; rintro e w' ⟨rfl, hat, hc0, hc1⟩))
                  go_ret
                  exact ⟨ret_i64 (by rw [HR.out, HE1.out, HE2.out, all_range_false hla (all_range_false hlb (by rw [HBO.out, HY.out]; simp [y0]))]; rfl), (show At w (.slice A names.length c) (.slice A' up.length c') _ by assumption).2⟩
                · go_wp2_with (first | (go_at_call 40; refine (HJ'.out _ (by assumption)).mono ?_; rintro e w' ⟨rfl, hat, hc0, hc1⟩) | (go_at_call 41; refine (HM'.out _ (by assumption)).mono ?_; rintro e w' ⟨rfl, hat, hc0, hc1⟩))
                  go_roundw
                  case rel => exact ⟨b + 1, by omega, by go_num, by rw [all_succ, HALLB.out, HBO.out, HX.out, HY.out]; simp; omega, by assumption⟩
                  case measure => simp [intOf]; omega
            · obtain rfl : b = up.length := by omega
              go_wp2
              go_roundw
              case rel => exact ⟨a + 1, by omega, by go_num, by rw [all_succ, HALL.out]; exact HALLB.out, hatb⟩
              case measure => simp [intOf]; omega
        · obtain rfl : a = up.length := by omega
          go_wp2
          go_ret
          exact ⟨ret_i64 (by rw [HR.out, HE1.out, HE2.out, HALL.out]; rfl), hata.2⟩

def rBotTo (up : List Nat) : Nat → Nat
  | 0 => 0
  | k + 1 => (rMeet up (rBotTo up k) k).toNat
def rTopTo (up : List Nat) : Nat → Nat
  | 0 => 0
  | k + 1 => (rJoin up (rTopTo up k) k).toNat

end Go.Proofs.Ytaingkjleelbfaa
