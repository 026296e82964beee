/- Walks of the reference's Flows, Join, Meet. -/
import Derived.Test.YtaingkjleelbfaaPub
namespace Go.Proofs.Ytaingkjleelbfaa
open Go.RowKit

theorem half (x k : Nat) : ((x / 2 ^ k : Nat) : Int) / 2 = ((x / 2 ^ (k + 1) : Nat) : Int) := by rw [Nat.pow_succ, ← Nat.div_div_eq_div_mul]; simp

set_option maxHeartbeats 1000000 in
theorem rFlows_any {v : Value} {names : List ByteArray} {up : List Nat} (a b : Nat) (w : World) (h : IsLat w w.heap.size v names up) (ha : a < up.length) (hb : b ≤ 1000) :
    Calls Try.prog 42 #[v, .int .i64 a, .int .i64 b] w fun e w' => e = .returned (.bool (Lat.fl up a b)) ∧ Below w.heap.size w w' := by
  obtain ⟨⟨A, A', c, c', rfl, hN, hU⟩, hshort, ⟨hf1, hf2⟩, -⟩ := h
  have hb0 : Below w.heap.size w (w.alloc (.cells #[.slice A names.length c, .slice A' up.length c'] 25)) := (Below.refl _ w).alloc (Nat.le_refl _) _
  obtain ⟨ad, x, rfl, had, hx, hx32, hc⟩ := hU.at_ ha
  have hc' := (hb0.cell (p := ad.add a) (by rw [add_block]; exact had)).trans hc
  have hf : Lat.fl up a b = x.testBit b := by unfold Lat.fl; rw [List.getD_eq_getElem?_getD, hx]; rfl
  have HF := Lib.hid hf
  clear hf hx hN hU
  go_enter Try.func42, Try.ntmps42
  go_wp2
  go_loop [7, 8] (fun y i => ∃ k : Nat, k ≤ b ∧ i = .int .i64 k ∧ y = .int .u32 ((x / 2 ^ k : Nat) : Int)) (fun _ i => b - (intOf i).toNat)
  case atStart => exact ⟨0, Nat.zero_le _, rfl, by simp⟩
  case round =>
    obtain ⟨k, hk, rfl, rfl⟩ := hrel
    have hbd : x / 2 ^ k < 4294967296 := Nat.lt_of_le_of_lt (Nat.div_le_self _ _) hx32
    obtain ⟨y, hy⟩ : ∃ y, x / 2 ^ k = y := ⟨_, rfl⟩
    rw [hy] at hbd ⊢
    have HY := Lib.hid hy
    clear hy
    by_cases hlt : k < b
    · go_wp2
      go_round
      case rel => exact ⟨k + 1, by omega, by go_num, by rw [← half, HY.out]⟩
      case measure => simp [intOf]; omega
    · obtain rfl : k = b := by omega
      go_wp2
      go_ret
      exact ⟨ret_bool (by rw [HF.out, Nat.testBit_eq_decide_div_mod_eq, HY.out, Bool.eq_iff_iff]; simp; omega), hb0⟩

/-- What the reference's functions ask of the world: the box, and what is below it. -/
def At (w : World) (x0 x1 : Value) (W : World) : Prop := Blk W w.heap.size 25 #[x0, x1] ∧ Below w.heap.size w W
theorem At.c0 {w : World} {x0 x1 : Value} {W : World} (h : At w x0 x1 W) : W.cell? ⟨w.heap.size, 0, none⟩ = some x0 := by rw [h.1.cell]; rfl
theorem At.c1 {w : World} {x0 x1 : Value} {W : World} (h : At w x0 x1 W) : W.cell? ⟨w.heap.size, 1, none⟩ = some x1 := by rw [h.1.cell]; rfl
theorem At.start (w : World) (x0 x1 : Value) : At w x0 x1 (w.alloc (.cells #[x0, x1] 25)) := ⟨Blk.new _ _ _, (Below.refl _ w).alloc (Nat.le_refl _) _⟩
theorem At.next {w : World} {x0 x1 : Value} {W W' : World} (h : At w x0 x1 W) (hb : Below W.heap.size W W') : At w x0 x1 W' := ⟨h.1.below hb h.1.lt, h.2.trans (hb.mono h.2.size)⟩
theorem At.lat {w : World} {x0 x1 : Value} {W : World} {v : Value} {names : List ByteArray} {up : List Nat} (h : At w x0 x1 W) (hl : IsLat w w.heap.size v names up) : IsLat W W.heap.size v names up := (hl.below h.2).more h.2.size

theorem At.flows {v x0 x1 : Value} {names : List ByteArray} {up : List Nat} {w : World} (h : IsLat w w.heap.size v names up) (a b : Nat) {W : World} (hW : At w x0 x1 W) (ha : a < up.length) (hb : b < up.length) :
    Calls Try.prog 42 #[v, .int .i64 a, .int .i64 b] W fun e w' => e = .returned (.bool (Lat.fl up a b)) ∧ At w x0 x1 w' ∧ w'.cell? ⟨w.heap.size, 0, none⟩ = some x0 ∧ w'.cell? ⟨w.heap.size, 1, none⟩ = some x1 :=
  (rFlows_any a b W (hW.lat h) ha (by have := h.few.2; omega)).mono fun _ _ ⟨he, hb⟩ => ⟨he, hW.next hb, (hW.next hb).c0, (hW.next hb).c1⟩

def jAll (up : List Nat) (a b c d : Nat) : Bool := !(Lat.fl up a d && Lat.fl up b d && !Lat.fl up c d)
def jOk (up : List Nat) (a b c : Nat) : Bool := Lat.fl up a c && Lat.fl up b c && (List.range up.length).all (jAll up a b c)
def rJoin (up : List Nat) (a b : Nat) : Int := match (List.range up.length).find? (jOk up a b) with | some c => (c : Int) | none => -1
def mAll (up : List Nat) (a b c d : Nat) : Bool := !(Lat.fl up d a && Lat.fl up d b && !Lat.fl up d c)
def mOk (up : List Nat) (a b c : Nat) : Bool := Lat.fl up c a && Lat.fl up c b && (List.range up.length).all (mAll up a b c)
def rMeet (up : List Nat) (a b : Nat) : Int := match (List.range up.length).find? (mOk up a b) with | some c => (c : Int) | none => -1

def jTo (up : List Nat) (a b c d : Nat) : Bool := Lat.fl up a c && Lat.fl up b c && (List.range d).all (jAll up a b c)
theorem jTo_zero (up : List Nat) (a b c : Nat) : jTo up a b c 0 = (Lat.fl up a c && Lat.fl up b c) := by simp [jTo]
theorem jTo_succ (up : List Nat) (a b c d : Nat) : jTo up a b c (d + 1) = (jTo up a b c d && jAll up a b c d) := by simp [jTo, List.range_succ, Bool.and_assoc]
def mTo (up : List Nat) (a b c d : Nat) : Bool := Lat.fl up c a && Lat.fl up c b && (List.range d).all (mAll up a b c)
theorem mTo_zero (up : List Nat) (a b c : Nat) : mTo up a b c 0 = (Lat.fl up c a && Lat.fl up c b) := by simp [mTo]
theorem mTo_succ (up : List Nat) (a b c d : Nat) : mTo up a b c (d + 1) = (mTo up a b c d && mAll up a b c d) := by simp [mTo, List.range_succ, Bool.and_assoc]

set_option maxHeartbeats 4000000 in
theorem rJoin_any {v : Value} {names : List ByteArray} {up : List Nat} (a b : Nat) (w : World) (h : IsLat w w.heap.size v names up) (ha : a < up.length) (hb : b < up.length) :
    Calls Try.prog 40 #[v, .int .i64 a, .int .i64 b] w fun e w' => e = .returned (.int .i64 (rJoin up a b)) ∧ Below w.heap.size w w' := by
  have h' := h
  obtain ⟨⟨A, A', c, c', rfl, -, -⟩, -, ⟨hf1, hf2⟩, -⟩ := h'
  have hst := At.start w (.slice A names.length c) (.slice A' up.length c')
  have HFL := Lib.hid (fun (i j : Nat) (W : World) (hW : At w (.slice A names.length c) (.slice A' up.length c') W) hi hj => At.flows h i j hW hi hj)
  have HR : Hid (rJoin up a b = match (List.range up.length).find? (jOk up a b) with | some c => (c : Int) | none => -1) := rfl
  clear h
  go_enter Try.func40, Try.ntmps40
  go_wp2
  go_loopw [13] (fun i wr => ∃ k : Nat, k ≤ up.length ∧ i = .int .i64 k ∧ (∀ j, j < k → jOk up a b j = false) ∧ At w (.slice A names.length c) (.slice A' up.length c') wr) (fun i _ => up.length - (intOf i).toNat)
  case atStart => exact ⟨0, Nat.zero_le _, rfl, fun j hj => absurd hj (Nat.not_lt_zero j), hst⟩
  case round =>
    obtain ⟨k, hk, rfl, hno, hat⟩ := hrel
    have HNO := Lib.hid hno
    have hc0 := hat.c0
    have hc1 := hat.c1
    clear hno hst
    by_cases hlt : k < up.length
    · obtain ⟨wo, rfl⟩ : ∃ wo : World, wo = wr := ⟨_, rfl⟩
      have hz := jTo_zero up a b k
      cases e1 : Lat.fl up a k <;> cases e2 : Lat.fl up b k
      all_goals
        rw [e1, e2] at hz
        have HZ := Lib.hid hz
        clear hz
        go_wp2_with (go_at_call 42; refine (HFL.out _ _ _ (by assumption) (by omega) (by omega)).mono ?_; rintro e w' ⟨rfl, hat', hc0', hc1'⟩)
        go_loopw [8, 29] (fun y i wr => ∃ d : Nat, d ≤ up.length ∧ i = .int .i64 d ∧ y = .bool (jTo up a b k d) ∧ At w (.slice A names.length c) (.slice A' up.length c') wr) (fun _ i _ => up.length - (intOf i).toNat)
        case atStart => exact ⟨0, Nat.zero_le _, rfl, by rw [HZ.out]; rfl, by assumption⟩
        case round =>
          obtain ⟨d, hd, rfl, rfl, hatd⟩ := hrel
          have hcd0 := hatd.c0
          have hcd1 := hatd.c1
          have HS : Hid (jTo up a b k (d + 1) = (jTo up a b k d && !(Lat.fl up a d && Lat.fl up b d && !Lat.fl up k d))) := jTo_succ up a b k d
          obtain ⟨t, ht⟩ : ∃ t, jTo up a b k d = t := ⟨_, rfl⟩
          have HT := Lib.hid ht
          rw [ht]
          clear ht
          by_cases hld : d < up.length
          · cases e3 : Lat.fl up a d
            · have HE3 := Lib.hid e3
              go_wp2_with (go_at_call 42; refine (HFL.out _ _ _ (by assumption) (by omega) (by omega)).mono ?_; rintro e w' ⟨rfl, hat', hc0', hc1'⟩)
              go_roundw
              case rel => exact ⟨d + 1, by omega, by go_num, by rw [HS.out, HT.out, HE3.out]; simp, by assumption⟩
              case measure => simp [intOf]; omega
            · have HE3 := Lib.hid e3
              cases e4 : Lat.fl up b d
              · have HE4 := Lib.hid e4
                go_wp2_with (go_at_call 42; refine (HFL.out _ _ _ (by assumption) (by omega) (by omega)).mono ?_; rintro e w' ⟨rfl, hat', hc0', hc1'⟩)
                go_roundw
                case rel => exact ⟨d + 1, by omega, by go_num, by rw [HS.out, HT.out, HE3.out, HE4.out]; simp, by assumption⟩
                case measure => simp [intOf]; omega
              · have HE4 := Lib.hid e4
                cases e5 : Lat.fl up k d
                all_goals
                  have HE5 := Lib.hid e5
                  go_wp2_with (go_at_call 42; refine (HFL.out _ _ _ (by assumption) (by omega) (by omega)).mono ?_; rintro e w' ⟨rfl, hat', hc0', hc1'⟩)
                  go_roundw
                  case rel => exact ⟨d + 1, by omega, by go_num, by rw [HS.out, HT.out, HE3.out, HE4.out, HE5.out]; simp, by assumption⟩
                  case measure => simp [intOf]; omega
          · obtain rfl : d = up.length := by omega
            cases t
            · have hkk : jOk up a b k = false := HT.out
              have HKK := Lib.hid hkk
              clear hkk
              go_wp2
              go_roundw
              case rel => exact ⟨k + 1, by omega, by go_num, fun j hj => by
                rcases Nat.lt_or_eq_of_le (Nat.le_of_lt_succ hj) with h | rfl
                · exact HNO.out j h
                · exact HKK.out, hatd⟩
              case measure => simp [intOf]; omega
            · have hkk : jOk up a b k = true := HT.out
              have HKK := Lib.hid hkk
              clear hkk
              go_wp2
              go_ret
              exact ⟨ret_i64 (by rw [HR.out, Lat.find_range _ _ _ hlt HNO.out HKK.out]), hatd.2⟩
    · obtain rfl : k = up.length := by omega
      go_wp2
      go_ret
      exact ⟨ret_i64 (by rw [HR.out, Lat.find_range_none _ _ HNO.out]), hat.2⟩
set_option maxHeartbeats 4000000 in
theorem rMeet_any {v : Value} {names : List ByteArray} {up : List Nat} (a b : Nat) (w : World) (h : IsLat w w.heap.size v names up) (ha : a < up.length) (hb : b < up.length) :
    Calls Try.prog 41 #[v, .int .i64 a, .int .i64 b] w fun e w' => e = .returned (.int .i64 (rMeet up a b)) ∧ Below w.heap.size w w' := by
  have h' := h
  obtain ⟨⟨A, A', c, c', rfl, -, -⟩, -, ⟨hf1, hf2⟩, -⟩ := h'
  have hst := At.start w (.slice A names.length c) (.slice A' up.length c')
  have HFL := Lib.hid (fun (i j : Nat) (W : World) (hW : At w (.slice A names.length c) (.slice A' up.length c') W) hi hj => At.flows h i j hW hi hj)
  have HR : Hid (rMeet up a b = match (List.range up.length).find? (mOk up a b) with | some c => (c : Int) | none => -1) := rfl
  clear h
  go_enter Try.func41, Try.ntmps41
  go_wp2
  go_loopw [13] (fun i wr => ∃ k : Nat, k ≤ up.length ∧ i = .int .i64 k ∧ (∀ j, j < k → mOk up a b j = false) ∧ At w (.slice A names.length c) (.slice A' up.length c') wr) (fun i _ => up.length - (intOf i).toNat)
  case atStart => exact ⟨0, Nat.zero_le _, rfl, fun j hj => absurd hj (Nat.not_lt_zero j), hst⟩
  case round =>
    obtain ⟨k, hk, rfl, hno, hat⟩ := hrel
    have HNO := Lib.hid hno
    have hc0 := hat.c0
    have hc1 := hat.c1
    clear hno hst
    by_cases hlt : k < up.length
    · obtain ⟨wo, rfl⟩ : ∃ wo : World, wo = wr := ⟨_, rfl⟩
      have hz := mTo_zero up a b k
      cases e1 : Lat.fl up k a <;> cases e2 : Lat.fl up k b
      all_goals
        rw [e1, e2] at hz
        have HZ := Lib.hid hz
        clear hz
        go_wp2_with (go_at_call 42; refine (HFL.out _ _ _ (by assumption) (by omega) (by omega)).mono ?_; rintro e w' ⟨rfl, hat', hc0', hc1'⟩)
        go_loopw [8, 29] (fun y i wr => ∃ d : Nat, d ≤ up.length ∧ i = .int .i64 d ∧ y = .bool (mTo up a b k d) ∧ At w (.slice A names.length c) (.slice A' up.length c') wr) (fun _ i _ => up.length - (intOf i).toNat)
        case atStart => exact ⟨0, Nat.zero_le _, rfl, by rw [HZ.out]; rfl, by assumption⟩
        case round =>
          obtain ⟨d, hd, rfl, rfl, hatd⟩ := hrel
          have hcd0 := hatd.c0
          have hcd1 := hatd.c1
          have HS : Hid (mTo up a b k (d + 1) = (mTo up a b k d && !(Lat.fl up d a && Lat.fl up d b && !Lat.fl up d k))) := mTo_succ up a b k d
          obtain ⟨t, ht⟩ : ∃ t, mTo up a b k d = t := ⟨_, rfl⟩
          have HT := Lib.hid ht
          rw [ht]
          clear ht
          by_cases hld : d < up.length
          · cases e3 : Lat.fl up d a
            · have HE3 := Lib.hid e3
              go_wp2_with (go_at_call 42; refine (HFL.out _ _ _ (by assumption) (by omega) (by omega)).mono ?_; rintro e w' ⟨rfl, hat', hc0', hc1'⟩)
              go_roundw
              case rel => exact ⟨d + 1, by omega, by go_num, by rw [HS.out, HT.out, HE3.out]; simp, by assumption⟩
              case measure => simp [intOf]; omega
            · have HE3 := Lib.hid e3
              cases e4 : Lat.fl up d b
              · have HE4 := Lib.hid e4
                go_wp2_with (go_at_call 42; refine (HFL.out _ _ _ (by assumption) (by omega) (by omega)).mono ?_; rintro e w' ⟨rfl, hat', hc0', hc1'⟩)
                go_roundw
                case rel => exact ⟨d + 1, by omega, by go_num, by rw [HS.out, HT.out, HE3.out, HE4.out]; simp, by assumption⟩
                case measure => simp [intOf]; omega
              · have HE4 := Lib.hid e4
                cases e5 : Lat.fl up d k
                all_goals
                  have HE5 := Lib.hid e5
                  go_wp2_with (go_at_call 42; refine (HFL.out _ _ _ (by assumption) (by omega) (by omega)).mono ?_; rintro e w' ⟨rfl, hat', hc0', hc1'⟩)
                  go_roundw
                  case rel => exact ⟨d + 1, by omega, by go_num, by rw [HS.out, HT.out, HE3.out, HE4.out, HE5.out]; simp, by assumption⟩
                  case measure => simp [intOf]; omega
          · obtain rfl : d = up.length := by omega
            cases t
            · have hkk : mOk up a b k = false := HT.out
              have HKK := Lib.hid hkk
              clear hkk
              go_wp2
              go_roundw
              case rel => exact ⟨k + 1, by omega, by go_num, fun j hj => by
                rcases Nat.lt_or_eq_of_le (Nat.le_of_lt_succ hj) with h | rfl
                · exact HNO.out j h
                · exact HKK.out, hatd⟩
              case measure => simp [intOf]; omega
            · have hkk : mOk up a b k = true := HT.out
              have HKK := Lib.hid hkk
              clear hkk
              go_wp2
              go_ret
              exact ⟨ret_i64 (by rw [HR.out, Lat.find_range _ _ _ hlt HNO.out HKK.out]), hatd.2⟩
    · obtain rfl : k = up.length := by omega
      go_wp2
      go_ret
      exact ⟨ret_i64 (by rw [HR.out, Lat.find_range_none _ _ HNO.out]), hat.2⟩
end Go.Proofs.Ytaingkjleelbfaa
