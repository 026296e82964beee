/- Walks of lattice's Flows, Join, Meet, Bottom, Top. -/
import Derived.Deep.RegionWith
import Derived.Test.YtmbgndcahlopdaaGOrd
import Derived.Test.YtmbgndcahlopdaaGLat
namespace Go.Proofs.Ytmbgndcahlopdaa
set_option maxRecDepth 100000
open Go.RowKit

theorem checkN_zero {names : List ByteArray} {up : List Nat} (h : checkN names up = 0) : mayB names up = true ∧ Lat.isOrder up = true ∧ Lat.isLattice up = true := by
  unfold checkN at h
  cases h1 : mayB names up <;> rw [h1] at h <;> simp at h
  cases h2 : Lat.isOrder up <;> rw [h2] at h <;> simp at h
  cases h3 : Lat.isLattice up <;> rw [h3] at h <;> simp at h
  exact ⟨rfl, rfl, rfl⟩
theorem len_of_checkN {names : List ByteArray} {up : List Nat} (h : checkN names up = 0) : 1 ≤ up.length ∧ up.length ≤ 8 := by
  have := mayB_len (checkN_zero h).1
  exact ⟨this.1, this.2.1⟩

end Go.Proofs.Ytmbgndcahlopdaa

/- Walks of the reference's Flows, Join, Meet. -/
namespace Go.Proofs.Ytmbgndcahlopdaa
set_option maxRecDepth 100000
open Go.RowKit

theorem half (x k : Nat) : ((x / 2 ^ k : Nat) : Int) / 2 = ((x / 2 ^ (k + 1) : Nat) : Int) := by rw [Nat.pow_succ, ← Nat.div_div_eq_div_mul]; simp

set_option maxHeartbeats 1000000 in
theorem rFlows_any {v : Value} {names : List ByteArray} {up : List Nat} (a b : Nat) (w : World) (h : IsLat w w.heap.size v names up) (ha : a < up.length) (hb : b ≤ 1000) :
    Calls Try.prog 76 #[v, .int .i64 a, .int .i64 b] w fun e w' => e = .returned (.bool (Lat.fl up a b)) ∧ Below w.heap.size w w' := by
  obtain ⟨⟨A, A', c, c', rfl, hN, hU⟩, hshort, ⟨hf1, hf2⟩, -⟩ := h
  have hb0 : Below w.heap.size w (w.alloc (.cells #[.slice A names.length c, .slice A' up.length c'] 25)) := (Below.refl _ w).alloc (Nat.le_refl _) _
  obtain ⟨ad, x, rfl, had, hx, hx32, hc⟩ := hU.at_ ha
  have hc' := (hb0.cell (p := ad.add a) (by rw [add_block]; exact had)).trans hc
  have hf : Lat.fl up a b = x.testBit b := by unfold Lat.fl; rw [List.getD_eq_getElem?_getD, hx]; rfl
  have HF := Lib.hid hf
  clear hf hx hN hU
  go_enter Try.func76, Try.ntmps76
  go_wp2
  go_loop [7, 8] (fun y i => ∃ k : Nat, k ≤ b ∧ i = .int .i64 k ∧ y = .int .u32 ((x / 2 ^ k : Nat) : Int)) (fun _ i => b - (intOf i).toNat)
  case atStart => exact ⟨0, Nat.zero_le _, rfl, by simp⟩
  case round =>
    obtain ⟨k, hk, rfl, rfl⟩ := hrel
    have hbd : x / 2 ^ k < 4294967296 := Nat.lt_of_le_of_lt (Nat.div_le_self _ _) hx32
    obtain ⟨y, hy⟩ : ∃ y, x / 2 ^ k = y := ⟨_, rfl⟩
    rw [hy] at hbd ⊢
    have HY := Lib.hid hy
    clear hy
    by_cases hlt : k < b
    · go_wp2
      go_round
      case rel => exact ⟨k + 1, by omega, by go_num, by rw [← half, HY.out]⟩
      case measure => simp [intOf]; omega
    · obtain rfl : k = b := by omega
      go_wp2
      go_ret
      exact ⟨ret_bool (by rw [HF.out, Nat.testBit_eq_decide_div_mod_eq, HY.out, Bool.eq_iff_iff]; simp; omega), hb0⟩

/-- What the reference's functions ask of the world: the box, and what is below it. -/
def At (w : World) (x0 x1 : Value) (W : World) : Prop := Blk W w.heap.size 25 #[x0, x1] ∧ Below w.heap.size w W
theorem At.c0 {w : World} {x0 x1 : Value} {W : World} (h : At w x0 x1 W) : W.cell? ⟨w.heap.size, 0, none⟩ = some x0 := by rw [h.1.cell]; rfl
theorem At.c1 {w : World} {x0 x1 : Value} {W : World} (h : At w x0 x1 W) : W.cell? ⟨w.heap.size, 1, none⟩ = some x1 := by rw [h.1.cell]; rfl
theorem At.start (w : World) (x0 x1 : Value) : At w x0 x1 (w.alloc (.cells #[x0, x1] 25)) := ⟨Blk.new _ _ _, (Below.refl _ w).alloc (Nat.le_refl _) _⟩
theorem At.next {w : World} {x0 x1 : Value} {W W' : World} (h : At w x0 x1 W) (hb : Below W.heap.size W W') : At w x0 x1 W' := ⟨h.1.below hb h.1.lt, h.2.trans (hb.mono h.2.size)⟩
theorem At.lat {w : World} {x0 x1 : Value} {W : World} {v : Value} {names : List ByteArray} {up : List Nat} (h : At w x0 x1 W) (hl : IsLat w w.heap.size v names up) : IsLat W W.heap.size v names up := (hl.below h.2).more h.2.size

theorem At.flows {v x0 x1 : Value} {names : List ByteArray} {up : List Nat} {w : World} (h : IsLat w w.heap.size v names up) (a b : Nat) {W : World} (hW : At w x0 x1 W) (ha : a < up.length) (hb : b < up.length) :
    Calls Try.prog 76 #[v, .int .i64 a, .int .i64 b] W fun e w' => e = .returned (.bool (Lat.fl up a b)) ∧ At w x0 x1 w' ∧ w'.cell? ⟨w.heap.size, 0, none⟩ = some x0 ∧ w'.cell? ⟨w.heap.size, 1, none⟩ = some x1 :=
  (rFlows_any a b W (hW.lat h) ha (by have := h.few.2; omega)).mono fun _ _ ⟨he, hb⟩ => ⟨he, hW.next hb, (hW.next hb).c0, (hW.next hb).c1⟩

def jAll (up : List Nat) (a b c d : Nat) : Bool := !(Lat.fl up a d && Lat.fl up b d && !Lat.fl up c d)
def jOk (up : List Nat) (a b c : Nat) : Bool := Lat.fl up a c && Lat.fl up b c && (List.range up.length).all (jAll up a b c)
def rJoin (up : List Nat) (a b : Nat) : Int := match (List.range up.length).find? (jOk up a b) with | some c => (c : Int) | none => -1
def mAll (up : List Nat) (a b c d : Nat) : Bool := !(Lat.fl up d a && Lat.fl up d b && !Lat.fl up d c)
def mOk (up : List Nat) (a b c : Nat) : Bool := Lat.fl up c a && Lat.fl up c b && (List.range up.length).all (mAll up a b c)
def rMeet (up : List Nat) (a b : Nat) : Int := match (List.range up.length).find? (mOk up a b) with | some c => (c : Int) | none => -1

def jTo (up : List Nat) (a b c d : Nat) : Bool := Lat.fl up a c && Lat.fl up b c && (List.range d).all (jAll up a b c)
theorem jTo_zero (up : List Nat) (a b c : Nat) : jTo up a b c 0 = (Lat.fl up a c && Lat.fl up b c) := by simp [jTo]
theorem jTo_succ (up : List Nat) (a b c d : Nat) : jTo up a b c (d + 1) = (jTo up a b c d && jAll up a b c d) := by simp [jTo, List.range_succ, Bool.and_assoc]
def mTo (up : List Nat) (a b c d : Nat) : Bool := Lat.fl up c a && Lat.fl up c b && (List.range d).all (mAll up a b c)
theorem mTo_zero (up : List Nat) (a b c : Nat) : mTo up a b c 0 = (Lat.fl up c a && Lat.fl up c b) := by simp [mTo]
theorem mTo_succ (up : List Nat) (a b c d : Nat) : mTo up a b c (d + 1) = (mTo up a b c d && mAll up a b c d) := by simp [mTo, List.range_succ, Bool.and_assoc]

set_option maxHeartbeats 4000000 in
theorem rJoin_any {v : Value} {names : List ByteArray} {up : List Nat} (a b : Nat) (w : World) (h : IsLat w w.heap.size v names up) (ha : a < up.length) (hb : b < up.length) :
    Calls Try.prog 43 #[v, .int .i64 a, .int .i64 b] w fun e w' => e = .returned (.int .i64 (rJoin up a b)) ∧ Below w.heap.size w w' := by
  have h' := h
  obtain ⟨⟨A, A', c, c', rfl, -, -⟩, -, ⟨hf1, hf2⟩, -⟩ := h'
  have hst := At.start w (.slice A names.length c) (.slice A' up.length c')
  have HFL := Lib.hid (fun (i j : Nat) (W : World) (hW : At w (.slice A names.length c) (.slice A' up.length c') W) hi hj => At.flows h i j hW hi hj)
  have HR : Hid (rJoin up a b = match (List.range up.length).find? (jOk up a b) with | some c => (c : Int) | none => -1) := rfl
  clear h
  go_enter Try.func43, Try.ntmps43
  go_wp2
  go_loopw [13] (fun i wr => ∃ k : Nat, k ≤ up.length ∧ i = .int .i64 k ∧ (∀ j, j < k → jOk up a b j = false) ∧ At w (.slice A names.length c) (.slice A' up.length c') wr) (fun i _ => up.length - (intOf i).toNat)
  case atStart => exact ⟨0, Nat.zero_le _, rfl, fun j hj => absurd hj (Nat.not_lt_zero j), hst⟩
  case round =>
    obtain ⟨k, hk, rfl, hno, hat⟩ := hrel
    have HNO := Lib.hid hno
    have hc0 := hat.c0
    have hc1 := hat.c1
    clear hno hst
    by_cases hlt : k < up.length
    · obtain ⟨wo, rfl⟩ : ∃ wo : World, wo = wr := ⟨_, rfl⟩
      have hz := jTo_zero up a b k
      cases e1 : Lat.fl up a k <;> cases e2 : Lat.fl up b k
      all_goals
        rw [e1, e2] at hz
        have HZ := Lib.hid hz
        clear hz
        go_wp2_with (go_at_call 76; refine (HFL.out _ _ _ (by assumption) (by omega) (by omega)).mono ?_; rintro e w' ⟨rfl, hat', hc0', hc1'⟩)
        go_loopw [8, 29] (fun y i wr => ∃ d : Nat, d ≤ up.length ∧ i = .int .i64 d ∧ y = .bool (jTo up a b k d) ∧ At w (.slice A names.length c) (.slice A' up.length c') wr) (fun _ i _ => up.length - (intOf i).toNat)
        case atStart => exact ⟨0, Nat.zero_le _, rfl, by rw [HZ.out]; rfl, by assumption⟩
        case round =>
          obtain ⟨d, hd, rfl, rfl, hatd⟩ := hrel
          have hcd0 := hatd.c0
          have hcd1 := hatd.c1
          have HS : Hid (jTo up a b k (d + 1) = (jTo up a b k d && !(Lat.fl up a d && Lat.fl up b d && !Lat.fl up k d))) := jTo_succ up a b k d
          obtain ⟨t, ht⟩ : ∃ t, jTo up a b k d = t := ⟨_, rfl⟩
          have HT := Lib.hid ht
          rw [ht]
          clear ht
          by_cases hld : d < up.length
          · cases e3 : Lat.fl up a d
            · have HE3 := Lib.hid e3
              go_wp2_with (go_at_call 76; refine (HFL.out _ _ _ (by assumption) (by omega) (by omega)).mono ?_; rintro e w' ⟨rfl, hat', hc0', hc1'⟩)
              go_roundw
              case rel => exact ⟨d + 1, by omega, by go_num, by rw [HS.out, HT.out, HE3.out]; simp, by assumption⟩
              case measure => simp [intOf]; omega
            · have HE3 := Lib.hid e3
              cases e4 : Lat.fl up b d
              · have HE4 := Lib.hid e4
                go_wp2_with (go_at_call 76; refine (HFL.out _ _ _ (by assumption) (by omega) (by omega)).mono ?_; rintro e w' ⟨rfl, hat', hc0', hc1'⟩)
                go_roundw
                case rel => exact ⟨d + 1, by omega, by go_num, by rw [HS.out, HT.out, HE3.out, HE4.out]; simp, by assumption⟩
                case measure => simp [intOf]; omega
              · have HE4 := Lib.hid e4
                cases e5 : Lat.fl up k d
                all_goals
                  have HE5 := Lib.hid e5
                  go_wp2_with (go_at_call 76; refine (HFL.out _ _ _ (by assumption) (by omega) (by omega)).mono ?_; rintro e w' ⟨rfl, hat', hc0', hc1'⟩)
                  go_roundw
                  case rel => exact ⟨d + 1, by omega, by go_num, by rw [HS.out, HT.out, HE3.out, HE4.out, HE5.out]; simp, by assumption⟩
                  case measure => simp [intOf]; omega
          · obtain rfl : d = up.length := by omega
            cases t
            · have hkk : jOk up a b k = false := HT.out
              have HKK := Lib.hid hkk
              clear hkk
              go_wp2
              go_roundw
              case rel => exact ⟨k + 1, by omega, by go_num, fun j hj => by
                rcases Nat.lt_or_eq_of_le (Nat.le_of_lt_succ hj) with h | rfl
                · exact HNO.out j h
                · exact HKK.out, hatd⟩
              case measure => simp [intOf]; omega
            · have hkk : jOk up a b k = true := HT.out
              have HKK := Lib.hid hkk
              clear hkk
              go_wp2
              go_ret
              exact ⟨ret_i64 (by rw [HR.out, Lat.find_range _ _ _ hlt HNO.out HKK.out]), hatd.2⟩
    · obtain rfl : k = up.length := by omega
      go_wp2
      go_ret
      exact ⟨ret_i64 (by rw [HR.out, Lat.find_range_none _ _ HNO.out]), hat.2⟩
set_option maxHeartbeats 4000000 in
theorem rMeet_any {v : Value} {names : List ByteArray} {up : List Nat} (a b : Nat) (w : World) (h : IsLat w w.heap.size v names up) (ha : a < up.length) (hb : b < up.length) :
    Calls Try.prog 44 #[v, .int .i64 a, .int .i64 b] w fun e w' => e = .returned (.int .i64 (rMeet up a b)) ∧ Below w.heap.size w w' := by
  have h' := h
  obtain ⟨⟨A, A', c, c', rfl, -, -⟩, -, ⟨hf1, hf2⟩, -⟩ := h'
  have hst := At.start w (.slice A names.length c) (.slice A' up.length c')
  have HFL := Lib.hid (fun (i j : Nat) (W : World) (hW : At w (.slice A names.length c) (.slice A' up.length c') W) hi hj => At.flows h i j hW hi hj)
  have HR : Hid (rMeet up a b = match (List.range up.length).find? (mOk up a b) with | some c => (c : Int) | none => -1) := rfl
  clear h
  go_enter Try.func44, Try.ntmps44
  go_wp2
  go_loopw [13] (fun i wr => ∃ k : Nat, k ≤ up.length ∧ i = .int .i64 k ∧ (∀ j, j < k → mOk up a b j = false) ∧ At w (.slice A names.length c) (.slice A' up.length c') wr) (fun i _ => up.length - (intOf i).toNat)
  case atStart => exact ⟨0, Nat.zero_le _, rfl, fun j hj => absurd hj (Nat.not_lt_zero j), hst⟩
  case round =>
    obtain ⟨k, hk, rfl, hno, hat⟩ := hrel
    have HNO := Lib.hid hno
    have hc0 := hat.c0
    have hc1 := hat.c1
    clear hno hst
    by_cases hlt : k < up.length
    · obtain ⟨wo, rfl⟩ : ∃ wo : World, wo = wr := ⟨_, rfl⟩
      have hz := mTo_zero up a b k
      cases e1 : Lat.fl up k a <;> cases e2 : Lat.fl up k b
      all_goals
        rw [e1, e2] at hz
        have HZ := Lib.hid hz
        clear hz
        go_wp2_with (go_at_call 76; refine (HFL.out _ _ _ (by assumption) (by omega) (by omega)).mono ?_; rintro e w' ⟨rfl, hat', hc0', hc1'⟩)
        go_loopw [8, 29] (fun y i wr => ∃ d : Nat, d ≤ up.length ∧ i = .int .i64 d ∧ y = .bool (mTo up a b k d) ∧ At w (.slice A names.length c) (.slice A' up.length c') wr) (fun _ i _ => up.length - (intOf i).toNat)
        case atStart => exact ⟨0, Nat.zero_le _, rfl, by rw [HZ.out]; rfl, by assumption⟩
        case round =>
          obtain ⟨d, hd, rfl, rfl, hatd⟩ := hrel
          have hcd0 := hatd.c0
          have hcd1 := hatd.c1
          have HS : Hid (mTo up a b k (d + 1) = (mTo up a b k d && !(Lat.fl up d a && Lat.fl up d b && !Lat.fl up d k))) := mTo_succ up a b k d
          obtain ⟨t, ht⟩ : ∃ t, mTo up a b k d = t := ⟨_, rfl⟩
          have HT := Lib.hid ht
          rw [ht]
          clear ht
          by_cases hld : d < up.length
          · cases e3 : Lat.fl up d a
            · have HE3 := Lib.hid e3
              go_wp2_with (go_at_call 76; refine (HFL.out _ _ _ (by assumption) (by omega) (by omega)).mono ?_; rintro e w' ⟨rfl, hat', hc0', hc1'⟩)
              go_roundw
              case rel => exact ⟨d + 1, by omega, by go_num, by rw [HS.out, HT.out, HE3.out]; simp, by assumption⟩
              case measure => simp [intOf]; omega
            · have HE3 := Lib.hid e3
              cases e4 : Lat.fl up d b
              · have HE4 := Lib.hid e4
                go_wp2_with (go_at_call 76; refine (HFL.out _ _ _ (by assumption) (by omega) (by omega)).mono ?_; rintro e w' ⟨rfl, hat', hc0', hc1'⟩)
                go_roundw
                case rel => exact ⟨d + 1, by omega, by go_num, by rw [HS.out, HT.out, HE3.out, HE4.out]; simp, by assumption⟩
                case measure => simp [intOf]; omega
              · have HE4 := Lib.hid e4
                cases e5 : Lat.fl up d k
                all_goals
                  have HE5 := Lib.hid e5
                  go_wp2_with (go_at_call 76; refine (HFL.out _ _ _ (by assumption) (by omega) (by omega)).mono ?_; rintro e w' ⟨rfl, hat', hc0', hc1'⟩)
                  go_roundw
                  case rel => exact ⟨d + 1, by omega, by go_num, by rw [HS.out, HT.out, HE3.out, HE4.out, HE5.out]; simp, by assumption⟩
                  case measure => simp [intOf]; omega
          · obtain rfl : d = up.length := by omega
            cases t
            · have hkk : mOk up a b k = false := HT.out
              have HKK := Lib.hid hkk
              clear hkk
              go_wp2
              go_roundw
              case rel => exact ⟨k + 1, by omega, by go_num, fun j hj => by
                rcases Nat.lt_or_eq_of_le (Nat.le_of_lt_succ hj) with h | rfl
                · exact HNO.out j h
                · exact HKK.out, hatd⟩
              case measure => simp [intOf]; omega
            · have hkk : mOk up a b k = true := HT.out
              have HKK := Lib.hid hkk
              clear hkk
              go_wp2
              go_ret
              exact ⟨ret_i64 (by rw [HR.out, Lat.find_range _ _ _ hlt HNO.out HKK.out]), hatd.2⟩
    · obtain rfl : k = up.length := by omega
      go_wp2
      go_ret
      exact ⟨ret_i64 (by rw [HR.out, Lat.find_range_none _ _ HNO.out]), hat.2⟩
end Go.Proofs.Ytmbgndcahlopdaa

/- Walk of the reference's order. -/
namespace Go.Proofs.Ytmbgndcahlopdaa
set_option maxRecDepth 100000
open Go.RowKit

def tri (up : List Nat) (a b c : Nat) : Bool := !(Lat.fl up a b && Lat.fl up b c && !Lat.fl up a c)
def duo (up : List Nat) (a b : Nat) : Bool := !(a != b && Lat.fl up a b && Lat.fl up b a) && (List.range up.length).all (tri up a b)
def uno (up : List Nat) (a : Nat) : Bool := Lat.fl up a a && (List.range up.length).all (duo up a)
def rOrder (up : List Nat) : Bool := (List.range up.length).all (uno up)
theorem all_succ {f : Nat → Bool} (k : Nat) : (List.range (k + 1)).all f = ((List.range k).all f && f k) := by simp [List.range_succ]

set_option maxHeartbeats 4000000 in
theorem rOrder_any {v : Value} {names : List ByteArray} {up : List Nat} (w : World) (h : IsLat w w.heap.size v names up) :
    Calls Try.prog 42 #[v] w fun e w' => e = .returned (.bool (rOrder up)) ∧ Below w.heap.size w w' := by
  have h' := h
  obtain ⟨⟨A, A', c, c', rfl, -, -⟩, -, ⟨hf1, hf2⟩, -⟩ := h'
  have hst := At.start w (.slice A names.length c) (.slice A' up.length c')
  have HFL := Lib.hid (fun (i j : Nat) (W : World) (hW : At w (.slice A names.length c) (.slice A' up.length c') W) hi hj => At.flows h i j hW hi hj)
  have HR : Hid (rOrder up = (List.range up.length).all (uno up)) := rfl
  clear h
  go_enter Try.func42, Try.ntmps42
  go_wp2
  go_loopw [9] (fun i wr => ∃ a : Nat, a ≤ up.length ∧ i = .int .i64 a ∧ (List.range a).all (uno up) = true ∧ At w (.slice A names.length c) (.slice A' up.length c') wr) (fun i _ => up.length - (intOf i).toNat)
  case atStart => exact ⟨0, Nat.zero_le _, rfl, rfl, hst⟩
  case round =>
    obtain ⟨a, ha, rfl, hall, hat⟩ := hrel
    have HALL := Lib.hid hall
    have hc0 := hat.c0
    have hc1 := hat.c1
    clear hall hst
    by_cases hla : a < up.length
    · have HU : Hid (uno up a = (Lat.fl up a a && (List.range up.length).all (duo up a))) := rfl
      obtain ⟨wo, rfl⟩ : ∃ wo : World, wo = wr := ⟨_, rfl⟩
      cases e0 : Lat.fl up a a
      · have HE0 := Lib.hid e0
        go_wp2_with (go_at_call 76; refine (HFL.out _ _ _ (by assumption) (by omega) (by omega)).mono ?_; rintro e w' ⟨rfl, hat', hc0', hc1'⟩)
        go_ret
        exact ⟨ret_bool (by rw [HR.out, all_range_false hla (by rw [HU.out, HE0.out]; rfl)]), (show At w (.slice A names.length c) (.slice A' up.length c') _ by assumption).2⟩
      · have HE0 := Lib.hid e0
        go_wp2_with (go_at_call 76; refine (HFL.out _ _ _ (by assumption) (by omega) (by omega)).mono ?_; rintro e w1 ⟨rfl, hat1, hc01, hc11⟩)
        go_loopw [20] (fun i wr => ∃ b : Nat, b ≤ up.length ∧ i = .int .i64 b ∧ (List.range b).all (duo up a) = true ∧ At w (.slice A names.length c) (.slice A' up.length c') wr) (fun i _ => up.length - (intOf i).toNat)
        case atStart => exact ⟨0, Nat.zero_le _, rfl, rfl, by assumption⟩
        case round =>
          obtain ⟨b, hb, rfl, hallb, hatb⟩ := hrel
          have HALLB := Lib.hid hallb
          have hcb0 := hatb.c0
          have hcb1 := hatb.c1
          clear hallb hat hc0 hc1 hat1 hc01 hc11
          by_cases hlb : b < up.length
          · have HD : Hid (duo up a b = (!(a != b && Lat.fl up a b && Lat.fl up b a) && (List.range up.length).all (tri up a b))) := rfl
            obtain ⟨wo2, rfl⟩ : ∃ wo : World, wo = wr := ⟨_, rfl⟩
            by_cases hab : a = b
            · have hb2 : ((a : Int) != (b : Int)) = false := by rw [bne_eq_false_iff_eq]; omega
              have HDB : Hid ((!(a != b && Lat.fl up a b && Lat.fl up b a)) = true) := by unfold Hid; simp [hab]
              have HAB := Lib.hid hab
              clear hab
              cases e1 : Lat.fl up a b
              · have HE1 := Lib.hid e1
                go_wp2_with (go_at_call 76; refine (HFL.out _ _ _ (by assumption) (by omega) (by omega)).mono ?_; rintro e w' ⟨rfl, hat', hc0', hc1'⟩)
                go_loopw [41] (fun i wr => ∃ c₂ : Nat, c₂ ≤ up.length ∧ i = .int .i64 c₂ ∧ (List.range c₂).all (tri up a b) = true ∧ At w (.slice A names.length c) (.slice A' up.length c') wr) (fun i _ => up.length - (intOf i).toNat)
                case atStart => exact ⟨0, Nat.zero_le _, rfl, rfl, by assumption⟩
                case round =>
                  obtain ⟨d, hd, rfl, hallc, hatd⟩ := hrel
                  have HALLC := Lib.hid hallc
                  have hcd0 := hatd.c0
                  have hcd1 := hatd.c1
                  clear hallc
                  by_cases hld : d < up.length
                  · have HT : Hid (tri up a b d = !(Lat.fl up a b && Lat.fl up b d && !Lat.fl up a d)) := rfl
                    cases e4 : Lat.fl up b d
                    · have HE4 := Lib.hid e4
                      go_wp2_with (go_at_call 76; refine (HFL.out _ _ _ (by assumption) (by omega) (by omega)).mono ?_; rintro e w' ⟨rfl, hatq, hcq0, hcq1⟩)
                      go_roundw
                      case rel => exact ⟨d + 1, by omega, by go_num, by rw [all_succ, HALLC.out, HT.out, HE4.out]; simp, by assumption⟩
                      case measure => simp [intOf]; omega
                    · have HE4 := Lib.hid e4
                      cases e5 : Lat.fl up a d
                      · have HE5 := Lib.hid e5
                        go_wp2_with (go_at_call 76; refine (HFL.out _ _ _ (by assumption) (by omega) (by omega)).mono ?_; rintro e w' ⟨rfl, hatq, hcq0, hcq1⟩)
                        go_roundw
                        case rel => exact ⟨d + 1, by omega, by go_num, by rw [all_succ, HALLC.out, HT.out, HE1.out]; simp, by assumption⟩
                        case measure => simp [intOf]; omega
                      · have HE5 := Lib.hid e5
                        go_wp2_with (go_at_call 76; refine (HFL.out _ _ _ (by assumption) (by omega) (by omega)).mono ?_; rintro e w' ⟨rfl, hatq, hcq0, hcq1⟩)
                        go_roundw
                        case rel => exact ⟨d + 1, by omega, by go_num, by rw [all_succ, HALLC.out, HT.out, HE4.out, HE5.out]; simp, by assumption⟩
                        case measure => simp [intOf]; omega
                  · obtain rfl : d = up.length := by omega
                    have hdd : duo up a b = true := by rw [HD.out, HALLC.out, HDB.out]; rfl
                    have HDD := Lib.hid hdd
                    clear hdd
                    go_wp2
                    go_roundw
                    case rel => exact ⟨b + 1, by omega, by go_num, by rw [all_succ, HALLB.out, HDD.out]; rfl, hatd⟩
                    case measure => simp [intOf]; omega
              · have HE1 := Lib.hid e1
                go_wp2_with (go_at_call 76; refine (HFL.out _ _ _ (by assumption) (by omega) (by omega)).mono ?_; rintro e w' ⟨rfl, hat', hc0', hc1'⟩)
                go_loopw [41] (fun i wr => ∃ c₂ : Nat, c₂ ≤ up.length ∧ i = .int .i64 c₂ ∧ (List.range c₂).all (tri up a b) = true ∧ At w (.slice A names.length c) (.slice A' up.length c') wr) (fun i _ => up.length - (intOf i).toNat)
                case atStart => exact ⟨0, Nat.zero_le _, rfl, rfl, by assumption⟩
                case round =>
                  obtain ⟨d, hd, rfl, hallc, hatd⟩ := hrel
                  have HALLC := Lib.hid hallc
                  have hcd0 := hatd.c0
                  have hcd1 := hatd.c1
                  clear hallc
                  by_cases hld : d < up.length
                  · have HT : Hid (tri up a b d = !(Lat.fl up a b && Lat.fl up b d && !Lat.fl up a d)) := rfl
                    cases e4 : Lat.fl up b d
                    · have HE4 := Lib.hid e4
                      go_wp2_with (go_at_call 76; refine (HFL.out _ _ _ (by assumption) (by omega) (by omega)).mono ?_; rintro e w' ⟨rfl, hatq, hcq0, hcq1⟩)
                      go_roundw
                      case rel => exact ⟨d + 1, by omega, by go_num, by rw [all_succ, HALLC.out, HT.out, HE4.out]; simp, by assumption⟩
                      case measure => simp [intOf]; omega
                    · have HE4 := Lib.hid e4
                      cases e5 : Lat.fl up a d
                      · have HE5 := Lib.hid e5
                        go_wp2_with (go_at_call 76; refine (HFL.out _ _ _ (by assumption) (by omega) (by omega)).mono ?_; rintro e w' ⟨rfl, hatq, hcq0, hcq1⟩)
                        (go_ret
                         exact ⟨ret_bool (by rw [HR.out, all_range_false hla (by rw [HU.out, HE0.out, all_range_false hlb (by rw [HD.out, all_range_false hld (by rw [HT.out, HE1.out, HE4.out, HE5.out]; rfl)]; simp)]; rfl)]), (show At w (.slice A names.length c) (.slice A' up.length c') _ by assumption).2⟩)
                      · have HE5 := Lib.hid e5
                        go_wp2_with (go_at_call 76; refine (HFL.out _ _ _ (by assumption) (by omega) (by omega)).mono ?_; rintro e w' ⟨rfl, hatq, hcq0, hcq1⟩)
                        go_roundw
                        case rel => exact ⟨d + 1, by omega, by go_num, by rw [all_succ, HALLC.out, HT.out, HE4.out, HE5.out]; simp, by assumption⟩
                        case measure => simp [intOf]; omega
                  · obtain rfl : d = up.length := by omega
                    have hdd : duo up a b = true := by rw [HD.out, HALLC.out, HDB.out]; rfl
                    have HDD := Lib.hid hdd
                    clear hdd
                    go_wp2
                    go_roundw
                    case rel => exact ⟨b + 1, by omega, by go_num, by rw [all_succ, HALLB.out, HDD.out]; rfl, hatd⟩
                    case measure => simp [intOf]; omega
            · have hb2 : ((a : Int) != (b : Int)) = true := by rw [bne_iff_ne]; omega
              cases e1 : Lat.fl up a b
              · have HE1 := Lib.hid e1
                have HDB : Hid ((!(a != b && Lat.fl up a b && Lat.fl up b a)) = true) := by unfold Hid; simp [e1]
                go_wp2_with (go_at_call 76; refine (HFL.out _ _ _ (by assumption) (by omega) (by omega)).mono ?_; rintro e w' ⟨rfl, hat', hc0', hc1'⟩)
                go_loopw [41] (fun i wr => ∃ c₂ : Nat, c₂ ≤ up.length ∧ i = .int .i64 c₂ ∧ (List.range c₂).all (tri up a b) = true ∧ At w (.slice A names.length c) (.slice A' up.length c') wr) (fun i _ => up.length - (intOf i).toNat)
                case atStart => exact ⟨0, Nat.zero_le _, rfl, rfl, by assumption⟩
                case round =>
                  obtain ⟨d, hd, rfl, hallc, hatd⟩ := hrel
                  have HALLC := Lib.hid hallc
                  have hcd0 := hatd.c0
                  have hcd1 := hatd.c1
                  clear hallc
                  by_cases hld : d < up.length
                  · have HT : Hid (tri up a b d = !(Lat.fl up a b && Lat.fl up b d && !Lat.fl up a d)) := rfl
                    cases e4 : Lat.fl up b d
                    · have HE4 := Lib.hid e4
                      go_wp2_with (go_at_call 76; refine (HFL.out _ _ _ (by assumption) (by omega) (by omega)).mono ?_; rintro e w' ⟨rfl, hatq, hcq0, hcq1⟩)
                      go_roundw
                      case rel => exact ⟨d + 1, by omega, by go_num, by rw [all_succ, HALLC.out, HT.out, HE4.out]; simp, by assumption⟩
                      case measure => simp [intOf]; omega
                    · have HE4 := Lib.hid e4
                      cases e5 : Lat.fl up a d
                      · have HE5 := Lib.hid e5
                        go_wp2_with (go_at_call 76; refine (HFL.out _ _ _ (by assumption) (by omega) (by omega)).mono ?_; rintro e w' ⟨rfl, hatq, hcq0, hcq1⟩)
                        go_roundw
                        case rel => exact ⟨d + 1, by omega, by go_num, by rw [all_succ, HALLC.out, HT.out, HE1.out]; simp, by assumption⟩
                        case measure => simp [intOf]; omega
                      · have HE5 := Lib.hid e5
                        go_wp2_with (go_at_call 76; refine (HFL.out _ _ _ (by assumption) (by omega) (by omega)).mono ?_; rintro e w' ⟨rfl, hatq, hcq0, hcq1⟩)
                        go_roundw
                        case rel => exact ⟨d + 1, by omega, by go_num, by rw [all_succ, HALLC.out, HT.out, HE4.out, HE5.out]; simp, by assumption⟩
                        case measure => simp [intOf]; omega
                  · obtain rfl : d = up.length := by omega
                    have hdd : duo up a b = true := by rw [HD.out, HALLC.out, HDB.out]; rfl
                    have HDD := Lib.hid hdd
                    clear hdd
                    go_wp2
                    go_roundw
                    case rel => exact ⟨b + 1, by omega, by go_num, by rw [all_succ, HALLB.out, HDD.out]; rfl, hatd⟩
                    case measure => simp [intOf]; omega
              · have HE1 := Lib.hid e1
                cases e2 : Lat.fl up b a
                · have HE2 := Lib.hid e2
                  have HDB : Hid ((!(a != b && Lat.fl up a b && Lat.fl up b a)) = true) := by unfold Hid; simp [e2]
                  go_wp2_with (go_at_call 76; refine (HFL.out _ _ _ (by assumption) (by omega) (by omega)).mono ?_; rintro e w' ⟨rfl, hat', hc0', hc1'⟩)
                  go_loopw [41] (fun i wr => ∃ c₂ : Nat, c₂ ≤ up.length ∧ i = .int .i64 c₂ ∧ (List.range c₂).all (tri up a b) = true ∧ At w (.slice A names.length c) (.slice A' up.length c') wr) (fun i _ => up.length - (intOf i).toNat)
                  case atStart => exact ⟨0, Nat.zero_le _, rfl, rfl, by assumption⟩
                  case round =>
                    obtain ⟨d, hd, rfl, hallc, hatd⟩ := hrel
                    have HALLC := Lib.hid hallc
                    have hcd0 := hatd.c0
                    have hcd1 := hatd.c1
                    clear hallc
                    by_cases hld : d < up.length
                    · have HT : Hid (tri up a b d = !(Lat.fl up a b && Lat.fl up b d && !Lat.fl up a d)) := rfl
                      cases e4 : Lat.fl up b d
                      · have HE4 := Lib.hid e4
                        go_wp2_with (go_at_call 76; refine (HFL.out _ _ _ (by assumption) (by omega) (by omega)).mono ?_; rintro e w' ⟨rfl, hatq, hcq0, hcq1⟩)
                        go_roundw
                        case rel => exact ⟨d + 1, by omega, by go_num, by rw [all_succ, HALLC.out, HT.out, HE4.out]; simp, by assumption⟩
                        case measure => simp [intOf]; omega
                      · have HE4 := Lib.hid e4
                        cases e5 : Lat.fl up a d
                        · have HE5 := Lib.hid e5
                          go_wp2_with (go_at_call 76; refine (HFL.out _ _ _ (by assumption) (by omega) (by omega)).mono ?_; rintro e w' ⟨rfl, hatq, hcq0, hcq1⟩)
                          (go_ret
                           exact ⟨ret_bool (by rw [HR.out, all_range_false hla (by rw [HU.out, HE0.out, all_range_false hlb (by rw [HD.out, all_range_false hld (by rw [HT.out, HE1.out, HE4.out, HE5.out]; rfl)]; simp)]; rfl)]), (show At w (.slice A names.length c) (.slice A' up.length c') _ by assumption).2⟩)
                        · have HE5 := Lib.hid e5
                          go_wp2_with (go_at_call 76; refine (HFL.out _ _ _ (by assumption) (by omega) (by omega)).mono ?_; rintro e w' ⟨rfl, hatq, hcq0, hcq1⟩)
                          go_roundw
                          case rel => exact ⟨d + 1, by omega, by go_num, by rw [all_succ, HALLC.out, HT.out, HE4.out, HE5.out]; simp, by assumption⟩
                          case measure => simp [intOf]; omega
                    · obtain rfl : d = up.length := by omega
                      have hdd : duo up a b = true := by rw [HD.out, HALLC.out, HDB.out]; rfl
                      have HDD := Lib.hid hdd
                      clear hdd
                      go_wp2
                      go_roundw
                      case rel => exact ⟨b + 1, by omega, by go_num, by rw [all_succ, HALLB.out, HDD.out]; rfl, hatd⟩
                      case measure => simp [intOf]; omega
                · have HE2 := Lib.hid e2
                  go_wp2_with (go_at_call 76; refine (HFL.out _ _ _ (by assumption) (by omega) (by omega)).mono ?_; rintro e w' ⟨rfl, hat', hc0', hc1'⟩)
                  go_ret
                  exact ⟨ret_bool (by rw [HR.out, all_range_false hla (by rw [HU.out, HE0.out, all_range_false hlb (by rw [HD.out, HE1.out, HE2.out]; simp [hab])]; rfl)]), (show At w (.slice A names.length c) (.slice A' up.length c') _ by assumption).2⟩
          · obtain rfl : b = up.length := by omega
            go_wp2
            go_roundw
            case rel => exact ⟨a + 1, by omega, by go_num, by rw [all_succ, HALL.out, HU.out, HE0.out, HALLB.out]; rfl, hatb⟩
            case measure => simp [intOf]; omega
    · obtain rfl : a = up.length := by omega
      go_wp2
      go_ret
      exact ⟨ret_bool (by rw [HR.out, HALL.out]), hat.2⟩
end Go.Proofs.Ytmbgndcahlopdaa

/- Walk of the reference's may. -/
namespace Go.Proofs.Ytmbgndcahlopdaa
set_option maxRecDepth 100000
open Go.RowKit

def nameAt (names : List ByteArray) (k : Nat) : ByteArray := names.getD k ByteArray.empty
def dist (names : List ByteArray) (i j : Nat) : Bool := !streq (nameAt names j) (nameAt names i)
def lineOk (names : List ByteArray) (up : List Nat) (i : Nat) : Bool := (nameOk (nameAt names i) && !highB (up.getD i 0) up.length) && (List.range i).all (dist names i)
def rMay (names : List ByteArray) (up : List Nat) : Bool :=
  (decide (1 ≤ up.length) && decide (up.length ≤ 8) && decide (names.length = up.length)) && (List.range names.length).all (lineOk names up)

set_option maxHeartbeats 4000000 in
theorem rMay_any {v : Value} {names : List ByteArray} {up : List Nat} (w : World) (h : IsLat w w.heap.size v names up) :
    Calls Try.prog 41 #[v] w fun e w' => e = .returned (.bool (rMay names up)) ∧ Below w.heap.size w w' := by
  have h' := h
  obtain ⟨⟨A, A', c, c', rfl, hN, hU⟩, hshort, ⟨hf1, hf2⟩, hcaps⟩ := h'
  obtain ⟨hcap, hcap'⟩ := hcaps _ _ _ _ _ _ rfl
  have hst := At.start w (.slice A names.length c) (.slice A' up.length c')
  have HST := Lib.hid hst
  clear h hst hcaps
  by_cases z1 : up.length < 1
  · have HM : Hid (rMay names up = false) := by unfold Hid rMay; simp; omega
    go_enter Try.func41, Try.ntmps41
    go_wp2
    go_ret
    exact ⟨ret_bool (by rw [HM.out]), HST.out.2⟩
  by_cases z2 : 8 < up.length
  · have HM : Hid (rMay names up = false) := by unfold Hid rMay; simp; omega
    go_enter Try.func41, Try.ntmps41
    go_wp2
    go_ret
    exact ⟨ret_bool (by rw [HM.out]), HST.out.2⟩
  by_cases z3 : ¬ names.length = up.length
  · have HM : Hid (rMay names up = false) := by unfold Hid rMay; simp [z3]
    have z4 : ((names.length : Int) != (up.length : Int)) = true := by rw [bne_iff_ne]; omega
    go_enter Try.func41, Try.ntmps41
    go_wp2
    go_ret
    exact ⟨ret_bool (by rw [HM.out]), HST.out.2⟩
  have z3 : names.length = up.length := Decidable.not_not.1 z3
  have HM : Hid (rMay names up = (List.range names.length).all (lineOk names up)) := by unfold Hid rMay; simp [z3]; omega
  have z4 : ((names.length : Int) != (up.length : Int)) = false := by rw [bne_eq_false_iff_eq]; omega
  have Z3 := Lib.hid z3
  clear z3
  go_enter Try.func41, Try.ntmps41
  go_wp2
  go_loopw [29] (fun i wr => ∃ k : Nat, k ≤ names.length ∧ i = .int .i64 k ∧ (List.range k).all (lineOk names up) = true ∧ At w (.slice A names.length c) (.slice A' up.length c') wr) (fun i _ => names.length - (intOf i).toNat)
  case atStart => exact ⟨0, Nat.zero_le _, rfl, rfl, HST.out⟩
  case round =>
    obtain ⟨k, hk, rfl, hall, hat⟩ := hrel
    have HALL := Lib.hid hall
    have hc0 := hat.c0
    have hc1 := hat.c1
    clear hall
    by_cases hlt : k < names.length
    · have hlu : k < up.length := by rw [← Z3.out]; exact hlt
      obtain ⟨ad, x, rfl, _, hx, hx32, hcx⟩ := (hU.below hat.2).at_ hlu
      obtain ⟨ad2, s, rfl, _, hs, hcs⟩ := strs_at (hN.below hat.2) hlt
      have hsl := hshort s (List.mem_of_getElem? hs)
      have hline : lineOk names up k = ((nameOk s && !highB x up.length) && (List.range k).all (dist names k)) := by unfold lineOk nameAt; simp only [List.getD_eq_getElem?_getD, hx, hs, Option.getD_some]
      have HLINE := Lib.hid hline
      have HX := Lib.hid hx
      have HS := Lib.hid hs
      clear hx hs hline
      have hnm := fun nq => refName_any s (wr.drewN nq) hsl
      have hhi := fun nq => high_any x up.length (wr.drewN nq) hx32 hf2
      cases e1 : nameOk s
      · rw [e1] at hnm
        have HNM := Lib.hid hnm
        have HE1 := Lib.hid e1
        clear hnm hhi e1
        go_wp2_with (fail)
        go_quiet (first | (go_at_call 74; exact quiet_eq (HNM.out _)))
        go_wp2
        go_ret
        exact ⟨ret_bool (by rw [HM.out, all_range_false hlt (by rw [HLINE.out, HE1.out]; rfl)]), below_drewN_ hat.2 _⟩
      · rw [e1] at hnm
        have HNM := Lib.hid hnm
        have HE1 := Lib.hid e1
        clear hnm e1
        cases e2 : highB x up.length
        · rw [e2] at hhi
          have HHI := Lib.hid hhi
          have HE2 := Lib.hid e2
          clear hhi e2
          go_wp2_with (fail)
          go_quiet (first | (go_at_call 74; exact quiet_eq (HNM.out _)) | (go_at_call 75; exact quiet_eq (HHI.out _)))
          go_wp2
          have hatq : At w (.slice (some ad2) names.length c) (.slice (some ad) up.length c') (wr.drewN nq) := ⟨hat.1.drewN nq, below_drewN_ hat.2 nq⟩
          go_loopw [53] (fun i wr => ∃ j : Nat, j ≤ k ∧ i = .int .i64 j ∧ (List.range j).all (dist names k) = true ∧ At w (.slice (some ad2) names.length c) (.slice (some ad) up.length c') wr) (fun i _ => k - (intOf i).toNat)
          case atStart => exact ⟨0, Nat.zero_le _, rfl, rfl, hatq⟩
          case round =>
            clear hatq hat hc0 hc1 hcs hcx
            obtain ⟨j, hj, rfl, hallj, hatj⟩ := hrel
            have HALLJ := Lib.hid hallj
            have hcj0 := hatj.c0
            have hcj1 := hatj.c1
            clear hallj
            by_cases hlj : j < k
            · obtain ⟨ad3, t, he, _, ht, hct⟩ := strs_at (hN.below hatj.2) (show j < names.length by omega)
              obtain rfl : ad3 = ad2 := by injection he with he; exact he.symm
              have hds : dist names k j = !streq t s := by unfold dist nameAt; simp only [List.getD_eq_getElem?_getD, HS.out, ht, Option.getD_some]
              have HDS := Lib.hid hds
              clear he hds ht
              cases hst : (t.toList == s.toList)
              · have HST' : Hid (streq t s = false) := hst
                go_wp2
                go_roundw
                case rel => exact ⟨j + 1, by omega, by go_num, by rw [all_succ, HALLJ.out, HDS.out, HST'.out]; rfl, hatj⟩
                case measure => simp [intOf]; omega
              · have HST' : Hid (streq t s = true) := hst
                go_wp2
                go_ret
                exact ⟨ret_bool (by rw [HM.out, all_range_false hlt (by rw [HLINE.out, HE1.out, HE2.out, all_range_false hlj (by rw [HDS.out, HST'.out]; rfl)]; rfl)]), hatj.2⟩
            · obtain rfl : j = k := by omega
              go_wp2
              go_roundw
              case rel => exact ⟨j + 1, by omega, by go_num, by rw [all_succ, HALL.out, HLINE.out, HE1.out, HE2.out, HALLJ.out]; rfl, hatj⟩
              case measure => simp [intOf]; omega
        · rw [e2] at hhi
          have HHI := Lib.hid hhi
          have HE2 := Lib.hid e2
          clear hhi e2
          go_wp2_with (fail)
          go_quiet (first | (go_at_call 74; exact quiet_eq (HNM.out _)) | (go_at_call 75; exact quiet_eq (HHI.out _)))
          go_wp2
          go_ret
          exact ⟨ret_bool (by rw [HM.out, all_range_false hlt (by rw [HLINE.out, HE1.out, HE2.out]; rfl)]), below_drewN_ hat.2 _⟩
    · obtain rfl : k = names.length := by omega
      go_wp2
      go_ret
      exact ⟨ret_bool (by rw [HM.out, HALL.out]), hat.2⟩
end Go.Proofs.Ytmbgndcahlopdaa

/- Walks of the reference's Check, Bottom, Top, and of the law's there. -/
namespace Go.Proofs.Ytmbgndcahlopdaa
set_option maxRecDepth 100000
open Go.RowKit

def bothOk (up : List Nat) (a b : Nat) : Bool := !(decide (rJoin up a b < 0) || decide (rMeet up a b < 0))
def rBoth (up : List Nat) (a : Nat) : Bool := (List.range up.length).all (bothOk up a)
def rCheckN (names : List ByteArray) (up : List Nat) : Nat := if rMay names up then if rOrder up then if (List.range up.length).all (rBoth up) then 0 else 3 else 2 else 1

set_option maxHeartbeats 4000000 in
theorem rCheck_any {v : Value} {names : List ByteArray} {up : List Nat} (w : World) (h : IsLat w w.heap.size v names up) :
    Calls Try.prog 19 #[v] w fun e w' => e = .returned (.int .i64 (rCheckN names up : Nat)) ∧ Below w.heap.size w w' := by
  have h' := h
  obtain ⟨⟨A, A', c, c', rfl, -, -⟩, -, ⟨hf1, hf2⟩, -⟩ := h'
  have hst := At.start w (.slice A names.length c) (.slice A' up.length c')
  have HMAY := Lib.hid (fun (W : World) (hW : At w (.slice A names.length c) (.slice A' up.length c') W) => (rMay_any W (hW.lat h)).mono (R' := fun e w' => e = .returned (.bool (rMay names up)) ∧ At w (.slice A names.length c) (.slice A' up.length c') w' ∧ w'.cell? ⟨w.heap.size, 0, none⟩ = some (.slice A names.length c) ∧ w'.cell? ⟨w.heap.size, 1, none⟩ = some (.slice A' up.length c')) fun _ _ ⟨he, hb⟩ => ⟨he, hW.next hb, (hW.next hb).c0, (hW.next hb).c1⟩)
  have HORD := Lib.hid (fun (W : World) (hW : At w (.slice A names.length c) (.slice A' up.length c') W) => (rOrder_any W (hW.lat h)).mono (R' := fun e w' => e = .returned (.bool (rOrder up)) ∧ At w (.slice A names.length c) (.slice A' up.length c') w' ∧ w'.cell? ⟨w.heap.size, 0, none⟩ = some (.slice A names.length c) ∧ w'.cell? ⟨w.heap.size, 1, none⟩ = some (.slice A' up.length c')) fun _ _ ⟨he, hb⟩ => ⟨he, hW.next hb, (hW.next hb).c0, (hW.next hb).c1⟩)
  have HJ := Lib.hid (fun (a b : Nat) (W : World) (hW : At w (.slice A names.length c) (.slice A' up.length c') W) (ha : a < up.length) (hb : b < up.length) => (rJoin_any a b W (hW.lat h) ha hb).mono (R' := fun e w' => e = .returned (.int .i64 (rJoin up a b)) ∧ At w (.slice A names.length c) (.slice A' up.length c') w' ∧ w'.cell? ⟨w.heap.size, 0, none⟩ = some (.slice A names.length c) ∧ w'.cell? ⟨w.heap.size, 1, none⟩ = some (.slice A' up.length c')) fun _ _ ⟨he, hb⟩ => ⟨he, hW.next hb, (hW.next hb).c0, (hW.next hb).c1⟩)
  have HM := Lib.hid (fun (a b : Nat) (W : World) (hW : At w (.slice A names.length c) (.slice A' up.length c') W) (ha : a < up.length) (hb : b < up.length) => (rMeet_any a b W (hW.lat h) ha hb).mono (R' := fun e w' => e = .returned (.int .i64 (rMeet up a b)) ∧ At w (.slice A names.length c) (.slice A' up.length c') w' ∧ w'.cell? ⟨w.heap.size, 0, none⟩ = some (.slice A names.length c) ∧ w'.cell? ⟨w.heap.size, 1, none⟩ = some (.slice A' up.length c')) fun _ _ ⟨he, hb⟩ => ⟨he, hW.next hb, (hW.next hb).c0, (hW.next hb).c1⟩)
  have HR : Hid (rCheckN names up = if rMay names up then if rOrder up then if (List.range up.length).all (rBoth up) then 0 else 3 else 2 else 1) := rfl
  clear h
  cases e1 : rMay names up
  · have HE1 := Lib.hid e1
    go_enter Try.func19, Try.ntmps19
    go_wp2_with (go_at_call 41; refine (HMAY.out _ (by assumption)).mono ?_; rintro e w' ⟨rfl, hat, hc0, hc1⟩)
    go_ret
    exact ⟨ret_i64 (by rw [HR.out, HE1.out]; rfl), (show At w (.slice A names.length c) (.slice A' up.length c') _ by assumption).2⟩
  · have HE1 := Lib.hid e1
    cases e2 : rOrder up
    · have HE2 := Lib.hid e2
      go_enter Try.func19, Try.ntmps19
      go_wp2_with (first | (go_at_call 41; refine (HMAY.out _ (by assumption)).mono ?_; rintro e w' ⟨rfl, hat, hc0, hc1⟩) | (go_at_call 42; refine (HORD.out _ (by assumption)).mono ?_; rintro e w' ⟨rfl, hat, hc0, hc1⟩))
      go_ret
      exact ⟨ret_i64 (by rw [HR.out, HE1.out, HE2.out]; rfl), (show At w (.slice A names.length c) (.slice A' up.length c') _ by assumption).2⟩
    · have HE2 := Lib.hid e2
      go_enter Try.func19, Try.ntmps19
      go_wp2_with (first | (go_at_call 41; refine (HMAY.out _ (by assumption)).mono ?_; rintro e w' ⟨rfl, hat, hc0, hc1⟩) | (go_at_call 42; refine (HORD.out _ (by assumption)).mono ?_; rintro e w' ⟨rfl, hat, hc0, hc1⟩))
      go_loopw [14] (fun i wr => ∃ a : Nat, a ≤ up.length ∧ i = .int .i64 a ∧ (List.range a).all (rBoth up) = true ∧ At w (.slice A names.length c) (.slice A' up.length c') wr) (fun i _ => up.length - (intOf i).toNat)
      case atStart => exact ⟨0, Nat.zero_le _, rfl, rfl, by assumption⟩
      case round =>
        obtain ⟨a, ha, rfl, hall, hata⟩ := hrel
        have HALL := Lib.hid hall
        have hca0 := hata.c0
        have hca1 := hata.c1
        clear hall hst
        by_cases hla : a < up.length
        · obtain ⟨wo, rfl⟩ : ∃ wo : World, wo = wr := ⟨_, rfl⟩
          go_wp2
          go_loopw [20] (fun i wr => ∃ b : Nat, b ≤ up.length ∧ i = .int .i64 b ∧ (List.range b).all (bothOk up a) = true ∧ At w (.slice A names.length c) (.slice A' up.length c') wr) (fun i _ => up.length - (intOf i).toNat)
          case atStart => exact ⟨0, Nat.zero_le _, rfl, rfl, hata⟩
          case round =>
            obtain ⟨b, hb, rfl, hallb, hatb⟩ := hrel
            have HALLB := Lib.hid hallb
            have hcb0 := hatb.c0
            have hcb1 := hatb.c1
            clear hallb hata hca0 hca1
            by_cases hlb : b < up.length
            · have hbo : bothOk up a b = !(decide (rJoin up a b < 0) || decide (rMeet up a b < 0)) := rfl
              have HBO := Lib.hid hbo
              have hj := fun W hW => HJ.out a b W hW hla hlb
              have hm := fun W hW => HM.out a b W hW hla hlb
              obtain ⟨x, hx⟩ : ∃ x, rJoin up a b = x := ⟨_, rfl⟩
              obtain ⟨y, hy⟩ : ∃ y, rMeet up a b = y := ⟨_, rfl⟩
              rw [hx] at hj
              rw [hy] at hm
              have HX := Lib.hid hx
              have HY := Lib.hid hy
              have HJ' := Lib.hid hj
              have HM' := Lib.hid hm
              clear hbo hj hm hx hy
              by_cases x0 : x < 0
              · go_wp2_with (first | (go_at_call 43; refine (HJ'.out _ (by assumption)).mono ?_; rintro e w' ⟨rfl, hat, hc0, hc1⟩) | (go_at_call 44; refine (HM'.out _ (by assumption)).mono ?_; rintro e w' ⟨rfl, hat, hc0, hc1⟩))
                go_ret
                exact ⟨ret_i64 (by rw [HR.out, HE1.out, HE2.out, all_range_false hla (all_range_false hlb (by rw [HBO.out, HX.out]; simp [x0]))]; rfl), (show At w (.slice A names.length c) (.slice A' up.length c') _ by assumption).2⟩
              · by_cases y0 : y < 0
                · go_wp2_with (first | (go_at_call 43; refine (HJ'.out _ (by assumption)).mono ?_; rintro e w' ⟨rfl, hat, hc0, hc1⟩) | (go_at_call 44; refine (HM'.out _ (by assumption)).mono ?_; rintro e w' ⟨rfl, hat, hc0, hc1⟩))
                  go_ret
                  exact ⟨ret_i64 (by rw [HR.out, HE1.out, HE2.out, all_range_false hla (all_range_false hlb (by rw [HBO.out, HY.out]; simp [y0]))]; rfl), (show At w (.slice A names.length c) (.slice A' up.length c') _ by assumption).2⟩
                · go_wp2_with (first | (go_at_call 43; refine (HJ'.out _ (by assumption)).mono ?_; rintro e w' ⟨rfl, hat, hc0, hc1⟩) | (go_at_call 44; refine (HM'.out _ (by assumption)).mono ?_; rintro e w' ⟨rfl, hat, hc0, hc1⟩))
                  go_roundw
                  case rel => exact ⟨b + 1, by omega, by go_num, by rw [all_succ, HALLB.out, HBO.out, HX.out, HY.out]; simp; omega, by assumption⟩
                  case measure => simp [intOf]; omega
            · obtain rfl : b = up.length := by omega
              go_wp2
              go_roundw
              case rel => exact ⟨a + 1, by omega, by go_num, by rw [all_succ, HALL.out]; exact HALLB.out, hatb⟩
              case measure => simp [intOf]; omega
        · obtain rfl : a = up.length := by omega
          go_wp2
          go_ret
          exact ⟨ret_i64 (by rw [HR.out, HE1.out, HE2.out, HALL.out]; rfl), hata.2⟩

end Go.Proofs.Ytmbgndcahlopdaa

/- Walks of the heights: lattice.height, lattice.Height, the reference's Height. -/
namespace Go.Proofs.Ytmbgndcahlopdaa
set_option maxRecDepth 100000
open Go.RowKit

end Go.Proofs.Ytmbgndcahlopdaa

/- The package's answers and the reference's are the same. Plain data. -/
namespace Go.Proofs.Ytmbgndcahlopdaa
set_option maxRecDepth 100000
open Lat

/-- All rows hold bits of labels alone. -/
def Rows (up : List Nat) : Prop := ∀ a, up.getD a 0 < 2 ^ up.length

theorem sub_all {x n : Nat} : sub x (allS n) = !highB x n := by
  have h2 : 0 < 2 ^ n := Nat.pow_pos (by decide)
  rw [Bool.eq_iff_iff]
  unfold highB
  simp only [Bool.not_eq_true', decide_eq_false_iff_not, Nat.not_lt, Nat.le_zero_eq]
  rw [Nat.div_eq_zero_iff]
  constructor
  · intro h
    right
    unfold sub allS at h
    rw [beq_iff_eq, Nat.and_two_pow_sub_one_eq_mod] at h
    rw [← h]
    exact Nat.mod_lt _ h2
  · intro h
    have hx : x < 2 ^ n := by rcases h with h | h <;> omega
    unfold sub allS
    rw [beq_iff_eq, Nat.and_two_pow_sub_one_eq_mod, Nat.mod_eq_of_lt hx]
theorem lt_of_sub {x n : Nat} (h : sub x (allS n) = true) : x < 2 ^ n := by
  rw [sub_all] at h
  unfold highB at h
  simp only [Bool.not_eq_true', decide_eq_false_iff_not, Nat.not_lt, Nat.le_zero_eq] at h
  rw [Nat.div_eq_zero_iff] at h
  have : 0 < 2 ^ n := Nat.pow_pos (by decide)
  rcases h with h | h <;> omega

theorem streq_symm (s t : ByteArray) : streq s t = streq t s := by
  unfold streq
  rw [Bool.eq_iff_iff, beq_iff_eq, beq_iff_eq]
  exact ⟨fun h => h.symm, fun h => h.symm⟩

theorem all_range {f : Nat → Bool} {n : Nat} : (List.range n).all f = true ↔ ∀ i, i < n → f i = true := by
  rw [List.all_eq_true]
  simp [List.mem_range]
theorem all_pairs {f : Nat × Nat → Bool} {n : Nat} : (pairs n).all f = true ↔ ∀ a b, a < n → b < n → f (a, b) = true := by
  rw [List.all_eq_true]
  constructor
  · intro h a b ha hb; exact h _ (mem_pairs.2 ⟨ha, hb⟩)
  · rintro h ⟨a, b⟩ hp; exact h a b (mem_pairs.1 hp).1 (mem_pairs.1 hp).2

theorem may_same (names : List ByteArray) (up : List Nat) : mayB names up = rMay names up := by
  unfold mayB rMay
  cases hl : (decide (1 ≤ up.length) && decide (up.length ≤ 8) && decide (names.length = up.length)) with
  | false => rfl
  | true =>
    simp only [Bool.and_eq_true, decide_eq_true_eq] at hl
    obtain ⟨_, hlen⟩ := hl
    rw [hlen, Bool.true_and, Bool.true_and, Bool.eq_iff_iff, Bool.and_eq_true, all_range, all_range, all_pairs]
    constructor
    · rintro ⟨h1, h2⟩ i hi
      have hr := h1 i hi
      unfold rowOk at hr
      rw [Bool.and_eq_true, sub_all] at hr
      unfold lineOk
      rw [Bool.and_eq_true, Bool.and_eq_true, all_range]
      refine ⟨⟨hr.2, hr.1⟩, fun j hj => ?_⟩
      have := h2 i j hi (by omega)
      unfold twoOk at this
      have hne : (i != j) = true := by rw [bne_iff_ne]; omega
      simp only [hne, Bool.true_and] at this
      unfold dist nameAt
      rw [streq_symm]
      exact this
    · intro h
      refine ⟨fun i hi => ?_, fun a b ha hb => ?_⟩
      · have := h i hi
        unfold lineOk at this
        rw [Bool.and_eq_true, Bool.and_eq_true] at this
        unfold rowOk
        rw [Bool.and_eq_true, sub_all]
        exact ⟨this.1.2, this.1.1⟩
      · unfold twoOk
        rcases Nat.lt_trichotomy a b with hab | hab | hab
        · have := h b hb
          unfold lineOk at this
          rw [Bool.and_eq_true, all_range] at this
          have := this.2 a hab
          unfold dist nameAt at this
          have hne : (a != b) = true := by rw [bne_iff_ne]; omega
          simp only [hne, Bool.true_and]
          exact this
        · subst hab; simp
        · have := h a ha
          unfold lineOk at this
          rw [Bool.and_eq_true, all_range] at this
          have := this.2 b hab
          unfold dist nameAt at this
          have hne : (a != b) = true := by rw [bne_iff_ne]; omega
          simp only [hne, Bool.true_and]
          rw [streq_symm]
          exact this

theorem rows_of_may {names : List ByteArray} {up : List Nat} (h : mayB names up = true) : Rows up := by
  unfold mayB at h
  simp only [Bool.and_eq_true] at h
  have h1 := h.2.1
  rw [all_range] at h1
  intro a
  by_cases ha : a < up.length
  · have := h1 a ha
    unfold rowOk at this
    rw [Bool.and_eq_true] at this
    exact lt_of_sub this.1
  · rw [List.getD_eq_getElem?_getD, List.getElem?_eq_none (by omega)]
    exact Nat.pow_pos (by decide)

theorem fl_lt {up : List Nat} (h : Rows up) {a b : Nat} (hf : fl up a b = true) : b < up.length := by
  rcases Nat.lt_or_ge b up.length with hb | hb
  · exact hb
  · unfold fl at hf
    rw [Nat.testBit_lt_two_pow (Nat.lt_of_lt_of_le (h a) (Nat.pow_le_pow_right (show 2 > 0 by decide) hb))] at hf
    cases hf

theorem sub_rows {up : List Nat} (h : Rows up) (a b : Nat) : sub (up.getD b 0) (up.getD a 0) = true ↔ ∀ c, c < up.length → fl up b c = true → fl up a c = true := by
  constructor
  · intro hs c _ hc; exact sub_bit hs c hc
  · intro hc
    exact sub_of_bits fun i hi => hc i (fl_lt h hi) hi

theorem order_same {up : List Nat} (h : Rows up) : isOrder up = rOrder up := by
  rw [Bool.eq_iff_iff]
  unfold isOrder rOrder
  rw [all_pairs, all_range]
  constructor
  · intro ho
    have ho' : isOrder up = true := by unfold isOrder; rw [all_pairs]; exact ho
    intro a ha
    unfold uno
    rw [Bool.and_eq_true, all_range]
    refine ⟨ord_refl ho' ha, fun b hb => ?_⟩
    unfold duo
    rw [Bool.and_eq_true, all_range]
    refine ⟨?_, fun c hc => ?_⟩
    · cases e1 : fl up a b <;> cases e2 : fl up b a <;> simp
      exact ord_anti ho' ha hb e1 e2
    · unfold tri
      cases e1 : fl up a b <;> cases e2 : fl up b c <;> simp
      exact ord_trans ho' ha hb e1 e2
  · intro ho a b ha hb
    have h1 := ho a ha
    unfold uno at h1
    rw [Bool.and_eq_true, all_range] at h1
    have h2 := h1.2 b hb
    unfold duo at h2
    rw [Bool.and_eq_true, all_range] at h2
    unfold ordOk
    by_cases hab : a = b
    · subst hab; simp [h1.1]
    · simp only [hab, if_false]
      cases e1 : fl up a b with
      | false => rfl
      | true =>
        have hba : fl up b a = false := by
          have := h2.1
          simp only [e1, Bool.and_true] at this
          have hne : (a != b) = true := by rw [bne_iff_ne]; exact hab
          simp only [hne, Bool.true_and] at this
          simpa using this
        simp only [Bool.not_true, Bool.false_or, hba, Bool.not_false, Bool.true_and]
        rw [sub_rows h]
        intro c hc hbc
        have := h2.2 c hc
        unfold tri at this
        simpa [e1, hbc] using this

theorem joinS_bit (up : List Nat) (a b c : Nat) : (joinS up a b).testBit c = (fl up a c && fl up b c) := by
  unfold joinS fl; rw [Nat.testBit_and]
theorem leastF_j {up : List Nat} (h : Rows up) (a b c : Nat) : leastF up (joinS up a b) c = jOk up a b c := by
  unfold leastF jOk
  rw [joinS_bit]
  congr 1
  rw [Bool.eq_iff_iff, all_range]
  constructor
  · intro hs d _
    unfold jAll
    cases e1 : fl up a d <;> cases e2 : fl up b d <;> simp
    exact sub_bit hs d (by rw [joinS_bit, e1, e2]; rfl)
  · intro hd
    refine sub_of_bits fun i hi => ?_
    rw [joinS_bit, Bool.and_eq_true] at hi
    have := hd i (fl_lt h hi.1)
    unfold jAll at this
    have : fl up c i = true := by simpa [hi.1, hi.2] using this
    exact this
theorem find_same {f g : Nat → Bool} {n : Nat} (h : ∀ i, i < n → f i = g i) : (List.range n).find? f = (List.range n).find? g := by
  cases e : (List.range n).find? g with
  | none =>
    rw [List.find?_eq_none] at e ⊢
    intro x hx
    rw [h x (by simpa using hx)]
    exact e x hx
  | some k =>
    have hk : k < n := by simpa using List.mem_of_find?_eq_some e
    refine find_range f n k hk (fun j hj => ?_) (by rw [h k hk]; exact List.find?_some e)
    rw [h j (by omega)]
    rw [List.find?_eq_some_iff_append] at e
    obtain ⟨_, l1, l2, hl, hno⟩ := e
    have hjm : j ∈ l1 := by
      have hlen : l1.length = k := by
        have := congrArg (fun l => l[l1.length]?) hl
        simp only [List.getElem?_append_right (Nat.le_refl _), Nat.sub_self, List.getElem?_cons_zero] at this
        have hlt : l1.length < n := by
          have := congrArg List.length hl
          simp at this
          omega
        rw [List.getElem?_range hlt] at this
        injection this
      have hj2 : (List.range n)[j]? = l1[j]? := by rw [hl, List.getElem?_append_left (by omega)]
      rw [List.getElem?_range (by omega)] at hj2
      exact List.mem_of_getElem? hj2.symm
    simpa using hno j hjm
theorem join_same {up : List Nat} (h : Rows up) (a b : Nat) : rJoin up a b = if leastB up (joinS up a b) then (leastN up (joinS up a b) : Int) else -1 := by
  unfold rJoin leastB leastN least
  rw [find_same (fun i _ => (leastF_j h a b i).symm)]
  cases (List.range up.length).find? (leastF up (joinS up a b)) <;> simp

theorem rows_turned (up : List Nat) : Rows (turned up) := by
  intro a
  rw [turned_length, List.getD_eq_getElem?_getD]
  cases e : (turned up)[a]? with
  | none => exact Nat.pow_pos (by decide)
  | some x => exact turnTo_lt (n := up.length) (fun p hp => (mem_pairs.1 hp).1) a x e
theorem leastF_m {up : List Nat} {a b c : Nat} (ha : a < up.length) (hb : b < up.length) (hc : c < up.length) : leastF (turned up) (joinS (turned up) a b) c = mOk up a b c := by
  rw [leastF_j (rows_turned up)]
  unfold jOk mOk
  rw [turned_bit hc ha, turned_bit hc hb, turned_length]
  congr 1
  rw [Bool.eq_iff_iff, all_range, all_range]
  have : ∀ d, d < up.length → jAll (turned up) a b c d = mAll up a b c d := by
    intro d hd
    unfold jAll mAll
    rw [turned_bit hd ha, turned_bit hd hb, turned_bit hd hc]
  constructor
  · intro h d hd; rw [← this d hd]; exact h d hd
  · intro h d hd; rw [this d hd]; exact h d hd
theorem meet_same {up : List Nat} {a b : Nat} (ha : a < up.length) (hb : b < up.length) : rMeet up a b = if leastB (turned up) (joinS (turned up) a b) then (leastN (turned up) (joinS (turned up) a b) : Int) else -1 := by
  unfold rMeet leastB leastN least
  rw [turned_length, find_same (fun i hi => (leastF_m ha hb hi).symm)]
  cases (List.range up.length).find? (leastF (turned up) (joinS (turned up) a b)) <;> simp
theorem lattice_same {up : List Nat} (h : Rows up) : isLattice up = (List.range up.length).all (rBoth up) := by
  rw [Bool.eq_iff_iff]
  unfold isLattice
  rw [all_pairs, all_range]
  have : ∀ a b, a < up.length → b < up.length → latOk up (a, b) = bothOk up a b := by
    intro a b ha hb
    unfold latOk bothOk
    rw [join_same h, meet_same ha hb]
    cases leastB up (joinS up a b) <;> cases leastB (turned up) (joinS (turned up) a b) <;> simp
    all_goals omega
  constructor
  · intro hl a ha
    unfold rBoth
    rw [all_range]
    intro b hb
    rw [← this a b ha hb]
    exact hl a b ha hb
  · intro hl a b ha hb
    have := hl a ha
    unfold rBoth at this
    rw [all_range] at this
    rw [‹∀ a b, a < up.length → b < up.length → latOk up (a, b) = bothOk up a b› a b ha hb]
    exact this b hb
theorem check_same (names : List ByteArray) (up : List Nat) : checkN names up = rCheckN names up := by
  unfold checkN rCheckN
  rw [← may_same]
  cases hm : mayB names up with
  | false => rfl
  | true =>
    have h := rows_of_may hm
    rw [order_same h, lattice_same h]
end Go.Proofs.Ytmbgndcahlopdaa
