/- Walks of package lattice's small functions: flows, all, least, join. -/
import Derived.Test.YtmbgndcahlopdaaChecked
import Derived.WalkKit
import Derived.Lib.Hide
import Derived.Outline
import Derived.WalkLawsBesides
import Derived.WalkSpells
import Derived.Deep.QuietTactic
import Derived.BigQuiet
import Derived.Test.YtmbgndcahlopdaaGBase
import Derived.Test.YtmbgndcahlopdaaGLat
namespace Go.Proofs.Ytmbgndcahlopdaa
set_option maxRecDepth 100000
open Go.RowKit

theorem ret_bool {a b : Bool} (h : a = b) : Ending.returned (.bool a) = .returned (.bool b) := by rw [h]
theorem ret_ib {x y : Int} {a b : Bool} (h : x = y) (h' : a = b) : Ending.returned (.tuple #[.int .i64 x, .bool a]) = .returned (.tuple #[.int .i64 y, .bool b]) := by rw [h, h']

theorem bit_any (x b : Nat) (hx : x < 4294967296) : (bits BinOp.and IntKind.u32 ((x : Int) / 2 ^ b) 1 == 1) = x.testBit b := by
  have h : x / 2 ^ b < 4294967296 := Nat.lt_of_le_of_lt (Nat.div_le_self _ _) hx
  have e : (x : Int) / 2 ^ b = ((x / 2 ^ b : Nat) : Int) := by rw [Int.natCast_ediv, Int.natCast_pow]; rfl
  rw [e, show (1 : Int) = ((1 : Nat) : Int) from rfl, u32_and_nat _ _ h (by decide), ← Lat.bit_one]
  rw [Bool.eq_iff_iff, beq_iff_eq, beq_iff_eq]
  omega

theorem flows_any {B : Nat} {A : Option Addr} {up : List Nat} (c a b : Nat) (w : World) (h : Ups w B A up) (ha : a < up.length) (hb : b < 32) :
    Calls Try.prog 94 #[.slice A up.length c, .int .i64 a, .int .i64 b] w fun e w' => e = .returned (.bool (Lat.fl up a b)) ∧ w = w' := by
  obtain ⟨ad, x, rfl, _, hx, hx32, hc⟩ := h.at_ ha
  have hf : Lat.fl up a b = x.testBit b := by unfold Lat.fl; rw [List.getD_eq_getElem?_getD, hx]; rfl
  have HF := Lib.hid hf
  have HX := Lib.hid hx
  clear hf hx h
  go_enter Try.func94, Try.ntmps94
  go_wp2
  go_ret
  exact ⟨ret_bool (by rw [HF.out]; exact bit_any x b hx32), rfl⟩

theorem ret_u32 {x y : Int} (h : x = y) : Ending.returned (.int .u32 x) = .returned (.int .u32 y) := by rw [h]
theorem all_num (n : Nat) (hn : n < 32) : ((2 : Int) ^ n % 4294967296 - 1) % 4294967296 = (Lat.allS n : Nat) := by
  have h1 : 2 ^ n < 2 ^ 32 := Nat.pow_lt_pow_right (by decide) hn
  have h2 : 0 < 2 ^ n := Nat.pow_pos (by decide)
  have e : (2 : Int) ^ n = ((2 ^ n : Nat) : Int) := by rw [Int.natCast_pow]; rfl
  rw [e]
  unfold Lat.allS
  omega

theorem all_any (n : Nat) (w : World) (hn : n < 32) :
    Calls Try.prog 91 #[.int .i64 n] w fun e w' => e = .returned (.int .u32 (Lat.allS n : Nat)) ∧ w = w' := by
  go_enter Try.func91, Try.ntmps91
  go_wp2
  go_ret
  exact ⟨ret_u32 (all_num n hn), rfl⟩

theorem andNot_any (x y : Nat) (hx : x < 4294967296) (hy : y < 4294967296) : (bits BinOp.andNot IntKind.u32 (x : Int) (y : Int) == 0) = Lat.sub x y := by
  rw [u32_andNot_nat x y hx hy, ← Lat.andNot_zero x y hx hy, Bool.eq_iff_iff, beq_iff_eq, beq_iff_eq]
  omega

theorem least_any {B : Nat} {A : Option Addr} {up : List Nat} (c s : Nat) (w : World) (h : Ups w B A up) (hl : up.length ≤ 31) (hs : s < 4294967296) :
    Calls Try.prog 115 #[.slice A up.length c, .int .u32 s] w fun e w' => e = .returned (.tuple #[.int .i64 (Lat.leastN up s : Nat), .bool (Lat.leastB up s)]) ∧ w = w' := by
  go_enter Try.func115, Try.ntmps115
  go_wp2
  go_loop [9] (fun i => ∃ k : Nat, k ≤ up.length ∧ i = .int .i64 k ∧ ∀ j, j < k → Lat.leastF up s j = false) (fun i => up.length - (intOf i).toNat)
  case atStart => exact ⟨0, Nat.zero_le _, rfl, fun j h => absurd h (Nat.not_lt_zero j)⟩
  case round =>
    obtain ⟨k, hk, rfl, hno⟩ := hrel
    by_cases hlt : k < up.length
    · obtain ⟨ad, x, rfl, _, hx, hx32, hc⟩ := h.at_ hlt
      have hF : Lat.leastF up s k = (s.testBit k && Lat.sub s x) := by unfold Lat.leastF; rw [List.getD_eq_getElem?_getD, hx]; rfl
      have HF := Lib.hid hF
      have HNO := Lib.hid hno
      have HX := Lib.hid hx
      have h1 := bit_any s k hs
      have h2 := andNot_any s x hs hx32
      clear hF hno hx h
      cases e1 : s.testBit k <;> cases e2 : Lat.sub s x
      all_goals
        rw [e1] at h1
        rw [e2] at h2
        have HE1 := Lib.hid e1
        have HE2 := Lib.hid e2
        clear e1 e2
        go_wp2
        first
          | (go_ret2; exact ⟨ret_ib (by rw [(Lat.least_some hlt HNO.out (by rw [HF.out, HE1.out, HE2.out]; rfl)).1]) (Lat.least_some hlt HNO.out (by rw [HF.out, HE1.out, HE2.out]; rfl)).2.symm, rfl⟩)
          | (go_round
             case rel => exact ⟨k + 1, by omega, by go_num, fun j hj => by
               rcases Nat.lt_or_eq_of_le (Nat.le_of_lt_succ hj) with h | rfl
               · exact HNO.out j h
               · rw [HF.out, HE1.out, HE2.out]; rfl⟩
             case measure => simp [intOf]; omega)
    · obtain rfl : k = up.length := by omega
      have HNO := Lib.hid hno
      clear hno
      go_wp2
      go_ret2
      obtain ⟨g1, g2⟩ := Lat.least_none HNO.out
      exact ⟨ret_ib (by rw [g1]; rfl) g2.symm, rfl⟩

theorem and_num (x y : Nat) (hx : x < 4294967296) (hy : y < 4294967296) : bits BinOp.and IntKind.u32 (x : Int) (y : Int) = ((x &&& y : Nat) : Int) := u32_and_nat x y hx hy

theorem join_any {B : Nat} {A : Option Addr} {up : List Nat} (c a b : Nat) (w : World) (h : Ups w B A up) (hl : up.length ≤ 31) (ha : a < up.length) (hb : b < up.length) :
    Calls Try.prog 96 #[.slice A up.length c, .int .i64 a, .int .i64 b] w fun e w' => e = .returned (.tuple #[.int .i64 (Lat.leastN up (Lat.joinS up a b) : Nat), .bool (Lat.leastB up (Lat.joinS up a b))]) ∧ ∃ n, w' = w.drewN n := by
  obtain ⟨ad, x, rfl, _, hx, hx32, hc⟩ := h.at_ ha
  obtain ⟨ad', y, he, _, hy, hy32, hd⟩ := h.at_ hb
  obtain rfl : ad' = ad := by injection he with he; exact he.symm
  clear he
  have hj : Lat.joinS up a b = x &&& y := by unfold Lat.joinS; rw [List.getD_eq_getElem?_getD, hx, List.getD_eq_getElem?_getD, hy]; rfl
  have hn := and_num x y hx32 hy32
  have hlt : x &&& y < 4294967296 := Nat.lt_of_le_of_lt Nat.and_le_left hx32
  have hcon := fun n => least_any c (x &&& y) (w.drewN n) h hl hlt
  rw [hj]
  have HC := Lib.hid hcon
  clear h hj hx hy hcon
  go_enter Try.func96, Try.ntmps96
  go_wp2
  go_quiet ((go_at_call 115; exact quiet_eq (HC.out _)))
  go_wp2
  go_ret2
  exact ⟨rfl, _, rfl⟩
end Go.Proofs.Ytmbgndcahlopdaa

/- Walks of the names' tests: lattice.isName, the reference's Name and high. -/
namespace Go.Proofs.Ytmbgndcahlopdaa
set_option maxRecDepth 100000
open Go.RowKit

/-- A byte of a name. -/
def low (c : UInt8) : Bool := 97 ≤ c.toNat && c.toNat ≤ 122
def nameOk (s : ByteArray) : Bool := decide (1 ≤ s.size) && decide (s.size ≤ 12) && s.data.toList.all low

theorem all_take_succ (s : ByteArray) (k : Nat) (h : k < s.size) : (s.data.toList.take (k + 1)).all low = ((s.data.toList.take k).all low && low s[k]) := by
  rw [List.take_succ_eq_append_getElem (by simpa using h), List.all_append]
  simp
  rfl
theorem all_take_full (s : ByteArray) : (s.data.toList.take s.size).all low = s.data.toList.all low := by
  rw [List.take_of_length_le (by simp)]
theorem all_take_false {s : ByteArray} {k : Nat} (h : (s.data.toList.take k).all low = false) : s.data.toList.all low = false := by
  rw [← List.take_append_drop k s.data.toList, List.all_append, h]
  rfl
theorem low_false (c : UInt8) (h : (c.toNat : Int) < 97) : low c = false := by unfold low; simp; omega
theorem low_false' (c : UInt8) (h : 122 < (c.toNat : Int)) : low c = false := by unfold low; simp; omega
theorem low_true (c : UInt8) (h : ¬ (c.toNat : Int) < 97) (h' : ¬ 122 < (c.toNat : Int)) : low c = true := by unfold low; simp; omega

set_option maxHeartbeats 400000 in
theorem isName_any (s : ByteArray) (w : World) (hs : s.size ≤ maxLen) :
    Calls Try.prog 92 #[.string s] w fun e w' => e = .returned (.bool (nameOk s)) ∧ w = w' := by
  unfold maxLen at hs
  by_cases h1 : s.size < 1
  · have hn : nameOk s = false := by unfold nameOk; simp; omega
    have HN := Lib.hid hn
    clear hn
    go_enter Try.func92, Try.ntmps92
    go_wp2
    go_ret
    exact ⟨ret_bool HN.out.symm, rfl⟩
  · by_cases h2 : 12 < s.size
    · have hn : nameOk s = false := by unfold nameOk; simp; omega
      have HN := Lib.hid hn
      clear hn
      go_enter Try.func92, Try.ntmps92
      go_wp2
      go_ret
      exact ⟨ret_bool HN.out.symm, rfl⟩
    · have hn : nameOk s = s.data.toList.all low := by unfold nameOk; simp; omega
      have HN := Lib.hid hn
      clear hn
      go_enter Try.func92, Try.ntmps92
      go_wp2
      go_loop [14] (fun i => ∃ k : Nat, k ≤ s.size ∧ i = .int .i64 k ∧ (s.data.toList.take k).all low = true) (fun i => s.size - (intOf i).toNat)
      case atStart => exact ⟨0, Nat.zero_le _, rfl, rfl⟩
      case round =>
        obtain ⟨k, hk, rfl, hall⟩ := hrel
        have HALL := Lib.hid hall
        clear hall
        by_cases hlt : k < s.size
        · by_cases x1 : (s[k].toNat : Int) < 97
          · go_wp2
            go_ret
            exact ⟨ret_bool (by rw [HN.out]; exact (all_take_false (k := k + 1) (by rw [all_take_succ s k hlt, low_false _ x1, Bool.and_false])).symm), rfl⟩
          · by_cases x2 : 122 < (s[k].toNat : Int)
            · go_wp2
              go_ret
              exact ⟨ret_bool (by rw [HN.out]; exact (all_take_false (k := k + 1) (by rw [all_take_succ s k hlt, low_false' _ x2, Bool.and_false])).symm), rfl⟩
            · go_wp2
              go_round
              case rel => exact ⟨k + 1, by omega, by go_num, by rw [all_take_succ s k hlt, HALL.out, low_true _ x1 x2]; rfl⟩
              case measure => simp [intOf]; omega
        · go_wp2
          go_ret
          obtain rfl : k = s.size := by omega
          exact ⟨ret_bool (by rw [HN.out, ← all_take_full, HALL.out]), rfl⟩

/-- Bits behind so many. -/
def highB (x n : Nat) : Bool := decide (0 < x / 2 ^ n)
theorem high_any (x n : Nat) (w : World) (hx : x < 4294967296) (hn : n ≤ 1000) :
    Calls Try.prog 75 #[.int .u32 x, .int .i64 n] w fun e w' => e = .returned (.bool (highB x n)) ∧ w = w' := by
  go_enter Try.func75, Try.ntmps75
  go_wp2
  go_loop [0, 5] (fun y i => ∃ k : Nat, k ≤ n ∧ i = .int .i64 k ∧ y = .int .u32 ((x / 2 ^ k : Nat) : Int)) (fun _ i => n - (intOf i).toNat)
  case atStart => exact ⟨0, Nat.zero_le _, rfl, by simp⟩
  case round =>
    obtain ⟨k, hk, rfl, rfl⟩ := hrel
    have hb : x / 2 ^ k < 4294967296 := Nat.lt_of_le_of_lt (Nat.div_le_self _ _) hx
    obtain ⟨y, hy⟩ : ∃ y, x / 2 ^ k = y := ⟨_, rfl⟩
    rw [hy] at hb ⊢
    have HY := Lib.hid hy
    clear hy
    by_cases hlt : k < n
    · go_wp2
      go_round
      case rel => exact ⟨k + 1, by omega, by go_num, by rw [Nat.pow_succ, ← Nat.div_div_eq_div_mul, HY.out]; simp⟩
      case measure => simp [intOf]; omega
    · obtain rfl : k = n := by omega
      go_wp2
      go_ret
      exact ⟨ret_bool (by unfold highB; rw [HY.out]), rfl⟩

set_option maxHeartbeats 400000 in
theorem refName_any (s : ByteArray) (w : World) (hs : s.size ≤ maxLen) :
    Calls Try.prog 74 #[.string s] w fun e w' => e = .returned (.bool (nameOk s)) ∧ w = w' := by
  unfold maxLen at hs
  have hn : nameOk s = (decide (1 ≤ s.size) && decide (s.size ≤ 12) && s.data.toList.all low) := rfl
  have HN := Lib.hid hn
  clear hn
  go_enter Try.func74, Try.ntmps74
  go_wp2
  go_loop [3] (fun i => ∃ k : Nat, k ≤ s.size ∧ i = .int .i64 k ∧ (s.data.toList.take k).all low = true) (fun i => s.size - (intOf i).toNat)
  case atStart => exact ⟨0, Nat.zero_le _, rfl, rfl⟩
  case round =>
    obtain ⟨k, hk, rfl, hall⟩ := hrel
    have HALL := Lib.hid hall
    clear hall
    by_cases hlt : k < s.size
    · by_cases x1 : (s[k].toNat : Int) < 97
      · go_wp2
        go_ret
        exact ⟨ret_bool (by rw [HN.out, all_take_false (k := k + 1) (by rw [all_take_succ s k hlt, low_false _ x1, Bool.and_false]), Bool.and_false]), rfl⟩
      · by_cases x2 : 122 < (s[k].toNat : Int)
        · go_wp2
          go_ret
          exact ⟨ret_bool (by rw [HN.out, all_take_false (k := k + 1) (by rw [all_take_succ s k hlt, low_false' _ x2, Bool.and_false]), Bool.and_false]), rfl⟩
        · go_wp2
          go_round
          case rel => exact ⟨k + 1, by omega, by go_num, by rw [all_take_succ s k hlt, HALL.out, low_true _ x1 x2]; rfl⟩
          case measure => simp [intOf]; omega
    · obtain rfl : k = s.size := by omega
      have hf : s.data.toList.all low = true := by rw [← all_take_full]; exact HALL.out
      have HF := Lib.hid hf
      clear hf
      by_cases y1 : 0 < s.size
      · by_cases y2 : s.size ≤ 12
        all_goals
          go_wp2
          go_ret
          exact ⟨ret_bool (by rw [HN.out, HF.out, Bool.eq_iff_iff]; simp; omega), rfl⟩
      · go_wp2
        go_ret
        exact ⟨ret_bool (by rw [HN.out, HF.out]; simp; omega), rfl⟩
end Go.Proofs.Ytmbgndcahlopdaa
