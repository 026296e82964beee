/- Walks of the names' tests: lattice.isName, the reference's Name and high. -/
import Derived.Test.YtaingkjleelbfaaLeaf
namespace Go.Proofs.Ytaingkjleelbfaa
open Go.RowKit

/-- A byte of a name. -/
def low (c : UInt8) : Bool := 97 ≤ c.toNat && c.toNat ≤ 122
def nameOk (s : ByteArray) : Bool := decide (1 ≤ s.size) && decide (s.size ≤ 12) && s.data.toList.all low

theorem all_take_succ (s : ByteArray) (k : Nat) (h : k < s.size) : (s.data.toList.take (k + 1)).all low = ((s.data.toList.take k).all low && low s[k]) := by
  rw [List.take_succ_eq_append_getElem (by simpa using h), List.all_append]
  simp
  rfl
theorem all_take_full (s : ByteArray) : (s.data.toList.take s.size).all low = s.data.toList.all low := by
  rw [List.take_of_length_le (by simp)]
theorem all_take_false {s : ByteArray} {k : Nat} (h : (s.data.toList.take k).all low = false) : s.data.toList.all low = false := by
  rw [← List.take_append_drop k s.data.toList, List.all_append, h]
  rfl
theorem low_false (c : UInt8) (h : (c.toNat : Int) < 97) : low c = false := by unfold low; simp; omega
theorem low_false' (c : UInt8) (h : 122 < (c.toNat : Int)) : low c = false := by unfold low; simp; omega
theorem low_true (c : UInt8) (h : ¬ (c.toNat : Int) < 97) (h' : ¬ 122 < (c.toNat : Int)) : low c = true := by unfold low; simp; omega

set_option maxHeartbeats 400000 in
theorem isName_any (s : ByteArray) (w : World) (hs : s.size ≤ maxLen) :
    Calls Try.prog 55 #[.string s] w fun e w' => e = .returned (.bool (nameOk s)) ∧ w = w' := by
  unfold maxLen at hs
  by_cases h1 : s.size < 1
  · have hn : nameOk s = false := by unfold nameOk; simp; omega
    have HN := Lib.hid hn
    clear hn
    go_enter Try.func55, Try.ntmps55
    go_wp2
    go_ret
    exact ⟨ret_bool HN.out.symm, rfl⟩
  · by_cases h2 : 12 < s.size
    · have hn : nameOk s = false := by unfold nameOk; simp; omega
      have HN := Lib.hid hn
      clear hn
      go_enter Try.func55, Try.ntmps55
      go_wp2
      go_ret
      exact ⟨ret_bool HN.out.symm, rfl⟩
    · have hn : nameOk s = s.data.toList.all low := by unfold nameOk; simp; omega
      have HN := Lib.hid hn
      clear hn
      go_enter Try.func55, Try.ntmps55
      go_wp2
      go_loop [14] (fun i => ∃ k : Nat, k ≤ s.size ∧ i = .int .i64 k ∧ (s.data.toList.take k).all low = true) (fun i => s.size - (intOf i).toNat)
      case atStart => exact ⟨0, Nat.zero_le _, rfl, rfl⟩
      case round =>
        obtain ⟨k, hk, rfl, hall⟩ := hrel
        have HALL := Lib.hid hall
        clear hall
        by_cases hlt : k < s.size
        · by_cases x1 : (s[k].toNat : Int) < 97
          · go_wp2
            go_ret
            exact ⟨ret_bool (by rw [HN.out]; exact (all_take_false (k := k + 1) (by rw [all_take_succ s k hlt, low_false _ x1, Bool.and_false])).symm), rfl⟩
          · by_cases x2 : 122 < (s[k].toNat : Int)
            · go_wp2
              go_ret
              exact ⟨ret_bool (by rw [HN.out]; exact (all_take_false (k := k + 1) (by rw [all_take_succ s k hlt, low_false' _ x2, Bool.and_false])).symm), rfl⟩
            · go_wp2
              go_round
              case rel => exact ⟨k + 1, by omega, by go_num, by rw [all_take_succ s k hlt, HALL.out, low_true _ x1 x2]; rfl⟩
              case measure => simp [intOf]; omega
        · go_wp2
          go_ret
          obtain rfl : k = s.size := by omega
          exact ⟨ret_bool (by rw [HN.out, ← all_take_full, HALL.out]), rfl⟩

/-- Bits behind so many. -/
def highB (x n : Nat) : Bool := decide (0 < x / 2 ^ n)
theorem high_any (x n : Nat) (w : World) (hx : x < 4294967296) (hn : n ≤ 1000) :
    Calls Try.prog 53 #[.int .u32 x, .int .i64 n] w fun e w' => e = .returned (.bool (highB x n)) ∧ w = w' := by
  go_enter Try.func53, Try.ntmps53
  go_wp2
  go_loop [0, 5] (fun y i => ∃ k : Nat, k ≤ n ∧ i = .int .i64 k ∧ y = .int .u32 ((x / 2 ^ k : Nat) : Int)) (fun _ i => n - (intOf i).toNat)
  case atStart => exact ⟨0, Nat.zero_le _, rfl, by simp⟩
  case round =>
    obtain ⟨k, hk, rfl, rfl⟩ := hrel
    have hb : x / 2 ^ k < 4294967296 := Nat.lt_of_le_of_lt (Nat.div_le_self _ _) hx
    obtain ⟨y, hy⟩ : ∃ y, x / 2 ^ k = y := ⟨_, rfl⟩
    rw [hy] at hb ⊢
    have HY := Lib.hid hy
    clear hy
    by_cases hlt : k < n
    · go_wp2
      go_round
      case rel => exact ⟨k + 1, by omega, by go_num, by rw [Nat.pow_succ, ← Nat.div_div_eq_div_mul, HY.out]; simp⟩
      case measure => simp [intOf]; omega
    · obtain rfl : k = n := by omega
      go_wp2
      go_ret
      exact ⟨ret_bool (by unfold highB; rw [HY.out]), rfl⟩

set_option maxHeartbeats 400000 in
theorem refName_any (s : ByteArray) (w : World) (hs : s.size ≤ maxLen) :
    Calls Try.prog 52 #[.string s] w fun e w' => e = .returned (.bool (nameOk s)) ∧ w = w' := by
  unfold maxLen at hs
  have hn : nameOk s = (decide (1 ≤ s.size) && decide (s.size ≤ 12) && s.data.toList.all low) := rfl
  have HN := Lib.hid hn
  clear hn
  go_enter Try.func52, Try.ntmps52
  go_wp2
  go_loop [3] (fun i => ∃ k : Nat, k ≤ s.size ∧ i = .int .i64 k ∧ (s.data.toList.take k).all low = true) (fun i => s.size - (intOf i).toNat)
  case atStart => exact ⟨0, Nat.zero_le _, rfl, rfl⟩
  case round =>
    obtain ⟨k, hk, rfl, hall⟩ := hrel
    have HALL := Lib.hid hall
    clear hall
    by_cases hlt : k < s.size
    · by_cases x1 : (s[k].toNat : Int) < 97
      · go_wp2
        go_ret
        exact ⟨ret_bool (by rw [HN.out, all_take_false (k := k + 1) (by rw [all_take_succ s k hlt, low_false _ x1, Bool.and_false]), Bool.and_false]), rfl⟩
      · by_cases x2 : 122 < (s[k].toNat : Int)
        · go_wp2
          go_ret
          exact ⟨ret_bool (by rw [HN.out, all_take_false (k := k + 1) (by rw [all_take_succ s k hlt, low_false' _ x2, Bool.and_false]), Bool.and_false]), rfl⟩
        · go_wp2
          go_round
          case rel => exact ⟨k + 1, by omega, by go_num, by rw [all_take_succ s k hlt, HALL.out, low_true _ x1 x2]; rfl⟩
          case measure => simp [intOf]; omega
    · obtain rfl : k = s.size := by omega
      have hf : s.data.toList.all low = true := by rw [← all_take_full]; exact HALL.out
      have HF := Lib.hid hf
      clear hf
      by_cases y1 : 0 < s.size
      · by_cases y2 : s.size ≤ 12
        all_goals
          go_wp2
          go_ret
          exact ⟨ret_bool (by rw [HN.out, HF.out, Bool.eq_iff_iff]; simp; omega), rfl⟩
      · go_wp2
        go_ret
        exact ⟨ret_bool (by rw [HN.out, HF.out]; simp; omega), rfl⟩
end Go.Proofs.Ytaingkjleelbfaa
