/- Walks of the reference's power, within, names. -/
import Derived.Test.YtaingkjleelbfaaOrdI
namespace Go.Proofs.Ytaingkjleelbfaa
open Go.RowKit Go.Shelf

set_option maxHeartbeats 1000000 in
theorem rPower_any (n : Nat) (w : World) (hn : n ≤ 8) : Calls Try.prog 26 #[.int .i64 n] w fun e w' => e = .returned (.int .i64 ((2 ^ n : Nat) : Int)) ∧ w = w' := by
  go_enter Try.func26, Try.ntmps26
  go_wp2
  go_loop [3, 4] (fun o i => ∃ k x : Nat, k ≤ n ∧ i = .int .i64 k ∧ x ≤ 256 ∧ x = 2 ^ k ∧ o = .int .i64 x) (fun _ i => n - (intOf i).toNat)
  case atStart => exact ⟨0, 1, Nat.zero_le _, rfl, by decide, rfl, rfl⟩
  case round =>
    obtain ⟨k, x, hk, rfl, hx, he, rfl⟩ := hrel
    have HE := Lib.hid he
    clear he
    by_cases hlt : k < n
    · go_wp2
      go_round
      case rel =>
        have h1 : 2 ^ (k + 1) = 2 * x := by rw [Nat.pow_succ, ← HE.out, Nat.mul_comm]
        have h2 : 2 ^ (k + 1) ≤ 2 ^ 8 := Nat.pow_le_pow_right (by decide) (by omega)
        exact ⟨k + 1, 2 * x, by omega, by go_num, by omega, h1.symm, by go_num⟩
      case measure => simp [intOf]; omega
    · obtain rfl : k = n := by omega
      go_wp2
      go_ret
      exact ⟨ret_i64 (by rw [HE.out]; first | rfl | simp), rfl⟩

theorem within_step : ∀ a b : Fin 8, a.1 ≠ 0 → powerF a.1 b.1 = if a.1 % 2 = 1 ∧ b.1 % 2 = 0 then false else powerF (a.1 / 2) (b.1 / 2) := by decide
set_option maxHeartbeats 1000000 in
theorem rWithin_any (a b : Nat) (w : World) (ha : a < 8) (hb : b < 8) : Calls Try.prog 28 #[.int .i64 a, .int .i64 b] w fun e w' => e = .returned (.bool (powerF a b)) ∧ w = w' := by
  go_enter Try.func28, Try.ntmps28
  go_wp2
  go_loop [0, 1] (fun u v => ∃ x y : Nat, x < 8 ∧ y < 8 ∧ u = .int .i64 x ∧ v = .int .i64 y ∧ powerF a b = powerF x y) (fun u _ => (intOf u).toNat)
  case atStart => exact ⟨a, b, ha, hb, rfl, rfl, rfl⟩
  case round =>
    obtain ⟨x, y, hx, hy, rfl, rfl, he⟩ := hrel
    have HE := Lib.hid he
    clear he
    by_cases h0 : x = 0
    · subst h0
      go_wp2
      go_ret
      exact ⟨ret_bool (by rw [HE.out]; simp [powerF]), rfl⟩
    · have hpos : 0 < x := by omega
      have hst := within_step ⟨x, hx⟩ ⟨y, hy⟩ h0
      have HST := Lib.hid hst
      clear hst h0
      have hxy : powerF a b = if x % 2 = 1 ∧ y % 2 = 0 then false else powerF (x / 2) (y / 2) := HE.out.trans HST.out
      have HXY := Lib.hid hxy
      clear hxy
      by_cases h1 : x % 2 = 1
      · have e1 : ((x : Int) % 2 == 1) = true := by rw [beq_iff_eq]; omega
        by_cases h2 : y % 2 = 0
        · have e2 : ((y : Int) % 2 == 0) = true := by rw [beq_iff_eq]; omega
          have HX := Lib.hid (And.intro h1 h2)
          clear h1 h2
          go_wp2
          go_ret
          exact ⟨ret_bool (by rw [HXY.out, if_pos HX.out]), rfl⟩
        · have e2 : ((y : Int) % 2 == 0) = false := by rw [beq_eq_false_iff_ne]; omega
          have HX := Lib.hid (And.intro h1 h2)
          clear h1 h2
          go_wp2
          go_round
          case rel => exact ⟨x / 2, y / 2, by omega, by omega, by go_num, by go_num, by rw [HXY.out, if_neg (fun h => HX.out.2 h.2)]⟩
          case measure => simp [intOf]; omega
      · have e1 : ((x : Int) % 2 == 1) = false := by rw [beq_eq_false_iff_ne]; omega
        have HX := Lib.hid h1
        clear h1
        go_wp2
        go_round
        case rel => exact ⟨x / 2, y / 2, by omega, by omega, by go_num, by go_num, by rw [HXY.out, if_neg (fun h => HX.out h.1)]⟩
        case measure => simp [intOf]; omega

theorem named_eight : named 8 = [⟨#[97]⟩, ⟨#[98]⟩, ⟨#[99]⟩, ⟨#[100]⟩, ⟨#[101]⟩, ⟨#[102]⟩, ⟨#[103]⟩, ⟨#[104]⟩] := by rfl
theorem named_take {n : Nat} (h : n ≤ 8) : named n = (named 8).take n := by
  unfold named
  rw [← List.map_take, List.take_range, Nat.min_eq_left h]
theorem rNames_any (n : Nat) (w : World) (hn : n ≤ 8) : Calls Try.prog 27 #[.int .i64 n] w fun e w' => e = .returned (.slice (some ⟨w.heap.size, 0, none⟩) n 8) ∧ w.alloc (.cells (strs (named 8)).toArray 9) = w' := by
  have h8 : (strs (named 8)).toArray = #[.string ⟨#[97]⟩, .string ⟨#[98]⟩, .string ⟨#[99]⟩, .string ⟨#[100]⟩, .string ⟨#[101]⟩, .string ⟨#[102]⟩, .string ⟨#[103]⟩, .string ⟨#[104]⟩] := by rw [named_eight]; rfl
  rw [h8]
  clear h8
  go_enter Try.func27, Try.ntmps27
  go_wp2
  go_ret
  exact ⟨rfl, rfl⟩
end Go.Proofs.Ytaingkjleelbfaa
