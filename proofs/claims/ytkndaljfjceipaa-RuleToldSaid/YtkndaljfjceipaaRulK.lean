/- The walk of Uses. -/
import Derived.Test.YtkndaljfjceipaaRulJ
namespace Go.Proofs.Ytkndaljfjceipaa
open Go.RowKit Go.Shelf
namespace Rl
def usesOf (r : List Int) : Nat := (if (8 : Int) ∈ r then 1 else 0) + (if (9 : Int) ∈ r then 2 else 0) + (if (10 : Int) ∈ r then 4 else 0) + (if (11 : Int) ∈ r then 8 else 0)
theorem usesOf_lt (r : List Int) : usesOf r < 16 := by
  unfold usesOf
  split <;> split <;> split <;> split <;> omega
theorem uses_other {r : List Int} {n : Int} (h : n < 8 ∨ 11 < n) : usesOf (r ++ [n]) = usesOf r := by
  unfold usesOf
  simp only [List.mem_append, List.mem_singleton]
  have e8 : ¬ (8 : Int) = n := by omega
  have e9 : ¬ (9 : Int) = n := by omega
  have e10 : ¬ (10 : Int) = n := by omega
  have e11 : ¬ (11 : Int) = n := by omega
  simp only [e8, e9, e10, e11, or_false]
theorem uses_8 (r : List Int) : usesOf (r ++ [8]) = usesOf r ||| 1 := by
  unfold usesOf
  by_cases h8 : (8 : Int) ∈ r <;> by_cases h9 : (9 : Int) ∈ r <;> by_cases h10 : (10 : Int) ∈ r <;> by_cases h11 : (11 : Int) ∈ r <;> simp [h8, h9, h10, h11]
theorem uses_9 (r : List Int) : usesOf (r ++ [9]) = usesOf r ||| 2 := by
  unfold usesOf
  by_cases h8 : (8 : Int) ∈ r <;> by_cases h9 : (9 : Int) ∈ r <;> by_cases h10 : (10 : Int) ∈ r <;> by_cases h11 : (11 : Int) ∈ r <;> simp [h8, h9, h10, h11]
theorem uses_10 (r : List Int) : usesOf (r ++ [10]) = usesOf r ||| 4 := by
  unfold usesOf
  by_cases h8 : (8 : Int) ∈ r <;> by_cases h9 : (9 : Int) ∈ r <;> by_cases h10 : (10 : Int) ∈ r <;> by_cases h11 : (11 : Int) ∈ r <;> simp [h8, h9, h10, h11]
theorem uses_11 (r : List Int) : usesOf (r ++ [11]) = usesOf r ||| 8 := by
  unfold usesOf
  by_cases h8 : (8 : Int) ∈ r <;> by_cases h9 : (9 : Int) ∈ r <;> by_cases h10 : (10 : Int) ∈ r <;> by_cases h11 : (11 : Int) ∈ r <;> simp [h8, h9, h10, h11]
def made (r : List Int) : Bool := right r false || right r true
end Rl
theorem take_next {α : Type} {l : List α} {k : Nat} (h : k < l.length) : l.take (k + 1) = l.take k ++ [l[k]] := by rw [List.take_succ_eq_append_getElem h]

theorem or_bits1 : ∀ u : Nat, u < 16 → bits BinOp.or IntKind.u32 (u : Int) 1 = ((u ||| 1 : Nat) : Int) := by decide +kernel
theorem or_bits2 : ∀ u : Nat, u < 16 → bits BinOp.or IntKind.u32 (u : Int) 2 = ((u ||| 2 : Nat) : Int) := by decide +kernel
theorem or_bits4 : ∀ u : Nat, u < 16 → bits BinOp.or IntKind.u32 (u : Int) 4 = ((u ||| 4 : Nat) : Int) := by decide +kernel
theorem or_bits8 : ∀ u : Nat, u < 16 → bits BinOp.or IntKind.u32 (u : Int) 8 = ((u ||| 8 : Nat) : Int) := by decide +kernel

/-- What Uses answers. -/
def UsesRes (w : World) (rule : List Int) (e : Ending) (w' : World) : Prop :=
  e = .returned (.tuple #[.int .u32 (if Rl.made rule = true then (Rl.usesOf rule : Nat) else 0 : Int), .int .i64 (if Rl.made rule = true then 0 else 1)]) ∧ Below w.heap.size w w'
theorem UsesRes.no {w w' : World} {rule : List Int} (h : Rl.made rule = false) (hb : Below w.heap.size w w') : UsesRes w rule (.returned (.tuple #[.int .u32 0, .int .i64 1])) w' := by
  unfold UsesRes
  rw [if_neg (by rw [h]; decide), if_neg (by rw [h]; decide)]
  exact ⟨rfl, hb⟩
theorem UsesRes.yes {w w' : World} {rule : List Int} (h : Rl.made rule = true) (hb : Below w.heap.size w w') : UsesRes w rule (.returned (.tuple #[.int .u32 (Rl.usesOf rule : Nat), .int .i64 0])) w' := by
  unfold UsesRes
  rw [if_pos h, if_pos h]
  exact ⟨rfl, hb⟩

set_option maxHeartbeats 2000000 in
theorem uses_no {A : Option Addr} {rule : List Int} (c : Nat) (w : World) (h : Row w w.heap.size A (ints rule)) (hl : rule.length ≤ 1000000) (hm : Rl.made rule = false) : Calls Try.prog 5 #[.slice A rule.length c] w (UsesRes w rule) := by
  have h1 := right_any c false w h hl
  have h2 := fun W (hb : Below w.heap.size w W) => right_any c true W ((h.below hb).more hb.size) hl
  obtain ⟨e1, e2⟩ : Rl.right rule false = false ∧ Rl.right rule true = false := by simpa [Rl.made] using hm
  rw [e1] at h1
  rw [e2] at h2
  have H1 := Lib.hid h1
  have H2 := Lib.hid h2
  have HM := Lib.hid hm
  clear h h1 h2 e1 e2 hm
  go_enter Try.func5, Try.ntmps5
  go_wp2_with (fail)
  refine H1.out.mono ?_
  rintro e w1 ⟨rfl, hb1⟩
  have HB1 := Lib.hid hb1
  clear hb1
  go_wp2_with (fail)
  refine (H2.out _ HB1.out).mono ?_
  rintro e w2 ⟨rfl, hb2⟩
  have HB2 := Lib.hid (HB1.out.trans (hb2.mono HB1.out.size))
  clear hb2
  go_wp2
  go_ret2
  exact UsesRes.no HM.out HB2.out
set_option maxHeartbeats 4000000 in
theorem uses_yes {A : Option Addr} {rule : List Int} (c : Nat) (w : World) (h : Row w w.heap.size A (ints rule)) (hl : rule.length ≤ 1000000) (hm : Rl.made rule = true) : Calls Try.prog 5 #[.slice A rule.length c] w (UsesRes w rule) := by
  have h1 := right_any c false w h hl
  have h2 := fun W (hb : Below w.heap.size w W) => right_any c true W ((h.below hb).more hb.size) hl
  have H1 := Lib.hid h1
  have H2 := Lib.hid h2
  have HM := Lib.hid hm
  have H := Lib.hid h
  clear h h1 h2
  cases e1 : Rl.right rule false
  · have e2 : Rl.right rule true = true := by simpa [Rl.made, e1] using hm
    rw [e1] at H1
    rw [e2] at H2
    clear e1 e2 hm
    go_enter Try.func5, Try.ntmps5
    go_wp2_with (fail)
    refine H1.out.mono ?_
    rintro e w1 ⟨rfl, hb1⟩
    have HB1 := Lib.hid hb1
    clear hb1
    go_wp2_with (fail)
    refine (H2.out _ HB1.out).mono ?_
    rintro e w2 ⟨rfl, hb2⟩
    have HBW := Lib.hid (HB1.out.trans (hb2.mono HB1.out.size))
    clear hb2
    go_wp2
    go_loopw [4, 17] (fun v i wr => ∃ (k : Nat), k ≤ rule.length ∧ i = .int .i64 k ∧ v = .int .u32 (Rl.usesOf (rule.take k) : Nat) ∧ wr = w2) (fun _ i _ => rule.length - (intOf i).toNat)
    case atStart => exact ⟨0, Nat.zero_le _, rfl, rfl, rfl⟩
    case round =>
      obtain ⟨k, hk, rfl, rfl, rfl⟩ := hrel
      by_cases hlt : k < rule.length
      · obtain ⟨ad, hA, hb, c0⟩ := irow_at (H.out.below HBW.out) hlt
        have HN := Lib.hid (take_next hlt)
        have hu := Rl.usesOf_lt (rule.take k)
        rw [hA]
        clear hA
        generalize rule[k] = x at *
        by_cases hx : x < 8 ∨ 11 < x
        · have HE := Lib.hid (Rl.uses_other (r := rule.take k) hx)
          have HX := Lib.hid hx
          rcases hx with hx | hx
          all_goals
            generalize Rl.usesOf (rule.take k) = u at *
            go_wp2
            go_roundw
            case rel => exact ⟨k + 1, by omega, by go_num, by rw [HN.out, HE.out], trivial⟩
            case measure => simp [intOf]; omega
        · have hxs : x = 8 ∨ x = 9 ∨ x = 10 ∨ x = 11 := by omega
          clear hx
          rcases hxs with rfl | rfl | rfl | rfl
          · have HE := Lib.hid (Rl.uses_8 (rule.take k))
            generalize Rl.usesOf (rule.take k) = u at *
            have HO := Lib.hid (or_bits1 u hu)
            go_wp2
            go_roundw
            case rel => exact ⟨k + 1, by omega, by go_num, by rw [HN.out, HE.out, ← HO.out], trivial⟩
            case measure => simp [intOf]; omega
          · have HE := Lib.hid (Rl.uses_9 (rule.take k))
            generalize Rl.usesOf (rule.take k) = u at *
            have HO := Lib.hid (or_bits2 u hu)
            go_wp2
            go_roundw
            case rel => exact ⟨k + 1, by omega, by go_num, by rw [HN.out, HE.out, ← HO.out], trivial⟩
            case measure => simp [intOf]; omega
          · have HE := Lib.hid (Rl.uses_10 (rule.take k))
            generalize Rl.usesOf (rule.take k) = u at *
            have HO := Lib.hid (or_bits4 u hu)
            go_wp2
            go_roundw
            case rel => exact ⟨k + 1, by omega, by go_num, by rw [HN.out, HE.out, ← HO.out], trivial⟩
            case measure => simp [intOf]; omega
          · have HE := Lib.hid (Rl.uses_11 (rule.take k))
            generalize Rl.usesOf (rule.take k) = u at *
            have HO := Lib.hid (or_bits8 u hu)
            go_wp2
            go_roundw
            case rel => exact ⟨k + 1, by omega, by go_num, by rw [HN.out, HE.out, ← HO.out], trivial⟩
            case measure => simp [intOf]; omega
      · obtain rfl : k = rule.length := by omega
        rw [List.take_length]
        go_wp2
        go_ret2
        exact UsesRes.yes HM.out HBW.out
  · rw [e1] at H1
    clear e1 hm H2
    go_enter Try.func5, Try.ntmps5
    go_wp2_with (fail)
    refine H1.out.mono ?_
    rintro e w1 ⟨rfl, hb1⟩
    have HBW := Lib.hid hb1
    clear hb1
    go_wp2
    go_loopw [4, 17] (fun v i wr => ∃ (k : Nat), k ≤ rule.length ∧ i = .int .i64 k ∧ v = .int .u32 (Rl.usesOf (rule.take k) : Nat) ∧ wr = w1) (fun _ i _ => rule.length - (intOf i).toNat)
    case atStart => exact ⟨0, Nat.zero_le _, rfl, rfl, rfl⟩
    case round =>
      obtain ⟨k, hk, rfl, rfl, rfl⟩ := hrel
      by_cases hlt : k < rule.length
      · obtain ⟨ad, hA, hb, c0⟩ := irow_at (H.out.below HBW.out) hlt
        have HN := Lib.hid (take_next hlt)
        have hu := Rl.usesOf_lt (rule.take k)
        rw [hA]
        clear hA
        generalize rule[k] = x at *
        by_cases hx : x < 8 ∨ 11 < x
        · have HE := Lib.hid (Rl.uses_other (r := rule.take k) hx)
          have HX := Lib.hid hx
          rcases hx with hx | hx
          all_goals
            generalize Rl.usesOf (rule.take k) = u at *
            go_wp2
            go_roundw
            case rel => exact ⟨k + 1, by omega, by go_num, by rw [HN.out, HE.out], trivial⟩
            case measure => simp [intOf]; omega
        · have hxs : x = 8 ∨ x = 9 ∨ x = 10 ∨ x = 11 := by omega
          clear hx
          rcases hxs with rfl | rfl | rfl | rfl
          · have HE := Lib.hid (Rl.uses_8 (rule.take k))
            generalize Rl.usesOf (rule.take k) = u at *
            have HO := Lib.hid (or_bits1 u hu)
            go_wp2
            go_roundw
            case rel => exact ⟨k + 1, by omega, by go_num, by rw [HN.out, HE.out, ← HO.out], trivial⟩
            case measure => simp [intOf]; omega
          · have HE := Lib.hid (Rl.uses_9 (rule.take k))
            generalize Rl.usesOf (rule.take k) = u at *
            have HO := Lib.hid (or_bits2 u hu)
            go_wp2
            go_roundw
            case rel => exact ⟨k + 1, by omega, by go_num, by rw [HN.out, HE.out, ← HO.out], trivial⟩
            case measure => simp [intOf]; omega
          · have HE := Lib.hid (Rl.uses_10 (rule.take k))
            generalize Rl.usesOf (rule.take k) = u at *
            have HO := Lib.hid (or_bits4 u hu)
            go_wp2
            go_roundw
            case rel => exact ⟨k + 1, by omega, by go_num, by rw [HN.out, HE.out, ← HO.out], trivial⟩
            case measure => simp [intOf]; omega
          · have HE := Lib.hid (Rl.uses_11 (rule.take k))
            generalize Rl.usesOf (rule.take k) = u at *
            have HO := Lib.hid (or_bits8 u hu)
            go_wp2
            go_roundw
            case rel => exact ⟨k + 1, by omega, by go_num, by rw [HN.out, HE.out, ← HO.out], trivial⟩
            case measure => simp [intOf]; omega
      · obtain rfl : k = rule.length := by omega
        rw [List.take_length]
        go_wp2
        go_ret2
        exact UsesRes.yes HM.out HBW.out
end Go.Proofs.Ytkndaljfjceipaa
