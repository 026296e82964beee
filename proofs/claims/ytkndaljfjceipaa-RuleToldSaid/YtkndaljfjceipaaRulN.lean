/- Walks of the reference's Right, Has, Uses, Same. -/
import Derived.Test.YtkndaljfjceipaaRulM
namespace Go.Proofs.Ytkndaljfjceipaa
open Go.RowKit Go.Shelf

theorem rRight_any {A : Option Addr} {rule : List Int} (c : Nat) (lab : Bool) (w : World) (h : Row w w.heap.size A (ints rule)) (hl : rule.length ≤ 100000) : Calls Try.prog 7 #[.slice A rule.length c, .bool lab] w (Tells w (Rl.right rule lab)) := by
  have HC := Lib.hid (rMade_any c w h hl)
  obtain ⟨e1, e2, -⟩ := madeN_right rule
  cases lab
  · rw [e1]
    clear h e1 e2
    go_enter Try.func7, Try.ntmps7
    go_wp2_with (fail)
    refine HC.out.mono ?_
    rintro e w1 ⟨rfl, hb1⟩
    have HB1 := Lib.hid hb1
    clear hb1
    generalize madeN rule = x at *
    go_wp2
    go_ret
    exact ⟨retb (by first | rfl | simp [beq_eq_decide]), HB1.out⟩
  · rw [e2]
    clear h e1 e2
    go_enter Try.func7, Try.ntmps7
    go_wp2_with (fail)
    refine HC.out.mono ?_
    rintro e w1 ⟨rfl, hb1⟩
    have HB1 := Lib.hid hb1
    clear hb1
    generalize madeN rule = x at *
    go_wp2
    go_ret
    exact ⟨retb (by first | rfl | simp [beq_eq_decide]), HB1.out⟩

theorem mem_take_next {rule : List Int} {k : Nat} (hk : k < rule.length) (n : Int) : n ∈ rule.take (k + 1) ↔ n ∈ rule.take k ∨ n = rule[k] := by
  rw [take_next hk, List.mem_append, List.mem_singleton]
set_option maxHeartbeats 1000000 in
theorem has_any {A : Option Addr} {rule : List Int} (c j : Nat) (w : World) (h : Row w w.heap.size A (ints rule)) (hl : rule.length ≤ 100000) (hj : j ≤ 100) : Calls Try.prog 17 #[.slice A rule.length c, .int .i64 j] w fun e w' => e = .returned (.bool (decide ((8 + (j : Int)) ∈ rule))) ∧ w = w' := by
  have H := Lib.hid h
  clear h
  go_enter Try.func17, Try.ntmps17
  go_wp2
  go_loop [9] (fun i => ∃ k : Nat, k ≤ rule.length ∧ i = .int .i64 k ∧ Hid (¬ (8 + (j : Int)) ∈ rule.take k)) (fun i => rule.length - (intOf i).toNat)
  case atStart => exact ⟨0, Nat.zero_le _, rfl, by unfold Hid; simp⟩
  case round =>
    obtain ⟨k, hk, rfl, HK⟩ := hrel
    by_cases hlt : k < rule.length
    · obtain ⟨ad, hA, hb, c0⟩ := irow_at H.out hlt
      have HM := Lib.hid (mem_take_next hlt (8 + (j : Int)))
      have hin : rule[k] ∈ rule := List.getElem_mem hlt
      have HI := Lib.hid hin
      rw [hA]
      clear hA hin
      generalize rule[k] = x at *
      by_cases hx : x = 8 + (j : Int)
      · have HX := Lib.hid hx
        subst hx
        go_wp2
        go_ret
        exact ⟨retb (by symm; rw [decide_eq_true_eq]; exact HI.out), rfl⟩
      · have hx0 : (x == 8 + (j : Int)) = false := by rw [beq_eq_false_iff_ne]; exact hx
        have HX := Lib.hid hx
        clear hx
        go_wp2
        go_round
        case rel => exact ⟨k + 1, by omega, by go_num, by unfold Hid; rw [HM.out]; rintro (h1 | h1); exact HK.out h1; exact HX.out h1.symm⟩
        case measure => simp [intOf]; omega
    · obtain rfl : k = rule.length := by omega
      have hno := HK.out
      rw [List.take_length] at hno
      have HNO := Lib.hid hno
      clear hno
      go_wp2
      go_ret
      exact ⟨retb (by symm; rw [decide_eq_false_iff_not]; exact HNO.out), rfl⟩

def usesTo (r : List Int) : Nat → Nat
  | 0 => 0
  | n + 1 => usesTo r n + (if (8 + (n : Int)) ∈ r then 2 ^ n else 0)
theorem usesTo_four (r : List Int) : usesTo r 4 = Rl.usesOf r := by
  have e0 : (8 : Int) + ((0 : Nat) : Int) = 8 := by decide
  have e1 : (8 : Int) + ((1 : Nat) : Int) = 9 := by decide
  have e2 : (8 : Int) + ((2 : Nat) : Int) = 10 := by decide
  have e3 : (8 : Int) + ((3 : Nat) : Int) = 11 := by decide
  have p0 : (2 : Nat) ^ 0 = 1 := rfl
  have p1 : (2 : Nat) ^ 1 = 2 := rfl
  have p2 : (2 : Nat) ^ 2 = 4 := rfl
  have p3 : (2 : Nat) ^ 3 = 8 := rfl
  simp only [usesTo, Rl.usesOf, e0, e1, e2, e3, p0, p1, p2, p3]
  omega
theorem usesTo_lt (r : List Int) : ∀ j, usesTo r j < 2 ^ j
  | 0 => by simp [usesTo]
  | j + 1 => by
    have := usesTo_lt r j
    rw [usesTo, Nat.pow_succ]
    split <;> omega
set_option maxHeartbeats 2000000 in
theorem rUses_any {A : Option Addr} {rule : List Int} (c : Nat) (w : World) (h : Row w w.heap.size A (ints rule)) (hl : rule.length ≤ 100000) : Calls Try.prog 10 #[.slice A rule.length c] w fun e w' => e = .returned (.int .u32 (Rl.usesOf rule : Nat)) ∧ w = w' := by
  have HH := fun j hj => Lib.hid (has_any c j w h hl hj)
  clear h
  go_enter Try.func10, Try.ntmps10
  go_wp2
  go_loop [3, 4, 5] (fun o b i => ∃ j : Nat, j ≤ 4 ∧ i = .int .i64 j ∧ o = .int .u32 (usesTo rule j : Nat) ∧ b = .int .u32 (2 ^ j : Nat)) (fun _ _ i => 4 - (intOf i).toNat)
  case atStart => exact ⟨0, by omega, rfl, rfl, rfl⟩
  case round =>
    obtain ⟨j, hj, rfl, rfl, rfl⟩ := hrel
    have hu := usesTo_lt rule j
    by_cases h4 : j = 4
    · subst h4
      rw [usesTo_four]
      clear hu
      go_wp2
      go_ret
      exact ⟨rfl, rfl⟩
    · have hj4 : j = 0 ∨ j = 1 ∨ j = 2 ∨ j = 3 := by omega
      have hc := HH j (by omega)
      have hs : usesTo rule (j + 1) = usesTo rule j + (if (8 + (j : Int)) ∈ rule then 2 ^ j else 0) := rfl
      cases hin : decide ((8 + (j : Int)) ∈ rule)
      · rw [hin] at hc
        rw [if_neg (of_decide_eq_false hin)] at hs
        have HS := Lib.hid hs
        clear hs hin HH h4
        generalize usesTo rule j = u at *
        rcases hj4 with rfl | rfl | rfl | rfl
        all_goals
          go_wp2_with (fail)
          refine hc.out.mono ?_
          rintro e w1 ⟨rfl, rfl⟩
          go_wp2
          go_round
          case rel => first | exact ⟨1, by decide, rfl, by rw [HS.out]; rfl, rfl⟩ | exact ⟨2, by decide, rfl, by rw [HS.out]; rfl, rfl⟩ | exact ⟨3, by decide, rfl, by rw [HS.out]; rfl, rfl⟩ | exact ⟨4, by decide, rfl, by rw [HS.out]; rfl, rfl⟩
          case measure => simp [intOf]
      · rw [hin] at hc
        rw [if_pos (of_decide_eq_true hin)] at hs
        have HS := Lib.hid hs
        clear hs hin HH h4
        generalize usesTo rule j = u at *
        rcases hj4 with rfl | rfl | rfl | rfl
        all_goals
          go_wp2_with (fail)
          refine hc.out.mono ?_
          rintro e w1 ⟨rfl, rfl⟩
          go_wp2
          go_round
          case rel => first | exact ⟨1, by decide, rfl, by rw [HS.out]; rfl, rfl⟩ | exact ⟨2, by decide, rfl, by rw [HS.out]; rfl, rfl⟩ | exact ⟨3, by decide, rfl, by rw [HS.out]; rfl, rfl⟩ | exact ⟨4, by decide, rfl, by rw [HS.out]; rfl, rfl⟩
          case measure => simp [intOf]

set_option maxHeartbeats 2000000 in
theorem rSame_any {A A2 : Option Addr} {xs ys : List Int} (c c2 : Nat) (w : World) (h : Row w w.heap.size A (ints xs)) (h2 : Row w w.heap.size A2 (ints ys)) (hb : xs.length ≤ 100000) :
    Calls Try.prog 13 #[.slice A xs.length c, .slice A2 ys.length c2] w (Tells w (decide (xs = ys))) := by
  by_cases hl : xs.length = ys.length
  · have H := Lib.hid h
    have H2 := Lib.hid h2
    have HL := Lib.hid hl
    rw [← hl]
    clear h h2 hl
    go_enter Try.func13, Try.ntmps13
    go_wp2
    go_loopw [13] (fun i wr => ∃ k m : Nat, k ≤ xs.length ∧ i = .int .i64 k ∧ wr = w.drewN m ∧ Hid (xs.take k = ys.take k)) (fun i _ => xs.length - (intOf i).toNat)
    case atStart => exact ⟨0, 0, Nat.zero_le _, rfl, rfl, rfl⟩
    case round =>
      obtain ⟨k, m, hk, rfl, rfl, HK⟩ := hrel
      by_cases hlt : k < xs.length
      · have hlt2 : k < ys.length := by have := HL.out; omega
        obtain ⟨ad, hA, hb, c0⟩ := irow_at H.out hlt
        obtain ⟨ad2, hA2, hb2, c02⟩ := irow_at H2.out hlt2
        have HN := Lib.hid (take_next hlt)
        have HN2 := Lib.hid (take_next hlt2)
        have hne : xs[k] ≠ ys[k] → xs ≠ ys := fun h e => by subst e; exact h rfl
        have HNE := Lib.hid hne
        rw [hA, hA2]
        clear hA hA2 hne
        generalize xs[k] = x at *
        generalize ys[k] = y at *
        have hi : (k : Int) < (xs.length : Int) := by omega
        by_cases hxy : x = y
        · have HX := Lib.hid hxy
          have hx0 : (x != y) = false := by rw [bne_eq_false_iff_eq]; exact hxy
          clear hxy
          go_wp2
          go_quiet (fail)
          go_wp2
          go_roundw
          case rel => exact ⟨k + 1, _, by omega, by go_num, rfl, by unfold Hid; rw [HN.out, HN2.out, HK.out, HX.out]⟩
          case measure => simp [intOf]; omega
        · have HX := Lib.hid hxy
          have hx0 : (x != y) = true := by rw [bne_iff_ne]; exact hxy
          clear hxy
          go_wp2
          go_quiet (fail)
          go_wp2
          go_ret
          exact ⟨retb (by symm; rw [decide_eq_false_iff_not]; exact HNE.out HX.out), below_drawn (below_drawn (Below.refl _ _) _) _⟩
      · obtain rfl : k = xs.length := by omega
        have he := HK.out
        rw [List.take_length, HL.out, List.take_length] at he
        have HE := Lib.hid he
        clear he
        go_wp2
        go_ret
        exact ⟨retb (by symm; rw [decide_eq_true_eq]; exact HE.out), below_drawn (Below.refl _ _) _⟩
  · have hn : ((xs.length : Int) != (ys.length : Int)) = true := by rw [bne_iff_ne]; omega
    have HE : Hid (¬ xs = ys) := fun e => hl (by rw [e])
    clear h h2 hl
    go_enter Try.func13, Try.ntmps13
    go_wp2
    go_ret
    exact ⟨retb (by symm; rw [decide_eq_false_iff_not]; exact HE.out), Below.refl _ _⟩
end Go.Proofs.Ytkndaljfjceipaa
