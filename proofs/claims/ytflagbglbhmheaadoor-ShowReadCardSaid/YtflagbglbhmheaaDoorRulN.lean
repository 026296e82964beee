/- Walks of the reference's Right, Has, Uses, Same. -/
import Derived.Test.YtflagbglbhmheaaDoorRulM
namespace Go.Proofs.YtflagbglbhmheaaDoor
set_option maxRecDepth 100000
open Go.RowKit Go.Shelf

theorem mem_take_next {rule : List Int} {k : Nat} (hk : k < rule.length) (n : Int) : n ∈ rule.take (k + 1) ↔ n ∈ rule.take k ∨ n = rule[k] := by
  rw [take_next hk, List.mem_append, List.mem_singleton]
def usesTo (r : List Int) : Nat → Nat
  | 0 => 0
  | n + 1 => usesTo r n + (if (8 + (n : Int)) ∈ r then 2 ^ n else 0)
theorem usesTo_four (r : List Int) : usesTo r 4 = Rl.usesOf r := by
  have e0 : (8 : Int) + ((0 : Nat) : Int) = 8 := by decide
  have e1 : (8 : Int) + ((1 : Nat) : Int) = 9 := by decide
  have e2 : (8 : Int) + ((2 : Nat) : Int) = 10 := by decide
  have e3 : (8 : Int) + ((3 : Nat) : Int) = 11 := by decide
  have p0 : (2 : Nat) ^ 0 = 1 := rfl
  have p1 : (2 : Nat) ^ 1 = 2 := rfl
  have p2 : (2 : Nat) ^ 2 = 4 := rfl
  have p3 : (2 : Nat) ^ 3 = 8 := rfl
  simp only [usesTo, Rl.usesOf, e0, e1, e2, e3, p0, p1, p2, p3]
  omega
theorem usesTo_lt (r : List Int) : ∀ j, usesTo r j < 2 ^ j
  | 0 => by simp [usesTo]
  | j + 1 => by
    have := usesTo_lt r j
    rw [usesTo, Nat.pow_succ]
    split <;> omega
set_option maxHeartbeats 2000000 in
theorem rSame_any {A A2 : Option Addr} {xs ys : List Int} (c c2 : Nat) (w : World) (h : Row w w.heap.size A (ints xs)) (h2 : Row w w.heap.size A2 (ints ys)) (hb : xs.length ≤ 100000) :
    Calls Tryd.prog 13 #[.slice A xs.length c, .slice A2 ys.length c2] w (Tells w (decide (xs = ys))) := by
  by_cases hl : xs.length = ys.length
  · have H := Lib.hid h
    have H2 := Lib.hid h2
    have HL := Lib.hid hl
    rw [← hl]
    clear h h2 hl
    go_enter Tryd.func13, Tryd.ntmps13
    go_wp2
    go_loopw [13] (fun i wr => ∃ k m : Nat, k ≤ xs.length ∧ i = .int .i64 k ∧ wr = w.drewN m ∧ Hid (xs.take k = ys.take k)) (fun i _ => xs.length - (intOf i).toNat)
    case atStart => exact ⟨0, 0, Nat.zero_le _, rfl, rfl, rfl⟩
    case round =>
      obtain ⟨k, m, hk, rfl, rfl, HK⟩ := hrel
      by_cases hlt : k < xs.length
      · have hlt2 : k < ys.length := by have := HL.out; omega
        obtain ⟨ad, hA, hb, c0⟩ := irow_at H.out hlt
        obtain ⟨ad2, hA2, hb2, c02⟩ := irow_at H2.out hlt2
        have HN := Lib.hid (take_next hlt)
        have HN2 := Lib.hid (take_next hlt2)
        have hne : xs[k] ≠ ys[k] → xs ≠ ys := fun h e => by subst e; exact h rfl
        have HNE := Lib.hid hne
        rw [hA, hA2]
        clear hA hA2 hne
        generalize xs[k] = x at *
        generalize ys[k] = y at *
        have hi : (k : Int) < (xs.length : Int) := by omega
        by_cases hxy : x = y
        · have HX := Lib.hid hxy
          have hx0 : (x != y) = false := by rw [bne_eq_false_iff_eq]; exact hxy
          clear hxy
          go_wp2
          go_quiet (fail)
          go_wp2
          go_roundw
          case rel => exact ⟨k + 1, _, by omega, by go_num, rfl, by unfold Hid; rw [HN.out, HN2.out, HK.out, HX.out]⟩
          case measure => simp [intOf]; omega
        · have HX := Lib.hid hxy
          have hx0 : (x != y) = true := by rw [bne_iff_ne]; exact hxy
          clear hxy
          go_wp2
          go_quiet (fail)
          go_wp2
          go_ret
          exact ⟨retb (by symm; rw [decide_eq_false_iff_not]; exact HNE.out HX.out), below_drawn (below_drawn (Below.refl _ _) _) _⟩
      · obtain rfl : k = xs.length := by omega
        have he := HK.out
        rw [List.take_length, HL.out, List.take_length] at he
        have HE := Lib.hid he
        clear he
        go_wp2
        go_ret
        exact ⟨retb (by symm; rw [decide_eq_true_eq]; exact HE.out), below_drawn (Below.refl _ _) _⟩
  · have hn : ((xs.length : Int) != (ys.length : Int)) = true := by rw [bne_iff_ne]; omega
    have HE : Hid (¬ xs = ys) := fun e => hl (by rw [e])
    clear h h2 hl
    go_enter Tryd.func13, Tryd.ntmps13
    go_wp2
    go_ret
    exact ⟨retb (by symm; rw [decide_eq_false_iff_not]; exact HE.out), Below.refl _ _⟩
end Go.Proofs.YtflagbglbhmheaaDoor
