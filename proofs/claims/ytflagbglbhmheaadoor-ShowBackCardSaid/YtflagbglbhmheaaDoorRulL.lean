/- Walks of the reference: two, Made, Right, Has, Uses, Same. -/
import Derived.Test.YtflagbglbhmheaaDoorRulK
import Derived.Test.YtflagbglbhmheaaDoorRulG
namespace Go.Proofs.YtflagbglbhmheaaDoor
set_option maxRecDepth 100000
open Go.RowKit Go.Shelf

/-- A pile, told by numbers. -/
def sortN (b : Bool) : Int := if b then 2 else 1
def sorts (q : List Bool) : List Int := q.map sortN
theorem sorts_length (q : List Bool) : (sorts q).length = q.length := by simp [sorts]
theorem sorts_snoc (q : List Bool) (b : Bool) : sorts (q ++ [b]) = sorts q ++ [sortN b] := by simp [sorts]
theorem sorts_take (q : List Bool) (k : Nat) : (ints (sorts q)).take k = ints (sorts (q.take k)) := by simp [sorts, ints, List.map_take]
def NPile (base : Nat) (W : World) (v : Value) (q : List Bool) : Prop := W.ownsRow base 3 1 v q.length (ints (sorts q))
/-- Are a pile's last two of a sort? -/
def lastTwo (q : List Bool) (b : Bool) : Bool := (Rl.two q b b).isSome
theorem two_eq (q : List Bool) (a b : Bool) : Rl.two q a b = if lastTwo q a = true then some (q.take (q.length - 2) ++ [b]) else none := by
  unfold lastTwo Rl.two
  by_cases h : 2 ≤ q.length ∧ q[q.length - 2]? = some a ∧ q[q.length - 1]? = some a
  · rw [if_pos h, if_pos h]; rfl
  · rw [if_neg h, if_neg h]; rfl
theorem sortN_inj {a b : Bool} (h : sortN a = sortN b) : a = b := by cases a <;> cases b <;> first | rfl | (exact absurd h (by decide))

set_option maxHeartbeats 1000000 in
theorem rTwo_any {base : Nat} {q : List Bool} {v : Value} (b : Bool) (w : World) (h : NPile base w v q) (hl : q.length ≤ 1000000) : Calls Tryd.prog 19 #[v, .int .i64 (sortN b)] w fun e w' => e = .returned (.bool (lastTwo q b)) ∧ w = w' := by
  by_cases hs : q.length < 2
  · have e : lastTwo q b = false := by unfold lastTwo; rw [two_few hs]; rfl
    rw [e]
    obtain ⟨A, cap, rfl⟩ := ownT_slice h
    have h0 : (q.length : Int) < 2 := by omega
    have h1 : ¬ (2 : Int) ≤ (q.length : Int) := by omega
    clear h e hs
    go_enter Tryd.func19, Tryd.ntmps19
    go_wp2
    go_ret
    exact ⟨rfl, rfl⟩
  · obtain ⟨n, hq⟩ : ∃ n, q.length = n + 2 := ⟨q.length - 2, by omega⟩
    obtain ⟨g, cap, rfl, -⟩ := own_addr h (by omega)
    have hx0 : q[n]? = some q[n] := List.getElem?_eq_getElem (by omega)
    have hx1 : q[n + 1]? = some q[n + 1] := List.getElem?_eq_getElem (by omega)
    obtain ⟨x0, e0⟩ : ∃ x, q[n] = x := ⟨_, rfl⟩
    obtain ⟨x1, e1⟩ : ∃ x, q[n + 1] = x := ⟨_, rfl⟩
    rw [e0] at hx0
    rw [e1] at hx1
    have c0 := own_cell h (j := n) (u := .int .i64 (sortN x0)) (by simp [ints, sorts, hx0])
    have c1 := own_cell h (j := n + 1) (u := .int .i64 (sortN x1)) (by simp [ints, sorts, hx1])
    have hr : lastTwo q b = decide (x0 = b ∧ x1 = b) := by
      unfold lastTwo
      by_cases hx : x0 = b ∧ x1 = b
      · rw [two_yes hq (by rw [hx0, hx.1]) (by rw [hx1, hx.2]), decide_eq_true hx]; rfl
      · rw [two_no hq (fun h1 => hx ⟨by have := h1.1; rw [hx0] at this; injection this, by have := h1.2; rw [hx1] at this; injection this⟩), decide_eq_false hx]; rfl
    have hnb : n ≤ 1000000 := by omega
    rw [hq, hr]
    clear h hx0 hx1 e0 e1 hs hl hq hr
    cases b <;> cases x0 <;> cases x1
    all_goals
      unfold sortN at c0 c1 ⊢
      go_enter Tryd.func19, Tryd.ntmps19
      go_wp2
      go_ret
      exact ⟨rfl, rfl⟩

/-- What holds at the head of Made's rounds. -/
structure MadeAt (w : World) (rule : List Int) (v : Value) (k : Nat) (q : List Bool) (W : World) : Prop where
  own : NPile w.heap.size W v q
  below : Below w.heap.size w W
  go : Rl.pileOf [] rule = Rl.pileOf q (rule.drop k)
  len : q.length ≤ k
def soleN : List Bool → Int
  | [b] => sortN b
  | _ => 0
def madeN (rule : List Int) : Int := if rule.length ≤ 40 then (match Rl.pileOf [] rule with | some q => soleN q | none => 0) else 0
theorem madeN_none {rule : List Int} (h : Rl.pileOf [] rule = none) : madeN rule = 0 := by unfold madeN; rw [h]; split <;> rfl
theorem madeN_right (rule : List Int) : (Rl.right rule false = decide (madeN rule = 1)) ∧ (Rl.right rule true = decide (madeN rule = 2)) ∧ (Rl.made rule = decide (madeN rule ≠ 0)) := by
  have key : Rl.right rule false = decide (madeN rule = 1) ∧ Rl.right rule true = decide (madeN rule = 2) ∧ (madeN rule = 0 ∨ madeN rule = 1 ∨ madeN rule = 2) := by
    by_cases h40 : rule.length ≤ 40
    · cases hp : Rl.pileOf [] rule with
      | none => rw [right_none hp, right_none hp, madeN_none hp]; exact ⟨rfl, rfl, .inl rfl⟩
      | some q =>
        rw [right_some h40 hp, right_some h40 hp]
        unfold madeN
        rw [if_pos h40, hp]
        match q with
        | [] => exact ⟨rfl, rfl, .inl rfl⟩
        | [b] => cases b <;> exact ⟨rfl, rfl, by decide⟩
        | x :: y :: r => exact ⟨by simp [soleN], by simp [soleN], .inl rfl⟩
    · rw [right_long (by omega), right_long (by omega)]
      unfold madeN
      rw [if_neg h40]
      exact ⟨rfl, rfl, .inl rfl⟩
  obtain ⟨k1, k2, k3⟩ := key
  refine ⟨k1, k2, ?_⟩
  unfold Rl.made
  rw [k1, k2]
  rcases k3 with e | e | e <;> rw [e] <;> rfl
end Go.Proofs.YtflagbglbhmheaaDoor
