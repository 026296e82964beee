/- The walk of Right, and of Uses. -/
import Derived.Test.YtmgaaejghfgbnaaRulI
namespace Go.Proofs.Ytmgaaejghfgbnaa
set_option maxRecDepth 100000
open Go.RowKit Go.Shelf

theorem irow_at {w : World} {B : Nat} {A : Option Addr} {l : List Int} {k : Nat} (h : Row w B A (ints l)) (hk : k < l.length) : ∃ ad, A = some ad ∧ ad.block < B ∧ w.cell? (ad.add k) = some (.int .i64 l[k]) := by
  obtain ⟨ad, e, hb, hc⟩ := h.at_ (k := k) (by rw [ints_length]; exact hk)
  exact ⟨ad, e, hb, by simpa [ints] using hc⟩
/-- What holds at the head of Right's rounds. -/
structure RightAt (w : World) (rule : List Int) (v : Value) (k : Nat) (q : List Bool) (W : World) : Prop where
  own : Pile w.heap.size W v q
  below : Below w.heap.size w W
  go : Rl.pileOf [] rule = Rl.pileOf q (rule.drop k)
  len : q.length ≤ k
theorem step_len {q r : List Bool} {n : Int} (h : Rl.step q n = some r) : r.length ≤ q.length + 1 := by
  have h2 : ∀ a b, Rl.two q a b = some r → r.length ≤ q.length + 1 := fun a b h => by
    unfold Rl.two at h
    split at h
    · injection h with h; subst h; simp
    · cases h
  unfold Rl.step at h
  repeat' split at h
  all_goals first
    | exact h2 _ _ h
    | (injection h with h; subst h; simp)
    | cases h
theorem pile_on {rule : List Int} {q r : List Bool} {k : Nat} (hk : k < rule.length) (hs : Rl.step q rule[k] = some r) : Rl.pileOf q (rule.drop k) = Rl.pileOf r (rule.drop (k + 1)) := by
  rw [List.drop_eq_getElem_cons hk, Rl.pileOf, hs]
  rfl
theorem pile_stop {rule : List Int} {q : List Bool} {k : Nat} (hk : k < rule.length) (hs : Rl.step q rule[k] = none) : Rl.pileOf q (rule.drop k) = none := by
  rw [List.drop_eq_getElem_cons hk, Rl.pileOf, hs]
  rfl
theorem right_long {rule : List Int} {lab : Bool} (h : 40 < rule.length) : Rl.right rule lab = false := decide_eq_false fun h1 => by omega
theorem right_none {rule : List Int} {lab : Bool} (h : Rl.pileOf [] rule = none) : Rl.right rule lab = false := decide_eq_false fun h1 => by rw [h] at h1; cases h1.2
theorem right_some {rule : List Int} {lab : Bool} {q : List Bool} (hl : rule.length ≤ 40) (h : Rl.pileOf [] rule = some q) : Rl.right rule lab = decide (q = [lab]) := by
  unfold Rl.right
  rw [h]
  by_cases e : q = [lab]
  · subst e
    rw [decide_eq_true ⟨hl, rfl⟩, decide_eq_true rfl]
  · rw [decide_eq_false e, decide_eq_false fun h1 => e (by injection h1.2)]

/-- A bool is answered, and old memory stays. -/
def Tells (w : World) (b : Bool) (e : Ending) (w' : World) : Prop := e = .returned (.bool b) ∧ Below w.heap.size w w'

end Go.Proofs.Ytmgaaejghfgbnaa
