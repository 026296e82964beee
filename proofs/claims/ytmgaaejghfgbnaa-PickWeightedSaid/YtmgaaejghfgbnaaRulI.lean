/- Walks of ofTwo and of done: a pile's last two things, and one number of a rule. -/
import Derived.Test.YtmgaaejghfgbnaaRulB
namespace Go.Proofs.Ytmgaaejghfgbnaa
set_option maxRecDepth 100000
open Go.RowKit Go.Shelf

def bools (l : List Bool) : List Value := l.map Value.bool
theorem bools_length (l : List Bool) : (bools l).length = l.length := by simp [bools]
theorem bools_snoc (l : List Bool) (b : Bool) : bools (l ++ [b]) = bools l ++ [.bool b] := by simp [bools]
theorem bools_take (l : List Bool) (k : Nat) : (bools l).take k = bools (l.take k) := by simp [bools, List.map_take]
theorem Try.infoBool : (Try.prog.info? 4).map (fun i => (i.zero, i.size, i.bytes)) = some (some (.bool false), 1, 1) := by kernel_rfl
/-- A row of the call's own, cut short. -/
theorem own_take {W : World} {base n k cap g : Nat} {e : TypeId} {xs : List Value} (h : W.ownsRow base e 1 (.slice (some ⟨g, 0, none⟩) n cap) n xs) (hk : k ≤ n) : W.ownsRow base e 1 (.slice (some ⟨g, 0, none⟩) k cap) k (xs.take k) := by
  obtain ⟨h1, h2⟩ := h
  rcases h2 with ⟨he, _⟩ | ⟨g', cap', cur, he, hb, hh, hkc, hcm, hcs, ht⟩
  · cases he
  · injection he with e1 e2 e3
    injection e1 with e1
    injection e1 with e1
    subst e1 e3
    refine ⟨by rw [List.length_take, h1]; omega, .inr ⟨_, _, cur, rfl, hb, hh, by omega, hcm, hcs, ?_⟩⟩
    rw [← ht, List.take_take]
    congr 1
    omega
theorem own_cell {W : World} {base n cap g : Nat} {e : TypeId} {xs : List Value} (h : W.ownsRow base e 1 (.slice (some ⟨g, 0, none⟩) n cap) n xs) {j : Nat} {u : Value} (hj : xs[j]? = some u) : W.cell? ⟨g, j, none⟩ = some u := by
  have h1 := h.cells rfl j u hj
  have e : (⟨g, 0, none⟩ : Addr).add j = ⟨g, j, none⟩ := by unfold Addr.add; split <;> simp_all
  rwa [e] at h1
theorem own_addr {W : World} {base n : Nat} {v : Value} {e : TypeId} {xs : List Value} (h : W.ownsRow base e 1 v n xs) (hn : 0 < n) : ∃ g cap, v = .slice (some ⟨g, 0, none⟩) n cap ∧ base ≤ g := by
  rcases h.2 with ⟨_, h0⟩ | ⟨g, cap, cur, he, hb, _⟩
  · omega
  · exact ⟨g, cap, he, hb⟩

/-- A pile that is a call's own. -/
def Pile (base : Nat) (W : World) (v : Value) (q : List Bool) : Prop := W.ownsRow base 4 1 v q.length (bools q)
def PileOk (base : Nat) (w : World) (q : List Bool) (e : Ending) (w' : World) : Prop := ∃ v, e = .returned (.tuple #[v, .bool true]) ∧ Pile base w' v q ∧ Below base w w'
def PileNo (base : Nat) (w : World) (e : Ending) (w' : World) : Prop := e = .returned (.tuple #[.slice none 0 0, .bool false]) ∧ Below base w w'

theorem two_no {q : List Bool} {a b : Bool} {n : Nat} (hn : q.length = n + 2) (h : ¬ (q[n]? = some a ∧ q[n + 1]? = some a)) : Rl.two q a b = none := by
  unfold Rl.two
  rw [hn, show n + 2 - 2 = n by omega, show n + 2 - 1 = n + 1 by omega, if_neg]
  exact fun h1 => h h1.2
theorem two_yes {q : List Bool} {a b : Bool} {n : Nat} (hn : q.length = n + 2) (h : q[n]? = some a) (h1 : q[n + 1]? = some a) : Rl.two q a b = some (q.take n ++ [b]) := by
  unfold Rl.two
  rw [hn, show n + 2 - 2 = n by omega, show n + 2 - 1 = n + 1 by omega, if_pos ⟨by omega, h, h1⟩]
theorem two_few {q : List Bool} {a b : Bool} (hn : q.length < 2) : Rl.two q a b = none := by
  unfold Rl.two
  rw [if_neg]
  rintro ⟨h, _⟩
  omega

/- One number of a rule. -/
end Go.Proofs.Ytmgaaejghfgbnaa
