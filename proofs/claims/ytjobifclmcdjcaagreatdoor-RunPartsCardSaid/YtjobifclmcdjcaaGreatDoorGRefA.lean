/- The reference's reader of rules: what a state is; here, next, fail. -/
import Derived.Handy
import Derived.Test.YtjobifclmcdjcaaGreatDoorGRulA
namespace Go.Proofs.YtjobifclmcdjcaaGreatDoor
set_option maxRecDepth 100000
open Go.RowKit Go.Shelf

section
variable {w W W' : World}
end
section
variable {A A2 : Option Addr} {l : List Lx.Tk} {c p m c2 : Nat} {d : Int}
end
end Go.Proofs.YtjobifclmcdjcaaGreatDoor

/- The reference's put and must. -/
namespace Go.Proofs.YtjobifclmcdjcaaGreatDoor
set_option maxRecDepth 100000
open Go.RowKit Go.Shelf

/-- The rule so far, in memory: in a block of those that S tells. -/
structure RIn (w : World) (S : Nat → Prop) (A2 : Option Addr) (c2 : Nat) (x : List Int) : Prop where
  row : Row w w.heap.size A2 (ints x)
  cap : x.length ≤ c2
  nil : x = [] → A2 = none ∧ c2 = 0
  side : ∀ ad, A2 = some ad → S ad.block
  lt : ∀ k, S k → k < w.heap.size
theorem RIn.below {w w' : World} {S : Nat → Prop} {A2 : Option Addr} {c2 : Nat} {x : List Int} (h : RIn w S A2 c2 x) (hb : Below w.heap.size w w') : RIn w' S A2 c2 x := ⟨(h.row.below hb).more hb.size, h.cap, h.nil, h.side, fun k hk => Nat.lt_of_lt_of_le (h.lt k hk) hb.size⟩
/-- The rule so far, behind a call: where it was, or in a new block. -/
structure ROut (w : World) (S : Nat → Prop) (w' : World) (A2 : Option Addr) (c2 : Nat) (x : List Int) : Prop where
  row : Row w' w'.heap.size A2 (ints x)
  cap : x.length ≤ c2
  nil : x = [] → A2 = none ∧ c2 = 0
  side : ∀ ad, A2 = some ad → S ad.block ∨ w.heap.size ≤ ad.block
theorem RIn.out {w w' : World} {S : Nat → Prop} {A2 : Option Addr} {c2 : Nat} {x : List Int} (h : RIn w S A2 c2 x) (hb : Below w.heap.size w w') : ROut w S w' A2 c2 x := ⟨(h.row.below hb).more hb.size, h.cap, h.nil, fun ad e => .inl (h.side ad e)⟩
/-- What a part of the reference's answers. -/
def RTold (w : World) (S : Nat → Prop) (A : Option Addr) (n c : Nat) (r : Rl.Res) (en : Ending) (w' : World) : Prop :=
  ∃ (A2 : Option Addr) (m c2 : Nat) (d : Int), en = .returned (.agg #[.slice A n c, .int .i64 r.1.pos, .slice A2 m c2, .int .i64 d, .int .i64 r.2]) ∧ (r.2 = 0 → d = r.1.deep ∧ m = r.1.out.length ∧ ROut w S w' A2 c2 r.1.out) ∧ Below w.heap.size w w'
section
variable {w W W' : World} {v1 v2 : Value} {p d e : Int}
end
section
variable {A A2 : Option Addr} {c c2 : Nat} {S : Nat → Prop}
end
end Go.Proofs.YtjobifclmcdjcaaGreatDoor
