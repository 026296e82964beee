/- Walks of package order's small functions. -/
import Derived.Deep.DeepFit
import Derived.LoopTactic
import Derived.Test.YtggcmkpafpjnoaaGOrdP
import Derived.Test.YtggcmkpafpjnoaaGTurn
import Derived.Test.YtggcmkpafpjnoaaGPub
import Derived.Test.YtggcmkpafpjnoaaGMapLit
namespace Go.Proofs.Ytggcmkpafpjnoaa
set_option maxRecDepth 100000
open Go.RowKit Go.Shelf

def chainF (a b : Nat) : Bool := decide (a ≤ b)
def powerF (a b : Nat) : Bool := decide (a &&& b = a)
def eqF (a b : Nat) : Bool := decide (a = b)
def diamF (n a b : Nat) : Bool := decide (a = 0) || decide (a = b) || decide (b = n + 1)

theorem or_num2 (y a : Nat) (hy : y < 4294967296) (ha : a < 32) : bits BinOp.or IntKind.u32 (y : Int) ((2 : Int) ^ a % 4294967296) = ((y ||| 2 ^ a : Nat) : Int) := by
  have h1 : 2 ^ a < 2 ^ 32 := Nat.pow_lt_pow_right (by decide) ha
  have e : (2 : Int) ^ a % 4294967296 = ((2 ^ a : Nat) : Int) := by
    have e : (2 : Int) ^ a = ((2 ^ a : Nat) : Int) := by rw [Int.natCast_pow]; rfl
    rw [e]
    generalize 2 ^ a = m at *
    omega
  rw [e, u32_or_nat _ _ hy (by omega)]
/-- What makes a lattice's rows: the rows, or nothing. -/
def Rowed (w : World) (ok : Bool) (l : List Nat) (e : Ending) (w' : World) : Prop :=
  (if ok then ∃ g, e = .returned (.tuple #[.slice (some ⟨g, 0, none⟩) l.length l.length, .bool true]) ∧ Blk w' g 44 (u32s l).toArray else e = .returned (.tuple #[.slice none 0 0, .bool false])) ∧ Below w.heap.size w w'
theorem Rowed.no {w w' : World} {l : List Nat} (hb : Below w.heap.size w w') : Rowed w false l (.returned (.tuple #[.slice none 0 0, .bool false])) w' := ⟨by simp, hb⟩
theorem Rowed.yes {w w' : World} {l : List Nat} {g n : Nat} (hn : l.length = n) (h : Blk w' g 44 (u32s l).toArray) (hb : Below w.heap.size w w') : Rowed w true l (.returned (.tuple #[.slice (some ⟨g, 0, none⟩) n n, .bool true])) w' := by
  subst hn
  exact ⟨by simp only [if_true]; exact ⟨g, rfl, h⟩, hb⟩

/- The map of functions. -/
def kChain : ByteArray := ⟨#[99, 104, 97, 105, 110]⟩
def kPower : ByteArray := ⟨#[112, 111, 119, 101, 114]⟩
def kDiam : ByteArray := ⟨#[100, 105, 97, 109, 111, 110, 100]⟩
end Go.Proofs.Ytggcmkpafpjnoaa
