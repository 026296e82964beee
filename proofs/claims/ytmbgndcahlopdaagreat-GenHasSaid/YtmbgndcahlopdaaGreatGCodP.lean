/- Programs over plain data: what may be, the text, what tokens tell; what is written is read, what is read may be. -/
import Derived.Lib.ItoaNum
import Derived.Test.YtmbgndcahlopdaaGreatGRulA
import Derived.Test.YtmbgndcahlopdaaGreatGOrdC
import Derived.Test.YtmbgndcahlopdaaGreatGPub
import Derived.Test.YtmbgndcahlopdaaGreatGBase
namespace Go.Proofs.YtmbgndcahlopdaaGreat
set_option maxRecDepth 100000

namespace Cd
open Lx (Tk pack)

open Tb (tok Fine)
/-- An instruction. -/
structure In where
  op : Int
  n : Int
  l : Int
deriving DecidableEq
/-- The greatest N of an instruction that has no label. -/
def most (op : Int) : Int := if op = 8 then 12 else if op = 9 then 3 else if op = 10 then 1 else 0
/-- May an instruction be, of so many labels? -/
def inB (k : Nat) (x : In) : Bool :=
  if x.op = 1 then decide (-20 ≤ x.n ∧ x.n ≤ 20 ∧ 0 ≤ x.l ∧ x.l < k)
  else decide (0 ≤ x.op ∧ x.op < 13 ∧ 0 ≤ x.n ∧ x.n ≤ most x.op ∧ x.l = 0)
def rightB (k : Nat) (l : List In) : Bool := decide (l.length ≤ 12) && l.all (inB k)

/-! Texts. -/
/-! What tokens tell. -/
/-! Where a reading stands. -/
/-! What is written is read. -/
theorem inB_op {k : Nat} {x : In} (h : inB k x = true) : 0 ≤ x.op ∧ x.op < 13 := by
  unfold inB at h
  by_cases h1 : x.op = 1
  · omega
  · rw [if_neg h1] at h
    have := of_decide_eq_true h
    exact ⟨this.1, this.2.1⟩
end Cd
end Go.Proofs.YtmbgndcahlopdaaGreat

/- States over plain data: what may be, the text as lines of tokens, what tokens tell; what is written is read. Over no program but what CodP names. -/
namespace Go.Proofs.YtmbgndcahlopdaaGreat
set_option maxRecDepth 100000
open Lx (Tk pack toks first)
open Tb (tok Fine)
namespace St

/-! Texts whose tokens stand with a blank or a line's end behind each. -/
/-! States. -/
structure Atom where
  v : Int
  l : Int
structure Slot where
  ret : Bool
  v : Int
  l : Int
structure State where
  pc : Atom
  code : List Cd.In
  mem : List Atom
  stack : List Slot
  out : List Atom
deriving instance DecidableEq for Atom
deriving instance DecidableEq for Slot
def labB (k : Nat) (a : Int) : Bool := decide (0 ≤ a ∧ a < k)
def valB (v : Int) : Bool := decide (-20 ≤ v ∧ v ≤ 20)
def pcB (v : Int) : Bool := decide (0 ≤ v ∧ v ≤ 12)
def atomB (k : Nat) (x : Atom) : Bool := valB x.v && labB k x.l
def slotB (k : Nat) (x : Slot) : Bool := valB x.v && labB k x.l && (!x.ret || pcB x.v)
def rightB (k : Nat) (s : State) : Bool :=
  Cd.rightB k s.code && (pcB s.pc.v && labB k s.pc.l) && (decide (s.mem.length ≤ 6) && s.mem.all (atomB k)) && (decide (s.stack.length ≤ 12) && s.stack.all (slotB k)) && (decide (s.out.length ≤ 8) && s.out.all (atomB k))

/-! The text. -/
end St
end Go.Proofs.YtmbgndcahlopdaaGreat

/- States that choices make, plainly (no program). -/
namespace Go.Proofs.YtmbgndcahlopdaaGreat
set_option maxRecDepth 100000
namespace Gn

/-- A space. -/
structure Sp where
  code : Int
  mem : Int
  stack : Int
  val : Int
  ws : List Int
/-- May a space be? -/
def spB (p : Sp) : Bool := decide (0 ≤ p.code ∧ p.code ≤ 12 ∧ 0 ≤ p.mem ∧ p.mem ≤ 6 ∧ 0 ≤ p.stack ∧ p.stack ≤ 12 ∧ 0 ≤ p.val ∧ p.val ≤ 20 ∧ p.ws.length = 13) && Pk.right p.ws
def nearB (p : Sp) (v : Int) : Bool := decide (-p.val ≤ v ∧ v ≤ p.val)
def insB (p : Sp) (x : Cd.In) : Bool := decide (p.ws.getD x.op.toNat 0 ≠ 0) && (decide (x.op ≠ 1) || nearB p x.n)
def slotB (p : Sp) (x : St.Slot) : Bool := x.ret || nearB p x.v
/-- Is a state in a space, of a lattice of k labels? -/
def hasB (k : Nat) (p : Sp) (s : St.State) : Bool :=
  St.rightB k s && decide ((s.code.length : Int) ≤ p.code ∧ (s.mem.length : Int) ≤ p.mem ∧ (s.stack.length : Int) ≤ p.stack ∧ s.out.length = 0) && (s.code.all (insB p) && s.mem.all (fun x => nearB p x.v) && s.stack.all (slotB p))

/-- Draws: where, and what was chosen. -/
structure D where
  i : Nat
  log : List Int
/-- What reads choices. -/
abbrev G (α : Type) := D → Option (α × D)
def ret {α : Type} (x : α) : G α := fun d => some (x, d)
def bnd {α β : Type} (f : G α) (g : α → G β) : G β := fun d => match f d with
  | none => none
  | some (x, d') => g x d'
variable {α β : Type}
theorem bnd_none {f : G α} {g : α → G β} {d : D} (h : f d = none) : bnd f g d = none := by unfold bnd; rw [h]
theorem bnd_some {f : G α} {g : α → G β} {d d' : D} {x : α} (h : f d = some (x, d')) : bnd f g d = g x d' := by unfold bnd; rw [h]
section
variable (list : List Int)
/-- The next choice, below b. -/
def tk (b : Int) : G Int := fun d => if d.log.length = 2000 then none else some (Dr.choice list d.i b, ⟨Dr.next list d.i, d.log ++ [Dr.choice list d.i b]⟩)
def num (val : Int) : G Int := bnd (tk list (2 * val + 1)) fun x => ret (Pk.made x.toNat)
def wtd (ws : List Int) : G Int := bnd (tk list (Pk.sum ws)) fun x => ret (Pk.picks ws x : Nat)
/-- What stands behind an instruction's Op. -/
def behind (n : Nat) (p : Sp) (op : Int) : G Cd.In :=
  if op = 1 then bnd (num list p.val) fun v => bnd (tk list n) fun l => ret ⟨1, v, l⟩
  else if op = 8 then bnd (tk list 13) fun x => ret ⟨8, x, 0⟩
  else if op = 9 then bnd (tk list 4) fun x => ret ⟨9, x, 0⟩
  else if op = 10 then bnd (tk list 2) fun x => ret ⟨10, x, 0⟩
  else ret ⟨op, 0, 0⟩
def ins (n : Nat) (p : Sp) : G Cd.In := bnd (wtd list p.ws) (behind list n p)
def atom (n : Nat) (p : Sp) : G St.Atom := bnd (num list p.val) fun v => bnd (tk list n) fun l => ret ⟨v, l⟩
def slotV (p : Sp) (r : Int) : G Int := if r = 1 then tk list 13 else num list p.val
def slot (n : Nat) (p : Sp) : G St.Slot := bnd (tk list 2) fun r => bnd (slotV list p r) fun v => bnd (tk list n) fun l => ret ⟨decide (r = 1), v, l⟩
end
/-- So many, one after the other. -/
def rep (f : G α) : Nat → G (List α)
  | 0 => ret []
  | k + 1 => bnd (rep f k) fun l => bnd f fun x => ret (l ++ [x])
def pc (list : List Int) (n : Nat) (c : List Cd.In) (m : List St.Atom) (s : List St.Slot) : G St.State := bnd (tk list 13) fun v => bnd (tk list n) fun l => ret ⟨⟨v, l⟩, c, m, s, []⟩
def stack (list : List Int) (n : Nat) (p : Sp) (c : List Cd.In) (m : List St.Atom) : G St.State := bnd (tk list (p.stack + 1)) fun k => bnd (rep (slot list n p) k.toNat) (pc list n c m)
def mem (list : List Int) (n : Nat) (p : Sp) (c : List Cd.In) : G St.State := bnd (tk list (p.mem + 1)) fun k => bnd (rep (atom list n p) k.toNat) (stack list n p c)
/-- The state that choices make. -/
def state (list : List Int) (n : Nat) (p : Sp) : G St.State := bnd (tk list (p.code + 1)) fun k => bnd (rep (ins list n p) k.toNat) (mem list n p)

/-! What comes of it, whatever the choices. -/
def Out (f : G α) (P : α → Prop) : Prop := ∀ d x d', f d = some (x, d') → P x
theorem Out.tk (list : List Int) {b : Int} (hb : 1 ≤ b) : Out (tk list b) (fun x => 0 ≤ x ∧ x < b) := fun d x d' e => by
  unfold Gn.tk at e
  split at e
  · cases e
  · injection e with e
    injection e with e _
    exact e ▸ Dr.choice_low hb
structure Fits (n : Nat) (p : Sp) : Prop where
  n1 : 1 ≤ n
  c0 : 0 ≤ p.code
  c1 : p.code ≤ 12
  m0 : 0 ≤ p.mem
  m1 : p.mem ≤ 6
  s0 : 0 ≤ p.stack
  s1 : p.stack ≤ 12
  v0 : 0 ≤ p.val
  v1 : p.val ≤ 20
  len : p.ws.length = 13
  ws : Pk.right p.ws = true
theorem fits_of {n : Nat} {p : Sp} (hn : 1 ≤ n) (h : spB p = true) : Fits n p := by
  unfold spB at h
  rw [Bool.and_eq_true, decide_eq_true_iff] at h
  obtain ⟨⟨h1, h2, h3, h4, h5, h6, h7, h8, h9⟩, h10⟩ := h
  exact ⟨hn, h1, h2, h3, h4, h5, h6, h7, h8, h9, h10⟩

/-! The choices that were made make it again. -/

/-! How many choices. -/
end Gn
end Go.Proofs.YtmbgndcahlopdaaGreat

/- What tokens tell of a state; what is written is read as the same state, or is too many tokens; what is read may be. -/
namespace Go.Proofs.YtmbgndcahlopdaaGreat
set_option maxRecDepth 100000
open Lx (Tk pack toks first)
open Tb (tok Fine)
namespace St

/-! What is read may be. -/
/-! What is written is read. -/
end St
end Go.Proofs.YtmbgndcahlopdaaGreat

/- What is written of a state is read as the same state, or is too many tokens. -/
namespace Go.Proofs.YtmbgndcahlopdaaGreat
set_option maxRecDepth 100000
open Lx (Tk pack toks first)
open Tb (tok Fine)
end Go.Proofs.YtmbgndcahlopdaaGreat
