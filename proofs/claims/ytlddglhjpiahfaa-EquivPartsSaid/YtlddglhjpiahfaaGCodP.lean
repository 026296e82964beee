/- Programs over plain data: what may be, the text, what tokens tell; what is written is read, what is read may be. -/
import Derived.Lib.ItoaNum
import Derived.Test.YtlddglhjpiahfaaGRulA
import Derived.Test.YtlddglhjpiahfaaGOrdC
import Derived.Test.YtlddglhjpiahfaaGPub
namespace Go.Proofs.Ytlddglhjpiahfaa
set_option maxRecDepth 100000

namespace Cd
open Lx (Tk pack)

open Tb (tok Fine)
/-- An instruction. -/
structure In where
  op : Int
  n : Int
  l : Int
deriving DecidableEq
/-! Texts. -/
/-! What tokens tell. -/
/-! Where a reading stands. -/
/-! What is written is read. -/
end Cd
end Go.Proofs.Ytlddglhjpiahfaa

/- States over plain data: what may be, the text as lines of tokens, what tokens tell; what is written is read. Over no program but what CodP names. -/
namespace Go.Proofs.Ytlddglhjpiahfaa
set_option maxRecDepth 100000
open Lx (Tk pack toks first)
open Tb (tok Fine)
namespace St

/-! Texts whose tokens stand with a blank or a line's end behind each. -/
/-! States. -/
structure Atom where
  v : Int
  l : Int
structure Slot where
  ret : Bool
  v : Int
  l : Int
structure State where
  pc : Atom
  code : List Cd.In
  mem : List Atom
  stack : List Slot
  out : List Atom
deriving instance DecidableEq for Atom
deriving instance DecidableEq for Slot
/-! The text. -/
end St
end Go.Proofs.Ytlddglhjpiahfaa

/- What an observer can't tell apart, over plain data: what is left of what is not seen, a stack cropped; an equivalence; to the top just what is the same. -/
namespace Go.Proofs.Ytlddglhjpiahfaa
set_option maxRecDepth 100000
namespace Ev
open St (Atom Slot State)
def at_ (v : List Bool) (l : Int) : Bool := v.getD l.toNat false
def leftA (x : Atom) : Atom := ⟨0, x.l⟩
def leftI (x : Cd.In) : Cd.In := if x.op = 1 then ⟨x.op, 0, x.l⟩ else x
def leftS (x : Slot) : Slot := ⟨x.ret, 0, x.l⟩
def seenA (v : List Bool) (x : Atom) : Atom := if at_ v x.l = true then x else leftA x
def seenI (v : List Bool) (x : Cd.In) : Cd.In := if at_ v x.l = true then x else leftI x
def seenS (v : List Bool) (x : Slot) : Slot := if at_ v x.l = true then x else leftS x
def alike {α : Type} [DecidableEq α] (f : α → α) (a b : List α) : Bool := decide (a.map f = b.map f)
def pub (v : List Bool) (l : List Atom) : List Atom := l.filter fun x => at_ v x.l
def kept (v : List Bool) (x : Slot) : Bool := x.ret && at_ v x.l
def cropN (v : List Bool) : List Slot → Nat
  | [] => 0
  | x :: r => if cropN v r = 0 then (if kept v x = true then 1 else 0) else cropN v r + 1
def crop (v : List Bool) (s : List Slot) : List Slot := s.take (cropN v s)
def outs (v : List Bool) (a b : List Atom) : Bool := decide (pub v a = pub v b)
/-! A stack cropped. -/
/-! What a state shows. -/
def key (v : List Bool) (a : State) : List Cd.In × List Atom × List Atom × Option (Atom × List Slot) × List Slot :=
  (a.code.map (seenI v), a.mem.map (seenA v), pub v a.out, if at_ v a.pc.l = true then some (a.pc, a.stack.map (seenS v)) else none, if at_ v a.pc.l = true then [] else (crop v a.stack).map (seenS v))
/-! Labels. -/
def labsOf (a : State) : List Int := [a.pc.l] ++ (a.code.map (·.l) ++ (a.mem.map (·.l) ++ (a.stack.map (·.l) ++ a.out.map (·.l))))
/-! Why two things can't be looked at. -/
def lookN (names : List ByteArray) (up : List Nat) (o : Int) (ls : List Int) : Nat := if labN names up o o = 0 then (if ls.all (isLab up) = true then 0 else 9) else labN names up o o
def viewL (up : List Nat) (o : Int) : List Bool := (List.range up.length).map fun a => Lat.fl up a o.toNat
theorem viewL_len (up : List Nat) (o : Int) : (viewL up o).length = up.length := by unfold viewL; simp
theorem at_viewL {up : List Nat} {o l : Int} (h : isLab up l = true) : at_ (viewL up o) l = Lat.fl up l.toNat o.toNat := by
  unfold isLab at h
  rw [decide_eq_true_eq] at h
  unfold at_ viewL
  rw [List.getD_eq_getElem?_getD, List.getElem?_map, List.getElem?_range (by omega)]
  rfl
theorem lookN_zero {names : List ByteArray} {up : List Nat} {o : Int} {ls : List Int} (h : lookN names up o ls = 0) : labN names up o o = 0 ∧ ∀ l ∈ ls, isLab up l = true := by
  unfold lookN at h
  split at h
  · next h1 =>
    split at h
    · next h2 => exact ⟨h1, List.all_eq_true.1 h2⟩
    · omega
  · next h1 => exact absurd h h1
theorem lookN_ok {names : List ByteArray} {up : List Nat} {o : Int} {ls : List Int} (h : labN names up o o = 0) (hl : ∀ l ∈ ls, isLab up l = true) : lookN names up o ls = 0 := by
  unfold lookN
  rw [if_pos h, if_pos (List.all_eq_true.2 hl)]
theorem lab_zero {names : List ByteArray} {up : List Nat} (h : checkN names up = 0) : isLab up 0 = true := by
  have := (latt_of h).one
  unfold isLab
  rw [decide_eq_true_eq]; omega
theorem labN_same {names : List ByteArray} {up : List Nat} (o : Int) : labN names up o o = if rCheckN names up = 0 then (if isLab up o = true then 0 else 9) else rCheckN names up := by
  unfold labN
  rw [check_same, Bool.and_self]

/-! Thing by thing. -/
theorem seenA_eq (v : List Bool) (x y : Atom) : seenA v x = seenA v y ↔ x.l = y.l ∧ (at_ v x.l = false ∨ x.v = y.v) := by
  obtain ⟨a, l⟩ := x
  obtain ⟨b, m⟩ := y
  unfold seenA leftA
  dsimp only
  by_cases e : l = m
  · subst e
    by_cases h : at_ v l = true <;> simp [h]
  · by_cases h : at_ v l = true <;> by_cases h' : at_ v m = true <;> simp [h, h', e]
theorem seenS_eq (v : List Bool) (x y : Slot) : seenS v x = seenS v y ↔ x.ret = y.ret ∧ x.l = y.l ∧ (at_ v x.l = false ∨ x.v = y.v) := by
  obtain ⟨r, a, l⟩ := x
  obtain ⟨q, b, m⟩ := y
  unfold seenS leftS
  dsimp only
  by_cases e : l = m
  · subst e
    by_cases h : at_ v l = true <;> simp [h]
  · by_cases h : at_ v l = true <;> by_cases h' : at_ v m = true <;> simp [h, h', e]
theorem seenI_eq (v : List Bool) (x y : Cd.In) : seenI v x = seenI v y ↔ x.op = y.op ∧ x.l = y.l ∧ (x.n = y.n ∨ (x.op = 1 ∧ at_ v x.l = false)) := by
  obtain ⟨p, a, l⟩ := x
  obtain ⟨q, b, m⟩ := y
  unfold seenI leftI
  dsimp only
  by_cases e : l = m
  · subst e
    by_cases e2 : p = q
    · subst e2
      by_cases h : at_ v l = true <;> by_cases h1 : p = 1 <;> simp [h, h1]
    · by_cases h : at_ v l = true <;> by_cases h1 : p = 1 <;> by_cases h2 : q = 1 <;> simp [h, h1, h2, e2] <;> simp_all
  · by_cases h : at_ v l = true <;> by_cases h' : at_ v m = true <;> by_cases h1 : p = 1 <;> by_cases h2 : q = 1 <;> simp [h, h', e, h1, h2]
/-- One further. -/
theorem take_map_succ {α : Type} {f : α → α} {a b : List α} {k : Nat} {x y : α} (ha : a[k]? = some x) (hb : b[k]? = some y) (h : (a.take k).map f = (b.take k).map f) : (a.take (k + 1)).map f = (b.take (k + 1)).map f ↔ f x = f y := by
  rw [List.take_add_one, List.take_add_one, ha, hb, List.map_append, List.map_append, h]
  simp
theorem alike_len {α : Type} [DecidableEq α] {f : α → α} {a b : List α} (h : a.length ≠ b.length) : alike f a b = false := by
  unfold alike
  exact decide_eq_false fun e => h (by have := congrArg List.length e; simpa using this)
theorem alike_all {α : Type} [DecidableEq α] {f : α → α} {a b : List α} {n : Nat} (ha : a.length = n) (hb : b.length = n) (h : (a.take n).map f = (b.take n).map f) : alike f a b = true := by
  rw [List.take_of_length_le (by omega), List.take_of_length_le (by omega)] at h
  exact decide_eq_true h
theorem alike_no {α : Type} [DecidableEq α] {f : α → α} {a b : List α} {k : Nat} (h : ¬ (a.take k).map f = (b.take k).map f) : alike f a b = false := by
  unfold alike
  refine decide_eq_false fun e => h ?_
  have := congrArg (List.take k) e
  rwa [← List.map_take, ← List.map_take] at this
theorem pub_snoc (v : List Bool) (l : List Atom) (x : Atom) : pub v (l ++ [x]) = if at_ v x.l = true then pub v l ++ [x] else pub v l := by
  unfold pub
  rw [List.filter_append]
  by_cases h : at_ v x.l = true <;> simp [h]
theorem take_snoc {α : Type} {a : List α} {k : Nat} {x : α} (h : a[k]? = some x) : a.take (k + 1) = a.take k ++ [x] := by rw [List.take_add_one, h]; rfl
end Ev
end Go.Proofs.Ytlddglhjpiahfaa

/- What tokens tell of a state; what is written is read as the same state, or is too many tokens; what is read may be. -/
namespace Go.Proofs.Ytlddglhjpiahfaa
set_option maxRecDepth 100000
open Lx (Tk pack toks first)
open Tb (tok Fine)
namespace St

/-! What is read may be. -/
/-! What is written is read. -/
end St
end Go.Proofs.Ytlddglhjpiahfaa

/- What is written of a state is read as the same state, or is too many tokens. -/
namespace Go.Proofs.Ytlddglhjpiahfaa
set_option maxRecDepth 100000
open Lx (Tk pack toks first)
open Tb (tok Fine)
end Go.Proofs.Ytlddglhjpiahfaa
