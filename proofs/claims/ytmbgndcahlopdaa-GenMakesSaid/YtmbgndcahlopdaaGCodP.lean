/- Programs over plain data: what may be, the text, what tokens tell; what is written is read, what is read may be. -/
import Derived.Lib.ItoaNum
import Derived.Test.YtmbgndcahlopdaaGRulA
import Derived.Test.YtmbgndcahlopdaaGOrdC
import Derived.Test.YtmbgndcahlopdaaGPub
import Derived.Test.YtmbgndcahlopdaaGBase
namespace Go.Proofs.Ytmbgndcahlopdaa
set_option maxRecDepth 100000

namespace Cd
open Lx (Tk pack)

open Tb (tok Fine)
/-- An instruction. -/
structure In where
  op : Int
  n : Int
  l : Int
deriving DecidableEq
/-- The greatest N of an instruction that has no label. -/
def most (op : Int) : Int := if op = 8 then 12 else if op = 9 then 3 else if op = 10 then 1 else 0
/-- May an instruction be, of so many labels? -/
def inB (k : Nat) (x : In) : Bool :=
  if x.op = 1 then decide (-20 ≤ x.n ∧ x.n ≤ 20 ∧ 0 ≤ x.l ∧ x.l < k)
  else decide (0 ≤ x.op ∧ x.op < 13 ∧ 0 ≤ x.n ∧ x.n ≤ most x.op ∧ x.l = 0)
def rightB (k : Nat) (l : List In) : Bool := decide (l.length ≤ 12) && l.all (inB k)

/-! Texts. -/
/-! What tokens tell. -/
/-! Where a reading stands. -/
/-! What is written is read. -/
end Cd
end Go.Proofs.Ytmbgndcahlopdaa

/- States over plain data: what may be, the text as lines of tokens, what tokens tell; what is written is read. Over no program but what CodP names. -/
namespace Go.Proofs.Ytmbgndcahlopdaa
set_option maxRecDepth 100000
open Lx (Tk pack toks first)
open Tb (tok Fine)
namespace St

/-! Texts whose tokens stand with a blank or a line's end behind each. -/
/-! States. -/
structure Atom where
  v : Int
  l : Int
structure Slot where
  ret : Bool
  v : Int
  l : Int
structure State where
  pc : Atom
  code : List Cd.In
  mem : List Atom
  stack : List Slot
  out : List Atom
deriving instance DecidableEq for Atom
deriving instance DecidableEq for Slot
def labB (k : Nat) (a : Int) : Bool := decide (0 ≤ a ∧ a < k)
def valB (v : Int) : Bool := decide (-20 ≤ v ∧ v ≤ 20)
def pcB (v : Int) : Bool := decide (0 ≤ v ∧ v ≤ 12)
def atomB (k : Nat) (x : Atom) : Bool := valB x.v && labB k x.l
def slotB (k : Nat) (x : Slot) : Bool := valB x.v && labB k x.l && (!x.ret || pcB x.v)
def rightB (k : Nat) (s : State) : Bool :=
  Cd.rightB k s.code && (pcB s.pc.v && labB k s.pc.l) && (decide (s.mem.length ≤ 6) && s.mem.all (atomB k)) && (decide (s.stack.length ≤ 12) && s.stack.all (slotB k)) && (decide (s.out.length ≤ 8) && s.out.all (atomB k))

/-! The text. -/
def toAtom (x : Slot) : Atom := ⟨x.v, x.l⟩
end St
end Go.Proofs.Ytmbgndcahlopdaa

/- States that choices make, plainly (no program). -/
namespace Go.Proofs.Ytmbgndcahlopdaa
set_option maxRecDepth 100000
namespace Gn

/-- A space. -/
structure Sp where
  code : Int
  mem : Int
  stack : Int
  val : Int
  ws : List Int
/-- May a space be? -/
def spB (p : Sp) : Bool := decide (0 ≤ p.code ∧ p.code ≤ 12 ∧ 0 ≤ p.mem ∧ p.mem ≤ 6 ∧ 0 ≤ p.stack ∧ p.stack ≤ 12 ∧ 0 ≤ p.val ∧ p.val ≤ 20 ∧ p.ws.length = 13) && Pk.right p.ws
def nearB (p : Sp) (v : Int) : Bool := decide (-p.val ≤ v ∧ v ≤ p.val)
def insB (p : Sp) (x : Cd.In) : Bool := decide (p.ws.getD x.op.toNat 0 ≠ 0) && (decide (x.op ≠ 1) || nearB p x.n)
def slotB (p : Sp) (x : St.Slot) : Bool := x.ret || nearB p x.v
/-- Is a state in a space, of a lattice of k labels? -/
def hasB (k : Nat) (p : Sp) (s : St.State) : Bool :=
  St.rightB k s && decide ((s.code.length : Int) ≤ p.code ∧ (s.mem.length : Int) ≤ p.mem ∧ (s.stack.length : Int) ≤ p.stack ∧ s.out.length = 0) && (s.code.all (insB p) && s.mem.all (fun x => nearB p x.v) && s.stack.all (slotB p))

/-- Draws: where, and what was chosen. -/
structure D where
  i : Nat
  log : List Int
/-- What reads choices. -/
abbrev G (α : Type) := D → Option (α × D)
def ret {α : Type} (x : α) : G α := fun d => some (x, d)
def bnd {α β : Type} (f : G α) (g : α → G β) : G β := fun d => match f d with
  | none => none
  | some (x, d') => g x d'
variable {α β : Type}
theorem bnd_none {f : G α} {g : α → G β} {d : D} (h : f d = none) : bnd f g d = none := by unfold bnd; rw [h]
theorem bnd_some {f : G α} {g : α → G β} {d d' : D} {x : α} (h : f d = some (x, d')) : bnd f g d = g x d' := by unfold bnd; rw [h]
theorem bnd_inv {f : G α} {g : α → G β} {d d2 : D} {y : β} (h : bnd f g d = some (y, d2)) : ∃ x d', f d = some (x, d') ∧ g x d' = some (y, d2) := by
  cases e : f d with
  | none => rw [bnd_none e] at h; cases h
  | some p => exact ⟨p.1, p.2, rfl, by rw [← h, bnd_some e]⟩
section
variable (list : List Int)
/-- The next choice, below b. -/
def tk (b : Int) : G Int := fun d => if d.log.length = 2000 then none else some (Dr.choice list d.i b, ⟨Dr.next list d.i, d.log ++ [Dr.choice list d.i b]⟩)
def num (val : Int) : G Int := bnd (tk list (2 * val + 1)) fun x => ret (Pk.made x.toNat)
def wtd (ws : List Int) : G Int := bnd (tk list (Pk.sum ws)) fun x => ret (Pk.picks ws x : Nat)
/-- What stands behind an instruction's Op. -/
def behind (n : Nat) (p : Sp) (op : Int) : G Cd.In :=
  if op = 1 then bnd (num list p.val) fun v => bnd (tk list n) fun l => ret ⟨1, v, l⟩
  else if op = 8 then bnd (tk list 13) fun x => ret ⟨8, x, 0⟩
  else if op = 9 then bnd (tk list 4) fun x => ret ⟨9, x, 0⟩
  else if op = 10 then bnd (tk list 2) fun x => ret ⟨10, x, 0⟩
  else ret ⟨op, 0, 0⟩
def ins (n : Nat) (p : Sp) : G Cd.In := bnd (wtd list p.ws) (behind list n p)
def atom (n : Nat) (p : Sp) : G St.Atom := bnd (num list p.val) fun v => bnd (tk list n) fun l => ret ⟨v, l⟩
def slotV (p : Sp) (r : Int) : G Int := if r = 1 then tk list 13 else num list p.val
def slot (n : Nat) (p : Sp) : G St.Slot := bnd (tk list 2) fun r => bnd (slotV list p r) fun v => bnd (tk list n) fun l => ret ⟨decide (r = 1), v, l⟩
end
/-- So many, one after the other. -/
def rep (f : G α) : Nat → G (List α)
  | 0 => ret []
  | k + 1 => bnd (rep f k) fun l => bnd f fun x => ret (l ++ [x])
def pc (list : List Int) (n : Nat) (c : List Cd.In) (m : List St.Atom) (s : List St.Slot) : G St.State := bnd (tk list 13) fun v => bnd (tk list n) fun l => ret ⟨⟨v, l⟩, c, m, s, []⟩
def stack (list : List Int) (n : Nat) (p : Sp) (c : List Cd.In) (m : List St.Atom) : G St.State := bnd (tk list (p.stack + 1)) fun k => bnd (rep (slot list n p) k.toNat) (pc list n c m)
def mem (list : List Int) (n : Nat) (p : Sp) (c : List Cd.In) : G St.State := bnd (tk list (p.mem + 1)) fun k => bnd (rep (atom list n p) k.toNat) (stack list n p c)
/-- The state that choices make. -/
def state (list : List Int) (n : Nat) (p : Sp) : G St.State := bnd (tk list (p.code + 1)) fun k => bnd (rep (ins list n p) k.toNat) (mem list n p)

/-! What comes of it, whatever the choices. -/
def Out (f : G α) (P : α → Prop) : Prop := ∀ d x d', f d = some (x, d') → P x
theorem Out.ret {P : α → Prop} {x : α} (h : P x) : Out (ret x) P := fun d y d' e => by
  unfold Gn.ret at e
  injection e with e
  injection e with e _
  exact e ▸ h
theorem Out.bnd {f : G α} {g : α → G β} {P : α → Prop} {Q : β → Prop} (h : Out f P) (k : ∀ x, P x → Out (g x) Q) : Out (bnd f g) Q := fun d y d2 e => by
  obtain ⟨x, d', e1, e2⟩ := bnd_inv e
  exact k x (h _ _ _ e1) _ _ _ e2
theorem Out.rep {f : G α} {P : α → Prop} (h : Out f P) : ∀ k, Out (rep f k) (fun l => l.length = k ∧ ∀ x ∈ l, P x)
  | 0 => Out.ret ⟨rfl, by simp⟩
  | k + 1 => Out.bnd (Out.rep h k) fun l hl => Out.bnd h fun x hx => Out.ret ⟨by simp [hl.1], fun y hy => by
      rcases List.mem_append.1 hy with hy | hy
      · exact hl.2 y hy
      · exact List.mem_singleton.1 hy ▸ hx⟩
theorem Out.tk (list : List Int) {b : Int} (hb : 1 ≤ b) : Out (tk list b) (fun x => 0 ≤ x ∧ x < b) := fun d x d' e => by
  unfold Gn.tk at e
  split at e
  · cases e
  · injection e with e
    injection e with e _
    exact e ▸ Dr.choice_low hb
theorem Out.num (list : List Int) {val : Int} (h : 0 ≤ val) : Out (num list val) (fun v => -val ≤ v ∧ v ≤ val) := Out.bnd (Out.tk list (by omega)) fun x hx => Out.ret (Pk.made_low (by omega))
theorem Out.wtd (list : List Int) {ws : List Int} (h : Pk.right ws = true) : Out (wtd list ws) (fun x => 0 ≤ x ∧ x < ws.length ∧ ws.getD x.toNat 0 ≠ 0) := by
  obtain ⟨hg, h1, h20, hs⟩ := Pk.right_good h
  refine Out.bnd (Out.tk list (by omega)) fun x hx => Out.ret ?_
  obtain ⟨h2, h3, h4⟩ := Pk.picks_spec hg hx.1 hx.2
  have := Pk.sum_at h2
  rw [Int.toNat_natCast]
  refine ⟨by omega, by omega, ?_⟩
  omega
structure Fits (n : Nat) (p : Sp) : Prop where
  n1 : 1 ≤ n
  c0 : 0 ≤ p.code
  c1 : p.code ≤ 12
  m0 : 0 ≤ p.mem
  m1 : p.mem ≤ 6
  s0 : 0 ≤ p.stack
  s1 : p.stack ≤ 12
  v0 : 0 ≤ p.val
  v1 : p.val ≤ 20
  len : p.ws.length = 13
  ws : Pk.right p.ws = true
theorem fits_of {n : Nat} {p : Sp} (hn : 1 ≤ n) (h : spB p = true) : Fits n p := by
  unfold spB at h
  rw [Bool.and_eq_true, decide_eq_true_iff] at h
  obtain ⟨⟨h1, h2, h3, h4, h5, h6, h7, h8, h9⟩, h10⟩ := h
  exact ⟨hn, h1, h2, h3, h4, h5, h6, h7, h8, h9, h10⟩
section
variable {n : Nat} {p : Sp} (list : List Int)
def InsR (n : Nat) (p : Sp) (x : Cd.In) : Prop := Cd.inB n x = true ∧ insB p x = true
theorem Out.ins (h : Fits n p) : Out (ins list n p) (InsR n p) := by
  refine Out.bnd (Out.wtd list h.ws) fun op hop => ?_
  obtain ⟨h0, h1, h2⟩ := hop
  rw [h.len] at h1
  have hw : decide (p.ws.getD op.toNat 0 ≠ 0) = true := decide_eq_true h2
  have hv0 := h.v0
  have hv1 := h.v1
  have hn := h.n1
  unfold behind InsR Cd.inB insB nearB Cd.most
  by_cases e1 : op = 1
  · subst e1
    rw [if_pos rfl]
    refine Out.bnd (Out.num list h.v0) fun v hv => Out.bnd (Out.tk list (by omega)) fun l hl => Out.ret ?_
    refine ⟨?_, ?_⟩
    · rw [if_pos rfl]; exact decide_eq_true (show -20 ≤ v ∧ v ≤ 20 ∧ 0 ≤ l ∧ l < (n : Int) by omega)
    · rw [hw]; simp; omega
  · rw [if_neg e1]
    by_cases e2 : op = 8
    · subst e2
      rw [if_pos rfl]
      refine Out.bnd (Out.tk list (by decide)) fun x hx => Out.ret ⟨?_, ?_⟩
      · simp; omega
      · rw [hw]; simp
    · rw [if_neg e2]
      by_cases e3 : op = 9
      · subst e3
        rw [if_pos rfl]
        refine Out.bnd (Out.tk list (by decide)) fun x hx => Out.ret ⟨?_, ?_⟩
        · simp; omega
        · rw [hw]; simp
      · rw [if_neg e3]
        by_cases e4 : op = 10
        · subst e4
          rw [if_pos rfl]
          refine Out.bnd (Out.tk list (by decide)) fun x hx => Out.ret ⟨?_, ?_⟩
          · simp; omega
          · rw [hw]; simp
        · rw [if_neg e4]
          refine Out.ret ⟨?_, ?_⟩
          · simp [e1, e2, e3, e4]; omega
          · rw [hw]; simp [e1]
theorem Out.atom (h : Fits n p) : Out (atom list n p) (fun x => St.atomB n x = true ∧ nearB p x.v = true) := by
  have hv0 := h.v0
  have hv1 := h.v1
  have hn := h.n1
  refine Out.bnd (Out.num list h.v0) fun v hv => Out.bnd (Out.tk list (by omega)) fun l hl => Out.ret ⟨?_, decide_eq_true hv⟩
  unfold St.atomB St.valB St.labB
  rw [decide_eq_true (show -20 ≤ v ∧ v ≤ 20 by omega), decide_eq_true (show 0 ≤ l ∧ l < (n : Int) by omega)]
  rfl
theorem Out.slot (h : Fits n p) : Out (slot list n p) (fun x => St.slotB n x = true ∧ slotB p x = true) := by
  have hv0 := h.v0
  have hv1 := h.v1
  have hn := h.n1
  refine Out.bnd (Out.tk list (by decide)) fun r hr => ?_
  unfold slotV St.slotB slotB St.valB St.labB St.pcB nearB
  by_cases e : r = 1
  · rw [if_pos e, decide_eq_true e]
    refine Out.bnd (Out.tk list (by decide)) fun v hv => Out.bnd (Out.tk list (by omega)) fun l hl => Out.ret ⟨?_, rfl⟩
    simp; omega
  · rw [if_neg e, decide_eq_false e]
    refine Out.bnd (Out.num list h.v0) fun v hv => Out.bnd (Out.tk list (by omega)) fun l hl => Out.ret ⟨?_, ?_⟩
    · simp; omega
    · simp; omega
/-- What is made is in the space. -/
theorem state_in (h : Fits n p) : Out (state list n p) (fun s => hasB n p s = true) := by
  have hc0 := h.c0
  have hc1 := h.c1
  have hm0 := h.m0
  have hm1 := h.m1
  have hs0 := h.s0
  have hs1 := h.s1
  have hn := h.n1
  refine Out.bnd (Out.tk list (by omega)) fun k1 hk1 => Out.bnd (Out.rep (Out.ins list h) _) fun c hc => Out.bnd (Out.tk list (by omega)) fun k2 hk2 => Out.bnd (Out.rep (Out.atom list h) _) fun m hm =>
    Out.bnd (Out.tk list (by omega)) fun k3 hk3 => Out.bnd (Out.rep (Out.slot list h) _) fun s hs => Out.bnd (Out.tk list (by decide)) fun v hv => Out.bnd (Out.tk list (by omega)) fun l hl => Out.ret ?_
  unfold hasB St.rightB Cd.rightB St.pcB St.labB
  have a1 : c.all (Cd.inB n) = true := List.all_eq_true.2 fun x hx => (hc.2 x hx).1
  have a2 : m.all (St.atomB n) = true := List.all_eq_true.2 fun x hx => (hm.2 x hx).1
  have a3 : s.all (St.slotB n) = true := List.all_eq_true.2 fun x hx => (hs.2 x hx).1
  have a4 : c.all (insB p) = true := List.all_eq_true.2 fun x hx => (hc.2 x hx).2
  have a5 : m.all (fun x => nearB p x.v) = true := List.all_eq_true.2 fun x hx => (hm.2 x hx).2
  have a6 : s.all (slotB p) = true := List.all_eq_true.2 fun x hx => (hs.2 x hx).2
  have e1 := hc.1
  have e2 := hm.1
  have e3 := hs.1
  simp only [a1, a2, a3, a4, a5, a6, Bool.and_true, List.all_nil, List.length_nil, Bool.and_eq_true, decide_eq_true_iff]
  have hk1 : 0 ≤ k1 ∧ k1 < p.code + 1 := hk1
  have hk2 : 0 ≤ k2 ∧ k2 < p.mem + 1 := hk2
  have hk3 : 0 ≤ k3 ∧ k3 < p.stack + 1 := hk3
  have hv : 0 ≤ v ∧ v < 13 := hv
  have hv1 : 0 ≤ v ∧ v ≤ 12 := by omega
  have hl1 : 0 ≤ l ∧ l < (n : Int) := hl
  exact ⟨⟨⟨⟨⟨by omega, hv1, hl1⟩, by omega⟩, by omega⟩, by decide⟩, by omega, by omega, by omega, trivial⟩
end

/-! The choices that were made make it again. -/

/-! How many choices. -/
end Gn
end Go.Proofs.Ytmbgndcahlopdaa

/- What tokens tell of a state; what is written is read as the same state, or is too many tokens; what is read may be. -/
namespace Go.Proofs.Ytmbgndcahlopdaa
set_option maxRecDepth 100000
open Lx (Tk pack toks first)
open Tb (tok Fine)
namespace St

/-! What is read may be. -/
/-! What is written is read. -/
end St
end Go.Proofs.Ytmbgndcahlopdaa

/- What is written of a state is read as the same state, or is too many tokens. -/
namespace Go.Proofs.Ytmbgndcahlopdaa
set_option maxRecDepth 100000
open Lx (Tk pack toks first)
open Tb (tok Fine)
end Go.Proofs.Ytmbgndcahlopdaa

/- A step of the machine over plain data, as the reference tells it; what stays. Over no program but what StaP names. -/
namespace Go.Proofs.Ytmbgndcahlopdaa
set_option maxRecDepth 100000
namespace Sp
open St (State Atom Slot rightB)

/-- What an instruction needs. -/
structure Nd where
  is : Bool
  a : Slot
  b : Slot
  r : Slot
  one : Int
  two : Int
  three : Int
  below : Nat
def slot0 : Slot := ⟨false, 0, 0⟩
def nd0 : Nd := ⟨false, slot0, slot0, slot0, 0, 0, 0, 0⟩
/-- Is one an atom, so many below the top? -/
def atomAt (s : List Slot) (down : Nat) : Bool := decide (down + 1 ≤ s.length) && !(s.getD (s.length - 1 - down) slot0).ret
/-- The place of the first Ret below so many slots. -/
def frameAt (s : List Slot) : Nat → Option Nat
  | 0 => none
  | i + 1 => if (s.getD i slot0).ret = true then some i else frameAt s i
def takesT : List Nat := [0, 0, 1, 2, 2, 1, 2, 1, 1, 1, 0, 1, 0]
def takesN (x : Cd.In) : Nat := if x.op = 10 then x.n.toNat else takesT.getD x.op.toNat 0
def atomsTo (s : List Slot) (from_ n : Nat) : Bool := (List.range n).all fun i => atomAt s (from_ + i)
/-- Needs, of a state whose instruction x is there. -/
def needs (bot : Int) (s : State) (x : Cd.In) : Nd :=
  if atomsTo s.stack 0 (takesN x) = true then
    let a := if 0 < takesN x then s.stack.getD (s.stack.length - 1) slot0 else slot0
    let b := if 1 < takesN x then s.stack.getD (s.stack.length - 2) slot0 else slot0
    let one := if 0 < takesN x then a.l else bot
    let two := if 1 < takesN x then b.l else bot
    let below := s.stack.length - takesN x
    let n : Nd := ⟨true, a, b, slot0, one, two, bot, below⟩
    if x.op = 1 then { n with one := x.l }
    else if x.op = 5 ∨ x.op = 6 then
      if a.v < 0 ∨ (s.mem.length : Int) ≤ a.v then nd0
      else if x.op = 5 then { n with two := (s.mem.getD a.v.toNat ⟨0, 0⟩).l } else { n with three := (s.mem.getD a.v.toNat ⟨0, 0⟩).l }
    else if x.op = 7 ∨ x.op = 9 then
      if a.v < 0 ∨ 12 < a.v then nd0
      else if atomsTo s.stack 1 x.n.toNat = true then n else nd0
    else if x.op = 10 then
      match frameAt s.stack below with
      | none => nd0
      | some i => { n with r := s.stack.getD i slot0, two := (s.stack.getD i slot0).l, below := i }
    else n
  else nd0
/-- The stack then. -/
def stackT (s : State) (x : Cd.In) (n : Nd) (res : Int) : List Slot :=
  if x.op = 1 then s.stack.take n.below ++ [⟨false, x.n, res⟩]
  else if x.op = 3 then s.stack.take n.below ++ [⟨false, n.b.v + n.a.v, res⟩]
  else if x.op = 4 then s.stack.take n.below ++ [⟨false, n.b.v - n.a.v, res⟩]
  else if x.op = 5 then s.stack.take n.below ++ [⟨false, (s.mem.getD n.a.v.toNat ⟨0, 0⟩).v, res⟩]
  else if x.op = 9 then s.stack.take (n.below - x.n.toNat) ++ [⟨true, s.pc.v + 1, s.pc.l⟩] ++ (s.stack.take n.below).drop (n.below - x.n.toNat)
  else if x.op = 10 ∧ x.n = 1 then s.stack.take n.below ++ [⟨false, n.a.v, res⟩]
  else s.stack.take n.below
/-- The place then. -/
def nextT (s : State) (x : Cd.In) (n : Nd) : Int :=
  if x.op = 7 ∨ x.op = 9 then n.a.v else if x.op = 10 then n.r.v else if x.op = 8 ∧ n.a.v ≠ 0 then x.n else s.pc.v + 1
/-- The memory then. -/
def memT (s : State) (x : Cd.In) (n : Nd) (res : Int) : List Atom :=
  if x.op = 6 then s.mem.set n.a.v.toNat ⟨n.b.v, res⟩ else s.mem
def outT (s : State) (x : Cd.In) (n : Nd) (res : Int) : List Atom := if x.op = 11 then s.out ++ [⟨n.a.v, res⟩] else s.out
/-- A table's row, as the judge reads it: whether it may be, and the labels that it comes to. -/
structure Rw where
  may : List Int → Bool
  res : List Int → Int
  pc : List Int → Int
def thenT (k : Nat) (bot : Int) (s : State) (x : Cd.In) (r : Rw) : State × Nat :=
  let n := needs bot s x
  let labs := [s.pc.l, n.one, n.two, n.three]
  let out : State := ⟨⟨nextT s x n, r.pc labs⟩, s.code, memT s x n (r.res labs), stackT s x n (r.res labs), outT s x n (r.res labs)⟩
  if n.is = false then (s, 3) else if x.op = 12 then (s, 1) else if r.may labs = false then (s, 2) else if rightB k out = true then (out, 0) else (s, 3)
/-- A step of a state that may be. -/
def step (k : Nat) (bot : Int) (rw_ : Int → Rw) (s : State) : State × Nat :=
  match s.code[s.pc.v.toNat]? with
  | none => (s, 3)
  | some x => thenT k bot s x (rw_ x.op)

/-! What stays. -/
/-! What hangs on the instruction's row alone. -/
end Sp
end Go.Proofs.Ytmbgndcahlopdaa

/- The machine of package step over plain data: what each of its methods does; together they are the step that the document tells. Over no program but what StpP names. -/
namespace Go.Proofs.Ytmbgndcahlopdaa
set_option maxRecDepth 100000
end Go.Proofs.Ytmbgndcahlopdaa
