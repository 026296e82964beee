/- Programs over plain data: what may be, the text, what tokens tell; what is written is read, what is read may be. -/
import Derived.Lib.ItoaNum
import Derived.Test.YtmbgndcahlopdaaGRulA
import Derived.Test.YtmbgndcahlopdaaGOrdC
import Derived.Test.YtmbgndcahlopdaaGPub
import Derived.Test.YtmbgndcahlopdaaGBase
namespace Go.Proofs.Ytmbgndcahlopdaa
set_option maxRecDepth 100000

namespace Cd
open Lx (Tk pack)

open Tb (tok Fine)
/-- An instruction. -/
structure In where
  op : Int
  n : Int
  l : Int
deriving DecidableEq
/-- The greatest N of an instruction that has no label. -/
def most (op : Int) : Int := if op = 8 then 12 else if op = 9 then 3 else if op = 10 then 1 else 0
/-- May an instruction be, of so many labels? -/
def inB (k : Nat) (x : In) : Bool :=
  if x.op = 1 then decide (-20 ≤ x.n ∧ x.n ≤ 20 ∧ 0 ≤ x.l ∧ x.l < k)
  else decide (0 ≤ x.op ∧ x.op < 13 ∧ 0 ≤ x.n ∧ x.n ≤ most x.op ∧ x.l = 0)
def rightB (k : Nat) (l : List In) : Bool := decide (l.length ≤ 12) && l.all (inB k)

/-! Texts. -/
/-! What tokens tell. -/
/-! Where a reading stands. -/
/-! What is written is read. -/
theorem inB_op {k : Nat} {x : In} (h : inB k x = true) : 0 ≤ x.op ∧ x.op < 13 := by
  unfold inB at h
  by_cases h1 : x.op = 1
  · omega
  · rw [if_neg h1] at h
    have := of_decide_eq_true h
    exact ⟨this.1, this.2.1⟩
end Cd
end Go.Proofs.Ytmbgndcahlopdaa

/- States over plain data: what may be, the text as lines of tokens, what tokens tell; what is written is read. Over no program but what CodP names. -/
namespace Go.Proofs.Ytmbgndcahlopdaa
set_option maxRecDepth 100000
open Lx (Tk pack toks first)
open Tb (tok Fine)
namespace St

/-! Texts whose tokens stand with a blank or a line's end behind each. -/
/-! States. -/
structure Atom where
  v : Int
  l : Int
structure Slot where
  ret : Bool
  v : Int
  l : Int
structure State where
  pc : Atom
  code : List Cd.In
  mem : List Atom
  stack : List Slot
  out : List Atom
deriving instance DecidableEq for Atom
deriving instance DecidableEq for Slot
def labB (k : Nat) (a : Int) : Bool := decide (0 ≤ a ∧ a < k)
def valB (v : Int) : Bool := decide (-20 ≤ v ∧ v ≤ 20)
def pcB (v : Int) : Bool := decide (0 ≤ v ∧ v ≤ 12)
def atomB (k : Nat) (x : Atom) : Bool := valB x.v && labB k x.l
def slotB (k : Nat) (x : Slot) : Bool := valB x.v && labB k x.l && (!x.ret || pcB x.v)
def rightB (k : Nat) (s : State) : Bool :=
  Cd.rightB k s.code && (pcB s.pc.v && labB k s.pc.l) && (decide (s.mem.length ≤ 6) && s.mem.all (atomB k)) && (decide (s.stack.length ≤ 12) && s.stack.all (slotB k)) && (decide (s.out.length ≤ 8) && s.out.all (atomB k))

/-! The text. -/
end St
end Go.Proofs.Ytmbgndcahlopdaa

/- States that choices make, plainly (no program). -/
namespace Go.Proofs.Ytmbgndcahlopdaa
set_option maxRecDepth 100000
namespace Gn

/-- A space. -/
structure Sp where
  code : Int
  mem : Int
  stack : Int
  val : Int
  ws : List Int
/-- May a space be? -/
def spB (p : Sp) : Bool := decide (0 ≤ p.code ∧ p.code ≤ 12 ∧ 0 ≤ p.mem ∧ p.mem ≤ 6 ∧ 0 ≤ p.stack ∧ p.stack ≤ 12 ∧ 0 ≤ p.val ∧ p.val ≤ 20 ∧ p.ws.length = 13) && Pk.right p.ws
def nearB (p : Sp) (v : Int) : Bool := decide (-p.val ≤ v ∧ v ≤ p.val)
def insB (p : Sp) (x : Cd.In) : Bool := decide (p.ws.getD x.op.toNat 0 ≠ 0) && (decide (x.op ≠ 1) || nearB p x.n)
def slotB (p : Sp) (x : St.Slot) : Bool := x.ret || nearB p x.v
/-- Is a state in a space, of a lattice of k labels? -/
def hasB (k : Nat) (p : Sp) (s : St.State) : Bool :=
  St.rightB k s && decide ((s.code.length : Int) ≤ p.code ∧ (s.mem.length : Int) ≤ p.mem ∧ (s.stack.length : Int) ≤ p.stack ∧ s.out.length = 0) && (s.code.all (insB p) && s.mem.all (fun x => nearB p x.v) && s.stack.all (slotB p))

/-- Draws: where, and what was chosen. -/
structure D where
  i : Nat
  log : List Int
/-- What reads choices. -/
abbrev G (α : Type) := D → Option (α × D)
def ret {α : Type} (x : α) : G α := fun d => some (x, d)
def bnd {α β : Type} (f : G α) (g : α → G β) : G β := fun d => match f d with
  | none => none
  | some (x, d') => g x d'
variable {α β : Type}
theorem bnd_none {f : G α} {g : α → G β} {d : D} (h : f d = none) : bnd f g d = none := by unfold bnd; rw [h]
theorem bnd_some {f : G α} {g : α → G β} {d d' : D} {x : α} (h : f d = some (x, d')) : bnd f g d = g x d' := by unfold bnd; rw [h]
theorem bnd_inv {f : G α} {g : α → G β} {d d2 : D} {y : β} (h : bnd f g d = some (y, d2)) : ∃ x d', f d = some (x, d') ∧ g x d' = some (y, d2) := by
  cases e : f d with
  | none => rw [bnd_none e] at h; cases h
  | some p => exact ⟨p.1, p.2, rfl, by rw [← h, bnd_some e]⟩
section
variable (list : List Int)
/-- The next choice, below b. -/
def tk (b : Int) : G Int := fun d => if d.log.length = 2000 then none else some (Dr.choice list d.i b, ⟨Dr.next list d.i, d.log ++ [Dr.choice list d.i b]⟩)
def num (val : Int) : G Int := bnd (tk list (2 * val + 1)) fun x => ret (Pk.made x.toNat)
def wtd (ws : List Int) : G Int := bnd (tk list (Pk.sum ws)) fun x => ret (Pk.picks ws x : Nat)
/-- What stands behind an instruction's Op. -/
def behind (n : Nat) (p : Sp) (op : Int) : G Cd.In :=
  if op = 1 then bnd (num list p.val) fun v => bnd (tk list n) fun l => ret ⟨1, v, l⟩
  else if op = 8 then bnd (tk list 13) fun x => ret ⟨8, x, 0⟩
  else if op = 9 then bnd (tk list 4) fun x => ret ⟨9, x, 0⟩
  else if op = 10 then bnd (tk list 2) fun x => ret ⟨10, x, 0⟩
  else ret ⟨op, 0, 0⟩
def ins (n : Nat) (p : Sp) : G Cd.In := bnd (wtd list p.ws) (behind list n p)
def atom (n : Nat) (p : Sp) : G St.Atom := bnd (num list p.val) fun v => bnd (tk list n) fun l => ret ⟨v, l⟩
def slotV (p : Sp) (r : Int) : G Int := if r = 1 then tk list 13 else num list p.val
def slot (n : Nat) (p : Sp) : G St.Slot := bnd (tk list 2) fun r => bnd (slotV list p r) fun v => bnd (tk list n) fun l => ret ⟨decide (r = 1), v, l⟩
end
/-- So many, one after the other. -/
def rep (f : G α) : Nat → G (List α)
  | 0 => ret []
  | k + 1 => bnd (rep f k) fun l => bnd f fun x => ret (l ++ [x])
def pc (list : List Int) (n : Nat) (c : List Cd.In) (m : List St.Atom) (s : List St.Slot) : G St.State := bnd (tk list 13) fun v => bnd (tk list n) fun l => ret ⟨⟨v, l⟩, c, m, s, []⟩
def stack (list : List Int) (n : Nat) (p : Sp) (c : List Cd.In) (m : List St.Atom) : G St.State := bnd (tk list (p.stack + 1)) fun k => bnd (rep (slot list n p) k.toNat) (pc list n c m)
def mem (list : List Int) (n : Nat) (p : Sp) (c : List Cd.In) : G St.State := bnd (tk list (p.mem + 1)) fun k => bnd (rep (atom list n p) k.toNat) (stack list n p c)
/-- The state that choices make. -/
def state (list : List Int) (n : Nat) (p : Sp) : G St.State := bnd (tk list (p.code + 1)) fun k => bnd (rep (ins list n p) k.toNat) (mem list n p)

/-! What comes of it, whatever the choices. -/
def Out (f : G α) (P : α → Prop) : Prop := ∀ d x d', f d = some (x, d') → P x
theorem Out.ret {P : α → Prop} {x : α} (h : P x) : Out (ret x) P := fun d y d' e => by
  unfold Gn.ret at e
  injection e with e
  injection e with e _
  exact e ▸ h
theorem Out.bnd {f : G α} {g : α → G β} {P : α → Prop} {Q : β → Prop} (h : Out f P) (k : ∀ x, P x → Out (g x) Q) : Out (bnd f g) Q := fun d y d2 e => by
  obtain ⟨x, d', e1, e2⟩ := bnd_inv e
  exact k x (h _ _ _ e1) _ _ _ e2
theorem Out.rep {f : G α} {P : α → Prop} (h : Out f P) : ∀ k, Out (rep f k) (fun l => l.length = k ∧ ∀ x ∈ l, P x)
  | 0 => Out.ret ⟨rfl, by simp⟩
  | k + 1 => Out.bnd (Out.rep h k) fun l hl => Out.bnd h fun x hx => Out.ret ⟨by simp [hl.1], fun y hy => by
      rcases List.mem_append.1 hy with hy | hy
      · exact hl.2 y hy
      · exact List.mem_singleton.1 hy ▸ hx⟩
theorem Out.tk (list : List Int) {b : Int} (hb : 1 ≤ b) : Out (tk list b) (fun x => 0 ≤ x ∧ x < b) := fun d x d' e => by
  unfold Gn.tk at e
  split at e
  · cases e
  · injection e with e
    injection e with e _
    exact e ▸ Dr.choice_low hb
theorem Out.num (list : List Int) {val : Int} (h : 0 ≤ val) : Out (num list val) (fun v => -val ≤ v ∧ v ≤ val) := Out.bnd (Out.tk list (by omega)) fun x hx => Out.ret (Pk.made_low (by omega))
theorem Out.wtd (list : List Int) {ws : List Int} (h : Pk.right ws = true) : Out (wtd list ws) (fun x => 0 ≤ x ∧ x < ws.length ∧ ws.getD x.toNat 0 ≠ 0) := by
  obtain ⟨hg, h1, h20, hs⟩ := Pk.right_good h
  refine Out.bnd (Out.tk list (by omega)) fun x hx => Out.ret ?_
  obtain ⟨h2, h3, h4⟩ := Pk.picks_spec hg hx.1 hx.2
  have := Pk.sum_at h2
  rw [Int.toNat_natCast]
  refine ⟨by omega, by omega, ?_⟩
  omega
structure Fits (n : Nat) (p : Sp) : Prop where
  n1 : 1 ≤ n
  c0 : 0 ≤ p.code
  c1 : p.code ≤ 12
  m0 : 0 ≤ p.mem
  m1 : p.mem ≤ 6
  s0 : 0 ≤ p.stack
  s1 : p.stack ≤ 12
  v0 : 0 ≤ p.val
  v1 : p.val ≤ 20
  len : p.ws.length = 13
  ws : Pk.right p.ws = true
theorem fits_of {n : Nat} {p : Sp} (hn : 1 ≤ n) (h : spB p = true) : Fits n p := by
  unfold spB at h
  rw [Bool.and_eq_true, decide_eq_true_iff] at h
  obtain ⟨⟨h1, h2, h3, h4, h5, h6, h7, h8, h9⟩, h10⟩ := h
  exact ⟨hn, h1, h2, h3, h4, h5, h6, h7, h8, h9, h10⟩
section
variable {n : Nat} {p : Sp} (list : List Int)
def InsR (n : Nat) (p : Sp) (x : Cd.In) : Prop := Cd.inB n x = true ∧ insB p x = true
theorem Out.ins (h : Fits n p) : Out (ins list n p) (InsR n p) := by
  refine Out.bnd (Out.wtd list h.ws) fun op hop => ?_
  obtain ⟨h0, h1, h2⟩ := hop
  rw [h.len] at h1
  have hw : decide (p.ws.getD op.toNat 0 ≠ 0) = true := decide_eq_true h2
  have hv0 := h.v0
  have hv1 := h.v1
  have hn := h.n1
  unfold behind InsR Cd.inB insB nearB Cd.most
  by_cases e1 : op = 1
  · subst e1
    rw [if_pos rfl]
    refine Out.bnd (Out.num list h.v0) fun v hv => Out.bnd (Out.tk list (by omega)) fun l hl => Out.ret ?_
    refine ⟨?_, ?_⟩
    · rw [if_pos rfl]; exact decide_eq_true (show -20 ≤ v ∧ v ≤ 20 ∧ 0 ≤ l ∧ l < (n : Int) by omega)
    · rw [hw]; simp; omega
  · rw [if_neg e1]
    by_cases e2 : op = 8
    · subst e2
      rw [if_pos rfl]
      refine Out.bnd (Out.tk list (by decide)) fun x hx => Out.ret ⟨?_, ?_⟩
      · simp; omega
      · rw [hw]; simp
    · rw [if_neg e2]
      by_cases e3 : op = 9
      · subst e3
        rw [if_pos rfl]
        refine Out.bnd (Out.tk list (by decide)) fun x hx => Out.ret ⟨?_, ?_⟩
        · simp; omega
        · rw [hw]; simp
      · rw [if_neg e3]
        by_cases e4 : op = 10
        · subst e4
          rw [if_pos rfl]
          refine Out.bnd (Out.tk list (by decide)) fun x hx => Out.ret ⟨?_, ?_⟩
          · simp; omega
          · rw [hw]; simp
        · rw [if_neg e4]
          refine Out.ret ⟨?_, ?_⟩
          · simp [e1, e2, e3, e4]; omega
          · rw [hw]; simp [e1]
theorem Out.atom (h : Fits n p) : Out (atom list n p) (fun x => St.atomB n x = true ∧ nearB p x.v = true) := by
  have hv0 := h.v0
  have hv1 := h.v1
  have hn := h.n1
  refine Out.bnd (Out.num list h.v0) fun v hv => Out.bnd (Out.tk list (by omega)) fun l hl => Out.ret ⟨?_, decide_eq_true hv⟩
  unfold St.atomB St.valB St.labB
  rw [decide_eq_true (show -20 ≤ v ∧ v ≤ 20 by omega), decide_eq_true (show 0 ≤ l ∧ l < (n : Int) by omega)]
  rfl
theorem Out.slot (h : Fits n p) : Out (slot list n p) (fun x => St.slotB n x = true ∧ slotB p x = true) := by
  have hv0 := h.v0
  have hv1 := h.v1
  have hn := h.n1
  refine Out.bnd (Out.tk list (by decide)) fun r hr => ?_
  unfold slotV St.slotB slotB St.valB St.labB St.pcB nearB
  by_cases e : r = 1
  · rw [if_pos e, decide_eq_true e]
    refine Out.bnd (Out.tk list (by decide)) fun v hv => Out.bnd (Out.tk list (by omega)) fun l hl => Out.ret ⟨?_, rfl⟩
    simp; omega
  · rw [if_neg e, decide_eq_false e]
    refine Out.bnd (Out.num list h.v0) fun v hv => Out.bnd (Out.tk list (by omega)) fun l hl => Out.ret ⟨?_, ?_⟩
    · simp; omega
    · simp; omega
/-- What is made is in the space. -/
theorem state_in (h : Fits n p) : Out (state list n p) (fun s => hasB n p s = true) := by
  have hc0 := h.c0
  have hc1 := h.c1
  have hm0 := h.m0
  have hm1 := h.m1
  have hs0 := h.s0
  have hs1 := h.s1
  have hn := h.n1
  refine Out.bnd (Out.tk list (by omega)) fun k1 hk1 => Out.bnd (Out.rep (Out.ins list h) _) fun c hc => Out.bnd (Out.tk list (by omega)) fun k2 hk2 => Out.bnd (Out.rep (Out.atom list h) _) fun m hm =>
    Out.bnd (Out.tk list (by omega)) fun k3 hk3 => Out.bnd (Out.rep (Out.slot list h) _) fun s hs => Out.bnd (Out.tk list (by decide)) fun v hv => Out.bnd (Out.tk list (by omega)) fun l hl => Out.ret ?_
  unfold hasB St.rightB Cd.rightB St.pcB St.labB
  have a1 : c.all (Cd.inB n) = true := List.all_eq_true.2 fun x hx => (hc.2 x hx).1
  have a2 : m.all (St.atomB n) = true := List.all_eq_true.2 fun x hx => (hm.2 x hx).1
  have a3 : s.all (St.slotB n) = true := List.all_eq_true.2 fun x hx => (hs.2 x hx).1
  have a4 : c.all (insB p) = true := List.all_eq_true.2 fun x hx => (hc.2 x hx).2
  have a5 : m.all (fun x => nearB p x.v) = true := List.all_eq_true.2 fun x hx => (hm.2 x hx).2
  have a6 : s.all (slotB p) = true := List.all_eq_true.2 fun x hx => (hs.2 x hx).2
  have e1 := hc.1
  have e2 := hm.1
  have e3 := hs.1
  simp only [a1, a2, a3, a4, a5, a6, Bool.and_true, List.all_nil, List.length_nil, Bool.and_eq_true, decide_eq_true_iff]
  have hk1 : 0 ≤ k1 ∧ k1 < p.code + 1 := hk1
  have hk2 : 0 ≤ k2 ∧ k2 < p.mem + 1 := hk2
  have hk3 : 0 ≤ k3 ∧ k3 < p.stack + 1 := hk3
  have hv : 0 ≤ v ∧ v < 13 := hv
  have hv1 : 0 ≤ v ∧ v ≤ 12 := by omega
  have hl1 : 0 ≤ l ∧ l < (n : Int) := hl
  exact ⟨⟨⟨⟨⟨by omega, hv1, hl1⟩, by omega⟩, by omega⟩, by decide⟩, by omega, by omega, by omega, trivial⟩
end

/-! The choices that were made make it again. -/
def Again (f : List Int → G α) : Prop := ∀ list d x d', f list d = some (x, d') → ∃ ext, d'.log = d.log ++ ext ∧ ∀ rest, f (d.log ++ ext ++ rest) ⟨d.log.length, d.log⟩ = some (x, ⟨d'.log.length, d'.log⟩)
theorem Again.ret (x : α) : Again (fun _ => ret x) := fun list d y d' e => by
  unfold Gn.ret at e
  injection e with e
  injection e with e1 e2
  subst e1 e2
  exact ⟨[], by simp, fun rest => rfl⟩
theorem Again.bnd {f : List Int → G α} {g : List Int → α → G β} (h : Again f) (k : ∀ x, Again (fun l => g l x)) : Again (fun l => bnd (f l) (g l)) := fun list d y d2 e => by
  obtain ⟨x, d', e1, e2⟩ := bnd_inv e
  obtain ⟨a, ha, h1⟩ := h _ _ _ _ e1
  obtain ⟨b, hb, h2⟩ := k x _ _ _ _ e2
  refine ⟨a ++ b, by rw [hb, ha, List.append_assoc], fun rest => ?_⟩
  have h3 := h1 (b ++ rest)
  have h4 := h2 rest
  rw [← List.append_assoc, List.append_assoc d.log a b] at h3
  rw [ha, List.append_assoc d.log a b, ← ha] at h4
  show Gn.bnd _ _ _ = _
  rw [bnd_some h3]
  exact h4
theorem Again.rep {f : List Int → G α} (h : Again f) : ∀ k, Again (fun l => rep (f l) k)
  | 0 => Again.ret []
  | k + 1 => Again.bnd (Again.rep h k) fun l => Again.bnd h fun x => Again.ret (l ++ [x])
theorem Again.tk {b : Int} (hb : 1 ≤ b) : Again (fun l => tk l b) := fun list d x d' e => by
  have hx := Out.tk list hb _ _ _ e
  have e : Gn.tk list b d = some (x, d') := e
  unfold Gn.tk at e
  split at e
  · cases e
  · rename_i h
    injection e with e
    injection e with e1 e2
    rw [e1] at e2
    subst e2
    refine ⟨[x], rfl, fun rest => ?_⟩
    have hlt : d.log.length < (d.log ++ [x] ++ rest).length := by simp
    have hc : Dr.choice (d.log ++ [x] ++ rest) d.log.length b = x := by
      unfold Dr.choice
      rw [if_pos hlt, List.append_assoc, List.getD_eq_getElem?_getD, List.getElem?_append_right (Nat.le_refl _), Nat.sub_self]
      exact Int.emod_eq_of_lt hx.1 hx.2
    have hnx : Dr.next (d.log ++ [x] ++ rest) d.log.length = (d.log ++ [x]).length := by
      unfold Dr.next
      rw [if_pos hlt]
      simp
    unfold Gn.tk
    show (if d.log.length = 2000 then none else some (Dr.choice _ _ _, (⟨Dr.next _ _, _⟩ : D))) = _
    rw [if_neg h, hc, hnx]
theorem Again.num {val : Int} (h : 0 ≤ val) : Again (fun l => num l val) := Again.bnd (Again.tk (by omega)) fun _ => Again.ret _
theorem Again.wtd {ws : List Int} (h : Pk.right ws = true) : Again (fun l => wtd l ws) := Again.bnd (Again.tk (Pk.right_good h).2.2.2) fun _ => Again.ret _
section
variable {n : Nat} {p : Sp}
theorem Again.ins (h : Fits n p) : Again (fun l => ins l n p) := by
  have hn : (1 : Int) ≤ (n : Int) := by have := h.n1; omega
  refine Again.bnd (Again.wtd h.ws) fun op => ?_
  unfold behind
  by_cases e1 : op = 1
  · simp only [if_pos e1]
    exact Again.bnd (Again.num h.v0) fun v => Again.bnd (Again.tk hn) fun l => Again.ret _
  · simp only [if_neg e1]
    by_cases e2 : op = 8
    · simp only [if_pos e2]
      exact Again.bnd (Again.tk (by decide)) fun x => Again.ret _
    · simp only [if_neg e2]
      by_cases e3 : op = 9
      · simp only [if_pos e3]
        exact Again.bnd (Again.tk (by decide)) fun x => Again.ret _
      · simp only [if_neg e3]
        by_cases e4 : op = 10
        · simp only [if_pos e4]
          exact Again.bnd (Again.tk (by decide)) fun x => Again.ret _
        · simp only [if_neg e4]
          exact Again.ret _
theorem Again.atom (h : Fits n p) : Again (fun l => atom l n p) := Again.bnd (Again.num h.v0) fun v => Again.bnd (Again.tk (by have := h.n1; omega)) fun l => Again.ret _
theorem Again.slotV (h : Fits n p) (r : Int) : Again (fun l => slotV l p r) := by
  unfold Gn.slotV
  by_cases e : r = 1
  · simp only [if_pos e]
    exact Again.tk (by decide)
  · simp only [if_neg e]
    exact Again.num h.v0
theorem Again.slot (h : Fits n p) : Again (fun l => slot l n p) := Again.bnd (Again.tk (by decide)) fun r => Again.bnd (Again.slotV h r) fun v => Again.bnd (Again.tk (by have := h.n1; omega)) fun l => Again.ret _
theorem Again.state (h : Fits n p) : Again (fun l => state l n p) := by
  have hn : (1 : Int) ≤ (n : Int) := by have := h.n1; omega
  have hc := h.c0
  have hm := h.m0
  have hs := h.s0
  exact Again.bnd (Again.tk (by omega)) fun k => Again.bnd (Again.rep (Again.ins h) _) fun c => Again.bnd (Again.tk (by omega)) fun k => Again.bnd (Again.rep (Again.atom h) _) fun m => Again.bnd (Again.tk (by omega)) fun k => Again.bnd (Again.rep (Again.slot h) _) fun s =>
    Again.bnd (Again.tk (by decide)) fun v => Again.bnd (Again.tk hn) fun l => Again.ret _
/-- The choices that were made make it again. -/
theorem state_again (h : Fits n p) {list : List Int} {i : Nat} {s : St.State} {d : D} (e : state list n p ⟨i, []⟩ = some (s, d)) : state d.log n p ⟨0, []⟩ = some (s, ⟨d.log.length, d.log⟩) := by
  obtain ⟨ext, h1, h2⟩ := Again.state h _ _ _ _ e
  have h3 := h2 []
  rw [List.append_nil, ← h1] at h3
  exact h3
end

/-! How many choices. -/
def Len (f : G α) (k : Nat) : Prop := ∀ d x d', f d = some (x, d') → d'.log.length ≤ d.log.length + k
theorem Len.ret (x : α) (k : Nat) : Len (ret x) k := fun d y d' e => by
  unfold Gn.ret at e
  injection e with e
  injection e with _ e
  subst e
  omega
theorem Len.bnd {f : G α} {g : α → G β} {P : α → Prop} {a b c : Nat} (h : Len f a) (ho : Out f P) (k : ∀ x, P x → Len (g x) b) (hc : a + b ≤ c) : Len (bnd f g) c := fun d y d2 e => by
  obtain ⟨x, d', e1, e2⟩ := bnd_inv e
  have h1 := h _ _ _ e1
  have h2 := k x (ho _ _ _ e1) _ _ _ e2
  omega
theorem Len.tk (list : List Int) (b : Int) : Len (tk list b) 1 := fun d x d' e => by
  unfold Gn.tk at e
  split at e
  · cases e
  · injection e with e
    injection e with _ e
    subst e
    simp
theorem Out.any (f : G α) : Out f (fun _ => True) := fun _ _ _ _ => trivial
theorem Len.num (list : List Int) (val : Int) : Len (num list val) 1 := Len.bnd (b := 0) (Len.tk list _) (Out.any _) (fun _ _ => Len.ret _ _) (by decide)
theorem Len.wtd (list : List Int) (ws : List Int) : Len (wtd list ws) 1 := Len.bnd (b := 0) (Len.tk list _) (Out.any _) (fun _ _ => Len.ret _ _) (by decide)
theorem Len.rep {f : G α} {a : Nat} (h : Len f a) : ∀ k, Len (rep f k) (a * k)
  | 0 => Len.ret _ _
  | k + 1 => Len.bnd (Len.rep h k) (Out.any _) (fun l _ => Len.bnd (b := 0) h (Out.any _) (fun x _ => Len.ret _ _) (Nat.le_refl _)) (by rw [Nat.mul_succ]; omega)
section
variable {n : Nat} {p : Sp} (list : List Int)
theorem Len.ins : Len (ins list n p) 3 := by
  refine Len.bnd (b := 2) (Len.wtd list _) (Out.any _) (fun op _ => ?_) (by decide)
  unfold behind
  split
  · exact Len.bnd (b := 1) (Len.num list _) (Out.any _) (fun v _ => Len.bnd (b := 0) (Len.tk list _) (Out.any _) (fun _ _ => Len.ret _ _) (by decide)) (by decide)
  · split
    · exact Len.bnd (b := 0) (Len.tk list _) (Out.any _) (fun _ _ => Len.ret _ _) (by decide)
    · split
      · exact Len.bnd (b := 0) (Len.tk list _) (Out.any _) (fun _ _ => Len.ret _ _) (by decide)
      · split
        · exact Len.bnd (b := 0) (Len.tk list _) (Out.any _) (fun _ _ => Len.ret _ _) (by decide)
        · exact Len.ret _ _
theorem Len.atom : Len (atom list n p) 2 := Len.bnd (b := 1) (Len.num list _) (Out.any _) (fun v _ => Len.bnd (b := 0) (Len.tk list _) (Out.any _) (fun _ _ => Len.ret _ _) (by decide)) (by decide)
theorem Len.slotV (r : Int) : Len (slotV list p r) 1 := by
  unfold Gn.slotV
  split
  · exact Len.tk list _
  · exact Len.num list _
theorem Len.slot : Len (slot list n p) 3 := Len.bnd (b := 2) (Len.tk list _) (Out.any _) (fun r _ => Len.bnd (b := 1) (Len.slotV list r) (Out.any _) (fun v _ => Len.bnd (b := 0) (Len.tk list _) (Out.any _) (fun _ _ => Len.ret _ _) (by decide)) (by decide)) (by decide)
/-- No state wants more than 89 choices. -/
theorem Len.state (h : Fits n p) : Len (state list n p) 89 := by
  have hc0 := h.c0
  have hc1 := h.c1
  have hm0 := h.m0
  have hm1 := h.m1
  have hs0 := h.s0
  have hs1 := h.s1
  refine Len.bnd (b := 88) (Len.tk list _) (Out.tk list (by omega)) (fun k1 h1 => Len.bnd (b := 52) (Len.rep (Len.ins list) _) (Out.any _) (fun c _ => ?_) (by omega)) (by decide)
  refine Len.bnd (b := 51) (Len.tk list _) (Out.tk list (by omega)) (fun k2 h2 => Len.bnd (b := 39) (Len.rep (Len.atom list) _) (Out.any _) (fun m _ => ?_) (by omega)) (by decide)
  refine Len.bnd (b := 38) (Len.tk list _) (Out.tk list (by omega)) (fun k3 h3 => Len.bnd (b := 2) (Len.rep (Len.slot list) _) (Out.any _) (fun s _ => ?_) (by omega)) (by decide)
  exact Len.bnd (b := 1) (Len.tk list _) (Out.any _) (fun v _ => Len.bnd (b := 0) (Len.tk list _) (Out.any _) (fun _ _ => Len.ret _ _) (by decide)) (by decide)
end
/-- Without choices it is the empty one. -/
theorem tk_none (b : Int) (d : D) (h : d.log.length < 2000) : tk [] b d = some (0, ⟨d.i, d.log ++ [0]⟩) := by
  unfold tk
  rw [if_neg (by omega)]
  rfl
theorem state_none (n : Nat) (p : Sp) : ∃ d, state [] n p ⟨0, []⟩ = some (⟨⟨0, 0⟩, [], [], [], []⟩, d) := by
  unfold state mem stack pc
  rw [bnd_some (tk_none _ _ (by decide))]
  show ∃ d, bnd (ret []) _ _ = _
  rw [bnd_some (f := ret []) rfl, bnd_some (tk_none _ _ (by simp))]
  show ∃ d, bnd (ret []) _ _ = _
  rw [bnd_some (f := ret []) rfl, bnd_some (tk_none _ _ (by simp))]
  show ∃ d, bnd (ret []) _ _ = _
  rw [bnd_some (f := ret []) rfl, bnd_some (tk_none _ _ (by simp)), bnd_some (tk_none _ _ (by simp))]
  exact ⟨_, rfl⟩
end Gn
end Go.Proofs.Ytmbgndcahlopdaa

/- What tokens tell of a state; what is written is read as the same state, or is too many tokens; what is read may be. -/
namespace Go.Proofs.Ytmbgndcahlopdaa
set_option maxRecDepth 100000
open Lx (Tk pack toks first)
open Tb (tok Fine)
namespace St

/-! What is read may be. -/
/-! What is written is read. -/
end St
end Go.Proofs.Ytmbgndcahlopdaa

/- What is written of a state is read as the same state, or is too many tokens. -/
namespace Go.Proofs.Ytmbgndcahlopdaa
set_option maxRecDepth 100000
open Lx (Tk pack toks first)
open Tb (tok Fine)
end Go.Proofs.Ytmbgndcahlopdaa
