/- Programs over plain data: what may be, the text, what tokens tell; what is written is read, what is read may be. -/
import Derived.Lib.ItoaNum
import Derived.Test.YtipbilmnknmhmaaGreatDoorGRulA
import Derived.Test.YtipbilmnknmhmaaGreatDoorGOrdC
import Derived.Test.YtipbilmnknmhmaaGreatDoorGPub
namespace Go.Proofs.YtipbilmnknmhmaaGreatDoor
set_option maxRecDepth 100000

namespace Cd
open Lx (Tk kt pack)

open Tb (tok Fine)
/-- An instruction. -/
structure In where
  op : Int
  n : Int
  l : Int
deriving DecidableEq
def number (op : Int) : Bool := decide (op = 1 ∨ op = 8 ∨ op = 9 ∨ op = 10)
/-- The greatest N of an instruction that has no label. -/
def most (op : Int) : Int := if op = 8 then 12 else if op = 9 then 3 else if op = 10 then 1 else 0
/-- May an instruction be, of so many labels? -/
def inB (k : Nat) (x : In) : Bool :=
  if x.op = 1 then decide (-20 ≤ x.n ∧ x.n ≤ 20 ∧ 0 ≤ x.l ∧ x.l < k)
  else decide (0 ≤ x.op ∧ x.op < 13 ∧ 0 ≤ x.n ∧ x.n ≤ most x.op ∧ x.l = 0)
def rightB (k : Nat) (l : List In) : Bool := decide (l.length ≤ 12) && l.all (inB k)

/-! Texts. -/
def sgn (n : Int) : List UInt8 := if n < 0 then [45, 32] ++ Lib.decDigits (-n).toNat else Lib.decDigits n.toNat
def nameL (names : List ByteArray) (k : Int) : List UInt8 := (names.getD k.toNat ByteArray.empty).data.toList
/-- An instruction's text ahead of its end. -/
def bodyL (names : List ByteArray) (x : In) : List UInt8 := Tb.wordL x.op.toNat ++ (if number x.op = true then 32 :: sgn x.n else []) ++ (if x.op = 1 then [32, 64, 32] ++ nameL names x.l else [])
def insL (names : List ByteArray) (x : In) : List UInt8 := bodyL names x ++ [32, 59]
def textL (names : List ByteArray) (l : List In) : List UInt8 := Lib.join (l.map (insL names)) [32]
/-- A program's text, or the error. -/
def text (names : List ByteArray) (up : List Nat) (l : List In) : ByteArray × Nat :=
  if checkN names up = 0 then (if rightB up.length l = true then (pack (textL names l), 0) else (ByteArray.empty, 1)) else (ByteArray.empty, checkN names up)

/-! What tokens tell. -/
def bAt : ByteArray := { data := #[64] }
def bSemi : ByteArray := { data := #[59] }
def bMinus : ByteArray := { data := #[45] }
def isM (l : List Tk) (t : ByteArray) (i : Nat) : Bool := decide ((tok l i).kind = 3 ∧ (tok l i).text = t)
def numV (s : List UInt8) : Nat := s.foldl (fun n c => 10 * n + c.toNat % 16) 0
def intJ (l : List Tk) (i : Nat) : Nat := if isM l bMinus i = true then i + 1 else i
def signed (b : Bool) (n : Nat) : Int := if b = true then -(n : Int) else (n : Int)
def intP (l : List Tk) (i : Nat) : Int × Nat × Nat :=
  if (tok l (intJ l i)).kind = 2 ∧ (tok l (intJ l i)).text.size ≤ 4 then (signed (isM l bMinus i) (numV (tok l (intJ l i)).text.data.toList), intJ l i + 1, 0)
  else (0, intJ l i, 4)
def markP (l : List Tk) (t : ByteArray) (i : Nat) : Nat × Nat := if isM l t i = true then (i + 1, 0) else (i, 4)
def nameP (names : List ByteArray) (l : List Tk) (i : Nat) : Int × Nat × Nat :=
  if (tok l i).kind = 1 then (match idxN names (tok l i).text with | none => (0, i, 6) | some a => ((a : Nat), i + 1, 0)) else (0, i, 4)
def labP (names : List ByteArray) (l : List Tk) (i : Nat) : Int × Nat × Nat := if isM l bAt i = true then nameP names l (i + 1) else (0, i, 4)
def numStep (op : Int) (l : List Tk) (i : Nat) : Int × Nat × Nat := if number op = true then intP l i else (0, i, 0)
def labStep (names : List ByteArray) (op : Int) (l : List Tk) (i : Nat) : Int × Nat × Nat := if op = 1 then labP names l i else (0, i, 0)
def endStep (op n : Int) (l : List Tk) (b : Int × Nat × Nat) : In × Nat × Nat := if b.2.2 = 0 then (⟨op, n, b.1⟩, (markP l bSemi b.2.1).1, (markP l bSemi b.2.1).2) else (⟨op, n, b.1⟩, b.2.1, b.2.2)
/-- All of an instruction behind its word. -/
def restP (names : List ByteArray) (op : Int) (l : List Tk) (i : Nat) : In × Nat × Nat :=
  if (numStep op l i).2.2 = 0 then endStep op (numStep op l i).1 l (labStep names op l (numStep op l i).2.1)
  else (⟨op, (numStep op l i).1, 0⟩, (numStep op l i).2.1, (numStep op l i).2.2)
def okP (k i : Nat) (r : In × Nat × Nat) : In × Nat × Nat := if r.2.2 = 0 then (if inB k r.1 = true then r else (r.1, i, 1)) else r
def oneP (names : List ByteArray) (k : Nat) (op : Int) (l : List Tk) (i : Nat) : In × Nat × Nat := okP k i (restP names op l (i + 1))
def opAt (l : List Tk) (i : Nat) : Option Nat := if (tok l i).kind = 1 then Tb.find (tok l i).text else none
def fromP (names : List ByteArray) (k : Nat) (l : List Tk) : Nat → List In → Nat → List In × Nat × Nat
  | 0, out, i => (out, i, 0)
  | n + 1, out, i => match opAt l i with
    | none => (out, i, 0)
    | some op => if out.length = 12 then ([], i, 8)
      else if (oneP names k op l i).2.2 = 0 then fromP names k l n (out ++ [(oneP names k op l i).1]) (oneP names k op l i).2.1
      else ([], (oneP names k op l i).2.1, (oneP names k op l i).2.2)
def endP (l : List Tk) (r : List In × Nat × Nat) : List In × Int × Nat :=
  if r.2.2 = 0 then (if (tok l r.2.1).kind = 0 then (r.1, 0, 0) else ([], (tok l r.2.1).pos, 4)) else ([], (tok l r.2.1).pos, r.2.2)
def parseL (names : List ByteArray) (k : Nat) (x : List Tk × Nat × Nat) : List In × Int × Nat :=
  if x.2.2 = 0 then endP x.1 (fromP names k x.1 13 [] 0) else ([], x.2.1, x.2.2)
def parse (names : List ByteArray) (up : List Nat) (s : List UInt8) : List In × Int × Nat :=
  if checkN names up = 0 then parseL names up.length (Lx.lex s) else ([], 0, checkN names up)

/-! Where a reading stands. -/
section
variable {l : List Tk}
theorem kind_next (hf : Fine l) {i : Nat} (h : i < l.length) (hk : (tok l i).kind ≠ 0) : i + 1 < l.length := Tb.tok_not_last hf h (.inl hk)
theorem isM_next (hf : Fine l) {i : Nat} (h : i < l.length) {t : ByteArray} (hm : isM l t i = true) : i + 1 < l.length :=
  kind_next hf h (by have := (of_decide_eq_true hm).1; omega)
theorem intJ_lt (hf : Fine l) {i : Nat} (h : i < l.length) : intJ l i < l.length := by
  unfold intJ
  by_cases hm : isM l bMinus i = true
  · rw [if_pos hm]; exact isM_next hf h hm
  · rw [if_neg hm]; exact h
theorem intP_lt (hf : Fine l) {i : Nat} (h : i < l.length) : (intP l i).2.1 < l.length := by
  have hj := intJ_lt hf h
  unfold intP
  by_cases hk : (tok l (intJ l i)).kind = 2 ∧ (tok l (intJ l i)).text.size ≤ 4
  · rw [if_pos hk]; exact kind_next hf hj (by have := hk.1; omega)
  · rw [if_neg hk]; exact hj
theorem markP_lt (hf : Fine l) {i : Nat} (h : i < l.length) (t : ByteArray) : (markP l t i).1 < l.length := by
  unfold markP
  by_cases hm : isM l t i = true
  · rw [if_pos hm]; exact isM_next hf h hm
  · rw [if_neg hm]; exact h
theorem nameP_lt (hf : Fine l) (names : List ByteArray) {i : Nat} (h : i < l.length) : (nameP names l i).2.1 < l.length := by
  unfold nameP
  by_cases hk : (tok l i).kind = 1
  · rw [if_pos hk]
    cases idxN names (tok l i).text with
    | none => exact h
    | some a => exact kind_next hf h (by omega)
  · rw [if_neg hk]; exact h
theorem labP_lt (hf : Fine l) (names : List ByteArray) {i : Nat} (h : i < l.length) : (labP names l i).2.1 < l.length := by
  unfold labP
  by_cases hm : isM l bAt i = true
  · rw [if_pos hm]; exact nameP_lt hf names (isM_next hf h hm)
  · rw [if_neg hm]; exact h
theorem numStep_lt (hf : Fine l) (op : Int) {i : Nat} (h : i < l.length) : (numStep op l i).2.1 < l.length := by
  unfold numStep
  split
  · exact intP_lt hf h
  · exact h
theorem labStep_lt (hf : Fine l) (names : List ByteArray) (op : Int) {i : Nat} (h : i < l.length) : (labStep names op l i).2.1 < l.length := by
  unfold labStep
  split
  · exact labP_lt hf names h
  · exact h
theorem restP_lt (hf : Fine l) (names : List ByteArray) (op : Int) {i : Nat} (h : i < l.length) : (restP names op l i).2.1 < l.length := by
  have h1 := numStep_lt hf op h
  have h2 := labStep_lt hf names op h1
  unfold restP endStep
  split
  · split
    · exact markP_lt hf h2 _
    · exact h2
  · exact h1
theorem oneP_lt (hf : Fine l) (names : List ByteArray) (k : Nat) (op : Int) {i : Nat} (h : i < l.length) (hk : (tok l i).kind = 1) : (oneP names k op l i).2.1 < l.length := by
  have h1 := restP_lt hf names op (kind_next hf h (by omega))
  unfold oneP okP
  split
  · split
    · exact h1
    · exact h
  · exact h1
theorem opAt_kind {i op : Nat} (h : opAt l i = some op) : (tok l i).kind = 1 ∧ Tb.find (tok l i).text = some op := by
  unfold opAt at h
  by_cases hk : (tok l i).kind = 1
  · rw [if_pos hk] at h; exact ⟨hk, h⟩
  · rw [if_neg hk] at h; cases h
theorem opAt_lt {i op : Nat} (h : opAt l i = some op) : op < 13 := (Tb.find_some (opAt_kind h).2).1
theorem fromP_lt (hf : Fine l) (names : List ByteArray) (k : Nat) : ∀ (n : Nat) (out : List In) (i : Nat), i < l.length → (fromP names k l n out i).2.1 < l.length
  | 0, _, _, h => h
  | n + 1, out, i, h => by
    unfold fromP
    cases ho : opAt l i with
    | none => exact h
    | some op =>
      have h1 := oneP_lt hf names k op h (opAt_kind ho).1
      dsimp only
      split
      · exact h
      · split
        · exact fromP_lt hf names k n _ _ h1
        · exact h1
theorem okP_ok {k i : Nat} {r : In × Nat × Nat} (h : (okP k i r).2.2 = 0) : inB k (okP k i r).1 = true := by
  unfold okP at h ⊢
  by_cases h0 : r.2.2 = 0
  · rw [if_pos h0] at h ⊢
    by_cases hb : inB k r.1 = true
    · rw [if_pos hb]; exact hb
    · rw [if_neg hb] at h; cases h
  · rw [if_neg h0] at h; exact absurd h h0
theorem fromP_right (names : List ByteArray) (k : Nat) : ∀ (n : Nat) (out : List In) (i : Nat), n + out.length = 13 → (∀ x ∈ out, inB k x = true) → (fromP names k l n out i).2.2 = 0 → rightB k (fromP names k l n out i).1 = true ∨ n = 0
  | 0, _, _, _, _, _ => .inr rfl
  | n + 1, out, i, hn, ho, h => by
    refine .inl ?_
    unfold fromP at h ⊢
    have hout : rightB k out = true := by
      unfold rightB
      rw [Bool.and_eq_true]
      exact ⟨decide_eq_true (by omega), List.all_eq_true.2 ho⟩
    cases e : opAt l i with
    | none => exact hout
    | some op =>
      rw [e] at h
      dsimp only at h ⊢
      by_cases hl : out.length = 12
      · rw [if_pos hl] at h; cases h
      · rw [if_neg hl] at h ⊢
        by_cases h0 : (oneP names k op l i).2.2 = 0
        · rw [if_pos h0] at h ⊢
          rcases fromP_right names k n (out ++ [(oneP names k op l i).1]) (oneP names k op l i).2.1 (by simp; omega) (fun x hx => by
            rcases List.mem_append.1 hx with hx | hx
            · exact ho x hx
            · rw [List.mem_singleton.1 hx]; exact okP_ok h0) h with h1 | h1
          · exact h1
          · omega
        · rw [if_neg h0] at h; exact absurd h h0
end
theorem parseL_right {names : List ByteArray} {k : Nat} {x : List Tk × Nat × Nat} (h : (parseL names k x).2.2 = 0) : rightB k (parseL names k x).1 = true := by
  unfold parseL at h ⊢
  by_cases h0 : x.2.2 = 0
  · rw [if_pos h0] at h ⊢
    unfold endP at h ⊢
    by_cases h1 : (fromP names k x.1 13 [] 0).2.2 = 0
    · rw [if_pos h1] at h ⊢
      by_cases h2 : (tok x.1 (fromP names k x.1 13 [] 0).2.1).kind = 0
      · rw [if_pos h2]
        rcases fromP_right names k 13 [] 0 rfl (fun x hx => by simp at hx) h1 with h3 | h3
        · exact h3
        · cases h3
      · rw [if_neg h2] at h; cases h
    · rw [if_neg h1] at h; exact absurd h h1
  · rw [if_neg h0] at h; exact absurd h h0
theorem parse_right {names : List ByteArray} {up : List Nat} {s : List UInt8} (h : (parse names up s).2.2 = 0) : checkN names up = 0 ∧ rightB up.length (parse names up s).1 = true := by
  unfold parse at h ⊢
  by_cases hc : checkN names up = 0
  · rw [if_pos hc] at h ⊢
    exact ⟨hc, parseL_right h⟩
  · rw [if_neg hc] at h; exact absurd h hc
theorem parse_none {names : List ByteArray} {up : List Nat} {s : List UInt8} (h : (parse names up s).2.2 ≠ 0) : (parse names up s).1 = [] := by
  unfold parse parseL endP at *
  split
  · split
    · split
      · split
        · simp_all
        · rfl
      · rfl
    · rfl
  · rfl

/-! What is written is read. -/
def numT (n : Int) : List (Int × ByteArray) := if n < 0 then [(3, bMinus), (2, pack (Lib.decDigits (-n).toNat))] else [(2, pack (Lib.decDigits n.toNat))]
def insT (names : List ByteArray) (x : In) : List (Int × ByteArray) :=
  (1, Tb.word x.op.toNat) :: ((if number x.op = true then numT x.n else []) ++ ((if x.op = 1 then [(3, bAt), (1, names.getD x.l.toNat ByteArray.empty)] else []) ++ [(3, bSemi)]))
theorem inB_op {k : Nat} {x : In} (h : inB k x = true) : 0 ≤ x.op ∧ x.op < 13 := by
  unfold inB at h
  by_cases h1 : x.op = 1
  · omega
  · rw [if_neg h1] at h
    have := of_decide_eq_true h
    exact ⟨this.1, this.2.1⟩
def tl (ks : List (Int × ByteArray)) : List (List UInt8) := ks.map fun p => p.2.data.toList
section
variable {l : List Tk} {i : Nat}
end
end Cd
end Go.Proofs.YtipbilmnknmhmaaGreatDoor

/- States over plain data: what may be, the text as lines of tokens, what tokens tell; what is written is read. Over no program but what CodP names. -/
namespace Go.Proofs.YtipbilmnknmhmaaGreatDoor
set_option maxRecDepth 100000
open Lx (Tk kt pack toks first)
open Tb (tok Fine)
namespace St

/-! Texts whose tokens stand with a blank or a line's end behind each. -/
/-- The bytes of tokens and the blank behind each. -/
def bytes (l : List ((Int × ByteArray) × UInt8)) : List UInt8 := l.flatMap fun q => q.1.2.data.toList ++ [q.2]
/-! States. -/
structure Atom where
  v : Int
  l : Int
structure Slot where
  ret : Bool
  v : Int
  l : Int
structure State where
  pc : Atom
  code : List Cd.In
  mem : List Atom
  stack : List Slot
  out : List Atom
deriving instance DecidableEq for Atom
deriving instance DecidableEq for Slot
def labB (k : Nat) (a : Int) : Bool := decide (0 ≤ a ∧ a < k)
def valB (v : Int) : Bool := decide (-20 ≤ v ∧ v ≤ 20)
def pcB (v : Int) : Bool := decide (0 ≤ v ∧ v ≤ 12)
def atomB (k : Nat) (x : Atom) : Bool := valB x.v && labB k x.l
def slotB (k : Nat) (x : Slot) : Bool := valB x.v && labB k x.l && (!x.ret || pcB x.v)
def rightB (k : Nat) (s : State) : Bool :=
  Cd.rightB k s.code && (pcB s.pc.v && labB k s.pc.l) && (decide (s.mem.length ≤ 6) && s.mem.all (atomB k)) && (decide (s.stack.length ≤ 12) && s.stack.all (slotB k)) && (decide (s.out.length ≤ 8) && s.out.all (atomB k))

/-! The text. -/
def bComma : ByteArray := { data := #[44] }
def bPc : ByteArray := { data := #[112, 99] }
def bCode : ByteArray := { data := #[99, 111, 100, 101] }
def bMem : ByteArray := { data := #[109, 101, 109] }
def bStack : ByteArray := { data := #[115, 116, 97, 99, 107] }
def bOut : ByteArray := { data := #[111, 117, 116] }
def bRet : ByteArray := { data := #[114, 101, 116] }
def nameT (names : List ByteArray) (a : Int) : ByteArray := names.getD a.toNat ByteArray.empty
def atomT (names : List ByteArray) (v a : Int) : List (Int × ByteArray) := Cd.numT v ++ [(3, Cd.bAt), (1, nameT names a)]
def slotT (names : List ByteArray) (x : Slot) : List (Int × ByteArray) := (if x.ret = true then [(1, bRet)] else []) ++ atomT names x.v x.l
def toSlot (x : Atom) : Slot := ⟨false, x.v, x.l⟩
def toAtom (x : Slot) : Atom := ⟨x.v, x.l⟩
def rowT (names : List ByteArray) : List Slot → List (Int × ByteArray)
  | [] => []
  | x :: xs => slotT names x ++ xs.flatMap fun y => (3, bComma) :: slotT names y
def lines (names : List ByteArray) (s : State) : List (List (Int × ByteArray)) :=
  [(1, bPc) :: (atomT names s.pc.v s.pc.l ++ [(3, Cd.bSemi)]), (1, bCode) :: s.code.flatMap (Cd.insT names), (1, bMem) :: (rowT names (s.mem.map toSlot) ++ [(3, Cd.bSemi)]), (1, bStack) :: (rowT names s.stack ++ [(3, Cd.bSemi)]), (1, bOut) :: (rowT names (s.out.map toSlot) ++ [(3, Cd.bSemi)])]
/-- A line: its tokens with blanks between them, and a line's end. -/
def lineL (ks : List (Int × ByteArray)) : List UInt8 := Lib.join (Cd.tl ks) [32] ++ [10]
def textL (names : List ByteArray) (s : State) : List UInt8 := (lines names s).flatMap lineL
def text (names : List ByteArray) (up : List Nat) (s : State) : ByteArray × Nat :=
  if checkN names up = 0 then (if rightB up.length s = true then (pack (textL names s), 0) else (ByteArray.empty, 1)) else (ByteArray.empty, checkN names up)
end St
end Go.Proofs.YtipbilmnknmhmaaGreatDoor

/- What tokens tell of a state; what is written is read as the same state, or is too many tokens; what is read may be. -/
namespace Go.Proofs.YtipbilmnknmhmaaGreatDoor
set_option maxRecDepth 100000
open Lx (Tk kt pack toks first)
open Tb (tok Fine)
namespace St

def isW (l : List Tk) (t : ByteArray) (i : Nat) : Bool := decide ((tok l i).kind = 1 ∧ (tok l i).text = t)
def andP {α β : Type} (r : α × Nat × Nat) (z : β) (f : α → Nat → β × Nat × Nat) : β × Nat × Nat := if r.2.2 = 0 then f r.1 r.2.1 else (z, r.2.1, r.2.2)
def wordE (l : List Tk) (t : ByteArray) (i : Nat) : Unit × Nat × Nat := if isW l t i = true then ((), i + 1, 0) else ((), i, 4)
def markE (l : List Tk) (t : ByteArray) (i : Nat) : Unit × Nat × Nat := if Cd.isM l t i = true then ((), i + 1, 0) else ((), i, 4)
def atomP (names : List ByteArray) (l : List Tk) (i : Nat) : Atom × Nat × Nat :=
  andP (Cd.intP l i) ⟨0, 0⟩ fun v j => andP (Cd.labP names l j) ⟨0, 0⟩ fun a j => (⟨v, a⟩, j, 0)
def retP (rets : Bool) (l : List Tk) (i : Nat) : Bool := rets && isW l bRet i
def slotP (names : List ByteArray) (rets : Bool) (l : List Tk) (i : Nat) : Slot × Nat × Nat :=
  andP (atomP names l (if retP rets l i = true then i + 1 else i)) ⟨false, 0, 0⟩ fun a j => (⟨retP rets l i, a.v, a.l⟩, j, 0)
def rowP (names : List ByteArray) (l : List Tk) (most : Nat) (rets : Bool) : Nat → List Slot → Nat → List Slot × Nat × Nat
  | 0, _, i => ([], i, 8)
  | n + 1, out, i => if out.length = most then ([], i, 8) else andP (slotP names rets l i) [] fun x j =>
      if Cd.isM l bComma j = true then rowP names l most rets n (out ++ [x]) (j + 1) else if Cd.isM l Cd.bSemi j = true then (out ++ [x], j + 1, 0) else ([], j, 4)
def wordP (names : List ByteArray) (l : List Tk) (word : ByteArray) (most : Nat) (rets : Bool) (i : Nat) : List Slot × Nat × Nat :=
  andP (wordE l word i) [] fun _ j => if Cd.isM l Cd.bSemi j = true then ([], j + 1, 0) else rowP names l most rets (most + 1) [] j
def zero : State := ⟨⟨0, 0⟩, [], [], [], []⟩
def endS (k i : Nat) (s : State) (j : Nat) : State × Nat × Nat := if rightB k s = true then (s, j, 0) else (zero, i, 1)
def fromS (names : List ByteArray) (k : Nat) (l : List Tk) (i : Nat) : State × Nat × Nat :=
  andP (wordE l bPc i) zero fun _ j => andP (atomP names l j) zero fun pc j => andP (markE l Cd.bSemi j) zero fun _ j => andP (wordE l bCode j) zero fun _ j =>
  andP (Cd.fromP names k l 13 [] j) zero fun code j => andP (wordP names l bMem 6 false j) zero fun mem j => andP (wordP names l bStack 12 true j) zero fun stack j =>
  andP (wordP names l bOut 8 false j) zero fun out j => endS k i ⟨pc, code, mem.map toAtom, stack, out.map toAtom⟩ j
def endT (l : List Tk) (r : State × Nat × Nat) : State × Int × Nat :=
  if r.2.2 = 0 then (if (tok l r.2.1).kind = 0 then (r.1, 0, 0) else (zero, (tok l r.2.1).pos, 4)) else (zero, (tok l r.2.1).pos, r.2.2)
def parseL (names : List ByteArray) (k : Nat) (x : List Tk × Nat × Nat) : State × Int × Nat :=
  if x.2.2 = 0 then endT x.1 (fromS names k x.1 0) else (zero, x.2.1, x.2.2)
def parse (names : List ByteArray) (up : List Nat) (s : List UInt8) : State × Int × Nat :=
  if checkN names up = 0 then parseL names up.length (Lx.lex s) else (zero, 0, checkN names up)

/-! What is read may be. -/
theorem andP_ok {α β : Type} {r : α × Nat × Nat} {z : β} {f : α → Nat → β × Nat × Nat} (h : (andP r z f).2.2 = 0) : andP r z f = f r.1 r.2.1 := by
  unfold andP at h ⊢
  by_cases h0 : r.2.2 = 0
  · rw [if_pos h0]
  · rw [if_neg h0] at h; exact absurd h h0
theorem endS_right {k i j : Nat} {s : State} (h : (endS k i s j).2.2 = 0) : rightB k (endS k i s j).1 = true := by
  unfold endS at h ⊢
  by_cases h0 : rightB k s = true
  · rw [if_pos h0]; exact h0
  · rw [if_neg h0] at h; cases h
theorem andP_all {α β : Type} {P : β → Prop} {r : α × Nat × Nat} {z : β} {f : α → Nat → β × Nat × Nat} (hf : ∀ a j, (f a j).2.2 = 0 → P (f a j).1) (h : (andP r z f).2.2 = 0) : P (andP r z f).1 := by
  have e := andP_ok h
  rw [e] at h ⊢
  exact hf _ _ h
theorem fromS_right {names : List ByteArray} {k i : Nat} {l : List Tk} (h : (fromS names k l i).2.2 = 0) : rightB k (fromS names k l i).1 = true := by
  unfold fromS at h ⊢
  exact andP_all (P := fun s => rightB k s = true) (fun _ _ => andP_all (P := fun s => rightB k s = true) fun _ _ => andP_all (P := fun s => rightB k s = true) fun _ _ => andP_all (P := fun s => rightB k s = true) fun _ _ => andP_all (P := fun s => rightB k s = true) fun _ _ => andP_all (P := fun s => rightB k s = true) fun _ _ => andP_all (P := fun s => rightB k s = true) fun _ _ => andP_all (P := fun s => rightB k s = true) fun _ _ => endS_right) h
theorem endT_right {k i : Nat} {names : List ByteArray} {l : List Tk} (h : (endT l (fromS names k l i)).2.2 = 0) : rightB k (endT l (fromS names k l i)).1 = true := by
  unfold endT at h ⊢
  by_cases h0 : (fromS names k l i).2.2 = 0
  · rw [if_pos h0] at h ⊢
    by_cases h1 : (tok l (fromS names k l i).2.1).kind = 0
    · rw [if_pos h1]; exact fromS_right h0
    · rw [if_neg h1] at h; cases h
  · rw [if_neg h0] at h; exact absurd h h0
theorem parse_right {names : List ByteArray} {up : List Nat} {s : List UInt8} (h : (parse names up s).2.2 = 0) : checkN names up = 0 ∧ rightB up.length (parse names up s).1 = true := by
  unfold parse at h ⊢
  by_cases h0 : checkN names up = 0
  · rw [if_pos h0] at h ⊢
    refine ⟨h0, ?_⟩
    unfold parseL at h ⊢
    by_cases h1 : (Lx.lex s).2.2 = 0
    · rw [if_pos h1] at h ⊢; exact endT_right h
    · rw [if_neg h1] at h; exact absurd h h1
  · rw [if_neg h0] at h; exact absurd h h0
theorem parse_none {names : List ByteArray} {up : List Nat} {s : List UInt8} (h : (parse names up s).2.2 ≠ 0) : (parse names up s).1 = zero := by
  unfold parse at h ⊢
  by_cases h0 : checkN names up = 0
  · rw [if_pos h0] at h ⊢
    unfold parseL at h ⊢
    by_cases h1 : (Lx.lex s).2.2 = 0
    · rw [if_pos h1] at h ⊢
      unfold endT at h ⊢
      by_cases h2 : (fromS names up.length (Lx.lex s).1 0).2.2 = 0
      · rw [if_pos h2] at h ⊢
        by_cases h3 : (tok (Lx.lex s).1 (fromS names up.length (Lx.lex s).1 0).2.1).kind = 0
        · rw [if_pos h3] at h; exact absurd rfl h
        · rw [if_neg h3]
      · rw [if_neg h2]
    · rw [if_neg h1]
  · rw [if_neg h0]

/-! What is written is read. -/
section
variable {l : List Tk} {i k : Nat} {names : List ByteArray}
theorem andP_do {α β : Type} {a : α} {j : Nat} {z : β} {f : α → Nat → β × Nat × Nat} : andP (a, j, 0) z f = f a j := by unfold andP; rw [if_pos rfl]
end
end St
end Go.Proofs.YtipbilmnknmhmaaGreatDoor

/- What is written of a state is read as the same state, or is too many tokens. -/
namespace Go.Proofs.YtipbilmnknmhmaaGreatDoor
set_option maxRecDepth 100000
open Lx (Tk kt pack toks first)
open Tb (tok Fine)
namespace St

end St
end Go.Proofs.YtipbilmnknmhmaaGreatDoor

/- A state's text, byte by byte. -/
namespace Go.Proofs.YtipbilmnknmhmaaGreatDoor
set_option maxRecDepth 100000
open Lx (Tk kt pack)
namespace St

end St
end Go.Proofs.YtipbilmnknmhmaaGreatDoor
