/- Programs over plain data: what may be, the text, what tokens tell; what is written is read, what is read may be. -/
import Derived.Lib.ItoaNum
import Derived.Test.YtipbilmnknmhmaaDoorGRulD
import Derived.Test.YtipbilmnknmhmaaDoorGOrdC
import Derived.Test.YtipbilmnknmhmaaDoorGPub
namespace Go.Proofs.YtipbilmnknmhmaaDoor
set_option maxRecDepth 100000

namespace Cd
open Lx (Tk kt pack)

open Tb (tok Fine)
/-- An instruction. -/
structure In where
  op : Int
  n : Int
  l : Int
deriving DecidableEq
def number (op : Int) : Bool := decide (op = 1 ∨ op = 8 ∨ op = 9 ∨ op = 10)
/-- The greatest N of an instruction that has no label. -/
def most (op : Int) : Int := if op = 8 then 12 else if op = 9 then 3 else if op = 10 then 1 else 0
/-- May an instruction be, of so many labels? -/
def inB (k : Nat) (x : In) : Bool :=
  if x.op = 1 then decide (-20 ≤ x.n ∧ x.n ≤ 20 ∧ 0 ≤ x.l ∧ x.l < k)
  else decide (0 ≤ x.op ∧ x.op < 13 ∧ 0 ≤ x.n ∧ x.n ≤ most x.op ∧ x.l = 0)
def rightB (k : Nat) (l : List In) : Bool := decide (l.length ≤ 12) && l.all (inB k)

/-! Texts. -/
def sgn (n : Int) : List UInt8 := if n < 0 then [45, 32] ++ Lib.decDigits (-n).toNat else Lib.decDigits n.toNat
def nameL (names : List ByteArray) (k : Int) : List UInt8 := (names.getD k.toNat ByteArray.empty).data.toList
/-- An instruction's text ahead of its end. -/
def bodyL (names : List ByteArray) (x : In) : List UInt8 := Tb.wordL x.op.toNat ++ (if number x.op = true then 32 :: sgn x.n else []) ++ (if x.op = 1 then [32, 64, 32] ++ nameL names x.l else [])
def insL (names : List ByteArray) (x : In) : List UInt8 := bodyL names x ++ [32, 59]
def textL (names : List ByteArray) (l : List In) : List UInt8 := Lib.join (l.map (insL names)) [32]
/-- A program's text, or the error. -/
def text (names : List ByteArray) (up : List Nat) (l : List In) : ByteArray × Nat :=
  if checkN names up = 0 then (if rightB up.length l = true then (pack (textL names l), 0) else (ByteArray.empty, 1)) else (ByteArray.empty, checkN names up)

/-! What tokens tell. -/
def bAt : ByteArray := { data := #[64] }
def bSemi : ByteArray := { data := #[59] }
def bMinus : ByteArray := { data := #[45] }
def isM (l : List Tk) (t : ByteArray) (i : Nat) : Bool := decide ((tok l i).kind = 3 ∧ (tok l i).text = t)
def numV (s : List UInt8) : Nat := s.foldl (fun n c => 10 * n + c.toNat % 16) 0
def intJ (l : List Tk) (i : Nat) : Nat := if isM l bMinus i = true then i + 1 else i
def signed (b : Bool) (n : Nat) : Int := if b = true then -(n : Int) else (n : Int)
def intP (l : List Tk) (i : Nat) : Int × Nat × Nat :=
  if (tok l (intJ l i)).kind = 2 ∧ (tok l (intJ l i)).text.size ≤ 4 then (signed (isM l bMinus i) (numV (tok l (intJ l i)).text.data.toList), intJ l i + 1, 0)
  else (0, intJ l i, 4)
def markP (l : List Tk) (t : ByteArray) (i : Nat) : Nat × Nat := if isM l t i = true then (i + 1, 0) else (i, 4)
def nameP (names : List ByteArray) (l : List Tk) (i : Nat) : Int × Nat × Nat :=
  if (tok l i).kind = 1 then (match idxN names (tok l i).text with | none => (0, i, 6) | some a => ((a : Nat), i + 1, 0)) else (0, i, 4)
def labP (names : List ByteArray) (l : List Tk) (i : Nat) : Int × Nat × Nat := if isM l bAt i = true then nameP names l (i + 1) else (0, i, 4)
def numStep (op : Int) (l : List Tk) (i : Nat) : Int × Nat × Nat := if number op = true then intP l i else (0, i, 0)
def labStep (names : List ByteArray) (op : Int) (l : List Tk) (i : Nat) : Int × Nat × Nat := if op = 1 then labP names l i else (0, i, 0)
def endStep (op n : Int) (l : List Tk) (b : Int × Nat × Nat) : In × Nat × Nat := if b.2.2 = 0 then (⟨op, n, b.1⟩, (markP l bSemi b.2.1).1, (markP l bSemi b.2.1).2) else (⟨op, n, b.1⟩, b.2.1, b.2.2)
/-- All of an instruction behind its word. -/
def restP (names : List ByteArray) (op : Int) (l : List Tk) (i : Nat) : In × Nat × Nat :=
  if (numStep op l i).2.2 = 0 then endStep op (numStep op l i).1 l (labStep names op l (numStep op l i).2.1)
  else (⟨op, (numStep op l i).1, 0⟩, (numStep op l i).2.1, (numStep op l i).2.2)
def okP (k i : Nat) (r : In × Nat × Nat) : In × Nat × Nat := if r.2.2 = 0 then (if inB k r.1 = true then r else (r.1, i, 1)) else r
def oneP (names : List ByteArray) (k : Nat) (op : Int) (l : List Tk) (i : Nat) : In × Nat × Nat := okP k i (restP names op l (i + 1))
def opAt (l : List Tk) (i : Nat) : Option Nat := if (tok l i).kind = 1 then Tb.find (tok l i).text else none
def fromP (names : List ByteArray) (k : Nat) (l : List Tk) : Nat → List In → Nat → List In × Nat × Nat
  | 0, out, i => (out, i, 0)
  | n + 1, out, i => match opAt l i with
    | none => (out, i, 0)
    | some op => if out.length = 12 then ([], i, 8)
      else if (oneP names k op l i).2.2 = 0 then fromP names k l n (out ++ [(oneP names k op l i).1]) (oneP names k op l i).2.1
      else ([], (oneP names k op l i).2.1, (oneP names k op l i).2.2)
def endP (l : List Tk) (r : List In × Nat × Nat) : List In × Int × Nat :=
  if r.2.2 = 0 then (if (tok l r.2.1).kind = 0 then (r.1, 0, 0) else ([], (tok l r.2.1).pos, 4)) else ([], (tok l r.2.1).pos, r.2.2)
def parseL (names : List ByteArray) (k : Nat) (x : List Tk × Nat × Nat) : List In × Int × Nat :=
  if x.2.2 = 0 then endP x.1 (fromP names k x.1 13 [] 0) else ([], x.2.1, x.2.2)
def parse (names : List ByteArray) (up : List Nat) (s : List UInt8) : List In × Int × Nat :=
  if checkN names up = 0 then parseL names up.length (Lx.lex s) else ([], 0, checkN names up)

/-! Where a reading stands. -/
section
variable {l : List Tk}
theorem kind_next (hf : Fine l) {i : Nat} (h : i < l.length) (hk : (tok l i).kind ≠ 0) : i + 1 < l.length := Tb.tok_not_last hf h (.inl hk)
theorem isM_next (hf : Fine l) {i : Nat} (h : i < l.length) {t : ByteArray} (hm : isM l t i = true) : i + 1 < l.length :=
  kind_next hf h (by have := (of_decide_eq_true hm).1; omega)
theorem intJ_lt (hf : Fine l) {i : Nat} (h : i < l.length) : intJ l i < l.length := by
  unfold intJ
  by_cases hm : isM l bMinus i = true
  · rw [if_pos hm]; exact isM_next hf h hm
  · rw [if_neg hm]; exact h
theorem intP_lt (hf : Fine l) {i : Nat} (h : i < l.length) : (intP l i).2.1 < l.length := by
  have hj := intJ_lt hf h
  unfold intP
  by_cases hk : (tok l (intJ l i)).kind = 2 ∧ (tok l (intJ l i)).text.size ≤ 4
  · rw [if_pos hk]; exact kind_next hf hj (by have := hk.1; omega)
  · rw [if_neg hk]; exact hj
theorem markP_lt (hf : Fine l) {i : Nat} (h : i < l.length) (t : ByteArray) : (markP l t i).1 < l.length := by
  unfold markP
  by_cases hm : isM l t i = true
  · rw [if_pos hm]; exact isM_next hf h hm
  · rw [if_neg hm]; exact h
theorem nameP_lt (hf : Fine l) (names : List ByteArray) {i : Nat} (h : i < l.length) : (nameP names l i).2.1 < l.length := by
  unfold nameP
  by_cases hk : (tok l i).kind = 1
  · rw [if_pos hk]
    cases idxN names (tok l i).text with
    | none => exact h
    | some a => exact kind_next hf h (by omega)
  · rw [if_neg hk]; exact h
theorem labP_lt (hf : Fine l) (names : List ByteArray) {i : Nat} (h : i < l.length) : (labP names l i).2.1 < l.length := by
  unfold labP
  by_cases hm : isM l bAt i = true
  · rw [if_pos hm]; exact nameP_lt hf names (isM_next hf h hm)
  · rw [if_neg hm]; exact h
theorem numStep_lt (hf : Fine l) (op : Int) {i : Nat} (h : i < l.length) : (numStep op l i).2.1 < l.length := by
  unfold numStep
  split
  · exact intP_lt hf h
  · exact h
theorem labStep_lt (hf : Fine l) (names : List ByteArray) (op : Int) {i : Nat} (h : i < l.length) : (labStep names op l i).2.1 < l.length := by
  unfold labStep
  split
  · exact labP_lt hf names h
  · exact h
theorem restP_lt (hf : Fine l) (names : List ByteArray) (op : Int) {i : Nat} (h : i < l.length) : (restP names op l i).2.1 < l.length := by
  have h1 := numStep_lt hf op h
  have h2 := labStep_lt hf names op h1
  unfold restP endStep
  split
  · split
    · exact markP_lt hf h2 _
    · exact h2
  · exact h1
theorem oneP_lt (hf : Fine l) (names : List ByteArray) (k : Nat) (op : Int) {i : Nat} (h : i < l.length) (hk : (tok l i).kind = 1) : (oneP names k op l i).2.1 < l.length := by
  have h1 := restP_lt hf names op (kind_next hf h (by omega))
  unfold oneP okP
  split
  · split
    · exact h1
    · exact h
  · exact h1
theorem opAt_kind {i op : Nat} (h : opAt l i = some op) : (tok l i).kind = 1 ∧ Tb.find (tok l i).text = some op := by
  unfold opAt at h
  by_cases hk : (tok l i).kind = 1
  · rw [if_pos hk] at h; exact ⟨hk, h⟩
  · rw [if_neg hk] at h; cases h
theorem opAt_lt {i op : Nat} (h : opAt l i = some op) : op < 13 := (Tb.find_some (opAt_kind h).2).1
theorem fromP_lt (hf : Fine l) (names : List ByteArray) (k : Nat) : ∀ (n : Nat) (out : List In) (i : Nat), i < l.length → (fromP names k l n out i).2.1 < l.length
  | 0, _, _, h => h
  | n + 1, out, i, h => by
    unfold fromP
    cases ho : opAt l i with
    | none => exact h
    | some op =>
      have h1 := oneP_lt hf names k op h (opAt_kind ho).1
      dsimp only
      split
      · exact h
      · split
        · exact fromP_lt hf names k n _ _ h1
        · exact h1
theorem okP_ok {k i : Nat} {r : In × Nat × Nat} (h : (okP k i r).2.2 = 0) : inB k (okP k i r).1 = true := by
  unfold okP at h ⊢
  by_cases h0 : r.2.2 = 0
  · rw [if_pos h0] at h ⊢
    by_cases hb : inB k r.1 = true
    · rw [if_pos hb]; exact hb
    · rw [if_neg hb] at h; cases h
  · rw [if_neg h0] at h; exact absurd h h0
theorem fromP_right (names : List ByteArray) (k : Nat) : ∀ (n : Nat) (out : List In) (i : Nat), n + out.length = 13 → (∀ x ∈ out, inB k x = true) → (fromP names k l n out i).2.2 = 0 → rightB k (fromP names k l n out i).1 = true ∨ n = 0
  | 0, _, _, _, _, _ => .inr rfl
  | n + 1, out, i, hn, ho, h => by
    refine .inl ?_
    unfold fromP at h ⊢
    have hout : rightB k out = true := by
      unfold rightB
      rw [Bool.and_eq_true]
      exact ⟨decide_eq_true (by omega), List.all_eq_true.2 ho⟩
    cases e : opAt l i with
    | none => exact hout
    | some op =>
      rw [e] at h
      dsimp only at h ⊢
      by_cases hl : out.length = 12
      · rw [if_pos hl] at h; cases h
      · rw [if_neg hl] at h ⊢
        by_cases h0 : (oneP names k op l i).2.2 = 0
        · rw [if_pos h0] at h ⊢
          rcases fromP_right names k n (out ++ [(oneP names k op l i).1]) (oneP names k op l i).2.1 (by simp; omega) (fun x hx => by
            rcases List.mem_append.1 hx with hx | hx
            · exact ho x hx
            · rw [List.mem_singleton.1 hx]; exact okP_ok h0) h with h1 | h1
          · exact h1
          · omega
        · rw [if_neg h0] at h; exact absurd h h0
end
theorem parseL_right {names : List ByteArray} {k : Nat} {x : List Tk × Nat × Nat} (h : (parseL names k x).2.2 = 0) : rightB k (parseL names k x).1 = true := by
  unfold parseL at h ⊢
  by_cases h0 : x.2.2 = 0
  · rw [if_pos h0] at h ⊢
    unfold endP at h ⊢
    by_cases h1 : (fromP names k x.1 13 [] 0).2.2 = 0
    · rw [if_pos h1] at h ⊢
      by_cases h2 : (tok x.1 (fromP names k x.1 13 [] 0).2.1).kind = 0
      · rw [if_pos h2]
        rcases fromP_right names k 13 [] 0 rfl (fun x hx => by simp at hx) h1 with h3 | h3
        · exact h3
        · cases h3
      · rw [if_neg h2] at h; cases h
    · rw [if_neg h1] at h; exact absurd h h1
  · rw [if_neg h0] at h; exact absurd h h0
theorem parse_right {names : List ByteArray} {up : List Nat} {s : List UInt8} (h : (parse names up s).2.2 = 0) : checkN names up = 0 ∧ rightB up.length (parse names up s).1 = true := by
  unfold parse at h ⊢
  by_cases hc : checkN names up = 0
  · rw [if_pos hc] at h ⊢
    exact ⟨hc, parseL_right h⟩
  · rw [if_neg hc] at h; exact absurd h hc
theorem parse_none {names : List ByteArray} {up : List Nat} {s : List UInt8} (h : (parse names up s).2.2 ≠ 0) : (parse names up s).1 = [] := by
  unfold parse parseL endP at *
  split
  · split
    · split
      · split
        · simp_all
        · rfl
      · rfl
    · rfl
  · rfl

/-! What is written is read. -/
theorem inB_op {k : Nat} {x : In} (h : inB k x = true) : 0 ≤ x.op ∧ x.op < 13 := by
  unfold inB at h
  by_cases h1 : x.op = 1
  · omega
  · rw [if_neg h1] at h
    have := of_decide_eq_true h
    exact ⟨this.1, this.2.1⟩
section
variable {l : List Tk} {i : Nat}
end
end Cd
end Go.Proofs.YtipbilmnknmhmaaDoor
