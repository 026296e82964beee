/- Programs over plain data: what may be, the text, what tokens tell; what is written is read, what is read may be. -/
import Derived.Lib.ItoaNum
import Derived.Test.YtipbilmnknmhmaaGreatDoorGRulA
import Derived.Test.YtipbilmnknmhmaaGreatDoorGOrdC
import Derived.Test.YtipbilmnknmhmaaGreatDoorGPub
namespace Go.Proofs.YtipbilmnknmhmaaGreatDoor
set_option maxRecDepth 100000

namespace Cd
open Lx (Tk kt pack)

open Tb (tok Fine)
/-- An instruction. -/
structure In where
  op : Int
  n : Int
  l : Int
deriving DecidableEq
def number (op : Int) : Bool := decide (op = 1 ∨ op = 8 ∨ op = 9 ∨ op = 10)
/-- The greatest N of an instruction that has no label. -/
def most (op : Int) : Int := if op = 8 then 12 else if op = 9 then 3 else if op = 10 then 1 else 0
/-- May an instruction be, of so many labels? -/
def inB (k : Nat) (x : In) : Bool :=
  if x.op = 1 then decide (-20 ≤ x.n ∧ x.n ≤ 20 ∧ 0 ≤ x.l ∧ x.l < k)
  else decide (0 ≤ x.op ∧ x.op < 13 ∧ 0 ≤ x.n ∧ x.n ≤ most x.op ∧ x.l = 0)
def rightB (k : Nat) (l : List In) : Bool := decide (l.length ≤ 12) && l.all (inB k)

/-! Texts. -/
def sgn (n : Int) : List UInt8 := if n < 0 then [45, 32] ++ Lib.decDigits (-n).toNat else Lib.decDigits n.toNat
def nameL (names : List ByteArray) (k : Int) : List UInt8 := (names.getD k.toNat ByteArray.empty).data.toList
/-- An instruction's text ahead of its end. -/
def bodyL (names : List ByteArray) (x : In) : List UInt8 := Tb.wordL x.op.toNat ++ (if number x.op = true then 32 :: sgn x.n else []) ++ (if x.op = 1 then [32, 64, 32] ++ nameL names x.l else [])
def insL (names : List ByteArray) (x : In) : List UInt8 := bodyL names x ++ [32, 59]
def textL (names : List ByteArray) (l : List In) : List UInt8 := Lib.join (l.map (insL names)) [32]
/-- A program's text, or the error. -/
def text (names : List ByteArray) (up : List Nat) (l : List In) : ByteArray × Nat :=
  if checkN names up = 0 then (if rightB up.length l = true then (pack (textL names l), 0) else (ByteArray.empty, 1)) else (ByteArray.empty, checkN names up)

/-! What tokens tell. -/
def bAt : ByteArray := { data := #[64] }
def bSemi : ByteArray := { data := #[59] }
def bMinus : ByteArray := { data := #[45] }
def isM (l : List Tk) (t : ByteArray) (i : Nat) : Bool := decide ((tok l i).kind = 3 ∧ (tok l i).text = t)
def numV (s : List UInt8) : Nat := s.foldl (fun n c => 10 * n + c.toNat % 16) 0
def intJ (l : List Tk) (i : Nat) : Nat := if isM l bMinus i = true then i + 1 else i
def signed (b : Bool) (n : Nat) : Int := if b = true then -(n : Int) else (n : Int)
def intP (l : List Tk) (i : Nat) : Int × Nat × Nat :=
  if (tok l (intJ l i)).kind = 2 ∧ (tok l (intJ l i)).text.size ≤ 4 then (signed (isM l bMinus i) (numV (tok l (intJ l i)).text.data.toList), intJ l i + 1, 0)
  else (0, intJ l i, 4)
def markP (l : List Tk) (t : ByteArray) (i : Nat) : Nat × Nat := if isM l t i = true then (i + 1, 0) else (i, 4)
def nameP (names : List ByteArray) (l : List Tk) (i : Nat) : Int × Nat × Nat :=
  if (tok l i).kind = 1 then (match idxN names (tok l i).text with | none => (0, i, 6) | some a => ((a : Nat), i + 1, 0)) else (0, i, 4)
def labP (names : List ByteArray) (l : List Tk) (i : Nat) : Int × Nat × Nat := if isM l bAt i = true then nameP names l (i + 1) else (0, i, 4)
def numStep (op : Int) (l : List Tk) (i : Nat) : Int × Nat × Nat := if number op = true then intP l i else (0, i, 0)
def labStep (names : List ByteArray) (op : Int) (l : List Tk) (i : Nat) : Int × Nat × Nat := if op = 1 then labP names l i else (0, i, 0)
def endStep (op n : Int) (l : List Tk) (b : Int × Nat × Nat) : In × Nat × Nat := if b.2.2 = 0 then (⟨op, n, b.1⟩, (markP l bSemi b.2.1).1, (markP l bSemi b.2.1).2) else (⟨op, n, b.1⟩, b.2.1, b.2.2)
/-- All of an instruction behind its word. -/
def restP (names : List ByteArray) (op : Int) (l : List Tk) (i : Nat) : In × Nat × Nat :=
  if (numStep op l i).2.2 = 0 then endStep op (numStep op l i).1 l (labStep names op l (numStep op l i).2.1)
  else (⟨op, (numStep op l i).1, 0⟩, (numStep op l i).2.1, (numStep op l i).2.2)
def okP (k i : Nat) (r : In × Nat × Nat) : In × Nat × Nat := if r.2.2 = 0 then (if inB k r.1 = true then r else (r.1, i, 1)) else r
def oneP (names : List ByteArray) (k : Nat) (op : Int) (l : List Tk) (i : Nat) : In × Nat × Nat := okP k i (restP names op l (i + 1))
def opAt (l : List Tk) (i : Nat) : Option Nat := if (tok l i).kind = 1 then Tb.find (tok l i).text else none
def fromP (names : List ByteArray) (k : Nat) (l : List Tk) : Nat → List In → Nat → List In × Nat × Nat
  | 0, out, i => (out, i, 0)
  | n + 1, out, i => match opAt l i with
    | none => (out, i, 0)
    | some op => if out.length = 12 then ([], i, 8)
      else if (oneP names k op l i).2.2 = 0 then fromP names k l n (out ++ [(oneP names k op l i).1]) (oneP names k op l i).2.1
      else ([], (oneP names k op l i).2.1, (oneP names k op l i).2.2)
def endP (l : List Tk) (r : List In × Nat × Nat) : List In × Int × Nat :=
  if r.2.2 = 0 then (if (tok l r.2.1).kind = 0 then (r.1, 0, 0) else ([], (tok l r.2.1).pos, 4)) else ([], (tok l r.2.1).pos, r.2.2)
def parseL (names : List ByteArray) (k : Nat) (x : List Tk × Nat × Nat) : List In × Int × Nat :=
  if x.2.2 = 0 then endP x.1 (fromP names k x.1 13 [] 0) else ([], x.2.1, x.2.2)
def parse (names : List ByteArray) (up : List Nat) (s : List UInt8) : List In × Int × Nat :=
  if checkN names up = 0 then parseL names up.length (Lx.lex s) else ([], 0, checkN names up)

/-! Where a reading stands. -/
section
variable {l : List Tk}
theorem kind_next (hf : Fine l) {i : Nat} (h : i < l.length) (hk : (tok l i).kind ≠ 0) : i + 1 < l.length := Tb.tok_not_last hf h (.inl hk)
theorem isM_next (hf : Fine l) {i : Nat} (h : i < l.length) {t : ByteArray} (hm : isM l t i = true) : i + 1 < l.length :=
  kind_next hf h (by have := (of_decide_eq_true hm).1; omega)
theorem intJ_lt (hf : Fine l) {i : Nat} (h : i < l.length) : intJ l i < l.length := by
  unfold intJ
  by_cases hm : isM l bMinus i = true
  · rw [if_pos hm]; exact isM_next hf h hm
  · rw [if_neg hm]; exact h
theorem intP_lt (hf : Fine l) {i : Nat} (h : i < l.length) : (intP l i).2.1 < l.length := by
  have hj := intJ_lt hf h
  unfold intP
  by_cases hk : (tok l (intJ l i)).kind = 2 ∧ (tok l (intJ l i)).text.size ≤ 4
  · rw [if_pos hk]; exact kind_next hf hj (by have := hk.1; omega)
  · rw [if_neg hk]; exact hj
theorem markP_lt (hf : Fine l) {i : Nat} (h : i < l.length) (t : ByteArray) : (markP l t i).1 < l.length := by
  unfold markP
  by_cases hm : isM l t i = true
  · rw [if_pos hm]; exact isM_next hf h hm
  · rw [if_neg hm]; exact h
theorem nameP_lt (hf : Fine l) (names : List ByteArray) {i : Nat} (h : i < l.length) : (nameP names l i).2.1 < l.length := by
  unfold nameP
  by_cases hk : (tok l i).kind = 1
  · rw [if_pos hk]
    cases idxN names (tok l i).text with
    | none => exact h
    | some a => exact kind_next hf h (by omega)
  · rw [if_neg hk]; exact h
theorem labP_lt (hf : Fine l) (names : List ByteArray) {i : Nat} (h : i < l.length) : (labP names l i).2.1 < l.length := by
  unfold labP
  by_cases hm : isM l bAt i = true
  · rw [if_pos hm]; exact nameP_lt hf names (isM_next hf h hm)
  · rw [if_neg hm]; exact h
theorem numStep_lt (hf : Fine l) (op : Int) {i : Nat} (h : i < l.length) : (numStep op l i).2.1 < l.length := by
  unfold numStep
  split
  · exact intP_lt hf h
  · exact h
theorem labStep_lt (hf : Fine l) (names : List ByteArray) (op : Int) {i : Nat} (h : i < l.length) : (labStep names op l i).2.1 < l.length := by
  unfold labStep
  split
  · exact labP_lt hf names h
  · exact h
theorem restP_lt (hf : Fine l) (names : List ByteArray) (op : Int) {i : Nat} (h : i < l.length) : (restP names op l i).2.1 < l.length := by
  have h1 := numStep_lt hf op h
  have h2 := labStep_lt hf names op h1
  unfold restP endStep
  split
  · split
    · exact markP_lt hf h2 _
    · exact h2
  · exact h1
theorem oneP_lt (hf : Fine l) (names : List ByteArray) (k : Nat) (op : Int) {i : Nat} (h : i < l.length) (hk : (tok l i).kind = 1) : (oneP names k op l i).2.1 < l.length := by
  have h1 := restP_lt hf names op (kind_next hf h (by omega))
  unfold oneP okP
  split
  · split
    · exact h1
    · exact h
  · exact h1
theorem opAt_kind {i op : Nat} (h : opAt l i = some op) : (tok l i).kind = 1 ∧ Tb.find (tok l i).text = some op := by
  unfold opAt at h
  by_cases hk : (tok l i).kind = 1
  · rw [if_pos hk] at h; exact ⟨hk, h⟩
  · rw [if_neg hk] at h; cases h
theorem opAt_lt {i op : Nat} (h : opAt l i = some op) : op < 13 := (Tb.find_some (opAt_kind h).2).1
theorem fromP_lt (hf : Fine l) (names : List ByteArray) (k : Nat) : ∀ (n : Nat) (out : List In) (i : Nat), i < l.length → (fromP names k l n out i).2.1 < l.length
  | 0, _, _, h => h
  | n + 1, out, i, h => by
    unfold fromP
    cases ho : opAt l i with
    | none => exact h
    | some op =>
      have h1 := oneP_lt hf names k op h (opAt_kind ho).1
      dsimp only
      split
      · exact h
      · split
        · exact fromP_lt hf names k n _ _ h1
        · exact h1
end
/-! What is written is read. -/
theorem dec_one {u : Nat} (h : u < 10) : Lib.decDigits u = [UInt8.ofNat (48 + u)] := by rw [Lib.decDigits, dif_pos h]
theorem dec_two {u : Nat} (h : 10 ≤ u) (h2 : u < 100) : Lib.decDigits u = [UInt8.ofNat (48 + u / 10), UInt8.ofNat (48 + u % 10)] := by
  rw [Lib.decDigits, dif_neg (by omega), dec_one (by omega)]
  rfl
def dec20 (u : Nat) : List UInt8 := if u < 10 then [UInt8.ofNat (48 + u)] else [UInt8.ofNat (48 + u / 10), UInt8.ofNat (48 + u % 10)]
theorem dec_20 {u : Nat} (h : u < 21) : Lib.decDigits u = dec20 u := by
  unfold dec20
  by_cases h1 : u < 10
  · rw [if_pos h1, dec_one h1]
  · rw [if_neg h1, dec_two (by omega) (by omega)]
theorem dec_facts {u : Nat} (h : u < 21) : Lib.decDigits u ≠ [] ∧ (∀ c ∈ Lib.decDigits u, Lx.digit c = true) ∧ (Lib.decDigits u).length ≤ 2 ∧ numV (Lib.decDigits u) = u := by
  rw [dec_20 h]
  have h1 : ∀ u < 21, dec20 u ≠ [] ∧ (∀ c ∈ dec20 u, Lx.digit c = true) ∧ (dec20 u).length ≤ 2 ∧ numV (dec20 u) = u := by decide +kernel
  exact h1 u h

/-- What a lattice's names are. -/
structure Names (names : List ByteArray) (k : Nat) : Prop where
  len : names.length = k
  ok : ∀ i, i < k → nameOk (names.getD i ByteArray.empty) = true
  one : ∀ i j, i < k → j < k → names.getD i ByteArray.empty = names.getD j ByteArray.empty → i = j
theorem names_of {names : List ByteArray} {up : List Nat} (h : checkN names up = 0) : Names names up.length := by
  have hm := (checkN_zero h).1
  have hl := (mayB_len hm).2.2
  unfold mayB at hm
  simp only [Bool.and_eq_true] at hm
  obtain ⟨-, h1, h2⟩ := hm
  refine ⟨hl, fun i hi => ?_, fun i j hi hj e => ?_⟩
  · have := List.all_eq_true.1 h1 i (List.mem_range.2 hi)
    unfold rowOk at this
    exact (Bool.and_eq_true _ _ ▸ this).2
  · have := all_pairs.1 h2 i j hi hj
    unfold twoOk streq at this
    dsimp only at this
    rw [e] at this
    simpa using this
theorem low_letter {c : UInt8} (h : low c = true) : Lx.letter c = true := by
  unfold low at h
  unfold Lx.letter
  simp only [Bool.and_eq_true, decide_eq_true_eq] at h ⊢
  exact ⟨UInt8.le_iff_toNat_le.2 h.1, UInt8.le_iff_toNat_le.2 h.2⟩
theorem Names.letters {names : List ByteArray} {k i : Nat} (h : Names names k) (hi : i < k) : (names.getD i ByteArray.empty).data.toList ≠ [] ∧ (∀ c ∈ (names.getD i ByteArray.empty).data.toList, Lx.letter c = true) ∧ (names.getD i ByteArray.empty).data.toList.length ≤ 12 := by
  have := h.ok i hi
  unfold nameOk at this
  simp only [Bool.and_eq_true, decide_eq_true_eq] at this
  obtain ⟨⟨h1, h2⟩, h3⟩ := this
  rw [Lib.size_eq] at h1 h2
  exact ⟨by intro e; rw [e] at h1; simp at h1, fun c hc => low_letter (List.all_eq_true.1 h3 c hc), h2⟩
theorem inB_op {k : Nat} {x : In} (h : inB k x = true) : 0 ≤ x.op ∧ x.op < 13 := by
  unfold inB at h
  by_cases h1 : x.op = 1
  · omega
  · rw [if_neg h1] at h
    have := of_decide_eq_true h
    exact ⟨this.1, this.2.1⟩
theorem inB_n {k : Nat} {x : In} (h : inB k x = true) : -20 ≤ x.n ∧ x.n ≤ 20 := by
  unfold inB at h
  by_cases h1 : x.op = 1
  · rw [if_pos h1] at h
    have := of_decide_eq_true h
    exact ⟨this.1, this.2.1⟩
  · rw [if_neg h1] at h
    have := of_decide_eq_true h
    have hm : most x.op ≤ 12 := by unfold most; split <;> (try split) <;> (try split) <;> omega
    omega
theorem inB_l {k : Nat} {x : In} (h : inB k x = true) (h1 : x.op = 1) : x.l.toNat < k ∧ x.l = (x.l.toNat : Int) := by
  unfold inB at h
  rw [if_pos h1] at h
  have := of_decide_eq_true h
  omega
theorem tail_append (a b : List (List UInt8)) : Lib.joinTail [32] (a ++ b) = Lib.joinTail [32] a ++ Lib.joinTail [32] b := by simp [Lib.joinTail]
theorem join_drop (r : List (List UInt8)) (h : r ≠ []) : 32 :: Lib.join r [32] = Lib.joinTail [32] r := by
  cases r with
  | nil => exact absurd rfl h
  | cons x r => rw [Lib.join_cons]; simp [Lib.joinTail]
theorem insL_len {names : List ByteArray} {k : Nat} {x : In} (hN : Names names k) (h : inB k x = true) : (insL names x).length ≤ 28 := by
  obtain ⟨h0, h1⟩ := inB_op h
  obtain ⟨n0, n1⟩ := inB_n h
  have hw := (Tb.word_letters (op := x.op.toNat) (by omega)).2.2
  have h2 : (if number x.op = true then 32 :: sgn x.n else []).length ≤ 5 := by
    split
    · unfold sgn
      split
      · have := (dec_facts (u := (-x.n).toNat) (by omega)).2.2.1
        simp only [List.length_cons, List.length_append, List.length_nil]; omega
      · have := (dec_facts (u := x.n.toNat) (by omega)).2.2.1
        simp only [List.length_cons]; omega
    · simp
  have h3 : (if x.op = 1 then [32, 64, 32] ++ nameL names x.l else []).length ≤ 15 := by
    by_cases ho : x.op = 1
    · rw [if_pos ho]
      have := (hN.letters (inB_l h ho).1).2.2
      unfold nameL
      simp only [List.length_cons, List.length_append, List.length_nil]; omega
    · rw [if_neg ho]; simp
  unfold insL bodyL
  simp only [List.length_append, List.length_cons, List.length_nil] at h2 h3 ⊢
  omega
theorem tail_len {names : List ByteArray} {k : Nat} (hN : Names names k) : ∀ l : List In, (∀ x ∈ l, inB k x = true) → (Lib.joinTail [32] (l.map (insL names))).length ≤ 29 * l.length
  | [], _ => by simp [Lib.joinTail]
  | x :: l, h => by
    have ih := tail_len hN l fun y hy => h y (by simp [hy])
    have hx := insL_len hN (h x (by simp))
    have e : Lib.joinTail [32] ((x :: l).map (insL names)) = 32 :: (insL names x ++ Lib.joinTail [32] (l.map (insL names))) := by simp [Lib.joinTail]
    rw [e]
    simp only [List.length_cons, List.length_append]
    omega
theorem textL_len {names : List ByteArray} {k : Nat} (hN : Names names k) {l : List In} (h : rightB k l = true) : (textL names l).length ≤ 348 := by
  unfold rightB at h
  rw [Bool.and_eq_true] at h
  have h1 := of_decide_eq_true h.1
  have h2 := tail_len hN l fun x hx => List.all_eq_true.1 h.2 x hx
  cases l with
  | nil => simp [textL, Lib.join_nil]
  | cons x l =>
    have := congrArg List.length (join_drop ((x :: l).map (insL names)) (by simp))
    unfold textL
    simp only [List.length_cons] at this h1 h2 ⊢
    omega
section
variable {l : List Tk} {i : Nat}
end
end Cd
end Go.Proofs.YtipbilmnknmhmaaGreatDoor
