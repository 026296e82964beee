/- Programs over plain data: what may be, the text, what tokens tell; what is written is read, what is read may be. -/
import Derived.Lib.ItoaNum
import Derived.Test.YtipbilmnknmhmaaDoorGRulD
import Derived.Test.YtipbilmnknmhmaaDoorGOrdC
import Derived.Test.YtipbilmnknmhmaaDoorGPub
namespace Go.Proofs.YtipbilmnknmhmaaDoor
set_option maxRecDepth 100000

namespace Cd
open Lx (Tk kt pack)

open Tb (tok Fine)
/-- An instruction. -/
structure In where
  op : Int
  n : Int
  l : Int
deriving DecidableEq
def number (op : Int) : Bool := decide (op = 1 ∨ op = 8 ∨ op = 9 ∨ op = 10)
/-- The greatest N of an instruction that has no label. -/
def most (op : Int) : Int := if op = 8 then 12 else if op = 9 then 3 else if op = 10 then 1 else 0
/-- May an instruction be, of so many labels? -/
def inB (k : Nat) (x : In) : Bool :=
  if x.op = 1 then decide (-20 ≤ x.n ∧ x.n ≤ 20 ∧ 0 ≤ x.l ∧ x.l < k)
  else decide (0 ≤ x.op ∧ x.op < 13 ∧ 0 ≤ x.n ∧ x.n ≤ most x.op ∧ x.l = 0)
def rightB (k : Nat) (l : List In) : Bool := decide (l.length ≤ 12) && l.all (inB k)

/-! Texts. -/
def sgn (n : Int) : List UInt8 := if n < 0 then [45, 32] ++ Lib.decDigits (-n).toNat else Lib.decDigits n.toNat
def nameL (names : List ByteArray) (k : Int) : List UInt8 := (names.getD k.toNat ByteArray.empty).data.toList
/-- An instruction's text ahead of its end. -/
def bodyL (names : List ByteArray) (x : In) : List UInt8 := Tb.wordL x.op.toNat ++ (if number x.op = true then 32 :: sgn x.n else []) ++ (if x.op = 1 then [32, 64, 32] ++ nameL names x.l else [])
def insL (names : List ByteArray) (x : In) : List UInt8 := bodyL names x ++ [32, 59]
def textL (names : List ByteArray) (l : List In) : List UInt8 := Lib.join (l.map (insL names)) [32]
/-- A program's text, or the error. -/
def text (names : List ByteArray) (up : List Nat) (l : List In) : ByteArray × Nat :=
  if checkN names up = 0 then (if rightB up.length l = true then (pack (textL names l), 0) else (ByteArray.empty, 1)) else (ByteArray.empty, checkN names up)

/-! What tokens tell. -/
def bAt : ByteArray := { data := #[64] }
def bSemi : ByteArray := { data := #[59] }
def bMinus : ByteArray := { data := #[45] }
def isM (l : List Tk) (t : ByteArray) (i : Nat) : Bool := decide ((tok l i).kind = 3 ∧ (tok l i).text = t)
def numV (s : List UInt8) : Nat := s.foldl (fun n c => 10 * n + c.toNat % 16) 0
def intJ (l : List Tk) (i : Nat) : Nat := if isM l bMinus i = true then i + 1 else i
def signed (b : Bool) (n : Nat) : Int := if b = true then -(n : Int) else (n : Int)
def intP (l : List Tk) (i : Nat) : Int × Nat × Nat :=
  if (tok l (intJ l i)).kind = 2 ∧ (tok l (intJ l i)).text.size ≤ 4 then (signed (isM l bMinus i) (numV (tok l (intJ l i)).text.data.toList), intJ l i + 1, 0)
  else (0, intJ l i, 4)
def markP (l : List Tk) (t : ByteArray) (i : Nat) : Nat × Nat := if isM l t i = true then (i + 1, 0) else (i, 4)
def nameP (names : List ByteArray) (l : List Tk) (i : Nat) : Int × Nat × Nat :=
  if (tok l i).kind = 1 then (match idxN names (tok l i).text with | none => (0, i, 6) | some a => ((a : Nat), i + 1, 0)) else (0, i, 4)
def labP (names : List ByteArray) (l : List Tk) (i : Nat) : Int × Nat × Nat := if isM l bAt i = true then nameP names l (i + 1) else (0, i, 4)
def numStep (op : Int) (l : List Tk) (i : Nat) : Int × Nat × Nat := if number op = true then intP l i else (0, i, 0)
def labStep (names : List ByteArray) (op : Int) (l : List Tk) (i : Nat) : Int × Nat × Nat := if op = 1 then labP names l i else (0, i, 0)
def endStep (op n : Int) (l : List Tk) (b : Int × Nat × Nat) : In × Nat × Nat := if b.2.2 = 0 then (⟨op, n, b.1⟩, (markP l bSemi b.2.1).1, (markP l bSemi b.2.1).2) else (⟨op, n, b.1⟩, b.2.1, b.2.2)
/-- All of an instruction behind its word. -/
def restP (names : List ByteArray) (op : Int) (l : List Tk) (i : Nat) : In × Nat × Nat :=
  if (numStep op l i).2.2 = 0 then endStep op (numStep op l i).1 l (labStep names op l (numStep op l i).2.1)
  else (⟨op, (numStep op l i).1, 0⟩, (numStep op l i).2.1, (numStep op l i).2.2)
def okP (k i : Nat) (r : In × Nat × Nat) : In × Nat × Nat := if r.2.2 = 0 then (if inB k r.1 = true then r else (r.1, i, 1)) else r
def oneP (names : List ByteArray) (k : Nat) (op : Int) (l : List Tk) (i : Nat) : In × Nat × Nat := okP k i (restP names op l (i + 1))
def opAt (l : List Tk) (i : Nat) : Option Nat := if (tok l i).kind = 1 then Tb.find (tok l i).text else none
def fromP (names : List ByteArray) (k : Nat) (l : List Tk) : Nat → List In → Nat → List In × Nat × Nat
  | 0, out, i => (out, i, 0)
  | n + 1, out, i => match opAt l i with
    | none => (out, i, 0)
    | some op => if out.length = 12 then ([], i, 8)
      else if (oneP names k op l i).2.2 = 0 then fromP names k l n (out ++ [(oneP names k op l i).1]) (oneP names k op l i).2.1
      else ([], (oneP names k op l i).2.1, (oneP names k op l i).2.2)
def endP (l : List Tk) (r : List In × Nat × Nat) : List In × Int × Nat :=
  if r.2.2 = 0 then (if (tok l r.2.1).kind = 0 then (r.1, 0, 0) else ([], (tok l r.2.1).pos, 4)) else ([], (tok l r.2.1).pos, r.2.2)
def parseL (names : List ByteArray) (k : Nat) (x : List Tk × Nat × Nat) : List In × Int × Nat :=
  if x.2.2 = 0 then endP x.1 (fromP names k x.1 13 [] 0) else ([], x.2.1, x.2.2)
def parse (names : List ByteArray) (up : List Nat) (s : List UInt8) : List In × Int × Nat :=
  if checkN names up = 0 then parseL names up.length (Lx.lex s) else ([], 0, checkN names up)

/-! Where a reading stands. -/
section
variable {l : List Tk}
theorem kind_next (hf : Fine l) {i : Nat} (h : i < l.length) (hk : (tok l i).kind ≠ 0) : i + 1 < l.length := Tb.tok_not_last hf h (.inl hk)
theorem isM_next (hf : Fine l) {i : Nat} (h : i < l.length) {t : ByteArray} (hm : isM l t i = true) : i + 1 < l.length :=
  kind_next hf h (by have := (of_decide_eq_true hm).1; omega)
theorem intJ_lt (hf : Fine l) {i : Nat} (h : i < l.length) : intJ l i < l.length := by
  unfold intJ
  by_cases hm : isM l bMinus i = true
  · rw [if_pos hm]; exact isM_next hf h hm
  · rw [if_neg hm]; exact h
theorem intP_lt (hf : Fine l) {i : Nat} (h : i < l.length) : (intP l i).2.1 < l.length := by
  have hj := intJ_lt hf h
  unfold intP
  by_cases hk : (tok l (intJ l i)).kind = 2 ∧ (tok l (intJ l i)).text.size ≤ 4
  · rw [if_pos hk]; exact kind_next hf hj (by have := hk.1; omega)
  · rw [if_neg hk]; exact hj
theorem markP_lt (hf : Fine l) {i : Nat} (h : i < l.length) (t : ByteArray) : (markP l t i).1 < l.length := by
  unfold markP
  by_cases hm : isM l t i = true
  · rw [if_pos hm]; exact isM_next hf h hm
  · rw [if_neg hm]; exact h
theorem nameP_lt (hf : Fine l) (names : List ByteArray) {i : Nat} (h : i < l.length) : (nameP names l i).2.1 < l.length := by
  unfold nameP
  by_cases hk : (tok l i).kind = 1
  · rw [if_pos hk]
    cases idxN names (tok l i).text with
    | none => exact h
    | some a => exact kind_next hf h (by omega)
  · rw [if_neg hk]; exact h
theorem labP_lt (hf : Fine l) (names : List ByteArray) {i : Nat} (h : i < l.length) : (labP names l i).2.1 < l.length := by
  unfold labP
  by_cases hm : isM l bAt i = true
  · rw [if_pos hm]; exact nameP_lt hf names (isM_next hf h hm)
  · rw [if_neg hm]; exact h
theorem numStep_lt (hf : Fine l) (op : Int) {i : Nat} (h : i < l.length) : (numStep op l i).2.1 < l.length := by
  unfold numStep
  split
  · exact intP_lt hf h
  · exact h
theorem labStep_lt (hf : Fine l) (names : List ByteArray) (op : Int) {i : Nat} (h : i < l.length) : (labStep names op l i).2.1 < l.length := by
  unfold labStep
  split
  · exact labP_lt hf names h
  · exact h
theorem restP_lt (hf : Fine l) (names : List ByteArray) (op : Int) {i : Nat} (h : i < l.length) : (restP names op l i).2.1 < l.length := by
  have h1 := numStep_lt hf op h
  have h2 := labStep_lt hf names op h1
  unfold restP endStep
  split
  · split
    · exact markP_lt hf h2 _
    · exact h2
  · exact h1
theorem oneP_lt (hf : Fine l) (names : List ByteArray) (k : Nat) (op : Int) {i : Nat} (h : i < l.length) (hk : (tok l i).kind = 1) : (oneP names k op l i).2.1 < l.length := by
  have h1 := restP_lt hf names op (kind_next hf h (by omega))
  unfold oneP okP
  split
  · split
    · exact h1
    · exact h
  · exact h1
theorem opAt_kind {i op : Nat} (h : opAt l i = some op) : (tok l i).kind = 1 ∧ Tb.find (tok l i).text = some op := by
  unfold opAt at h
  by_cases hk : (tok l i).kind = 1
  · rw [if_pos hk] at h; exact ⟨hk, h⟩
  · rw [if_neg hk] at h; cases h
theorem opAt_lt {i op : Nat} (h : opAt l i = some op) : op < 13 := (Tb.find_some (opAt_kind h).2).1
theorem fromP_lt (hf : Fine l) (names : List ByteArray) (k : Nat) : ∀ (n : Nat) (out : List In) (i : Nat), i < l.length → (fromP names k l n out i).2.1 < l.length
  | 0, _, _, h => h
  | n + 1, out, i, h => by
    unfold fromP
    cases ho : opAt l i with
    | none => exact h
    | some op =>
      have h1 := oneP_lt hf names k op h (opAt_kind ho).1
      dsimp only
      split
      · exact h
      · split
        · exact fromP_lt hf names k n _ _ h1
        · exact h1
theorem okP_ok {k i : Nat} {r : In × Nat × Nat} (h : (okP k i r).2.2 = 0) : inB k (okP k i r).1 = true := by
  unfold okP at h ⊢
  by_cases h0 : r.2.2 = 0
  · rw [if_pos h0] at h ⊢
    by_cases hb : inB k r.1 = true
    · rw [if_pos hb]; exact hb
    · rw [if_neg hb] at h; cases h
  · rw [if_neg h0] at h; exact absurd h h0
theorem fromP_right (names : List ByteArray) (k : Nat) : ∀ (n : Nat) (out : List In) (i : Nat), n + out.length = 13 → (∀ x ∈ out, inB k x = true) → (fromP names k l n out i).2.2 = 0 → rightB k (fromP names k l n out i).1 = true ∨ n = 0
  | 0, _, _, _, _, _ => .inr rfl
  | n + 1, out, i, hn, ho, h => by
    refine .inl ?_
    unfold fromP at h ⊢
    have hout : rightB k out = true := by
      unfold rightB
      rw [Bool.and_eq_true]
      exact ⟨decide_eq_true (by omega), List.all_eq_true.2 ho⟩
    cases e : opAt l i with
    | none => exact hout
    | some op =>
      rw [e] at h
      dsimp only at h ⊢
      by_cases hl : out.length = 12
      · rw [if_pos hl] at h; cases h
      · rw [if_neg hl] at h ⊢
        by_cases h0 : (oneP names k op l i).2.2 = 0
        · rw [if_pos h0] at h ⊢
          rcases fromP_right names k n (out ++ [(oneP names k op l i).1]) (oneP names k op l i).2.1 (by simp; omega) (fun x hx => by
            rcases List.mem_append.1 hx with hx | hx
            · exact ho x hx
            · rw [List.mem_singleton.1 hx]; exact okP_ok h0) h with h1 | h1
          · exact h1
          · omega
        · rw [if_neg h0] at h; exact absurd h h0
end
theorem parseL_right {names : List ByteArray} {k : Nat} {x : List Tk × Nat × Nat} (h : (parseL names k x).2.2 = 0) : rightB k (parseL names k x).1 = true := by
  unfold parseL at h ⊢
  by_cases h0 : x.2.2 = 0
  · rw [if_pos h0] at h ⊢
    unfold endP at h ⊢
    by_cases h1 : (fromP names k x.1 13 [] 0).2.2 = 0
    · rw [if_pos h1] at h ⊢
      by_cases h2 : (tok x.1 (fromP names k x.1 13 [] 0).2.1).kind = 0
      · rw [if_pos h2]
        rcases fromP_right names k 13 [] 0 rfl (fun x hx => by simp at hx) h1 with h3 | h3
        · exact h3
        · cases h3
      · rw [if_neg h2] at h; cases h
    · rw [if_neg h1] at h; exact absurd h h1
  · rw [if_neg h0] at h; exact absurd h h0
theorem parse_right {names : List ByteArray} {up : List Nat} {s : List UInt8} (h : (parse names up s).2.2 = 0) : checkN names up = 0 ∧ rightB up.length (parse names up s).1 = true := by
  unfold parse at h ⊢
  by_cases hc : checkN names up = 0
  · rw [if_pos hc] at h ⊢
    exact ⟨hc, parseL_right h⟩
  · rw [if_neg hc] at h; exact absurd h hc
theorem parse_none {names : List ByteArray} {up : List Nat} {s : List UInt8} (h : (parse names up s).2.2 ≠ 0) : (parse names up s).1 = [] := by
  unfold parse parseL endP at *
  split
  · split
    · split
      · split
        · simp_all
        · rfl
      · rfl
    · rfl
  · rfl

/-! What is written is read. -/
def numT (n : Int) : List (Int × ByteArray) := if n < 0 then [(3, bMinus), (2, pack (Lib.decDigits (-n).toNat))] else [(2, pack (Lib.decDigits n.toNat))]
def insT (names : List ByteArray) (x : In) : List (Int × ByteArray) :=
  (1, Tb.word x.op.toNat) :: ((if number x.op = true then numT x.n else []) ++ ((if x.op = 1 then [(3, bAt), (1, names.getD x.l.toNat ByteArray.empty)] else []) ++ [(3, bSemi)]))
theorem dec_one {u : Nat} (h : u < 10) : Lib.decDigits u = [UInt8.ofNat (48 + u)] := by rw [Lib.decDigits, dif_pos h]
theorem dec_two {u : Nat} (h : 10 ≤ u) (h2 : u < 100) : Lib.decDigits u = [UInt8.ofNat (48 + u / 10), UInt8.ofNat (48 + u % 10)] := by
  rw [Lib.decDigits, dif_neg (by omega), dec_one (by omega)]
  rfl
def dec20 (u : Nat) : List UInt8 := if u < 10 then [UInt8.ofNat (48 + u)] else [UInt8.ofNat (48 + u / 10), UInt8.ofNat (48 + u % 10)]
theorem dec_20 {u : Nat} (h : u < 21) : Lib.decDigits u = dec20 u := by
  unfold dec20
  by_cases h1 : u < 10
  · rw [if_pos h1, dec_one h1]
  · rw [if_neg h1, dec_two (by omega) (by omega)]
theorem dec_facts {u : Nat} (h : u < 21) : Lib.decDigits u ≠ [] ∧ (∀ c ∈ Lib.decDigits u, Lx.digit c = true) ∧ (Lib.decDigits u).length ≤ 2 ∧ numV (Lib.decDigits u) = u := by
  rw [dec_20 h]
  have h1 : ∀ u < 21, dec20 u ≠ [] ∧ (∀ c ∈ dec20 u, Lx.digit c = true) ∧ (dec20 u).length ≤ 2 ∧ numV (dec20 u) = u := by decide +kernel
  exact h1 u h

def AloneK (p : Int × ByteArray) : Prop := Lx.Alone ⟨p.1, p.2, 0⟩
theorem run_all {p : UInt8 → Bool} {w : List UInt8} (hp : p 32 = false) (h : ∀ c ∈ w, p c = true) : Lx.run p w = w.length := by
  have := Lx.run_stop (x := []) (.inl rfl) hp w h
  rwa [List.append_nil] at this
theorem alone_letters {w : List UInt8} (h0 : w ≠ []) (h : ∀ c ∈ w, Lx.letter c = true) : AloneK (1, pack w) := by
  cases w with
  | nil => exact absurd rfl h0
  | cons c r =>
    have := Lx.alone_run (p := Lx.letter) (kd := 1) ⟨by omega, by omega⟩ (by decide) (fun c r hc => Lx.first_letter hc r) c r (h c (by simp)) 0
    rwa [run_all (by decide) h, List.take_length] at this
theorem alone_digits {w : List UInt8} (h0 : w ≠ []) (h : ∀ c ∈ w, Lx.digit c = true) : AloneK (2, pack w) := by
  cases w with
  | nil => exact absurd rfl h0
  | cons c r =>
    have := Lx.alone_run (p := Lx.digit) (kd := 2) ⟨by omega, by omega⟩ (by decide) (fun c r hc => Lx.first_digit hc r) c r (h c (by simp)) 0
    rwa [run_all (by decide) h, List.take_length] at this
theorem alone_mark {c : UInt8} (h : Lx.marks.contains c = true) (h60 : c ≠ 60) : AloneK (3, pack [c]) := by
  refine ⟨show (1 : Int) ≤ 3 by decide, show (3 : Int) ≤ 3 by decide, by rw [Lx.pack_list]; exact List.cons_ne_nil _ _, fun x _ => ?_⟩
  dsimp only
  rw [Lx.pack_list, List.singleton_append, Lx.first_mark h, Lx.mark_cons, if_neg (fun e => h60 e.1), if_pos h]
  rfl
/-- What a lattice's names are. -/
structure Names (names : List ByteArray) (k : Nat) : Prop where
  len : names.length = k
  ok : ∀ i, i < k → nameOk (names.getD i ByteArray.empty) = true
  one : ∀ i j, i < k → j < k → names.getD i ByteArray.empty = names.getD j ByteArray.empty → i = j
theorem names_of {names : List ByteArray} {up : List Nat} (h : checkN names up = 0) : Names names up.length := by
  have hm := (checkN_zero h).1
  have hl := (mayB_len hm).2.2
  unfold mayB at hm
  simp only [Bool.and_eq_true] at hm
  obtain ⟨-, h1, h2⟩ := hm
  refine ⟨hl, fun i hi => ?_, fun i j hi hj e => ?_⟩
  · have := List.all_eq_true.1 h1 i (List.mem_range.2 hi)
    unfold rowOk at this
    exact (Bool.and_eq_true _ _ ▸ this).2
  · have := all_pairs.1 h2 i j hi hj
    unfold twoOk streq at this
    dsimp only at this
    rw [e] at this
    simpa using this
theorem low_letter {c : UInt8} (h : low c = true) : Lx.letter c = true := by
  unfold low at h
  unfold Lx.letter
  simp only [Bool.and_eq_true, decide_eq_true_eq] at h ⊢
  exact ⟨UInt8.le_iff_toNat_le.2 h.1, UInt8.le_iff_toNat_le.2 h.2⟩
theorem Names.letters {names : List ByteArray} {k i : Nat} (h : Names names k) (hi : i < k) : (names.getD i ByteArray.empty).data.toList ≠ [] ∧ (∀ c ∈ (names.getD i ByteArray.empty).data.toList, Lx.letter c = true) ∧ (names.getD i ByteArray.empty).data.toList.length ≤ 12 := by
  have := h.ok i hi
  unfold nameOk at this
  simp only [Bool.and_eq_true, decide_eq_true_eq] at this
  obtain ⟨⟨h1, h2⟩, h3⟩ := this
  rw [Lib.size_eq] at h1 h2
  exact ⟨by intro e; rw [e] at h1; simp at h1, fun c hc => low_letter (List.all_eq_true.1 h3 c hc), h2⟩
theorem Names.idx {names : List ByteArray} {k i : Nat} (h : Names names k) (hi : i < k) : idxN names (names.getD i ByteArray.empty) = some i := by
  have hl := h.len
  refine idxN_some (by rw [List.getD_eq_getElem?_getD, List.getElem?_eq_getElem (by omega)]; rfl) fun j t hj ht e => ?_
  have : names.getD j ByteArray.empty = names.getD i ByteArray.empty := by
    rw [List.getD_eq_getElem?_getD, ht, ← e]
    rfl
  have := h.one j i (by omega) hi this
  omega
theorem inB_op {k : Nat} {x : In} (h : inB k x = true) : 0 ≤ x.op ∧ x.op < 13 := by
  unfold inB at h
  by_cases h1 : x.op = 1
  · omega
  · rw [if_neg h1] at h
    have := of_decide_eq_true h
    exact ⟨this.1, this.2.1⟩
theorem inB_n {k : Nat} {x : In} (h : inB k x = true) : -20 ≤ x.n ∧ x.n ≤ 20 := by
  unfold inB at h
  by_cases h1 : x.op = 1
  · rw [if_pos h1] at h
    have := of_decide_eq_true h
    exact ⟨this.1, this.2.1⟩
  · rw [if_neg h1] at h
    have := of_decide_eq_true h
    have hm : most x.op ≤ 12 := by unfold most; split <;> (try split) <;> (try split) <;> omega
    omega
theorem inB_l {k : Nat} {x : In} (h : inB k x = true) (h1 : x.op = 1) : x.l.toNat < k ∧ x.l = (x.l.toNat : Int) := by
  unfold inB at h
  rw [if_pos h1] at h
  have := of_decide_eq_true h
  omega
theorem inB_zero {k : Nat} {x : In} (h : inB k x = true) : (x.op ≠ 1 → x.l = 0) ∧ (number x.op = false → x.n = 0) := by
  unfold inB at h
  by_cases h1 : x.op = 1
  · exact ⟨fun h => absurd h1 h, fun hn => absurd hn (by rw [h1]; decide)⟩
  · rw [if_neg h1] at h
    obtain ⟨a, b, c, d, e⟩ := of_decide_eq_true h
    refine ⟨fun _ => e, fun hn => ?_⟩
    have hn := of_decide_eq_false hn
    unfold most at d
    rw [if_neg (by omega), if_neg (by omega), if_neg (by omega)] at d
    omega
theorem alone_num {n : Int} (h : -20 ≤ n ∧ n ≤ 20) : ∀ p ∈ numT n, AloneK p := by
  unfold numT
  by_cases hn : n < 0
  · rw [if_pos hn]
    obtain ⟨a, b, -, -⟩ := dec_facts (u := (-n).toNat) (by omega)
    intro p hp
    simp only [List.mem_cons, List.not_mem_nil, or_false] at hp
    rcases hp with rfl | rfl
    · exact alone_mark (c := 45) (by decide) (by decide)
    · exact alone_digits a b
  · rw [if_neg hn]
    obtain ⟨a, b, -, -⟩ := dec_facts (u := n.toNat) (by omega)
    intro p hp
    rw [List.mem_singleton.1 hp]
    exact alone_digits a b
theorem alone_ins {names : List ByteArray} {k : Nat} {x : In} (hN : Names names k) (h : inB k x = true) : ∀ p ∈ insT names x, AloneK p := by
  obtain ⟨h0, h1⟩ := inB_op h
  intro p hp
  unfold insT at hp
  simp only [List.mem_cons, List.mem_append] at hp
  rcases hp with rfl | hp | hp | hp | hp
  · obtain ⟨a, b, -⟩ := Tb.word_letters (op := x.op.toNat) (by omega)
    exact alone_letters a b
  · by_cases hn : number x.op = true
    · rw [if_pos hn] at hp; exact alone_num (inB_n h) p hp
    · rw [if_neg hn] at hp; cases hp
  · by_cases ho : x.op = 1
    · rw [if_pos ho] at hp
      simp only [List.mem_cons, List.not_mem_nil, or_false] at hp
      rcases hp with rfl | rfl
      · exact alone_mark (c := 64) (by decide) (by decide)
      · obtain ⟨a, b, -⟩ := hN.letters (inB_l h ho).1
        have := alone_letters a b
        rwa [Lx.pack_data] at this
    · rw [if_neg ho] at hp; cases hp
  · rw [hp]; exact alone_mark (c := 59) (by decide) (by decide)
  · cases hp
def tl (ks : List (Int × ByteArray)) : List (List UInt8) := ks.map fun p => p.2.data.toList
theorem tail_append (a b : List (List UInt8)) : Lib.joinTail [32] (a ++ b) = Lib.joinTail [32] a ++ Lib.joinTail [32] b := by simp [Lib.joinTail]
theorem insL_join (names : List ByteArray) (x : In) : 32 :: insL names x = Lib.joinTail [32] (tl (insT names x)) := by
  unfold insL bodyL insT
  have hn : Lib.joinTail [32] (tl (if number x.op = true then numT x.n else [])) = if number x.op = true then 32 :: sgn x.n else [] := by
    by_cases h : number x.op = true
    · rw [if_pos h, if_pos h]
      unfold numT sgn
      by_cases hn : x.n < 0
      · rw [if_pos hn, if_pos hn]; simp [tl, Lib.joinTail, Lx.pack_list, bMinus]
      · rw [if_neg hn, if_neg hn]; simp [tl, Lib.joinTail, Lx.pack_list]
    · rw [if_neg h, if_neg h]; rfl
  have hl : Lib.joinTail [32] (tl (if x.op = 1 then [(3, bAt), (1, names.getD x.l.toNat ByteArray.empty)] else [])) = if x.op = 1 then [32, 64, 32] ++ nameL names x.l else [] := by
    by_cases h : x.op = 1
    · rw [if_pos h, if_pos h]; simp [tl, Lib.joinTail, nameL, bAt]
    · rw [if_neg h, if_neg h]; rfl
  have he : ∀ (p : Int × ByteArray) (a b c : List (Int × ByteArray)), tl (p :: (a ++ (b ++ c))) = [p.2.data.toList] ++ (tl a ++ (tl b ++ tl c)) := fun p a b c => by simp [tl]
  rw [he, tail_append, tail_append, tail_append, hn, hl]
  simp [Lib.joinTail, tl, bSemi, Tb.word, Lx.pack_list]
theorem tail_join (names : List ByteArray) : ∀ l : List In, Lib.joinTail [32] (l.map (insL names)) = Lib.joinTail [32] (tl (l.flatMap (insT names)))
  | [] => rfl
  | x :: l => by
    have ih := tail_join names l
    rw [List.flatMap_cons]
    have e : tl (insT names x ++ l.flatMap (insT names)) = tl (insT names x) ++ tl (l.flatMap (insT names)) := by simp [tl]
    rw [e, tail_append, ← ih, ← insL_join]
    simp [Lib.joinTail]
theorem join_drop (r : List (List UInt8)) (h : r ≠ []) : 32 :: Lib.join r [32] = Lib.joinTail [32] r := by
  cases r with
  | nil => exact absurd rfl h
  | cons x r => rw [Lib.join_cons]; simp [Lib.joinTail]
theorem textL_join (names : List ByteArray) (l : List In) : textL names l = Lib.join (tl (l.flatMap (insT names))) [32] := by
  cases l with
  | nil => rfl
  | cons x l =>
    have h := tail_join names (x :: l)
    rw [← join_drop _ (by simp), ← join_drop _ (by simp [tl, insT])] at h
    exact (List.cons.inj h).2
theorem insT_len (names : List ByteArray) (x : In) : (insT names x).length ≤ 6 := by
  have h1 : (if number x.op = true then numT x.n else []).length ≤ 2 := by
    unfold numT
    split
    · split <;> simp
    · simp
  have h2 : ∀ (a b : Int × ByteArray), (if x.op = 1 then [a, b] else []).length ≤ 2 := fun a b => by split <;> simp
  unfold insT
  simp only [List.length_cons, List.length_append, List.length_nil]
  have := h2 (3, bAt) (1, names.getD x.l.toNat ByteArray.empty)
  omega
theorem insL_len {names : List ByteArray} {k : Nat} {x : In} (hN : Names names k) (h : inB k x = true) : (insL names x).length ≤ 28 := by
  obtain ⟨h0, h1⟩ := inB_op h
  obtain ⟨n0, n1⟩ := inB_n h
  have hw := (Tb.word_letters (op := x.op.toNat) (by omega)).2.2
  have h2 : (if number x.op = true then 32 :: sgn x.n else []).length ≤ 5 := by
    split
    · unfold sgn
      split
      · have := (dec_facts (u := (-x.n).toNat) (by omega)).2.2.1
        simp only [List.length_cons, List.length_append, List.length_nil]; omega
      · have := (dec_facts (u := x.n.toNat) (by omega)).2.2.1
        simp only [List.length_cons]; omega
    · simp
  have h3 : (if x.op = 1 then [32, 64, 32] ++ nameL names x.l else []).length ≤ 15 := by
    by_cases ho : x.op = 1
    · rw [if_pos ho]
      have := (hN.letters (inB_l h ho).1).2.2
      unfold nameL
      simp only [List.length_cons, List.length_append, List.length_nil]; omega
    · rw [if_neg ho]; simp
  unfold insL bodyL
  simp only [List.length_append, List.length_cons, List.length_nil] at h2 h3 ⊢
  omega
theorem tail_len {names : List ByteArray} {k : Nat} (hN : Names names k) : ∀ l : List In, (∀ x ∈ l, inB k x = true) → (Lib.joinTail [32] (l.map (insL names))).length ≤ 29 * l.length
  | [], _ => by simp [Lib.joinTail]
  | x :: l, h => by
    have ih := tail_len hN l fun y hy => h y (by simp [hy])
    have hx := insL_len hN (h x (by simp))
    have e : Lib.joinTail [32] ((x :: l).map (insL names)) = 32 :: (insL names x ++ Lib.joinTail [32] (l.map (insL names))) := by simp [Lib.joinTail]
    rw [e]
    simp only [List.length_cons, List.length_append]
    omega
theorem textL_len {names : List ByteArray} {k : Nat} (hN : Names names k) {l : List In} (h : rightB k l = true) : (textL names l).length ≤ 348 := by
  unfold rightB at h
  rw [Bool.and_eq_true] at h
  have h1 := of_decide_eq_true h.1
  have h2 := tail_len hN l fun x hx => List.all_eq_true.1 h.2 x hx
  cases l with
  | nil => simp [textL, Lib.join_nil]
  | cons x l =>
    have := congrArg List.length (join_drop ((x :: l).map (insL names)) (by simp))
    unfold textL
    simp only [List.length_cons] at this h1 h2 ⊢
    omega
/-- A program's text, read. -/
theorem lex_text {names : List ByteArray} {k : Nat} (hN : Names names k) {l : List In} (h : rightB k l = true) :
    ∃ (m : List Tk) (p : Int), Lx.lex (textL names l) = (m ++ [⟨0, ByteArray.empty, p⟩], 0, 0) ∧ m.map kt = l.flatMap (insT names) := by
  have hlen := textL_len hN h
  unfold rightB at h
  rw [Bool.and_eq_true] at h
  have h1 := of_decide_eq_true h.1
  have hal : ∀ p ∈ l.flatMap (insT names), AloneK p := fun p hp => by
    obtain ⟨x, hx, hp⟩ := List.mem_flatMap.1 hp
    exact alone_ins hN (List.all_eq_true.1 h.2 x hx) p hp
  have hcount : (l.flatMap (insT names)).length ≤ 6 * l.length := by
    clear hal hlen h h1
    induction l with
    | nil => simp
    | cons x l ih =>
      have := insT_len names x
      rw [List.flatMap_cons, List.length_append, List.length_cons]
      omega
  obtain ⟨m, hm, hk⟩ := Lx.toks_join ((l.flatMap (insT names)).map fun p => ⟨p.1, p.2, 0⟩) (textL names l).length (fun t ht => by
    obtain ⟨p, hp, rfl⟩ := List.mem_map.1 ht
    exact hal p hp) (by rw [textL_join, List.map_map]; exact Nat.le_refl _)
  have hj : Lib.join (((l.flatMap (insT names)).map fun p => (⟨p.1, p.2, 0⟩ : Tk)).map fun t => t.text.data.toList) [32] = textL names l := by
    rw [textL_join, List.map_map]; rfl
  rw [hj] at hm
  have hkt : m.map kt = l.flatMap (insT names) := by
    rw [hk, List.map_map]
    exact List.map_id _
  have hml : m.length = (l.flatMap (insT names)).length := by rw [← hkt, List.length_map]
  refine ⟨m, ((textL names l).length : Nat), ?_, hkt⟩
  unfold Lx.lex
  rw [if_neg (by omega), hm, if_neg (by simp), if_neg (by simp only [hml]; omega)]

section
variable {l : List Tk} {i : Nat}
theorem isM_at {p : Int × ByteArray} {ks : List (Int × ByteArray)} (h : Sh.At l i (p :: ks)) (t : ByteArray) : isM l t i = decide (p.1 = 3 ∧ p.2 = t) := by
  obtain ⟨h1, h2, -⟩ := Tb.tok_at (Sh.At.left (ks := [p]) (ks' := ks) h)
  unfold isM
  rw [h1, h2]
theorem intP_at {n : Int} (hn : -20 ≤ n ∧ n ≤ 20) {ks : List (Int × ByteArray)} (h : Sh.At l i (numT n ++ ks)) : intP l i = (n, i + (numT n).length, 0) := by
  unfold numT at h ⊢
  by_cases h0 : n < 0
  · rw [if_pos h0] at h ⊢
    obtain ⟨-, -, d3, d4⟩ := dec_facts (u := (-n).toNat) (by omega)
    have hm : isM l bMinus i = true := by rw [isM_at h]; rfl
    have h' := Sh.At.tail h
    obtain ⟨k1, k2, -⟩ := Tb.tok_at (Sh.At.left (ks := [(2, pack (Lib.decDigits (-n).toNat))]) (ks' := ks) h')
    unfold intP intJ
    rw [if_pos hm, k1, k2, if_pos ⟨rfl, by rw [Lx.pack_size]; omega⟩, hm, Lx.pack_list, d4]
    unfold signed
    rw [if_pos rfl]
    refine Prod.ext ?_ rfl
    dsimp only
    omega
  · rw [if_neg h0] at h ⊢
    obtain ⟨-, -, d3, d4⟩ := dec_facts (u := n.toNat) (by omega)
    have hm : isM l bMinus i = false := by rw [isM_at h]; rfl
    obtain ⟨k1, k2, -⟩ := Tb.tok_at (Sh.At.left (ks := [(2, pack (Lib.decDigits n.toNat))]) (ks' := ks) h)
    have hj : intJ l i = i := by unfold intJ; rw [hm]; rfl
    unfold intP
    rw [hj, hm, k1, k2, if_pos ⟨rfl, by rw [Lx.pack_size]; omega⟩, Lx.pack_list, d4]
    unfold signed
    rw [if_neg (by decide)]
    refine Prod.ext ?_ rfl
    dsimp only
    omega
theorem oneP_at {names : List ByteArray} {k : Nat} {x : In} (hN : Names names k) (hx : inB k x = true) {ks : List (Int × ByteArray)} (h : Sh.At l i (insT names x ++ ks)) :
    opAt l i = some x.op.toNat ∧ oneP names k (x.op.toNat : Nat) l i = (x, i + (insT names x).length, 0) ∧ Sh.At l (i + (insT names x).length) ks := by
  obtain ⟨h0, h1⟩ := inB_op hx
  have hop : ((x.op.toNat : Nat) : Int) = x.op := by omega
  have hw := Sh.At.left (ks := [(1, Tb.word x.op.toNat)]) (ks' := (insT names x).tail ++ ks) h
  obtain ⟨w1, w2, -⟩ := Tb.tok_at hw
  have ht := Sh.At.right (ks := insT names x) (ks' := ks) h
  refine ⟨?_, ?_, ht⟩
  · unfold opAt
    rw [if_pos w1, w2, Tb.find_word (by omega)]
  · rw [hop]
    have ha : Sh.At l (i + 1) ((if number x.op = true then numT x.n else []) ++ ((if x.op = 1 then [(3, bAt), (1, names.getD x.l.toNat ByteArray.empty)] else []) ++ ((3, bSemi) :: ks))) := by
      have := Sh.At.tail (p := (1, Tb.word x.op.toNat)) (ks := ((if number x.op = true then numT x.n else []) ++ ((if x.op = 1 then [(3, bAt), (1, names.getD x.l.toNat ByteArray.empty)] else []) ++ [(3, bSemi)])) ++ ks) h
      simpa only [List.append_assoc, List.singleton_append] using this
    have hnum : numStep x.op l (i + 1) = (x.n, i + 1 + (if number x.op = true then numT x.n else []).length, 0) := by
      unfold numStep
      by_cases hn : number x.op = true
      · rw [if_pos hn] at ha ⊢
        rw [if_pos hn, intP_at (inB_n hx) ha]
      · rw [if_neg hn, if_neg hn, (inB_zero hx).2 (by cases e : number x.op; rfl; exact absurd e hn)]
        rfl
    have hb := Sh.At.right ha
    have hlab : labStep names x.op l (i + 1 + (if number x.op = true then numT x.n else []).length) = (x.l, i + 1 + (if number x.op = true then numT x.n else []).length + (if x.op = 1 then [((3 : Int), bAt), (1, names.getD x.l.toNat ByteArray.empty)] else []).length, 0) := by
      unfold labStep
      by_cases ho : x.op = 1
      · rw [if_pos ho] at hb ⊢
        rw [if_pos ho]
        obtain ⟨hl1, hl2⟩ := inB_l hx ho
        have hm : isM l bAt (i + 1 + (if number x.op = true then numT x.n else []).length) = true := by rw [isM_at hb]; rfl
        have hc := Sh.At.tail hb
        obtain ⟨k1, k2, -⟩ := Tb.tok_at (Sh.At.left (ks := [(1, names.getD x.l.toNat ByteArray.empty)]) (ks' := (3, bSemi) :: ks) hc)
        unfold labP nameP
        rw [if_pos hm, if_pos k1, k2, hN.idx hl1]
        refine Prod.ext ?_ rfl
        dsimp only
        omega
      · rw [if_neg ho, if_neg ho, (inB_zero hx).1 ho]
        rfl
    have hc := Sh.At.right hb
    have hsem : isM l bSemi (i + 1 + (if number x.op = true then numT x.n else []).length + (if x.op = 1 then [((3 : Int), bAt), (1, names.getD x.l.toNat ByteArray.empty)] else []).length) = true := by rw [isM_at hc]; rfl
    unfold oneP restP
    rw [hnum]
    dsimp only
    rw [if_pos rfl, hlab]
    unfold endStep markP
    dsimp only
    rw [if_pos rfl, if_pos hsem]
    unfold okP
    dsimp only
    rw [if_pos rfl, if_pos hx]
    refine Prod.ext rfl (Prod.ext ?_ rfl)
    unfold insT
    simp only [List.length_cons, List.length_append, List.length_nil]
    omega
end
theorem fromP_at {names : List ByteArray} {k : Nat} (hN : Names names k) {l : List Tk} : ∀ (xs out : List In) (n i : Nat), (∀ x ∈ xs, inB k x = true) → n + out.length = 13 → xs.length + out.length ≤ 12 → Sh.At l i (xs.flatMap (insT names) ++ [(0, ByteArray.empty)]) →
    fromP names k l n out i = (out ++ xs, i + (xs.flatMap (insT names)).length, 0)
  | [], out, n, i, _, hn, hl, ha => by
    obtain ⟨n, rfl⟩ : ∃ m, n = m + 1 := ⟨n - 1, by simp at hl; omega⟩
    have h1 : opAt l i = none := by
      obtain ⟨k1, -, -⟩ := Tb.tok_at (p := (0, ByteArray.empty)) ha
      unfold opAt
      rw [if_neg (by rw [k1]; decide)]
    unfold fromP
    rw [h1]
    simp
  | x :: xs, out, n, i, hx, hn, hl, ha => by
    simp only [List.length_cons] at hl
    obtain ⟨n, rfl⟩ : ∃ m, n = m + 1 := ⟨n - 1, by omega⟩
    rw [List.flatMap_cons, List.append_assoc] at ha
    obtain ⟨h1, h2, h3⟩ := oneP_at hN (hx x (by simp)) ha
    have ih := fromP_at hN xs (out ++ [x]) n (i + (insT names x).length) (fun y hy => hx y (by simp [hy])) (by simp; omega) (by simp; omega) h3
    unfold fromP
    rw [h1]
    dsimp only
    rw [if_neg (by omega), h2]
    dsimp only
    rw [if_pos rfl, ih, List.flatMap_cons, List.length_append, List.append_assoc]
    refine Prod.ext rfl (Prod.ext ?_ rfl)
    dsimp only
    omega
/-- What is written is read. -/
theorem parse_text {names : List ByteArray} {up : List Nat} (hc : checkN names up = 0) {l : List In} (h : rightB up.length l = true) : parse names up (textL names l) = (l, 0, 0) := by
  have hN := names_of hc
  obtain ⟨m, p, hlex, hm⟩ := lex_text hN h
  unfold rightB at h
  rw [Bool.and_eq_true] at h
  have h1 := of_decide_eq_true h.1
  have hat : Sh.At (m ++ [⟨0, ByteArray.empty, p⟩]) 0 (l.flatMap (insT names) ++ [(0, ByteArray.empty)]) := by
    intro j q hj
    have e : (m ++ [(⟨0, ByteArray.empty, p⟩ : Tk)]).map kt = l.flatMap (insT names) ++ [(0, ByteArray.empty)] := by rw [List.map_append, hm]; rfl
    rw [← e, List.getElem?_map] at hj
    obtain ⟨t, ht, hq⟩ := Option.map_eq_some_iff.1 hj
    exact ⟨t, by rw [Nat.zero_add]; exact ht, hq⟩
  have hf := fromP_at hN l [] 13 0 (fun x hx => List.all_eq_true.1 h.2 x hx) rfl (by simp; omega) hat
  have hend := (Tb.tok_at (Sh.At.right hat)).1
  unfold parse parseL
  rw [if_pos hc, hlex]
  dsimp only
  rw [if_pos rfl, hf]
  unfold endP
  dsimp only
  rw [if_pos rfl, if_pos hend, List.nil_append]
end Cd
end Go.Proofs.YtipbilmnknmhmaaDoor
