/- Programs over plain data: what may be, the text, what tokens tell; what is written is read, what is read may be. -/
import Derived.Lib.ItoaNum
import Derived.Test.YtipbilmnknmhmaaGreatDoorGRulA
import Derived.Test.YtipbilmnknmhmaaGreatDoorGOrdC
import Derived.Test.YtipbilmnknmhmaaGreatDoorGPub
namespace Go.Proofs.YtipbilmnknmhmaaGreatDoor
set_option maxRecDepth 100000

namespace Cd
open Lx (Tk kt pack)

open Tb (tok Fine)
/-- An instruction. -/
structure In where
  op : Int
  n : Int
  l : Int
deriving DecidableEq
def number (op : Int) : Bool := decide (op = 1 ∨ op = 8 ∨ op = 9 ∨ op = 10)
/-- The greatest N of an instruction that has no label. -/
def most (op : Int) : Int := if op = 8 then 12 else if op = 9 then 3 else if op = 10 then 1 else 0
/-- May an instruction be, of so many labels? -/
def inB (k : Nat) (x : In) : Bool :=
  if x.op = 1 then decide (-20 ≤ x.n ∧ x.n ≤ 20 ∧ 0 ≤ x.l ∧ x.l < k)
  else decide (0 ≤ x.op ∧ x.op < 13 ∧ 0 ≤ x.n ∧ x.n ≤ most x.op ∧ x.l = 0)
def rightB (k : Nat) (l : List In) : Bool := decide (l.length ≤ 12) && l.all (inB k)

/-! Texts. -/
def sgn (n : Int) : List UInt8 := if n < 0 then [45, 32] ++ Lib.decDigits (-n).toNat else Lib.decDigits n.toNat
def nameL (names : List ByteArray) (k : Int) : List UInt8 := (names.getD k.toNat ByteArray.empty).data.toList
/-- An instruction's text ahead of its end. -/
def bodyL (names : List ByteArray) (x : In) : List UInt8 := Tb.wordL x.op.toNat ++ (if number x.op = true then 32 :: sgn x.n else []) ++ (if x.op = 1 then [32, 64, 32] ++ nameL names x.l else [])
def insL (names : List ByteArray) (x : In) : List UInt8 := bodyL names x ++ [32, 59]
def textL (names : List ByteArray) (l : List In) : List UInt8 := Lib.join (l.map (insL names)) [32]
/-- A program's text, or the error. -/
def text (names : List ByteArray) (up : List Nat) (l : List In) : ByteArray × Nat :=
  if checkN names up = 0 then (if rightB up.length l = true then (pack (textL names l), 0) else (ByteArray.empty, 1)) else (ByteArray.empty, checkN names up)

/-! What tokens tell. -/
def bAt : ByteArray := { data := #[64] }
def bSemi : ByteArray := { data := #[59] }
def bMinus : ByteArray := { data := #[45] }
def isM (l : List Tk) (t : ByteArray) (i : Nat) : Bool := decide ((tok l i).kind = 3 ∧ (tok l i).text = t)
def numV (s : List UInt8) : Nat := s.foldl (fun n c => 10 * n + c.toNat % 16) 0
def intJ (l : List Tk) (i : Nat) : Nat := if isM l bMinus i = true then i + 1 else i
def signed (b : Bool) (n : Nat) : Int := if b = true then -(n : Int) else (n : Int)
def intP (l : List Tk) (i : Nat) : Int × Nat × Nat :=
  if (tok l (intJ l i)).kind = 2 ∧ (tok l (intJ l i)).text.size ≤ 4 then (signed (isM l bMinus i) (numV (tok l (intJ l i)).text.data.toList), intJ l i + 1, 0)
  else (0, intJ l i, 4)
def markP (l : List Tk) (t : ByteArray) (i : Nat) : Nat × Nat := if isM l t i = true then (i + 1, 0) else (i, 4)
def nameP (names : List ByteArray) (l : List Tk) (i : Nat) : Int × Nat × Nat :=
  if (tok l i).kind = 1 then (match idxN names (tok l i).text with | none => (0, i, 6) | some a => ((a : Nat), i + 1, 0)) else (0, i, 4)
def labP (names : List ByteArray) (l : List Tk) (i : Nat) : Int × Nat × Nat := if isM l bAt i = true then nameP names l (i + 1) else (0, i, 4)
def numStep (op : Int) (l : List Tk) (i : Nat) : Int × Nat × Nat := if number op = true then intP l i else (0, i, 0)
def labStep (names : List ByteArray) (op : Int) (l : List Tk) (i : Nat) : Int × Nat × Nat := if op = 1 then labP names l i else (0, i, 0)
def endStep (op n : Int) (l : List Tk) (b : Int × Nat × Nat) : In × Nat × Nat := if b.2.2 = 0 then (⟨op, n, b.1⟩, (markP l bSemi b.2.1).1, (markP l bSemi b.2.1).2) else (⟨op, n, b.1⟩, b.2.1, b.2.2)
/-- All of an instruction behind its word. -/
def restP (names : List ByteArray) (op : Int) (l : List Tk) (i : Nat) : In × Nat × Nat :=
  if (numStep op l i).2.2 = 0 then endStep op (numStep op l i).1 l (labStep names op l (numStep op l i).2.1)
  else (⟨op, (numStep op l i).1, 0⟩, (numStep op l i).2.1, (numStep op l i).2.2)
def okP (k i : Nat) (r : In × Nat × Nat) : In × Nat × Nat := if r.2.2 = 0 then (if inB k r.1 = true then r else (r.1, i, 1)) else r
def oneP (names : List ByteArray) (k : Nat) (op : Int) (l : List Tk) (i : Nat) : In × Nat × Nat := okP k i (restP names op l (i + 1))
def opAt (l : List Tk) (i : Nat) : Option Nat := if (tok l i).kind = 1 then Tb.find (tok l i).text else none
def fromP (names : List ByteArray) (k : Nat) (l : List Tk) : Nat → List In → Nat → List In × Nat × Nat
  | 0, out, i => (out, i, 0)
  | n + 1, out, i => match opAt l i with
    | none => (out, i, 0)
    | some op => if out.length = 12 then ([], i, 8)
      else if (oneP names k op l i).2.2 = 0 then fromP names k l n (out ++ [(oneP names k op l i).1]) (oneP names k op l i).2.1
      else ([], (oneP names k op l i).2.1, (oneP names k op l i).2.2)
def endP (l : List Tk) (r : List In × Nat × Nat) : List In × Int × Nat :=
  if r.2.2 = 0 then (if (tok l r.2.1).kind = 0 then (r.1, 0, 0) else ([], (tok l r.2.1).pos, 4)) else ([], (tok l r.2.1).pos, r.2.2)
def parseL (names : List ByteArray) (k : Nat) (x : List Tk × Nat × Nat) : List In × Int × Nat :=
  if x.2.2 = 0 then endP x.1 (fromP names k x.1 13 [] 0) else ([], x.2.1, x.2.2)
def parse (names : List ByteArray) (up : List Nat) (s : List UInt8) : List In × Int × Nat :=
  if checkN names up = 0 then parseL names up.length (Lx.lex s) else ([], 0, checkN names up)

/-! Where a reading stands. -/
section
variable {l : List Tk}
theorem kind_next (hf : Fine l) {i : Nat} (h : i < l.length) (hk : (tok l i).kind ≠ 0) : i + 1 < l.length := Tb.tok_not_last hf h (.inl hk)
theorem isM_next (hf : Fine l) {i : Nat} (h : i < l.length) {t : ByteArray} (hm : isM l t i = true) : i + 1 < l.length :=
  kind_next hf h (by have := (of_decide_eq_true hm).1; omega)
theorem intJ_lt (hf : Fine l) {i : Nat} (h : i < l.length) : intJ l i < l.length := by
  unfold intJ
  by_cases hm : isM l bMinus i = true
  · rw [if_pos hm]; exact isM_next hf h hm
  · rw [if_neg hm]; exact h
theorem intP_lt (hf : Fine l) {i : Nat} (h : i < l.length) : (intP l i).2.1 < l.length := by
  have hj := intJ_lt hf h
  unfold intP
  by_cases hk : (tok l (intJ l i)).kind = 2 ∧ (tok l (intJ l i)).text.size ≤ 4
  · rw [if_pos hk]; exact kind_next hf hj (by have := hk.1; omega)
  · rw [if_neg hk]; exact hj
theorem markP_lt (hf : Fine l) {i : Nat} (h : i < l.length) (t : ByteArray) : (markP l t i).1 < l.length := by
  unfold markP
  by_cases hm : isM l t i = true
  · rw [if_pos hm]; exact isM_next hf h hm
  · rw [if_neg hm]; exact h
theorem nameP_lt (hf : Fine l) (names : List ByteArray) {i : Nat} (h : i < l.length) : (nameP names l i).2.1 < l.length := by
  unfold nameP
  by_cases hk : (tok l i).kind = 1
  · rw [if_pos hk]
    cases idxN names (tok l i).text with
    | none => exact h
    | some a => exact kind_next hf h (by omega)
  · rw [if_neg hk]; exact h
theorem labP_lt (hf : Fine l) (names : List ByteArray) {i : Nat} (h : i < l.length) : (labP names l i).2.1 < l.length := by
  unfold labP
  by_cases hm : isM l bAt i = true
  · rw [if_pos hm]; exact nameP_lt hf names (isM_next hf h hm)
  · rw [if_neg hm]; exact h
theorem numStep_lt (hf : Fine l) (op : Int) {i : Nat} (h : i < l.length) : (numStep op l i).2.1 < l.length := by
  unfold numStep
  split
  · exact intP_lt hf h
  · exact h
theorem labStep_lt (hf : Fine l) (names : List ByteArray) (op : Int) {i : Nat} (h : i < l.length) : (labStep names op l i).2.1 < l.length := by
  unfold labStep
  split
  · exact labP_lt hf names h
  · exact h
theorem restP_lt (hf : Fine l) (names : List ByteArray) (op : Int) {i : Nat} (h : i < l.length) : (restP names op l i).2.1 < l.length := by
  have h1 := numStep_lt hf op h
  have h2 := labStep_lt hf names op h1
  unfold restP endStep
  split
  · split
    · exact markP_lt hf h2 _
    · exact h2
  · exact h1
theorem oneP_lt (hf : Fine l) (names : List ByteArray) (k : Nat) (op : Int) {i : Nat} (h : i < l.length) (hk : (tok l i).kind = 1) : (oneP names k op l i).2.1 < l.length := by
  have h1 := restP_lt hf names op (kind_next hf h (by omega))
  unfold oneP okP
  split
  · split
    · exact h1
    · exact h
  · exact h1
theorem opAt_kind {i op : Nat} (h : opAt l i = some op) : (tok l i).kind = 1 ∧ Tb.find (tok l i).text = some op := by
  unfold opAt at h
  by_cases hk : (tok l i).kind = 1
  · rw [if_pos hk] at h; exact ⟨hk, h⟩
  · rw [if_neg hk] at h; cases h
theorem opAt_lt {i op : Nat} (h : opAt l i = some op) : op < 13 := (Tb.find_some (opAt_kind h).2).1
theorem fromP_lt (hf : Fine l) (names : List ByteArray) (k : Nat) : ∀ (n : Nat) (out : List In) (i : Nat), i < l.length → (fromP names k l n out i).2.1 < l.length
  | 0, _, _, h => h
  | n + 1, out, i, h => by
    unfold fromP
    cases ho : opAt l i with
    | none => exact h
    | some op =>
      have h1 := oneP_lt hf names k op h (opAt_kind ho).1
      dsimp only
      split
      · exact h
      · split
        · exact fromP_lt hf names k n _ _ h1
        · exact h1
theorem okP_ok {k i : Nat} {r : In × Nat × Nat} (h : (okP k i r).2.2 = 0) : inB k (okP k i r).1 = true := by
  unfold okP at h ⊢
  by_cases h0 : r.2.2 = 0
  · rw [if_pos h0] at h ⊢
    by_cases hb : inB k r.1 = true
    · rw [if_pos hb]; exact hb
    · rw [if_neg hb] at h; cases h
  · rw [if_neg h0] at h; exact absurd h h0
theorem fromP_right (names : List ByteArray) (k : Nat) : ∀ (n : Nat) (out : List In) (i : Nat), n + out.length = 13 → (∀ x ∈ out, inB k x = true) → (fromP names k l n out i).2.2 = 0 → rightB k (fromP names k l n out i).1 = true ∨ n = 0
  | 0, _, _, _, _, _ => .inr rfl
  | n + 1, out, i, hn, ho, h => by
    refine .inl ?_
    unfold fromP at h ⊢
    have hout : rightB k out = true := by
      unfold rightB
      rw [Bool.and_eq_true]
      exact ⟨decide_eq_true (by omega), List.all_eq_true.2 ho⟩
    cases e : opAt l i with
    | none => exact hout
    | some op =>
      rw [e] at h
      dsimp only at h ⊢
      by_cases hl : out.length = 12
      · rw [if_pos hl] at h; cases h
      · rw [if_neg hl] at h ⊢
        by_cases h0 : (oneP names k op l i).2.2 = 0
        · rw [if_pos h0] at h ⊢
          rcases fromP_right names k n (out ++ [(oneP names k op l i).1]) (oneP names k op l i).2.1 (by simp; omega) (fun x hx => by
            rcases List.mem_append.1 hx with hx | hx
            · exact ho x hx
            · rw [List.mem_singleton.1 hx]; exact okP_ok h0) h with h1 | h1
          · exact h1
          · omega
        · rw [if_neg h0] at h; exact absurd h h0
end
theorem parseL_right {names : List ByteArray} {k : Nat} {x : List Tk × Nat × Nat} (h : (parseL names k x).2.2 = 0) : rightB k (parseL names k x).1 = true := by
  unfold parseL at h ⊢
  by_cases h0 : x.2.2 = 0
  · rw [if_pos h0] at h ⊢
    unfold endP at h ⊢
    by_cases h1 : (fromP names k x.1 13 [] 0).2.2 = 0
    · rw [if_pos h1] at h ⊢
      by_cases h2 : (tok x.1 (fromP names k x.1 13 [] 0).2.1).kind = 0
      · rw [if_pos h2]
        rcases fromP_right names k 13 [] 0 rfl (fun x hx => by simp at hx) h1 with h3 | h3
        · exact h3
        · cases h3
      · rw [if_neg h2] at h; cases h
    · rw [if_neg h1] at h; exact absurd h h1
  · rw [if_neg h0] at h; exact absurd h h0
theorem parse_right {names : List ByteArray} {up : List Nat} {s : List UInt8} (h : (parse names up s).2.2 = 0) : checkN names up = 0 ∧ rightB up.length (parse names up s).1 = true := by
  unfold parse at h ⊢
  by_cases hc : checkN names up = 0
  · rw [if_pos hc] at h ⊢
    exact ⟨hc, parseL_right h⟩
  · rw [if_neg hc] at h; exact absurd h hc
theorem parse_none {names : List ByteArray} {up : List Nat} {s : List UInt8} (h : (parse names up s).2.2 ≠ 0) : (parse names up s).1 = [] := by
  unfold parse parseL endP at *
  split
  · split
    · split
      · split
        · simp_all
        · rfl
      · rfl
    · rfl
  · rfl

/-! What is written is read. -/
def numT (n : Int) : List (Int × ByteArray) := if n < 0 then [(3, bMinus), (2, pack (Lib.decDigits (-n).toNat))] else [(2, pack (Lib.decDigits n.toNat))]
def insT (names : List ByteArray) (x : In) : List (Int × ByteArray) :=
  (1, Tb.word x.op.toNat) :: ((if number x.op = true then numT x.n else []) ++ ((if x.op = 1 then [(3, bAt), (1, names.getD x.l.toNat ByteArray.empty)] else []) ++ [(3, bSemi)]))
theorem dec_one {u : Nat} (h : u < 10) : Lib.decDigits u = [UInt8.ofNat (48 + u)] := by rw [Lib.decDigits, dif_pos h]
theorem dec_two {u : Nat} (h : 10 ≤ u) (h2 : u < 100) : Lib.decDigits u = [UInt8.ofNat (48 + u / 10), UInt8.ofNat (48 + u % 10)] := by
  rw [Lib.decDigits, dif_neg (by omega), dec_one (by omega)]
  rfl
def dec20 (u : Nat) : List UInt8 := if u < 10 then [UInt8.ofNat (48 + u)] else [UInt8.ofNat (48 + u / 10), UInt8.ofNat (48 + u % 10)]
theorem dec_20 {u : Nat} (h : u < 21) : Lib.decDigits u = dec20 u := by
  unfold dec20
  by_cases h1 : u < 10
  · rw [if_pos h1, dec_one h1]
  · rw [if_neg h1, dec_two (by omega) (by omega)]
theorem dec_facts {u : Nat} (h : u < 21) : Lib.decDigits u ≠ [] ∧ (∀ c ∈ Lib.decDigits u, Lx.digit c = true) ∧ (Lib.decDigits u).length ≤ 2 ∧ numV (Lib.decDigits u) = u := by
  rw [dec_20 h]
  have h1 : ∀ u < 21, dec20 u ≠ [] ∧ (∀ c ∈ dec20 u, Lx.digit c = true) ∧ (dec20 u).length ≤ 2 ∧ numV (dec20 u) = u := by decide +kernel
  exact h1 u h

def AloneK (p : Int × ByteArray) : Prop := Lx.Alone ⟨p.1, p.2, 0⟩
theorem run_all {p : UInt8 → Bool} {w : List UInt8} (hp : p 32 = false) (h : ∀ c ∈ w, p c = true) : Lx.run p w = w.length := by
  have := Lx.run_stop (x := []) (.inl rfl) hp w h
  rwa [List.append_nil] at this
theorem alone_letters {w : List UInt8} (h0 : w ≠ []) (h : ∀ c ∈ w, Lx.letter c = true) : AloneK (1, pack w) := by
  cases w with
  | nil => exact absurd rfl h0
  | cons c r =>
    have := Lx.alone_run (p := Lx.letter) (kd := 1) ⟨by omega, by omega⟩ (by decide) (fun c r hc => Lx.first_letter hc r) c r (h c (by simp)) 0
    rwa [run_all (by decide) h, List.take_length] at this
theorem alone_digits {w : List UInt8} (h0 : w ≠ []) (h : ∀ c ∈ w, Lx.digit c = true) : AloneK (2, pack w) := by
  cases w with
  | nil => exact absurd rfl h0
  | cons c r =>
    have := Lx.alone_run (p := Lx.digit) (kd := 2) ⟨by omega, by omega⟩ (by decide) (fun c r hc => Lx.first_digit hc r) c r (h c (by simp)) 0
    rwa [run_all (by decide) h, List.take_length] at this
theorem alone_mark {c : UInt8} (h : Lx.marks.contains c = true) (h60 : c ≠ 60) : AloneK (3, pack [c]) := by
  refine ⟨show (1 : Int) ≤ 3 by decide, show (3 : Int) ≤ 3 by decide, by rw [Lx.pack_list]; exact List.cons_ne_nil _ _, fun x _ => ?_⟩
  dsimp only
  rw [Lx.pack_list, List.singleton_append, Lx.first_mark h, Lx.mark_cons, if_neg (fun e => h60 e.1), if_pos h]
  rfl
/-- What a lattice's names are. -/
structure Names (names : List ByteArray) (k : Nat) : Prop where
  len : names.length = k
  ok : ∀ i, i < k → nameOk (names.getD i ByteArray.empty) = true
  one : ∀ i j, i < k → j < k → names.getD i ByteArray.empty = names.getD j ByteArray.empty → i = j
theorem names_of {names : List ByteArray} {up : List Nat} (h : checkN names up = 0) : Names names up.length := by
  have hm := (checkN_zero h).1
  have hl := (mayB_len hm).2.2
  unfold mayB at hm
  simp only [Bool.and_eq_true] at hm
  obtain ⟨-, h1, h2⟩ := hm
  refine ⟨hl, fun i hi => ?_, fun i j hi hj e => ?_⟩
  · have := List.all_eq_true.1 h1 i (List.mem_range.2 hi)
    unfold rowOk at this
    exact (Bool.and_eq_true _ _ ▸ this).2
  · have := all_pairs.1 h2 i j hi hj
    unfold twoOk streq at this
    dsimp only at this
    rw [e] at this
    simpa using this
theorem low_letter {c : UInt8} (h : low c = true) : Lx.letter c = true := by
  unfold low at h
  unfold Lx.letter
  simp only [Bool.and_eq_true, decide_eq_true_eq] at h ⊢
  exact ⟨UInt8.le_iff_toNat_le.2 h.1, UInt8.le_iff_toNat_le.2 h.2⟩
theorem Names.letters {names : List ByteArray} {k i : Nat} (h : Names names k) (hi : i < k) : (names.getD i ByteArray.empty).data.toList ≠ [] ∧ (∀ c ∈ (names.getD i ByteArray.empty).data.toList, Lx.letter c = true) ∧ (names.getD i ByteArray.empty).data.toList.length ≤ 12 := by
  have := h.ok i hi
  unfold nameOk at this
  simp only [Bool.and_eq_true, decide_eq_true_eq] at this
  obtain ⟨⟨h1, h2⟩, h3⟩ := this
  rw [Lib.size_eq] at h1 h2
  exact ⟨by intro e; rw [e] at h1; simp at h1, fun c hc => low_letter (List.all_eq_true.1 h3 c hc), h2⟩
theorem Names.idx {names : List ByteArray} {k i : Nat} (h : Names names k) (hi : i < k) : idxN names (names.getD i ByteArray.empty) = some i := by
  have hl := h.len
  refine idxN_some (by rw [List.getD_eq_getElem?_getD, List.getElem?_eq_getElem (by omega)]; rfl) fun j t hj ht e => ?_
  have : names.getD j ByteArray.empty = names.getD i ByteArray.empty := by
    rw [List.getD_eq_getElem?_getD, ht, ← e]
    rfl
  have := h.one j i (by omega) hi this
  omega
theorem inB_op {k : Nat} {x : In} (h : inB k x = true) : 0 ≤ x.op ∧ x.op < 13 := by
  unfold inB at h
  by_cases h1 : x.op = 1
  · omega
  · rw [if_neg h1] at h
    have := of_decide_eq_true h
    exact ⟨this.1, this.2.1⟩
theorem inB_n {k : Nat} {x : In} (h : inB k x = true) : -20 ≤ x.n ∧ x.n ≤ 20 := by
  unfold inB at h
  by_cases h1 : x.op = 1
  · rw [if_pos h1] at h
    have := of_decide_eq_true h
    exact ⟨this.1, this.2.1⟩
  · rw [if_neg h1] at h
    have := of_decide_eq_true h
    have hm : most x.op ≤ 12 := by unfold most; split <;> (try split) <;> (try split) <;> omega
    omega
theorem inB_l {k : Nat} {x : In} (h : inB k x = true) (h1 : x.op = 1) : x.l.toNat < k ∧ x.l = (x.l.toNat : Int) := by
  unfold inB at h
  rw [if_pos h1] at h
  have := of_decide_eq_true h
  omega
theorem inB_zero {k : Nat} {x : In} (h : inB k x = true) : (x.op ≠ 1 → x.l = 0) ∧ (number x.op = false → x.n = 0) := by
  unfold inB at h
  by_cases h1 : x.op = 1
  · exact ⟨fun h => absurd h1 h, fun hn => absurd hn (by rw [h1]; decide)⟩
  · rw [if_neg h1] at h
    obtain ⟨a, b, c, d, e⟩ := of_decide_eq_true h
    refine ⟨fun _ => e, fun hn => ?_⟩
    have hn := of_decide_eq_false hn
    unfold most at d
    rw [if_neg (by omega), if_neg (by omega), if_neg (by omega)] at d
    omega
theorem alone_num {n : Int} (h : -20 ≤ n ∧ n ≤ 20) : ∀ p ∈ numT n, AloneK p := by
  unfold numT
  by_cases hn : n < 0
  · rw [if_pos hn]
    obtain ⟨a, b, -, -⟩ := dec_facts (u := (-n).toNat) (by omega)
    intro p hp
    simp only [List.mem_cons, List.not_mem_nil, or_false] at hp
    rcases hp with rfl | rfl
    · exact alone_mark (c := 45) (by decide) (by decide)
    · exact alone_digits a b
  · rw [if_neg hn]
    obtain ⟨a, b, -, -⟩ := dec_facts (u := n.toNat) (by omega)
    intro p hp
    rw [List.mem_singleton.1 hp]
    exact alone_digits a b
theorem alone_ins {names : List ByteArray} {k : Nat} {x : In} (hN : Names names k) (h : inB k x = true) : ∀ p ∈ insT names x, AloneK p := by
  obtain ⟨h0, h1⟩ := inB_op h
  intro p hp
  unfold insT at hp
  simp only [List.mem_cons, List.mem_append] at hp
  rcases hp with rfl | hp | hp | hp | hp
  · obtain ⟨a, b, -⟩ := Tb.word_letters (op := x.op.toNat) (by omega)
    exact alone_letters a b
  · by_cases hn : number x.op = true
    · rw [if_pos hn] at hp; exact alone_num (inB_n h) p hp
    · rw [if_neg hn] at hp; cases hp
  · by_cases ho : x.op = 1
    · rw [if_pos ho] at hp
      simp only [List.mem_cons, List.not_mem_nil, or_false] at hp
      rcases hp with rfl | rfl
      · exact alone_mark (c := 64) (by decide) (by decide)
      · obtain ⟨a, b, -⟩ := hN.letters (inB_l h ho).1
        have := alone_letters a b
        rwa [Lx.pack_data] at this
    · rw [if_neg ho] at hp; cases hp
  · rw [hp]; exact alone_mark (c := 59) (by decide) (by decide)
  · cases hp
def tl (ks : List (Int × ByteArray)) : List (List UInt8) := ks.map fun p => p.2.data.toList
theorem tail_append (a b : List (List UInt8)) : Lib.joinTail [32] (a ++ b) = Lib.joinTail [32] a ++ Lib.joinTail [32] b := by simp [Lib.joinTail]
theorem insL_join (names : List ByteArray) (x : In) : 32 :: insL names x = Lib.joinTail [32] (tl (insT names x)) := by
  unfold insL bodyL insT
  have hn : Lib.joinTail [32] (tl (if number x.op = true then numT x.n else [])) = if number x.op = true then 32 :: sgn x.n else [] := by
    by_cases h : number x.op = true
    · rw [if_pos h, if_pos h]
      unfold numT sgn
      by_cases hn : x.n < 0
      · rw [if_pos hn, if_pos hn]; simp [tl, Lib.joinTail, Lx.pack_list, bMinus]
      · rw [if_neg hn, if_neg hn]; simp [tl, Lib.joinTail, Lx.pack_list]
    · rw [if_neg h, if_neg h]; rfl
  have hl : Lib.joinTail [32] (tl (if x.op = 1 then [(3, bAt), (1, names.getD x.l.toNat ByteArray.empty)] else [])) = if x.op = 1 then [32, 64, 32] ++ nameL names x.l else [] := by
    by_cases h : x.op = 1
    · rw [if_pos h, if_pos h]; simp [tl, Lib.joinTail, nameL, bAt]
    · rw [if_neg h, if_neg h]; rfl
  have he : ∀ (p : Int × ByteArray) (a b c : List (Int × ByteArray)), tl (p :: (a ++ (b ++ c))) = [p.2.data.toList] ++ (tl a ++ (tl b ++ tl c)) := fun p a b c => by simp [tl]
  rw [he, tail_append, tail_append, tail_append, hn, hl]
  simp [Lib.joinTail, tl, bSemi, Tb.word, Lx.pack_list]
theorem tail_join (names : List ByteArray) : ∀ l : List In, Lib.joinTail [32] (l.map (insL names)) = Lib.joinTail [32] (tl (l.flatMap (insT names)))
  | [] => rfl
  | x :: l => by
    have ih := tail_join names l
    rw [List.flatMap_cons]
    have e : tl (insT names x ++ l.flatMap (insT names)) = tl (insT names x) ++ tl (l.flatMap (insT names)) := by simp [tl]
    rw [e, tail_append, ← ih, ← insL_join]
    simp [Lib.joinTail]
theorem join_drop (r : List (List UInt8)) (h : r ≠ []) : 32 :: Lib.join r [32] = Lib.joinTail [32] r := by
  cases r with
  | nil => exact absurd rfl h
  | cons x r => rw [Lib.join_cons]; simp [Lib.joinTail]
theorem textL_join (names : List ByteArray) (l : List In) : textL names l = Lib.join (tl (l.flatMap (insT names))) [32] := by
  cases l with
  | nil => rfl
  | cons x l =>
    have h := tail_join names (x :: l)
    rw [← join_drop _ (by simp), ← join_drop _ (by simp [tl, insT])] at h
    exact (List.cons.inj h).2
theorem insT_len (names : List ByteArray) (x : In) : (insT names x).length ≤ 6 := by
  have h1 : (if number x.op = true then numT x.n else []).length ≤ 2 := by
    unfold numT
    split
    · split <;> simp
    · simp
  have h2 : ∀ (a b : Int × ByteArray), (if x.op = 1 then [a, b] else []).length ≤ 2 := fun a b => by split <;> simp
  unfold insT
  simp only [List.length_cons, List.length_append, List.length_nil]
  have := h2 (3, bAt) (1, names.getD x.l.toNat ByteArray.empty)
  omega
theorem insL_len {names : List ByteArray} {k : Nat} {x : In} (hN : Names names k) (h : inB k x = true) : (insL names x).length ≤ 28 := by
  obtain ⟨h0, h1⟩ := inB_op h
  obtain ⟨n0, n1⟩ := inB_n h
  have hw := (Tb.word_letters (op := x.op.toNat) (by omega)).2.2
  have h2 : (if number x.op = true then 32 :: sgn x.n else []).length ≤ 5 := by
    split
    · unfold sgn
      split
      · have := (dec_facts (u := (-x.n).toNat) (by omega)).2.2.1
        simp only [List.length_cons, List.length_append, List.length_nil]; omega
      · have := (dec_facts (u := x.n.toNat) (by omega)).2.2.1
        simp only [List.length_cons]; omega
    · simp
  have h3 : (if x.op = 1 then [32, 64, 32] ++ nameL names x.l else []).length ≤ 15 := by
    by_cases ho : x.op = 1
    · rw [if_pos ho]
      have := (hN.letters (inB_l h ho).1).2.2
      unfold nameL
      simp only [List.length_cons, List.length_append, List.length_nil]; omega
    · rw [if_neg ho]; simp
  unfold insL bodyL
  simp only [List.length_append, List.length_cons, List.length_nil] at h2 h3 ⊢
  omega
theorem tail_len {names : List ByteArray} {k : Nat} (hN : Names names k) : ∀ l : List In, (∀ x ∈ l, inB k x = true) → (Lib.joinTail [32] (l.map (insL names))).length ≤ 29 * l.length
  | [], _ => by simp [Lib.joinTail]
  | x :: l, h => by
    have ih := tail_len hN l fun y hy => h y (by simp [hy])
    have hx := insL_len hN (h x (by simp))
    have e : Lib.joinTail [32] ((x :: l).map (insL names)) = 32 :: (insL names x ++ Lib.joinTail [32] (l.map (insL names))) := by simp [Lib.joinTail]
    rw [e]
    simp only [List.length_cons, List.length_append]
    omega
theorem textL_len {names : List ByteArray} {k : Nat} (hN : Names names k) {l : List In} (h : rightB k l = true) : (textL names l).length ≤ 348 := by
  unfold rightB at h
  rw [Bool.and_eq_true] at h
  have h1 := of_decide_eq_true h.1
  have h2 := tail_len hN l fun x hx => List.all_eq_true.1 h.2 x hx
  cases l with
  | nil => simp [textL, Lib.join_nil]
  | cons x l =>
    have := congrArg List.length (join_drop ((x :: l).map (insL names)) (by simp))
    unfold textL
    simp only [List.length_cons] at this h1 h2 ⊢
    omega
/-- A program's text, read. -/
theorem lex_text {names : List ByteArray} {k : Nat} (hN : Names names k) {l : List In} (h : rightB k l = true) :
    ∃ (m : List Tk) (p : Int), Lx.lex (textL names l) = (m ++ [⟨0, ByteArray.empty, p⟩], 0, 0) ∧ m.map kt = l.flatMap (insT names) := by
  have hlen := textL_len hN h
  unfold rightB at h
  rw [Bool.and_eq_true] at h
  have h1 := of_decide_eq_true h.1
  have hal : ∀ p ∈ l.flatMap (insT names), AloneK p := fun p hp => by
    obtain ⟨x, hx, hp⟩ := List.mem_flatMap.1 hp
    exact alone_ins hN (List.all_eq_true.1 h.2 x hx) p hp
  have hcount : (l.flatMap (insT names)).length ≤ 6 * l.length := by
    clear hal hlen h h1
    induction l with
    | nil => simp
    | cons x l ih =>
      have := insT_len names x
      rw [List.flatMap_cons, List.length_append, List.length_cons]
      omega
  obtain ⟨m, hm, hk⟩ := Lx.toks_join ((l.flatMap (insT names)).map fun p => ⟨p.1, p.2, 0⟩) (textL names l).length (fun t ht => by
    obtain ⟨p, hp, rfl⟩ := List.mem_map.1 ht
    exact hal p hp) (by rw [textL_join, List.map_map]; exact Nat.le_refl _)
  have hj : Lib.join (((l.flatMap (insT names)).map fun p => (⟨p.1, p.2, 0⟩ : Tk)).map fun t => t.text.data.toList) [32] = textL names l := by
    rw [textL_join, List.map_map]; rfl
  rw [hj] at hm
  have hkt : m.map kt = l.flatMap (insT names) := by
    rw [hk, List.map_map]
    exact List.map_id _
  have hml : m.length = (l.flatMap (insT names)).length := by rw [← hkt, List.length_map]
  refine ⟨m, ((textL names l).length : Nat), ?_, hkt⟩
  unfold Lx.lex
  rw [if_neg (by omega), hm, if_neg (by simp), if_neg (by simp only [hml]; omega)]

section
variable {l : List Tk} {i : Nat}
theorem isM_at {p : Int × ByteArray} {ks : List (Int × ByteArray)} (h : Sh.At l i (p :: ks)) (t : ByteArray) : isM l t i = decide (p.1 = 3 ∧ p.2 = t) := by
  obtain ⟨h1, h2, -⟩ := Tb.tok_at (Sh.At.left (ks := [p]) (ks' := ks) h)
  unfold isM
  rw [h1, h2]
theorem intP_at {n : Int} (hn : -20 ≤ n ∧ n ≤ 20) {ks : List (Int × ByteArray)} (h : Sh.At l i (numT n ++ ks)) : intP l i = (n, i + (numT n).length, 0) := by
  unfold numT at h ⊢
  by_cases h0 : n < 0
  · rw [if_pos h0] at h ⊢
    obtain ⟨-, -, d3, d4⟩ := dec_facts (u := (-n).toNat) (by omega)
    have hm : isM l bMinus i = true := by rw [isM_at h]; rfl
    have h' := Sh.At.tail h
    obtain ⟨k1, k2, -⟩ := Tb.tok_at (Sh.At.left (ks := [(2, pack (Lib.decDigits (-n).toNat))]) (ks' := ks) h')
    unfold intP intJ
    rw [if_pos hm, k1, k2, if_pos ⟨rfl, by rw [Lx.pack_size]; omega⟩, hm, Lx.pack_list, d4]
    unfold signed
    rw [if_pos rfl]
    refine Prod.ext ?_ rfl
    dsimp only
    omega
  · rw [if_neg h0] at h ⊢
    obtain ⟨-, -, d3, d4⟩ := dec_facts (u := n.toNat) (by omega)
    have hm : isM l bMinus i = false := by rw [isM_at h]; rfl
    obtain ⟨k1, k2, -⟩ := Tb.tok_at (Sh.At.left (ks := [(2, pack (Lib.decDigits n.toNat))]) (ks' := ks) h)
    have hj : intJ l i = i := by unfold intJ; rw [hm]; rfl
    unfold intP
    rw [hj, hm, k1, k2, if_pos ⟨rfl, by rw [Lx.pack_size]; omega⟩, Lx.pack_list, d4]
    unfold signed
    rw [if_neg (by decide)]
    refine Prod.ext ?_ rfl
    dsimp only
    omega
theorem oneP_at {names : List ByteArray} {k : Nat} {x : In} (hN : Names names k) (hx : inB k x = true) {ks : List (Int × ByteArray)} (h : Sh.At l i (insT names x ++ ks)) :
    opAt l i = some x.op.toNat ∧ oneP names k (x.op.toNat : Nat) l i = (x, i + (insT names x).length, 0) ∧ Sh.At l (i + (insT names x).length) ks := by
  obtain ⟨h0, h1⟩ := inB_op hx
  have hop : ((x.op.toNat : Nat) : Int) = x.op := by omega
  have hw := Sh.At.left (ks := [(1, Tb.word x.op.toNat)]) (ks' := (insT names x).tail ++ ks) h
  obtain ⟨w1, w2, -⟩ := Tb.tok_at hw
  have ht := Sh.At.right (ks := insT names x) (ks' := ks) h
  refine ⟨?_, ?_, ht⟩
  · unfold opAt
    rw [if_pos w1, w2, Tb.find_word (by omega)]
  · rw [hop]
    have ha : Sh.At l (i + 1) ((if number x.op = true then numT x.n else []) ++ ((if x.op = 1 then [(3, bAt), (1, names.getD x.l.toNat ByteArray.empty)] else []) ++ ((3, bSemi) :: ks))) := by
      have := Sh.At.tail (p := (1, Tb.word x.op.toNat)) (ks := ((if number x.op = true then numT x.n else []) ++ ((if x.op = 1 then [(3, bAt), (1, names.getD x.l.toNat ByteArray.empty)] else []) ++ [(3, bSemi)])) ++ ks) h
      simpa only [List.append_assoc, List.singleton_append] using this
    have hnum : numStep x.op l (i + 1) = (x.n, i + 1 + (if number x.op = true then numT x.n else []).length, 0) := by
      unfold numStep
      by_cases hn : number x.op = true
      · rw [if_pos hn] at ha ⊢
        rw [if_pos hn, intP_at (inB_n hx) ha]
      · rw [if_neg hn, if_neg hn, (inB_zero hx).2 (by cases e : number x.op; rfl; exact absurd e hn)]
        rfl
    have hb := Sh.At.right ha
    have hlab : labStep names x.op l (i + 1 + (if number x.op = true then numT x.n else []).length) = (x.l, i + 1 + (if number x.op = true then numT x.n else []).length + (if x.op = 1 then [((3 : Int), bAt), (1, names.getD x.l.toNat ByteArray.empty)] else []).length, 0) := by
      unfold labStep
      by_cases ho : x.op = 1
      · rw [if_pos ho] at hb ⊢
        rw [if_pos ho]
        obtain ⟨hl1, hl2⟩ := inB_l hx ho
        have hm : isM l bAt (i + 1 + (if number x.op = true then numT x.n else []).length) = true := by rw [isM_at hb]; rfl
        have hc := Sh.At.tail hb
        obtain ⟨k1, k2, -⟩ := Tb.tok_at (Sh.At.left (ks := [(1, names.getD x.l.toNat ByteArray.empty)]) (ks' := (3, bSemi) :: ks) hc)
        unfold labP nameP
        rw [if_pos hm, if_pos k1, k2, hN.idx hl1]
        refine Prod.ext ?_ rfl
        dsimp only
        omega
      · rw [if_neg ho, if_neg ho, (inB_zero hx).1 ho]
        rfl
    have hc := Sh.At.right hb
    have hsem : isM l bSemi (i + 1 + (if number x.op = true then numT x.n else []).length + (if x.op = 1 then [((3 : Int), bAt), (1, names.getD x.l.toNat ByteArray.empty)] else []).length) = true := by rw [isM_at hc]; rfl
    unfold oneP restP
    rw [hnum]
    dsimp only
    rw [if_pos rfl, hlab]
    unfold endStep markP
    dsimp only
    rw [if_pos rfl, if_pos hsem]
    unfold okP
    dsimp only
    rw [if_pos rfl, if_pos hx]
    refine Prod.ext rfl (Prod.ext ?_ rfl)
    unfold insT
    simp only [List.length_cons, List.length_append, List.length_nil]
    omega
end
theorem fromP_at {names : List ByteArray} {k : Nat} (hN : Names names k) {l : List Tk} : ∀ (xs out : List In) (n i : Nat), (∀ x ∈ xs, inB k x = true) → n + out.length = 13 → xs.length + out.length ≤ 12 → Sh.At l i (xs.flatMap (insT names) ++ [(0, ByteArray.empty)]) →
    fromP names k l n out i = (out ++ xs, i + (xs.flatMap (insT names)).length, 0)
  | [], out, n, i, _, hn, hl, ha => by
    obtain ⟨n, rfl⟩ : ∃ m, n = m + 1 := ⟨n - 1, by simp at hl; omega⟩
    have h1 : opAt l i = none := by
      obtain ⟨k1, -, -⟩ := Tb.tok_at (p := (0, ByteArray.empty)) ha
      unfold opAt
      rw [if_neg (by rw [k1]; decide)]
    unfold fromP
    rw [h1]
    simp
  | x :: xs, out, n, i, hx, hn, hl, ha => by
    simp only [List.length_cons] at hl
    obtain ⟨n, rfl⟩ : ∃ m, n = m + 1 := ⟨n - 1, by omega⟩
    rw [List.flatMap_cons, List.append_assoc] at ha
    obtain ⟨h1, h2, h3⟩ := oneP_at hN (hx x (by simp)) ha
    have ih := fromP_at hN xs (out ++ [x]) n (i + (insT names x).length) (fun y hy => hx y (by simp [hy])) (by simp; omega) (by simp; omega) h3
    unfold fromP
    rw [h1]
    dsimp only
    rw [if_neg (by omega), h2]
    dsimp only
    rw [if_pos rfl, ih, List.flatMap_cons, List.length_append, List.append_assoc]
    refine Prod.ext rfl (Prod.ext ?_ rfl)
    dsimp only
    omega
/-- What is written is read. -/
theorem parse_text {names : List ByteArray} {up : List Nat} (hc : checkN names up = 0) {l : List In} (h : rightB up.length l = true) : parse names up (textL names l) = (l, 0, 0) := by
  have hN := names_of hc
  obtain ⟨m, p, hlex, hm⟩ := lex_text hN h
  unfold rightB at h
  rw [Bool.and_eq_true] at h
  have h1 := of_decide_eq_true h.1
  have hat : Sh.At (m ++ [⟨0, ByteArray.empty, p⟩]) 0 (l.flatMap (insT names) ++ [(0, ByteArray.empty)]) := by
    intro j q hj
    have e : (m ++ [(⟨0, ByteArray.empty, p⟩ : Tk)]).map kt = l.flatMap (insT names) ++ [(0, ByteArray.empty)] := by rw [List.map_append, hm]; rfl
    rw [← e, List.getElem?_map] at hj
    obtain ⟨t, ht, hq⟩ := Option.map_eq_some_iff.1 hj
    exact ⟨t, by rw [Nat.zero_add]; exact ht, hq⟩
  have hf := fromP_at hN l [] 13 0 (fun x hx => List.all_eq_true.1 h.2 x hx) rfl (by simp; omega) hat
  have hend := (Tb.tok_at (Sh.At.right hat)).1
  unfold parse parseL
  rw [if_pos hc, hlex]
  dsimp only
  rw [if_pos rfl, hf]
  unfold endP
  dsimp only
  rw [if_pos rfl, if_pos hend, List.nil_append]
end Cd
end Go.Proofs.YtipbilmnknmhmaaGreatDoor

/- States over plain data: what may be, the text as lines of tokens, what tokens tell; what is written is read. Over no program but what CodP names. -/
namespace Go.Proofs.YtipbilmnknmhmaaGreatDoor
set_option maxRecDepth 100000
open Lx (Tk kt pack toks first)
open Tb (tok Fine)
namespace St

/-! Texts whose tokens stand with a blank or a line's end behind each. -/
/-- A token that is told alone, whatever blank stands behind it. -/
structure Sep (p : Int × ByteArray) : Prop where
  ne : p.2.data.toList ≠ []
  kind : 1 ≤ p.1
  solid : ∀ c r, p.2.data.toList = c :: r → Lx.blank c = false
  first : ∀ (c : UInt8) (r : List UInt8), c = 32 ∨ c = 10 → first (p.2.data.toList ++ c :: r) = (p.1, p.2.data.toList.length)
theorem run_stops {p : UInt8 → Bool} {w : List UInt8} (hw : ∀ c ∈ w, p c = true) {d : UInt8} (hd : p d = false) (r : List UInt8) : Lx.run p (w ++ d :: r) = w.length := by
  induction w with
  | nil => exact Lx.run_no hd r
  | cons c w ih => rw [List.cons_append, Lx.run_yes (hw c (by simp)), ih fun d h => hw d (by simp [h])]; rfl
theorem sep_letters {w : List UInt8} (h0 : w ≠ []) (h : ∀ c ∈ w, Lx.letter c = true) : Sep (1, pack w) := by
  cases w with
  | nil => exact absurd rfl h0
  | cons c w =>
    refine ⟨by rw [Lx.pack_list]; simp, Int.le_refl 1, fun d r e => ?_, fun d r hd => ?_⟩
    · rw [Lx.pack_list] at e
      injection e with e _
      subst e
      have := h c (by simp)
      unfold Lx.letter at this
      simp only [Bool.and_eq_true, decide_eq_true_eq] at this
      unfold Lx.blank
      simp only [Bool.or_eq_false_iff, beq_eq_false_iff_ne]
      refine ⟨⟨?_, ?_⟩, ?_⟩ <;> (intro e; subst e; revert this; decide)
    · dsimp only
      rw [Lx.pack_list, List.cons_append, Lx.first_letter (h c (by simp)), ← List.cons_append, run_stops h (by rcases hd with rfl | rfl <;> decide)]
theorem sep_digits {w : List UInt8} (h0 : w ≠ []) (h : ∀ c ∈ w, Lx.digit c = true) : Sep (2, pack w) := by
  cases w with
  | nil => exact absurd rfl h0
  | cons c w =>
    refine ⟨by rw [Lx.pack_list]; simp, show (1 : Int) ≤ 2 by decide, fun d r e => ?_, fun d r hd => ?_⟩
    · rw [Lx.pack_list] at e
      injection e with e _
      subst e
      have := h c (by simp)
      unfold Lx.digit at this
      simp only [Bool.and_eq_true, decide_eq_true_eq] at this
      unfold Lx.blank
      simp only [Bool.or_eq_false_iff, beq_eq_false_iff_ne]
      refine ⟨⟨?_, ?_⟩, ?_⟩ <;> (intro e; subst e; revert this; decide)
    · dsimp only
      rw [Lx.pack_list, List.cons_append, Lx.first_digit (h c (by simp)), ← List.cons_append, run_stops h (by rcases hd with rfl | rfl <;> decide)]
theorem sep_mark {c : UInt8} (h : Lx.marks.contains c = true) (h60 : c ≠ 60) : Sep (3, pack [c]) := by
  refine ⟨by rw [Lx.pack_list]; simp, show (1 : Int) ≤ 3 by decide, fun d r e => ?_, fun d r _ => ?_⟩
  · rw [Lx.pack_list] at e
    injection e with e _
    subst e
    have hb : ∀ c ∈ Lx.marks, Lx.blank c = false := by decide +kernel
    exact hb c (by simpa using h)
  · dsimp only
    rw [Lx.pack_list, List.singleton_append, Lx.first_mark h, Lx.mark_cons, if_neg (fun e => h60 e.1), if_pos h]
    rfl
/-- The bytes of tokens and the blank behind each. -/
def bytes (l : List ((Int × ByteArray) × UInt8)) : List UInt8 := l.flatMap fun q => q.1.2.data.toList ++ [q.2]
theorem bytes_start {l : List ((Int × ByteArray) × UInt8)} (h : ∀ q ∈ l, Sep q.1) : bytes l = [] ∨ ∃ c r, bytes l = c :: r ∧ Lx.blank c = false := by
  cases l with
  | nil => exact .inl rfl
  | cons q l =>
    right
    have hq := h q (by simp)
    obtain ⟨c, r, e⟩ : ∃ c r, q.1.2.data.toList = c :: r := by
      cases e : q.1.2.data.toList with
      | nil => exact absurd e hq.ne
      | cons c r => exact ⟨c, r, rfl⟩
    exact ⟨c, _, by unfold bytes; rw [List.flatMap_cons, e]; rfl, hq.solid c r e⟩
theorem first_sep {c : UInt8} (hc : c = 32 ∨ c = 10) {x : List UInt8} (hx : x = [] ∨ ∃ c r, x = c :: r ∧ Lx.blank c = false) : first (c :: x) = (-1, 1) := by
  rw [Lx.first_blank (by rcases hc with rfl | rfl <;> decide), Lx.run_yes (by rcases hc with rfl | rfl <;> decide)]
  rcases hx with rfl | ⟨d, r, rfl, hd⟩
  · rfl
  · rw [Lx.run_no hd]
theorem toks_bytes : ∀ (l : List ((Int × ByteArray) × UInt8)) (n k : Nat), (∀ q ∈ l, Sep q.1 ∧ (q.2 = 32 ∨ q.2 = 10)) → (bytes l).length ≤ n →
    ∃ m, toks n (bytes l) k = (m, k + (bytes l).length) ∧ m.map kt = l.map Prod.fst
  | [], n, k, _, _ => ⟨[], by simp [bytes, Lx.toks_end], rfl⟩
  | q :: l, n, k, h, hn => by
    obtain ⟨hs, hb⟩ := h q (by simp)
    have e : bytes (q :: l) = q.1.2.data.toList ++ q.2 :: bytes l := by simp [bytes]
    rw [e] at hn ⊢
    have hpos := List.length_pos_iff.2 hs.ne
    simp only [List.length_cons, List.length_append] at hn
    obtain ⟨n, rfl⟩ : ∃ n', n = n' + 2 := ⟨n - 2, by omega⟩
    obtain ⟨m, hm, hk⟩ := toks_bytes l n (k + q.1.2.data.toList.length + 1) (fun t h' => h t (List.mem_cons_of_mem _ h')) (by omega)
    have hf := hs.first q.2 (bytes l) hb
    have h1 := hs.kind
    have hg := first_sep hb (bytes_start fun t h' => (h t (List.mem_cons_of_mem _ h')).1)
    rw [Lx.toks_take (by intro e; exact hs.ne (List.append_eq_nil_iff.1 e).1) (by rw [hf]; exact fun e => hs.ne (List.length_eq_zero_iff.1 e)) (by rw [hf]; show q.1.1 ≠ -1; omega), hf]
    simp only [List.take_left, List.drop_left]
    rw [Lx.toks_skip (by simp) (by rw [hg]; decide) (by rw [hg]), hg]
    simp only [List.drop_succ_cons, List.drop_zero]
    rw [hm]
    refine ⟨⟨q.1.1, pack q.1.2.data.toList, (k : Int)⟩ :: m, ?_, by simp [kt, hk, Lx.pack_data]⟩
    congr 1
    simp only [List.length_cons, List.length_append]
    omega
/-- What Lex makes of such a text: its tokens, or ErrMany. -/
theorem lex_bytes {l : List ((Int × ByteArray) × UInt8)} (h : ∀ q ∈ l, Sep q.1 ∧ (q.2 = 32 ∨ q.2 = 10)) :
    Lx.lex (bytes l) = ([], 0, 8) ∨ ∃ (m : List Tk) (p : Int), Lx.lex (bytes l) = (m ++ [⟨0, ByteArray.empty, p⟩], 0, 0) ∧ m.map kt = l.map Prod.fst := by
  obtain ⟨m, hm, hk⟩ := toks_bytes l (bytes l).length 0 h (Nat.le_refl _)
  rw [Nat.zero_add] at hm
  unfold Lx.lex
  by_cases h1 : 2000 < (bytes l).length
  · exact .inl (if_pos h1)
  · rw [if_neg h1, hm, if_neg (by simp)]
    by_cases h2 : 200 < m.length + 1
    · exact .inl (if_pos h2)
    · exact .inr ⟨m, _, if_neg h2, hk⟩

/-! States. -/
structure Atom where
  v : Int
  l : Int
structure Slot where
  ret : Bool
  v : Int
  l : Int
structure State where
  pc : Atom
  code : List Cd.In
  mem : List Atom
  stack : List Slot
  out : List Atom
deriving instance DecidableEq for Atom
deriving instance DecidableEq for Slot
def labB (k : Nat) (a : Int) : Bool := decide (0 ≤ a ∧ a < k)
def valB (v : Int) : Bool := decide (-20 ≤ v ∧ v ≤ 20)
def pcB (v : Int) : Bool := decide (0 ≤ v ∧ v ≤ 12)
def atomB (k : Nat) (x : Atom) : Bool := valB x.v && labB k x.l
def slotB (k : Nat) (x : Slot) : Bool := valB x.v && labB k x.l && (!x.ret || pcB x.v)
def rightB (k : Nat) (s : State) : Bool :=
  Cd.rightB k s.code && (pcB s.pc.v && labB k s.pc.l) && (decide (s.mem.length ≤ 6) && s.mem.all (atomB k)) && (decide (s.stack.length ≤ 12) && s.stack.all (slotB k)) && (decide (s.out.length ≤ 8) && s.out.all (atomB k))

/-! The text. -/
def bComma : ByteArray := { data := #[44] }
def bPc : ByteArray := { data := #[112, 99] }
def bCode : ByteArray := { data := #[99, 111, 100, 101] }
def bMem : ByteArray := { data := #[109, 101, 109] }
def bStack : ByteArray := { data := #[115, 116, 97, 99, 107] }
def bOut : ByteArray := { data := #[111, 117, 116] }
def bRet : ByteArray := { data := #[114, 101, 116] }
def nameT (names : List ByteArray) (a : Int) : ByteArray := names.getD a.toNat ByteArray.empty
def atomT (names : List ByteArray) (v a : Int) : List (Int × ByteArray) := Cd.numT v ++ [(3, Cd.bAt), (1, nameT names a)]
def slotT (names : List ByteArray) (x : Slot) : List (Int × ByteArray) := (if x.ret = true then [(1, bRet)] else []) ++ atomT names x.v x.l
def toSlot (x : Atom) : Slot := ⟨false, x.v, x.l⟩
def toAtom (x : Slot) : Atom := ⟨x.v, x.l⟩
def rowT (names : List ByteArray) : List Slot → List (Int × ByteArray)
  | [] => []
  | x :: xs => slotT names x ++ xs.flatMap fun y => (3, bComma) :: slotT names y
def lines (names : List ByteArray) (s : State) : List (List (Int × ByteArray)) :=
  [(1, bPc) :: (atomT names s.pc.v s.pc.l ++ [(3, Cd.bSemi)]), (1, bCode) :: s.code.flatMap (Cd.insT names), (1, bMem) :: (rowT names (s.mem.map toSlot) ++ [(3, Cd.bSemi)]), (1, bStack) :: (rowT names s.stack ++ [(3, Cd.bSemi)]), (1, bOut) :: (rowT names (s.out.map toSlot) ++ [(3, Cd.bSemi)])]
/-- A line: its tokens with blanks between them, and a line's end. -/
def lineL (ks : List (Int × ByteArray)) : List UInt8 := Lib.join (Cd.tl ks) [32] ++ [10]
def textL (names : List ByteArray) (s : State) : List UInt8 := (lines names s).flatMap lineL
def text (names : List ByteArray) (up : List Nat) (s : State) : ByteArray × Nat :=
  if checkN names up = 0 then (if rightB up.length s = true then (pack (textL names s), 0) else (ByteArray.empty, 1)) else (ByteArray.empty, checkN names up)
def seps : List (Int × ByteArray) → List ((Int × ByteArray) × UInt8)
  | [] => []
  | [p] => [(p, 10)]
  | p :: q :: r => (p, 32) :: seps (q :: r)
theorem seps_fst : ∀ ks : List (Int × ByteArray), (seps ks).map Prod.fst = ks
  | [] => rfl
  | [p] => rfl
  | p :: q :: r => by rw [seps, List.map_cons, seps_fst (q :: r)]
theorem seps_ok : ∀ (ks : List (Int × ByteArray)), (∀ p ∈ ks, Sep p) → ∀ q ∈ seps ks, Sep q.1 ∧ (q.2 = 32 ∨ q.2 = 10)
  | [], _, q, hq => by cases hq
  | [p], h, q, hq => by
    rw [seps, List.mem_singleton] at hq
    subst hq
    exact ⟨h p (by simp), .inr rfl⟩
  | p :: q :: r, h, x, hx => by
    rw [seps, List.mem_cons] at hx
    rcases hx with rfl | hx
    · exact ⟨h p (by simp), .inl rfl⟩
    · exact seps_ok (q :: r) (fun y hy => h y (List.mem_cons_of_mem _ hy)) x hx
theorem seps_line : ∀ (ks : List (Int × ByteArray)), ks ≠ [] → bytes (seps ks) = lineL ks
  | [], h => absurd rfl h
  | [p], _ => by simp [seps, bytes, lineL, Cd.tl, Lib.join_cons, Lib.joinTail]
  | p :: q :: r, _ => by
    have ih := seps_line (q :: r) (by simp)
    have e : bytes (seps (p :: q :: r)) = p.2.data.toList ++ 32 :: bytes (seps (q :: r)) := by simp [seps, bytes]
    rw [e, ih]
    unfold lineL Cd.tl
    rw [List.map_cons, List.map_cons, Lib.join_cons, Lib.join_cons]
    simp [Lib.joinTail]
theorem text_bytes (names : List ByteArray) (s : State) : textL names s = bytes ((lines names s).flatMap seps) := by
  have h : ∀ ls : List (List (Int × ByteArray)), (∀ ks ∈ ls, ks ≠ []) → ls.flatMap lineL = bytes (ls.flatMap seps) := by
    intro ls
    induction ls with
    | nil => intro _; rfl
    | cons ks ls ih =>
      intro h
      have e : bytes ((ks :: ls).flatMap seps) = bytes (seps ks) ++ bytes (ls.flatMap seps) := by simp [bytes]
      rw [e, seps_line ks (h ks (by simp)), ← ih fun x hx => h x (by simp [hx])]
      rfl
  refine h _ fun ks hks => ?_
  unfold lines at hks
  simp only [List.mem_cons, List.not_mem_nil, or_false] at hks
  rcases hks with rfl | rfl | rfl | rfl | rfl <;> simp
end St
end Go.Proofs.YtipbilmnknmhmaaGreatDoor

/- What tokens tell of a state; what is written is read as the same state, or is too many tokens; what is read may be. -/
namespace Go.Proofs.YtipbilmnknmhmaaGreatDoor
set_option maxRecDepth 100000
open Lx (Tk kt pack toks first)
open Tb (tok Fine)
namespace St

def isW (l : List Tk) (t : ByteArray) (i : Nat) : Bool := decide ((tok l i).kind = 1 ∧ (tok l i).text = t)
def andP {α β : Type} (r : α × Nat × Nat) (z : β) (f : α → Nat → β × Nat × Nat) : β × Nat × Nat := if r.2.2 = 0 then f r.1 r.2.1 else (z, r.2.1, r.2.2)
def wordE (l : List Tk) (t : ByteArray) (i : Nat) : Unit × Nat × Nat := if isW l t i = true then ((), i + 1, 0) else ((), i, 4)
def markE (l : List Tk) (t : ByteArray) (i : Nat) : Unit × Nat × Nat := if Cd.isM l t i = true then ((), i + 1, 0) else ((), i, 4)
def atomP (names : List ByteArray) (l : List Tk) (i : Nat) : Atom × Nat × Nat :=
  andP (Cd.intP l i) ⟨0, 0⟩ fun v j => andP (Cd.labP names l j) ⟨0, 0⟩ fun a j => (⟨v, a⟩, j, 0)
def retP (rets : Bool) (l : List Tk) (i : Nat) : Bool := rets && isW l bRet i
def slotP (names : List ByteArray) (rets : Bool) (l : List Tk) (i : Nat) : Slot × Nat × Nat :=
  andP (atomP names l (if retP rets l i = true then i + 1 else i)) ⟨false, 0, 0⟩ fun a j => (⟨retP rets l i, a.v, a.l⟩, j, 0)
def rowP (names : List ByteArray) (l : List Tk) (most : Nat) (rets : Bool) : Nat → List Slot → Nat → List Slot × Nat × Nat
  | 0, _, i => ([], i, 8)
  | n + 1, out, i => if out.length = most then ([], i, 8) else andP (slotP names rets l i) [] fun x j =>
      if Cd.isM l bComma j = true then rowP names l most rets n (out ++ [x]) (j + 1) else if Cd.isM l Cd.bSemi j = true then (out ++ [x], j + 1, 0) else ([], j, 4)
def wordP (names : List ByteArray) (l : List Tk) (word : ByteArray) (most : Nat) (rets : Bool) (i : Nat) : List Slot × Nat × Nat :=
  andP (wordE l word i) [] fun _ j => if Cd.isM l Cd.bSemi j = true then ([], j + 1, 0) else rowP names l most rets (most + 1) [] j
def zero : State := ⟨⟨0, 0⟩, [], [], [], []⟩
def endS (k i : Nat) (s : State) (j : Nat) : State × Nat × Nat := if rightB k s = true then (s, j, 0) else (zero, i, 1)
def fromS (names : List ByteArray) (k : Nat) (l : List Tk) (i : Nat) : State × Nat × Nat :=
  andP (wordE l bPc i) zero fun _ j => andP (atomP names l j) zero fun pc j => andP (markE l Cd.bSemi j) zero fun _ j => andP (wordE l bCode j) zero fun _ j =>
  andP (Cd.fromP names k l 13 [] j) zero fun code j => andP (wordP names l bMem 6 false j) zero fun mem j => andP (wordP names l bStack 12 true j) zero fun stack j =>
  andP (wordP names l bOut 8 false j) zero fun out j => endS k i ⟨pc, code, mem.map toAtom, stack, out.map toAtom⟩ j
def endT (l : List Tk) (r : State × Nat × Nat) : State × Int × Nat :=
  if r.2.2 = 0 then (if (tok l r.2.1).kind = 0 then (r.1, 0, 0) else (zero, (tok l r.2.1).pos, 4)) else (zero, (tok l r.2.1).pos, r.2.2)
def parseL (names : List ByteArray) (k : Nat) (x : List Tk × Nat × Nat) : State × Int × Nat :=
  if x.2.2 = 0 then endT x.1 (fromS names k x.1 0) else (zero, x.2.1, x.2.2)
def parse (names : List ByteArray) (up : List Nat) (s : List UInt8) : State × Int × Nat :=
  if checkN names up = 0 then parseL names up.length (Lx.lex s) else (zero, 0, checkN names up)

/-! What is read may be. -/
theorem andP_ok {α β : Type} {r : α × Nat × Nat} {z : β} {f : α → Nat → β × Nat × Nat} (h : (andP r z f).2.2 = 0) : andP r z f = f r.1 r.2.1 := by
  unfold andP at h ⊢
  by_cases h0 : r.2.2 = 0
  · rw [if_pos h0]
  · rw [if_neg h0] at h; exact absurd h h0
theorem endS_right {k i j : Nat} {s : State} (h : (endS k i s j).2.2 = 0) : rightB k (endS k i s j).1 = true := by
  unfold endS at h ⊢
  by_cases h0 : rightB k s = true
  · rw [if_pos h0]; exact h0
  · rw [if_neg h0] at h; cases h
theorem andP_all {α β : Type} {P : β → Prop} {r : α × Nat × Nat} {z : β} {f : α → Nat → β × Nat × Nat} (hf : ∀ a j, (f a j).2.2 = 0 → P (f a j).1) (h : (andP r z f).2.2 = 0) : P (andP r z f).1 := by
  have e := andP_ok h
  rw [e] at h ⊢
  exact hf _ _ h
theorem fromS_right {names : List ByteArray} {k i : Nat} {l : List Tk} (h : (fromS names k l i).2.2 = 0) : rightB k (fromS names k l i).1 = true := by
  unfold fromS at h ⊢
  exact andP_all (P := fun s => rightB k s = true) (fun _ _ => andP_all (P := fun s => rightB k s = true) fun _ _ => andP_all (P := fun s => rightB k s = true) fun _ _ => andP_all (P := fun s => rightB k s = true) fun _ _ => andP_all (P := fun s => rightB k s = true) fun _ _ => andP_all (P := fun s => rightB k s = true) fun _ _ => andP_all (P := fun s => rightB k s = true) fun _ _ => andP_all (P := fun s => rightB k s = true) fun _ _ => endS_right) h
theorem endT_right {k i : Nat} {names : List ByteArray} {l : List Tk} (h : (endT l (fromS names k l i)).2.2 = 0) : rightB k (endT l (fromS names k l i)).1 = true := by
  unfold endT at h ⊢
  by_cases h0 : (fromS names k l i).2.2 = 0
  · rw [if_pos h0] at h ⊢
    by_cases h1 : (tok l (fromS names k l i).2.1).kind = 0
    · rw [if_pos h1]; exact fromS_right h0
    · rw [if_neg h1] at h; cases h
  · rw [if_neg h0] at h; exact absurd h h0
theorem parse_right {names : List ByteArray} {up : List Nat} {s : List UInt8} (h : (parse names up s).2.2 = 0) : checkN names up = 0 ∧ rightB up.length (parse names up s).1 = true := by
  unfold parse at h ⊢
  by_cases h0 : checkN names up = 0
  · rw [if_pos h0] at h ⊢
    refine ⟨h0, ?_⟩
    unfold parseL at h ⊢
    by_cases h1 : (Lx.lex s).2.2 = 0
    · rw [if_pos h1] at h ⊢; exact endT_right h
    · rw [if_neg h1] at h; exact absurd h h1
  · rw [if_neg h0] at h; exact absurd h h0
theorem parse_none {names : List ByteArray} {up : List Nat} {s : List UInt8} (h : (parse names up s).2.2 ≠ 0) : (parse names up s).1 = zero := by
  unfold parse at h ⊢
  by_cases h0 : checkN names up = 0
  · rw [if_pos h0] at h ⊢
    unfold parseL at h ⊢
    by_cases h1 : (Lx.lex s).2.2 = 0
    · rw [if_pos h1] at h ⊢
      unfold endT at h ⊢
      by_cases h2 : (fromS names up.length (Lx.lex s).1 0).2.2 = 0
      · rw [if_pos h2] at h ⊢
        by_cases h3 : (tok (Lx.lex s).1 (fromS names up.length (Lx.lex s).1 0).2.1).kind = 0
        · rw [if_pos h3] at h; exact absurd rfl h
        · rw [if_neg h3]
      · rw [if_neg h2]
    · rw [if_neg h1]
  · rw [if_neg h0]

/-! What is written is read. -/
section
variable {l : List Tk} {i k : Nat} {names : List ByteArray}
theorem andP_do {α β : Type} {a : α} {j : Nat} {z : β} {f : α → Nat → β × Nat × Nat} : andP (a, j, 0) z f = f a j := by unfold andP; rw [if_pos rfl]
theorem isW_at {p : Int × ByteArray} {ks : List (Int × ByteArray)} (h : Sh.At l i (p :: ks)) (t : ByteArray) : isW l t i = decide (p.1 = 1 ∧ p.2 = t) := by
  obtain ⟨h1, h2, -⟩ := Tb.tok_at (Sh.At.left (ks := [p]) (ks' := ks) h)
  unfold isW
  rw [h1, h2]
theorem wordE_at {t : ByteArray} {ks : List (Int × ByteArray)} (h : Sh.At l i ((1, t) :: ks)) : wordE l t i = ((), i + 1, 0) := by
  unfold wordE
  rw [isW_at h, decide_eq_true ⟨rfl, rfl⟩, if_pos rfl]
theorem markE_at {t : ByteArray} {ks : List (Int × ByteArray)} (h : Sh.At l i ((3, t) :: ks)) : markE l t i = ((), i + 1, 0) := by
  unfold markE
  rw [Cd.isM_at h, decide_eq_true ⟨rfl, rfl⟩, if_pos rfl]
theorem lab_of {a : Int} (h : labB k a = true) : a.toNat < k ∧ ((a.toNat : Nat) : Int) = a := by
  unfold labB at h
  have := of_decide_eq_true h
  omega
theorem labP_at {a : Int} (hN : Cd.Names names k) (ha : labB k a = true) {ks : List (Int × ByteArray)} (h : Sh.At l i ((3, Cd.bAt) :: (1, nameT names a) :: ks)) : Cd.labP names l i = (a, i + 2, 0) := by
  obtain ⟨h1, h2⟩ := lab_of ha
  have hc := Sh.At.tail h
  obtain ⟨k1, k2, -⟩ := Tb.tok_at (Sh.At.left (ks := [(1, nameT names a)]) (ks' := ks) hc)
  unfold Cd.labP Cd.nameP
  rw [Cd.isM_at h, decide_eq_true ⟨rfl, rfl⟩, if_pos rfl, if_pos k1, k2]
  unfold nameT
  rw [hN.idx h1]
  dsimp only
  rw [h2]
theorem atomP_at {v a : Int} (hN : Cd.Names names k) (hv : valB v = true) (ha : labB k a = true) {ks : List (Int × ByteArray)} (h : Sh.At l i (atomT names v a ++ ks)) : atomP names l i = (⟨v, a⟩, i + (atomT names v a).length, 0) := by
  unfold atomT at h ⊢
  rw [List.append_assoc] at h
  have hi := Cd.intP_at (of_decide_eq_true hv) h
  have hl := labP_at hN ha (Sh.At.right h)
  unfold atomP
  rw [hi, andP_do, hl, andP_do, List.length_append]
  rfl
theorem slotP_at {x : Slot} {rets : Bool} (hN : Cd.Names names k) (hx : slotB k x = true) (hr : x.ret = true → rets = true) {ks : List (Int × ByteArray)} (h : Sh.At l i (slotT names x ++ ks)) : slotP names rets l i = (x, i + (slotT names x).length, 0) := by
  obtain ⟨ret, v, a⟩ := x
  unfold slotB at hx
  simp only [Bool.and_eq_true] at hx
  unfold slotT at h ⊢
  dsimp only at hx h hr ⊢
  unfold slotP retP
  cases ret with
  | true =>
    rw [hr rfl]
    rw [if_pos rfl] at h ⊢
    have hw : isW l bRet i = true := by rw [isW_at (p := (1, bRet)) h]; rfl
    rw [hw, Bool.true_and, if_pos rfl, atomP_at hN hx.1.1 hx.1.2 (Sh.At.tail h), andP_do]
    refine Prod.ext rfl (Prod.ext ?_ rfl)
    simp only [List.length_append, List.length_cons, List.length_nil]
    omega
  | false =>
    simp only [Bool.false_eq_true, if_false, List.nil_append] at h ⊢
    have hw : isW l bRet i = false := by
      unfold atomT Cd.numT at h
      by_cases hn : v < 0
      · rw [if_pos hn] at h
        rw [isW_at h]
        exact decide_eq_false fun e => absurd (show (3 : Int) = 1 from e.1) (by decide)
      · rw [if_neg hn] at h
        rw [isW_at h]
        exact decide_eq_false fun e => absurd (show (2 : Int) = 1 from e.1) (by decide)
    rw [hw, Bool.and_false, if_neg (by decide), atomP_at hN hx.1.1 hx.1.2 h, andP_do]
theorem rowP_at {most : Nat} {rets : Bool} (hN : Cd.Names names k) {ks : List (Int × ByteArray)} : ∀ (xs : List Slot) (x : Slot) (out : List Slot) (n i : Nat), (∀ y ∈ x :: xs, slotB k y = true ∧ (y.ret = true → rets = true)) → xs.length + 1 ≤ n → out.length + xs.length + 1 ≤ most →
    Sh.At l i (slotT names x ++ ((xs.flatMap fun y => (3, bComma) :: slotT names y) ++ (3, Cd.bSemi) :: ks)) → rowP names l most rets n out i = (out ++ x :: xs, i + (slotT names x).length + (xs.flatMap fun y => (3, bComma) :: slotT names y).length + 1, 0)
  | [], x, out, n, i, hx, hn, hm, h => by
    obtain ⟨n, rfl⟩ : ∃ m, n = m + 1 := ⟨n - 1, by simp at hn; omega⟩
    obtain ⟨h1, h2⟩ := hx x (by simp)
    have hs := slotP_at hN h1 h2 h
    have hr := Sh.At.right h
    rw [List.flatMap_nil, List.nil_append] at hr
    unfold rowP
    rw [if_neg (by simp at hm; omega), hs, andP_do, Cd.isM_at hr, decide_eq_false (by decide), if_neg (by decide), Cd.isM_at hr, decide_eq_true ⟨rfl, rfl⟩, if_pos rfl]
    simp
  | y :: xs, x, out, n, i, hx, hn, hm, h => by
    simp only [List.length_cons] at hn hm
    obtain ⟨n, rfl⟩ : ∃ m, n = m + 1 := ⟨n - 1, by omega⟩
    obtain ⟨h1, h2⟩ := hx x (by simp)
    have hs := slotP_at hN h1 h2 h
    have hr := Sh.At.right h
    rw [List.flatMap_cons, List.cons_append, List.cons_append] at hr
    have ht := Sh.At.tail hr
    rw [List.append_assoc] at ht
    have ih := rowP_at (most := most) (rets := rets) hN xs y (out ++ [x]) n _ (fun z hz => hx z (List.mem_cons_of_mem _ hz)) (by omega) (by simp; omega) ht
    unfold rowP
    rw [if_neg (by omega), hs, andP_do, Cd.isM_at hr, decide_eq_true ⟨rfl, rfl⟩, if_pos rfl, ih, List.flatMap_cons]
    refine Prod.ext (by simp) (Prod.ext ?_ rfl)
    simp only [List.length_append, List.length_cons]
    omega
theorem wordP_at {most : Nat} {rets : Bool} {word : ByteArray} (hN : Cd.Names names k) {ks : List (Int × ByteArray)} (xs : List Slot) (i : Nat) (hx : ∀ y ∈ xs, slotB k y = true ∧ (y.ret = true → rets = true)) (hm : xs.length ≤ most)
    (h : Sh.At l i ((1, word) :: (rowT names xs ++ (3, Cd.bSemi) :: ks))) : wordP names l word most rets i = (xs, i + 1 + (rowT names xs).length + 1, 0) := by
  unfold wordP
  rw [wordE_at h, andP_do]
  have ht := Sh.At.tail h
  cases xs with
  | nil =>
    rw [show rowT names [] = [] from rfl, List.nil_append] at ht
    rw [Cd.isM_at ht, decide_eq_true ⟨rfl, rfl⟩, if_pos rfl]
    rfl
  | cons x xs =>
    rw [show rowT names (x :: xs) = slotT names x ++ xs.flatMap fun y => (3, bComma) :: slotT names y from rfl, List.append_assoc] at ht
    have hno : Cd.isM l Cd.bSemi (i + 1) = false := by
      have key : ∀ p q, slotT names x = p :: q → ¬ (p.1 = 3 ∧ p.2 = Cd.bSemi) := fun p q e => by
        unfold slotT atomT Cd.numT at e
        by_cases hr : x.ret = true
        · rw [if_pos hr] at e; injection e with e _; subst e; exact fun h => absurd (show (1 : Int) = 3 from h.1) (by decide)
        · rw [if_neg hr, List.nil_append] at e
          by_cases hn : x.v < 0
          · rw [if_pos hn] at e; injection e with e _; subst e
            exact fun h => absurd (show Cd.bMinus = Cd.bSemi from h.2) (by decide)
          · rw [if_neg hn] at e; injection e with e _; subst e; exact fun h => absurd (show (2 : Int) = 3 from h.1) (by decide)
      cases e : slotT names x with
      | nil =>
        unfold slotT atomT at e
        simp at e
      | cons p q =>
        rw [e] at ht
        rw [Cd.isM_at ht]
        exact decide_eq_false (key p q e)
    rw [hno, if_neg (by decide), rowP_at hN xs x [] (most + 1) (i + 1) hx (by simp at hm; omega) (by simp at hm ⊢; omega) ht]
    refine Prod.ext rfl (Prod.ext ?_ rfl)
    rw [show rowT names (x :: xs) = slotT names x ++ xs.flatMap fun y => (3, bComma) :: slotT names y from rfl]
    simp only [List.length_append]
    omega
end
/-- A program, and behind it a word that is no instruction's. -/
theorem fromP_at2 {names : List ByteArray} {k : Nat} (hN : Cd.Names names k) {l : List Tk} {ks : List (Int × ByteArray)} (hend : ∀ i, Sh.At l i ks → Cd.opAt l i = none) : ∀ (xs out : List Cd.In) (n i : Nat), (∀ x ∈ xs, Cd.inB k x = true) → n + out.length = 13 → xs.length + out.length ≤ 12 → Sh.At l i (xs.flatMap (Cd.insT names) ++ ks) →
    Cd.fromP names k l n out i = (out ++ xs, i + (xs.flatMap (Cd.insT names)).length, 0)
  | [], out, n, i, _, hn, hl, ha => by
    obtain ⟨n, rfl⟩ : ∃ m, n = m + 1 := ⟨n - 1, by simp at hl; omega⟩
    unfold Cd.fromP
    rw [hend i ha]
    simp
  | x :: xs, out, n, i, hx, hn, hl, ha => by
    simp only [List.length_cons] at hl
    obtain ⟨n, rfl⟩ : ∃ m, n = m + 1 := ⟨n - 1, by omega⟩
    rw [List.flatMap_cons, List.append_assoc] at ha
    obtain ⟨h1, h2, h3⟩ := Cd.oneP_at hN (hx x (by simp)) ha
    have ih := fromP_at2 hN hend xs (out ++ [x]) n (i + (Cd.insT names x).length) (fun y hy => hx y (by simp [hy])) (by simp; omega) (by simp; omega) h3
    unfold Cd.fromP
    rw [h1]
    dsimp only
    rw [if_neg (by omega), h2]
    dsimp only
    rw [if_pos rfl, ih, List.flatMap_cons, List.length_append, List.append_assoc]
    refine Prod.ext rfl (Prod.ext ?_ rfl)
    dsimp only
    omega
end St
end Go.Proofs.YtipbilmnknmhmaaGreatDoor

/- What is written of a state is read as the same state, or is too many tokens. -/
namespace Go.Proofs.YtipbilmnknmhmaaGreatDoor
set_option maxRecDepth 100000
open Lx (Tk kt pack toks first)
open Tb (tok Fine)
namespace St

theorem mem_word : Tb.find bMem = none := by decide +kernel
theorem slots_back (x : List Atom) : (x.map toSlot).map toAtom = x := by
  rw [List.map_map]
  exact List.map_id _
theorem slot_atoms {k : Nat} {x : List Atom} (h : x.all (atomB k) = true) : ∀ y ∈ x.map toSlot, slotB k y = true ∧ (y.ret = true → false = true) := fun y hy => by
  obtain ⟨a, ha, rfl⟩ := List.mem_map.1 hy
  have := List.all_eq_true.1 h a ha
  unfold atomB at this
  unfold slotB toSlot
  dsimp only
  rw [this]
  exact ⟨rfl, fun h => h⟩
structure Parts (k : Nat) (s : State) : Prop where
  code : Cd.rightB k s.code = true
  pcv : pcB s.pc.v = true
  pcl : labB k s.pc.l = true
  meml : s.mem.length ≤ 6
  mem : s.mem.all (atomB k) = true
  stackl : s.stack.length ≤ 12
  stack : s.stack.all (slotB k) = true
  outl : s.out.length ≤ 8
  out : s.out.all (atomB k) = true
theorem parts_of {k : Nat} {s : State} (h : rightB k s = true) : Parts k s := by
  unfold rightB at h
  simp only [Bool.and_eq_true, decide_eq_true_eq] at h
  obtain ⟨⟨⟨⟨h1, h2, h3⟩, h4, h5⟩, h6, h7⟩, h8, h9⟩ := h
  exact ⟨h1, h2, h3, h4, h5, h6, h7, h8, h9⟩
theorem pc_val {v : Int} (h : pcB v = true) : valB v = true := by
  unfold pcB at h
  unfold valB
  have := of_decide_eq_true h
  exact decide_eq_true (by omega)
def tokens (names : List ByteArray) (s : State) : List (Int × ByteArray) := (lines names s).flatten
theorem fromS_at {names : List ByteArray} {k : Nat} (hN : Cd.Names names k) {s : State} (h : rightB k s = true) {l : List Tk} {ks : List (Int × ByteArray)} (i : Nat) (ha : Sh.At l i (tokens names s ++ ks)) :
    fromS names k l i = (s, i + (tokens names s).length, 0) := by
  obtain ⟨h1, h2, h3, h4, h5, h6, h7, h8, h9⟩ := parts_of h
  have hc := h1
  unfold Cd.rightB at hc
  simp only [Bool.and_eq_true, decide_eq_true_eq] at hc
  have e0 : tokens names s ++ ks = (1, bPc) :: (atomT names s.pc.v s.pc.l ++ ((3, Cd.bSemi) :: ((1, bCode) :: (s.code.flatMap (Cd.insT names) ++ ((1, bMem) :: (rowT names (s.mem.map toSlot) ++ (3, Cd.bSemi) :: ((1, bStack) :: (rowT names s.stack ++ (3, Cd.bSemi) :: ((1, bOut) :: (rowT names (s.out.map toSlot) ++ (3, Cd.bSemi) :: ks)))))))))) := by
    unfold tokens lines
    simp
  have el : (tokens names s).length = 1 + (atomT names s.pc.v s.pc.l).length + 1 + 1 + (s.code.flatMap (Cd.insT names)).length + (1 + (rowT names (s.mem.map toSlot)).length + 1) + (1 + (rowT names s.stack).length + 1) + (1 + (rowT names (s.out.map toSlot)).length + 1) := by
    unfold tokens lines
    simp only [List.flatten_cons, List.flatten_nil, List.length_append, List.length_cons, List.length_nil]
    omega
  rw [e0] at ha
  have a1 := Sh.At.tail ha
  have a2 := Sh.At.right a1
  have a3 := Sh.At.tail a2
  have a4 := Sh.At.tail a3
  have a5 := Sh.At.right a4
  have m1 := wordP_at (most := 6) (rets := false) hN (s.mem.map toSlot) _ (slot_atoms h5) (by rw [List.length_map]; exact h4) a5
  have a6 := Sh.At.tail (Sh.At.right (Sh.At.tail a5))
  have m2 := wordP_at (most := 12) (rets := true) hN s.stack _ (fun y hy => ⟨List.all_eq_true.1 h7 y hy, fun _ => rfl⟩) h6 a6
  have a7 := Sh.At.tail (Sh.At.right (Sh.At.tail a6))
  have m3 := wordP_at (most := 8) (rets := false) hN (s.out.map toSlot) _ (slot_atoms h9) (by rw [List.length_map]; exact h8) a7
  have hend : ∀ j, Sh.At l j ((1, bMem) :: (rowT names (s.mem.map toSlot) ++ (3, Cd.bSemi) :: ((1, bStack) :: (rowT names s.stack ++ (3, Cd.bSemi) :: ((1, bOut) :: (rowT names (s.out.map toSlot) ++ (3, Cd.bSemi) :: ks)))))) → Cd.opAt l j = none := fun j hj => by
    obtain ⟨k1, k2, -⟩ := Tb.tok_at (Sh.At.left (ks := [(1, bMem)]) (ks' := _) hj)
    unfold Cd.opAt
    rw [if_pos k1, k2]
    exact mem_word
  have mc := fromP_at2 hN hend s.code [] 13 _ (fun x hx => List.all_eq_true.1 hc.2 x hx) rfl (by simp; exact hc.1) a4
  unfold fromS
  rw [wordE_at ha, andP_do, atomP_at hN (pc_val h2) h3 a1, andP_do, markE_at a2, andP_do, wordE_at a3, andP_do, mc, andP_do, m1, andP_do, m2, andP_do, m3, andP_do]
  unfold endS
  rw [slots_back, slots_back, List.nil_append]
  rw [show (⟨⟨s.pc.v, s.pc.l⟩, s.code, s.mem, s.stack, s.out⟩ : State) = s from rfl, if_pos h]
  refine Prod.ext rfl (Prod.ext ?_ rfl)
  rw [el]
  dsimp only
  omega
theorem sep_atom {names : List ByteArray} {k : Nat} (hN : Cd.Names names k) {v a : Int} (hv : valB v = true) (ha : labB k a = true) : ∀ p ∈ atomT names v a, Sep p := fun p hp => by
  have hv := of_decide_eq_true hv
  unfold atomT Cd.numT at hp
  rw [List.mem_append] at hp
  rcases hp with hp | hp
  · by_cases hn : v < 0
    · rw [if_pos hn] at hp
      obtain ⟨a, b, -, -⟩ := Cd.dec_facts (u := (-v).toNat) (by omega)
      simp only [List.mem_cons, List.not_mem_nil, or_false] at hp
      rcases hp with rfl | rfl
      · exact sep_mark (c := 45) (by decide) (by decide)
      · exact sep_digits a b
    · rw [if_neg hn] at hp
      obtain ⟨a, b, -, -⟩ := Cd.dec_facts (u := v.toNat) (by omega)
      rw [List.mem_singleton.1 hp]
      exact sep_digits a b
  · simp only [List.mem_cons, List.not_mem_nil, or_false] at hp
    rcases hp with rfl | rfl
    · exact sep_mark (c := 64) (by decide) (by decide)
    · obtain ⟨a, b, -⟩ := hN.letters (lab_of ha).1
      have := sep_letters a b
      rwa [Lx.pack_data] at this
theorem sep_slot {names : List ByteArray} {k : Nat} (hN : Cd.Names names k) {x : Slot} (hx : slotB k x = true) : ∀ p ∈ slotT names x, Sep p := fun p hp => by
  unfold slotB at hx
  simp only [Bool.and_eq_true] at hx
  unfold slotT at hp
  rw [List.mem_append] at hp
  rcases hp with hp | hp
  · by_cases hr : x.ret = true
    · rw [if_pos hr] at hp
      rw [List.mem_singleton.1 hp]
      exact sep_letters (w := [114, 101, 116]) (by simp) (by decide)
    · rw [if_neg hr] at hp; cases hp
  · exact sep_atom hN hx.1.1 hx.1.2 p hp
theorem sep_row {names : List ByteArray} {k : Nat} (hN : Cd.Names names k) {xs : List Slot} (hx : ∀ x ∈ xs, slotB k x = true) : ∀ p ∈ rowT names xs, Sep p := fun p hp => by
  cases xs with
  | nil => cases hp
  | cons x xs =>
    unfold rowT at hp
    rw [List.mem_append] at hp
    rcases hp with hp | hp
    · exact sep_slot hN (hx x (by simp)) p hp
    · obtain ⟨y, hy, hp⟩ := List.mem_flatMap.1 hp
      rcases List.mem_cons.1 hp with rfl | hp
      · exact sep_mark (c := 44) (by decide) (by decide)
      · exact sep_slot hN (hx y (by simp [hy])) p hp
theorem sep_ins {names : List ByteArray} {k : Nat} {x : Cd.In} (hN : Cd.Names names k) (h : Cd.inB k x = true) : ∀ p ∈ Cd.insT names x, Sep p := fun p hp => by
  obtain ⟨h0, h1⟩ := Cd.inB_op h
  unfold Cd.insT at hp
  simp only [List.mem_cons, List.mem_append] at hp
  rcases hp with rfl | hp | hp | hp | hp
  · obtain ⟨a, b, -⟩ := Tb.word_letters (op := x.op.toNat) (by omega)
    exact sep_letters a b
  · by_cases hn : Cd.number x.op = true
    · rw [if_pos hn] at hp
      have hv := Cd.inB_n h
      unfold Cd.numT at hp
      by_cases hn : x.n < 0
      · rw [if_pos hn] at hp
        obtain ⟨a, b, -, -⟩ := Cd.dec_facts (u := (-x.n).toNat) (by omega)
        simp only [List.mem_cons, List.not_mem_nil, or_false] at hp
        rcases hp with rfl | rfl
        · exact sep_mark (c := 45) (by decide) (by decide)
        · exact sep_digits a b
      · rw [if_neg hn] at hp
        obtain ⟨a, b, -, -⟩ := Cd.dec_facts (u := x.n.toNat) (by omega)
        rw [List.mem_singleton.1 hp]
        exact sep_digits a b
    · rw [if_neg hn] at hp; cases hp
  · by_cases ho : x.op = 1
    · rw [if_pos ho] at hp
      simp only [List.mem_cons, List.not_mem_nil, or_false] at hp
      rcases hp with rfl | rfl
      · exact sep_mark (c := 64) (by decide) (by decide)
      · obtain ⟨a, b, -⟩ := hN.letters (Cd.inB_l h ho).1
        have := sep_letters a b
        rwa [Lx.pack_data] at this
    · rw [if_neg ho] at hp; cases hp
  · rw [hp]; exact sep_mark (c := 59) (by decide) (by decide)
  · cases hp
theorem sep_lines {names : List ByteArray} {k : Nat} (hN : Cd.Names names k) {s : State} (h : rightB k s = true) : ∀ ks ∈ lines names s, ∀ p ∈ ks, Sep p := by
  obtain ⟨h1, h2, h3, h4, h5, h6, h7, h8, h9⟩ := parts_of h
  unfold Cd.rightB at h1
  simp only [Bool.and_eq_true, decide_eq_true_eq] at h1
  have hs : Sep (3, Cd.bSemi) := sep_mark (c := 59) (by decide) (by decide)
  intro ks hks p hp
  unfold lines at hks
  simp only [List.mem_cons, List.not_mem_nil, or_false] at hks
  rcases hks with rfl | rfl | rfl | rfl | rfl
  · simp only [List.mem_cons, List.mem_append, List.not_mem_nil, or_false] at hp
    rcases hp with rfl | hp | rfl
    · exact sep_letters (w := [112, 99]) (by simp) (by decide)
    · exact sep_atom hN (pc_val h2) h3 p hp
    · exact hs
  · rcases List.mem_cons.1 hp with rfl | hp
    · exact sep_letters (w := [99, 111, 100, 101]) (by simp) (by decide)
    · obtain ⟨x, hx, hp⟩ := List.mem_flatMap.1 hp
      exact sep_ins hN (List.all_eq_true.1 h1.2 x hx) p hp
  · simp only [List.mem_cons, List.mem_append, List.not_mem_nil, or_false] at hp
    rcases hp with rfl | hp | rfl
    · exact sep_letters (w := [109, 101, 109]) (by simp) (by decide)
    · exact sep_row hN (fun x hx => (slot_atoms h5 x hx).1) p hp
    · exact hs
  · simp only [List.mem_cons, List.mem_append, List.not_mem_nil, or_false] at hp
    rcases hp with rfl | hp | rfl
    · exact sep_letters (w := [115, 116, 97, 99, 107]) (by simp) (by decide)
    · exact sep_row hN (fun x hx => List.all_eq_true.1 h7 x hx) p hp
    · exact hs
  · simp only [List.mem_cons, List.mem_append, List.not_mem_nil, or_false] at hp
    rcases hp with rfl | hp | rfl
    · exact sep_letters (w := [111, 117, 116]) (by simp) (by decide)
    · exact sep_row hN (fun x hx => (slot_atoms h9 x hx).1) p hp
    · exact hs
theorem fst_lines (ls : List (List (Int × ByteArray))) : (ls.flatMap seps).map Prod.fst = ls.flatten := by
  induction ls with
  | nil => rfl
  | cons a r ih => rw [List.flatMap_cons, List.map_append, ih, seps_fst]; rfl
/-- What is written is read, or is too many tokens. -/
theorem parse_text {names : List ByteArray} {up : List Nat} (hc : checkN names up = 0) {s : State} (h : rightB up.length s = true) : parse names up (textL names s) = (s, 0, 0) ∨ parse names up (textL names s) = (zero, 0, 8) := by
  have hN := Cd.names_of hc
  have hb := lex_bytes (l := (lines names s).flatMap seps) fun q hq => by
    obtain ⟨ks, hks, hq⟩ := List.mem_flatMap.1 hq
    exact seps_ok ks (sep_lines hN h ks hks) q hq
  rw [← text_bytes, fst_lines] at hb
  rcases hb with hb | ⟨m, p, hb, hm⟩
  · right
    unfold parse parseL
    rw [if_pos hc, hb]
    rfl
  · left
    have hat : Sh.At (m ++ [⟨0, ByteArray.empty, p⟩]) 0 (tokens names s ++ [(0, ByteArray.empty)]) := by
      intro j q hj
      have e : (m ++ [(⟨0, ByteArray.empty, p⟩ : Tk)]).map kt = tokens names s ++ [(0, ByteArray.empty)] := by rw [List.map_append, hm]; rfl
      rw [← e, List.getElem?_map] at hj
      obtain ⟨t, ht, hq⟩ := Option.map_eq_some_iff.1 hj
      exact ⟨t, by rw [Nat.zero_add]; exact ht, hq⟩
    have hf := fromS_at hN h 0 hat
    have hend := (Tb.tok_at (Sh.At.right hat)).1
    unfold parse parseL
    rw [if_pos hc, hb]
    dsimp only
    rw [if_pos rfl, hf]
    unfold endT
    dsimp only
    rw [if_pos rfl, if_pos hend]
end St
end Go.Proofs.YtipbilmnknmhmaaGreatDoor

/- A state's text, byte by byte. -/
namespace Go.Proofs.YtipbilmnknmhmaaGreatDoor
set_option maxRecDepth 100000
open Lx (Tk kt pack)
namespace St

def atomL (names : List ByteArray) (v a : Int) : List UInt8 := Cd.sgn v ++ [32, 64, 32] ++ Cd.nameL names a
def slotL (names : List ByteArray) (x : Slot) : List UInt8 := (if x.ret = true then [114, 101, 116, 32] else []) ++ atomL names x.v x.l
/-- A row of slots: a blank ahead of each, a comma between each two. -/
def rowL (names : List ByteArray) : List Slot → List UInt8
  | [] => []
  | x :: xs => 32 :: slotL names x ++ xs.flatMap fun y => [32, 44, 32] ++ slotL names y
def lineW (names : List ByteArray) (word : List UInt8) (xs : List Slot) : List UInt8 := word ++ rowL names xs ++ [32, 59, 10]
def textB (names : List ByteArray) (s : State) : List UInt8 :=
  [112, 99, 32] ++ atomL names s.pc.v s.pc.l ++ [32, 59, 10] ++ ([99, 111, 100, 101] ++ (if s.code = [] then [] else 32 :: Cd.textL names s.code) ++ [10]) ++ (lineW names [109, 101, 109] (s.mem.map toSlot) ++ (lineW names [115, 116, 97, 99, 107] s.stack ++ lineW names [111, 117, 116] (s.out.map toSlot)))

theorem tl_append (a b : List (Int × ByteArray)) : Cd.tl (a ++ b) = Cd.tl a ++ Cd.tl b := by simp [Cd.tl]
theorem tail_num (n : Int) : Lib.joinTail [32] (Cd.tl (Cd.numT n)) = 32 :: Cd.sgn n := by
  unfold Cd.numT Cd.sgn
  by_cases hn : n < 0
  · rw [if_pos hn, if_pos hn]; simp [Cd.tl, Lib.joinTail, Lx.pack_list, Cd.bMinus]
  · rw [if_neg hn, if_neg hn]; simp [Cd.tl, Lib.joinTail, Lx.pack_list]
theorem tail_atom (names : List ByteArray) (v a : Int) : Lib.joinTail [32] (Cd.tl (atomT names v a)) = 32 :: atomL names v a := by
  unfold atomT atomL
  rw [tl_append, Cd.tail_append, tail_num]
  simp [Cd.tl, Lib.joinTail, Cd.bAt, nameT, Cd.nameL]
theorem tail_slot (names : List ByteArray) (x : Slot) : Lib.joinTail [32] (Cd.tl (slotT names x)) = 32 :: slotL names x := by
  unfold slotT slotL
  by_cases hr : x.ret = true
  · rw [if_pos hr, if_pos hr, tl_append, Cd.tail_append, tail_atom]
    simp [Cd.tl, Lib.joinTail, bRet]
  · rw [if_neg hr, if_neg hr, List.nil_append, List.nil_append, tail_atom]
theorem tail_more (names : List ByteArray) : ∀ xs : List Slot, Lib.joinTail [32] (Cd.tl (xs.flatMap fun y => (3, bComma) :: slotT names y)) = xs.flatMap fun y => [32, 44, 32] ++ slotL names y
  | [] => rfl
  | x :: xs => by
    rw [List.flatMap_cons, List.flatMap_cons, tl_append, Cd.tail_append, tail_more names xs, show Cd.tl ((3, bComma) :: slotT names x) = [[44]] ++ Cd.tl (slotT names x) from rfl, Cd.tail_append, tail_slot]
    simp [Lib.joinTail]
theorem tail_row (names : List ByteArray) (xs : List Slot) : Lib.joinTail [32] (Cd.tl (rowT names xs)) = rowL names xs := by
  cases xs with
  | nil => rfl
  | cons x xs =>
    unfold rowT rowL
    rw [tl_append, Cd.tail_append, tail_slot, tail_more]
theorem line_word (p : Int × ByteArray) (ks : List (Int × ByteArray)) : lineL (p :: ks) = p.2.data.toList ++ Lib.joinTail [32] (Cd.tl ks) ++ [10] := by
  unfold lineL
  rw [show Cd.tl (p :: ks) = p.2.data.toList :: Cd.tl ks from rfl, Lib.join_cons]
theorem line_row (names : List ByteArray) (word : ByteArray) (xs : List Slot) : lineL ((1, word) :: (rowT names xs ++ [(3, Cd.bSemi)])) = lineW names word.data.toList xs := by
  rw [line_word, tl_append, Cd.tail_append, tail_row]
  unfold lineW
  simp [Cd.tl, Lib.joinTail, Cd.bSemi]
theorem tail_code (names : List ByteArray) (l : List Cd.In) : Lib.joinTail [32] (Cd.tl (l.flatMap (Cd.insT names))) = if l = [] then [] else 32 :: Cd.textL names l := by
  rw [← Cd.tail_join]
  by_cases h : l = []
  · rw [if_pos h, h]; rfl
  · rw [if_neg h, ← Cd.join_drop _ (by simpa using h)]
    rfl
theorem text_byte (names : List ByteArray) (s : State) : textL names s = textB names s := by
  unfold textL lines textB
  simp only [List.flatMap_cons, List.flatMap_nil, List.append_nil]
  rw [line_row, line_row, line_row, line_word, line_word, tl_append, Cd.tail_append, tail_atom, tail_code]
  simp [Cd.tl, Lib.joinTail, Cd.bSemi, bPc, bCode, bMem, bStack, bOut]
end St
end Go.Proofs.YtipbilmnknmhmaaGreatDoor
