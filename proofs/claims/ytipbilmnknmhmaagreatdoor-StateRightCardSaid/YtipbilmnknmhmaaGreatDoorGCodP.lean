/- Programs over plain data: what may be, the text, what tokens tell; what is written is read, what is read may be. -/
import Derived.Lib.ItoaNum
import Derived.Test.YtipbilmnknmhmaaGreatDoorGRulA
import Derived.Test.YtipbilmnknmhmaaGreatDoorGOrdC
import Derived.Test.YtipbilmnknmhmaaGreatDoorGPub
namespace Go.Proofs.YtipbilmnknmhmaaGreatDoor
set_option maxRecDepth 100000

namespace Cd
open Lx (Tk kt pack)

open Tb (tok Fine)
/-- An instruction. -/
structure In where
  op : Int
  n : Int
  l : Int
deriving DecidableEq
def number (op : Int) : Bool := decide (op = 1 ∨ op = 8 ∨ op = 9 ∨ op = 10)
/-- The greatest N of an instruction that has no label. -/
def most (op : Int) : Int := if op = 8 then 12 else if op = 9 then 3 else if op = 10 then 1 else 0
/-- May an instruction be, of so many labels? -/
def inB (k : Nat) (x : In) : Bool :=
  if x.op = 1 then decide (-20 ≤ x.n ∧ x.n ≤ 20 ∧ 0 ≤ x.l ∧ x.l < k)
  else decide (0 ≤ x.op ∧ x.op < 13 ∧ 0 ≤ x.n ∧ x.n ≤ most x.op ∧ x.l = 0)
def rightB (k : Nat) (l : List In) : Bool := decide (l.length ≤ 12) && l.all (inB k)

/-! Texts. -/
def sgn (n : Int) : List UInt8 := if n < 0 then [45, 32] ++ Lib.decDigits (-n).toNat else Lib.decDigits n.toNat
def nameL (names : List ByteArray) (k : Int) : List UInt8 := (names.getD k.toNat ByteArray.empty).data.toList
/-- An instruction's text ahead of its end. -/
def bodyL (names : List ByteArray) (x : In) : List UInt8 := Tb.wordL x.op.toNat ++ (if number x.op = true then 32 :: sgn x.n else []) ++ (if x.op = 1 then [32, 64, 32] ++ nameL names x.l else [])
def insL (names : List ByteArray) (x : In) : List UInt8 := bodyL names x ++ [32, 59]
def textL (names : List ByteArray) (l : List In) : List UInt8 := Lib.join (l.map (insL names)) [32]
/-- A program's text, or the error. -/
def text (names : List ByteArray) (up : List Nat) (l : List In) : ByteArray × Nat :=
  if checkN names up = 0 then (if rightB up.length l = true then (pack (textL names l), 0) else (ByteArray.empty, 1)) else (ByteArray.empty, checkN names up)

/-! What tokens tell. -/
def bAt : ByteArray := { data := #[64] }
def bSemi : ByteArray := { data := #[59] }
def bMinus : ByteArray := { data := #[45] }
def isM (l : List Tk) (t : ByteArray) (i : Nat) : Bool := decide ((tok l i).kind = 3 ∧ (tok l i).text = t)
def numV (s : List UInt8) : Nat := s.foldl (fun n c => 10 * n + c.toNat % 16) 0
def intJ (l : List Tk) (i : Nat) : Nat := if isM l bMinus i = true then i + 1 else i
def signed (b : Bool) (n : Nat) : Int := if b = true then -(n : Int) else (n : Int)
def intP (l : List Tk) (i : Nat) : Int × Nat × Nat :=
  if (tok l (intJ l i)).kind = 2 ∧ (tok l (intJ l i)).text.size ≤ 4 then (signed (isM l bMinus i) (numV (tok l (intJ l i)).text.data.toList), intJ l i + 1, 0)
  else (0, intJ l i, 4)
def markP (l : List Tk) (t : ByteArray) (i : Nat) : Nat × Nat := if isM l t i = true then (i + 1, 0) else (i, 4)
def nameP (names : List ByteArray) (l : List Tk) (i : Nat) : Int × Nat × Nat :=
  if (tok l i).kind = 1 then (match idxN names (tok l i).text with | none => (0, i, 6) | some a => ((a : Nat), i + 1, 0)) else (0, i, 4)
def labP (names : List ByteArray) (l : List Tk) (i : Nat) : Int × Nat × Nat := if isM l bAt i = true then nameP names l (i + 1) else (0, i, 4)
def numStep (op : Int) (l : List Tk) (i : Nat) : Int × Nat × Nat := if number op = true then intP l i else (0, i, 0)
def labStep (names : List ByteArray) (op : Int) (l : List Tk) (i : Nat) : Int × Nat × Nat := if op = 1 then labP names l i else (0, i, 0)
def endStep (op n : Int) (l : List Tk) (b : Int × Nat × Nat) : In × Nat × Nat := if b.2.2 = 0 then (⟨op, n, b.1⟩, (markP l bSemi b.2.1).1, (markP l bSemi b.2.1).2) else (⟨op, n, b.1⟩, b.2.1, b.2.2)
/-- All of an instruction behind its word. -/
def restP (names : List ByteArray) (op : Int) (l : List Tk) (i : Nat) : In × Nat × Nat :=
  if (numStep op l i).2.2 = 0 then endStep op (numStep op l i).1 l (labStep names op l (numStep op l i).2.1)
  else (⟨op, (numStep op l i).1, 0⟩, (numStep op l i).2.1, (numStep op l i).2.2)
def okP (k i : Nat) (r : In × Nat × Nat) : In × Nat × Nat := if r.2.2 = 0 then (if inB k r.1 = true then r else (r.1, i, 1)) else r
def oneP (names : List ByteArray) (k : Nat) (op : Int) (l : List Tk) (i : Nat) : In × Nat × Nat := okP k i (restP names op l (i + 1))
def opAt (l : List Tk) (i : Nat) : Option Nat := if (tok l i).kind = 1 then Tb.find (tok l i).text else none
def fromP (names : List ByteArray) (k : Nat) (l : List Tk) : Nat → List In → Nat → List In × Nat × Nat
  | 0, out, i => (out, i, 0)
  | n + 1, out, i => match opAt l i with
    | none => (out, i, 0)
    | some op => if out.length = 12 then ([], i, 8)
      else if (oneP names k op l i).2.2 = 0 then fromP names k l n (out ++ [(oneP names k op l i).1]) (oneP names k op l i).2.1
      else ([], (oneP names k op l i).2.1, (oneP names k op l i).2.2)
def endP (l : List Tk) (r : List In × Nat × Nat) : List In × Int × Nat :=
  if r.2.2 = 0 then (if (tok l r.2.1).kind = 0 then (r.1, 0, 0) else ([], (tok l r.2.1).pos, 4)) else ([], (tok l r.2.1).pos, r.2.2)
def parseL (names : List ByteArray) (k : Nat) (x : List Tk × Nat × Nat) : List In × Int × Nat :=
  if x.2.2 = 0 then endP x.1 (fromP names k x.1 13 [] 0) else ([], x.2.1, x.2.2)
def parse (names : List ByteArray) (up : List Nat) (s : List UInt8) : List In × Int × Nat :=
  if checkN names up = 0 then parseL names up.length (Lx.lex s) else ([], 0, checkN names up)

/-! Where a reading stands. -/
section
variable {l : List Tk}
theorem kind_next (hf : Fine l) {i : Nat} (h : i < l.length) (hk : (tok l i).kind ≠ 0) : i + 1 < l.length := Tb.tok_not_last hf h (.inl hk)
theorem isM_next (hf : Fine l) {i : Nat} (h : i < l.length) {t : ByteArray} (hm : isM l t i = true) : i + 1 < l.length :=
  kind_next hf h (by have := (of_decide_eq_true hm).1; omega)
theorem intJ_lt (hf : Fine l) {i : Nat} (h : i < l.length) : intJ l i < l.length := by
  unfold intJ
  by_cases hm : isM l bMinus i = true
  · rw [if_pos hm]; exact isM_next hf h hm
  · rw [if_neg hm]; exact h
theorem intP_lt (hf : Fine l) {i : Nat} (h : i < l.length) : (intP l i).2.1 < l.length := by
  have hj := intJ_lt hf h
  unfold intP
  by_cases hk : (tok l (intJ l i)).kind = 2 ∧ (tok l (intJ l i)).text.size ≤ 4
  · rw [if_pos hk]; exact kind_next hf hj (by have := hk.1; omega)
  · rw [if_neg hk]; exact hj
theorem markP_lt (hf : Fine l) {i : Nat} (h : i < l.length) (t : ByteArray) : (markP l t i).1 < l.length := by
  unfold markP
  by_cases hm : isM l t i = true
  · rw [if_pos hm]; exact isM_next hf h hm
  · rw [if_neg hm]; exact h
theorem nameP_lt (hf : Fine l) (names : List ByteArray) {i : Nat} (h : i < l.length) : (nameP names l i).2.1 < l.length := by
  unfold nameP
  by_cases hk : (tok l i).kind = 1
  · rw [if_pos hk]
    cases idxN names (tok l i).text with
    | none => exact h
    | some a => exact kind_next hf h (by omega)
  · rw [if_neg hk]; exact h
theorem labP_lt (hf : Fine l) (names : List ByteArray) {i : Nat} (h : i < l.length) : (labP names l i).2.1 < l.length := by
  unfold labP
  by_cases hm : isM l bAt i = true
  · rw [if_pos hm]; exact nameP_lt hf names (isM_next hf h hm)
  · rw [if_neg hm]; exact h
theorem numStep_lt (hf : Fine l) (op : Int) {i : Nat} (h : i < l.length) : (numStep op l i).2.1 < l.length := by
  unfold numStep
  split
  · exact intP_lt hf h
  · exact h
theorem labStep_lt (hf : Fine l) (names : List ByteArray) (op : Int) {i : Nat} (h : i < l.length) : (labStep names op l i).2.1 < l.length := by
  unfold labStep
  split
  · exact labP_lt hf names h
  · exact h
theorem restP_lt (hf : Fine l) (names : List ByteArray) (op : Int) {i : Nat} (h : i < l.length) : (restP names op l i).2.1 < l.length := by
  have h1 := numStep_lt hf op h
  have h2 := labStep_lt hf names op h1
  unfold restP endStep
  split
  · split
    · exact markP_lt hf h2 _
    · exact h2
  · exact h1
theorem oneP_lt (hf : Fine l) (names : List ByteArray) (k : Nat) (op : Int) {i : Nat} (h : i < l.length) (hk : (tok l i).kind = 1) : (oneP names k op l i).2.1 < l.length := by
  have h1 := restP_lt hf names op (kind_next hf h (by omega))
  unfold oneP okP
  split
  · split
    · exact h1
    · exact h
  · exact h1
theorem opAt_kind {i op : Nat} (h : opAt l i = some op) : (tok l i).kind = 1 ∧ Tb.find (tok l i).text = some op := by
  unfold opAt at h
  by_cases hk : (tok l i).kind = 1
  · rw [if_pos hk] at h; exact ⟨hk, h⟩
  · rw [if_neg hk] at h; cases h
theorem opAt_lt {i op : Nat} (h : opAt l i = some op) : op < 13 := (Tb.find_some (opAt_kind h).2).1
theorem fromP_lt (hf : Fine l) (names : List ByteArray) (k : Nat) : ∀ (n : Nat) (out : List In) (i : Nat), i < l.length → (fromP names k l n out i).2.1 < l.length
  | 0, _, _, h => h
  | n + 1, out, i, h => by
    unfold fromP
    cases ho : opAt l i with
    | none => exact h
    | some op =>
      have h1 := oneP_lt hf names k op h (opAt_kind ho).1
      dsimp only
      split
      · exact h
      · split
        · exact fromP_lt hf names k n _ _ h1
        · exact h1
theorem okP_ok {k i : Nat} {r : In × Nat × Nat} (h : (okP k i r).2.2 = 0) : inB k (okP k i r).1 = true := by
  unfold okP at h ⊢
  by_cases h0 : r.2.2 = 0
  · rw [if_pos h0] at h ⊢
    by_cases hb : inB k r.1 = true
    · rw [if_pos hb]; exact hb
    · rw [if_neg hb] at h; cases h
  · rw [if_neg h0] at h; exact absurd h h0
theorem fromP_right (names : List ByteArray) (k : Nat) : ∀ (n : Nat) (out : List In) (i : Nat), n + out.length = 13 → (∀ x ∈ out, inB k x = true) → (fromP names k l n out i).2.2 = 0 → rightB k (fromP names k l n out i).1 = true ∨ n = 0
  | 0, _, _, _, _, _ => .inr rfl
  | n + 1, out, i, hn, ho, h => by
    refine .inl ?_
    unfold fromP at h ⊢
    have hout : rightB k out = true := by
      unfold rightB
      rw [Bool.and_eq_true]
      exact ⟨decide_eq_true (by omega), List.all_eq_true.2 ho⟩
    cases e : opAt l i with
    | none => exact hout
    | some op =>
      rw [e] at h
      dsimp only at h ⊢
      by_cases hl : out.length = 12
      · rw [if_pos hl] at h; cases h
      · rw [if_neg hl] at h ⊢
        by_cases h0 : (oneP names k op l i).2.2 = 0
        · rw [if_pos h0] at h ⊢
          rcases fromP_right names k n (out ++ [(oneP names k op l i).1]) (oneP names k op l i).2.1 (by simp; omega) (fun x hx => by
            rcases List.mem_append.1 hx with hx | hx
            · exact ho x hx
            · rw [List.mem_singleton.1 hx]; exact okP_ok h0) h with h1 | h1
          · exact h1
          · omega
        · rw [if_neg h0] at h; exact absurd h h0
end
/-! What is written is read. -/
def numT (n : Int) : List (Int × ByteArray) := if n < 0 then [(3, bMinus), (2, pack (Lib.decDigits (-n).toNat))] else [(2, pack (Lib.decDigits n.toNat))]
def insT (names : List ByteArray) (x : In) : List (Int × ByteArray) :=
  (1, Tb.word x.op.toNat) :: ((if number x.op = true then numT x.n else []) ++ ((if x.op = 1 then [(3, bAt), (1, names.getD x.l.toNat ByteArray.empty)] else []) ++ [(3, bSemi)]))
theorem dec_one {u : Nat} (h : u < 10) : Lib.decDigits u = [UInt8.ofNat (48 + u)] := by rw [Lib.decDigits, dif_pos h]
theorem dec_two {u : Nat} (h : 10 ≤ u) (h2 : u < 100) : Lib.decDigits u = [UInt8.ofNat (48 + u / 10), UInt8.ofNat (48 + u % 10)] := by
  rw [Lib.decDigits, dif_neg (by omega), dec_one (by omega)]
  rfl
def dec20 (u : Nat) : List UInt8 := if u < 10 then [UInt8.ofNat (48 + u)] else [UInt8.ofNat (48 + u / 10), UInt8.ofNat (48 + u % 10)]
theorem dec_20 {u : Nat} (h : u < 21) : Lib.decDigits u = dec20 u := by
  unfold dec20
  by_cases h1 : u < 10
  · rw [if_pos h1, dec_one h1]
  · rw [if_neg h1, dec_two (by omega) (by omega)]
theorem dec_facts {u : Nat} (h : u < 21) : Lib.decDigits u ≠ [] ∧ (∀ c ∈ Lib.decDigits u, Lx.digit c = true) ∧ (Lib.decDigits u).length ≤ 2 ∧ numV (Lib.decDigits u) = u := by
  rw [dec_20 h]
  have h1 : ∀ u < 21, dec20 u ≠ [] ∧ (∀ c ∈ dec20 u, Lx.digit c = true) ∧ (dec20 u).length ≤ 2 ∧ numV (dec20 u) = u := by decide +kernel
  exact h1 u h

/-- What a lattice's names are. -/
structure Names (names : List ByteArray) (k : Nat) : Prop where
  len : names.length = k
  ok : ∀ i, i < k → nameOk (names.getD i ByteArray.empty) = true
  one : ∀ i j, i < k → j < k → names.getD i ByteArray.empty = names.getD j ByteArray.empty → i = j
theorem names_of {names : List ByteArray} {up : List Nat} (h : checkN names up = 0) : Names names up.length := by
  have hm := (checkN_zero h).1
  have hl := (mayB_len hm).2.2
  unfold mayB at hm
  simp only [Bool.and_eq_true] at hm
  obtain ⟨-, h1, h2⟩ := hm
  refine ⟨hl, fun i hi => ?_, fun i j hi hj e => ?_⟩
  · have := List.all_eq_true.1 h1 i (List.mem_range.2 hi)
    unfold rowOk at this
    exact (Bool.and_eq_true _ _ ▸ this).2
  · have := all_pairs.1 h2 i j hi hj
    unfold twoOk streq at this
    dsimp only at this
    rw [e] at this
    simpa using this
theorem low_letter {c : UInt8} (h : low c = true) : Lx.letter c = true := by
  unfold low at h
  unfold Lx.letter
  simp only [Bool.and_eq_true, decide_eq_true_eq] at h ⊢
  exact ⟨UInt8.le_iff_toNat_le.2 h.1, UInt8.le_iff_toNat_le.2 h.2⟩
theorem Names.letters {names : List ByteArray} {k i : Nat} (h : Names names k) (hi : i < k) : (names.getD i ByteArray.empty).data.toList ≠ [] ∧ (∀ c ∈ (names.getD i ByteArray.empty).data.toList, Lx.letter c = true) ∧ (names.getD i ByteArray.empty).data.toList.length ≤ 12 := by
  have := h.ok i hi
  unfold nameOk at this
  simp only [Bool.and_eq_true, decide_eq_true_eq] at this
  obtain ⟨⟨h1, h2⟩, h3⟩ := this
  rw [Lib.size_eq] at h1 h2
  exact ⟨by intro e; rw [e] at h1; simp at h1, fun c hc => low_letter (List.all_eq_true.1 h3 c hc), h2⟩
theorem inB_op {k : Nat} {x : In} (h : inB k x = true) : 0 ≤ x.op ∧ x.op < 13 := by
  unfold inB at h
  by_cases h1 : x.op = 1
  · omega
  · rw [if_neg h1] at h
    have := of_decide_eq_true h
    exact ⟨this.1, this.2.1⟩
theorem inB_n {k : Nat} {x : In} (h : inB k x = true) : -20 ≤ x.n ∧ x.n ≤ 20 := by
  unfold inB at h
  by_cases h1 : x.op = 1
  · rw [if_pos h1] at h
    have := of_decide_eq_true h
    exact ⟨this.1, this.2.1⟩
  · rw [if_neg h1] at h
    have := of_decide_eq_true h
    have hm : most x.op ≤ 12 := by unfold most; split <;> (try split) <;> (try split) <;> omega
    omega
theorem inB_l {k : Nat} {x : In} (h : inB k x = true) (h1 : x.op = 1) : x.l.toNat < k ∧ x.l = (x.l.toNat : Int) := by
  unfold inB at h
  rw [if_pos h1] at h
  have := of_decide_eq_true h
  omega
def tl (ks : List (Int × ByteArray)) : List (List UInt8) := ks.map fun p => p.2.data.toList
theorem tail_append (a b : List (List UInt8)) : Lib.joinTail [32] (a ++ b) = Lib.joinTail [32] a ++ Lib.joinTail [32] b := by simp [Lib.joinTail]
theorem insL_join (names : List ByteArray) (x : In) : 32 :: insL names x = Lib.joinTail [32] (tl (insT names x)) := by
  unfold insL bodyL insT
  have hn : Lib.joinTail [32] (tl (if number x.op = true then numT x.n else [])) = if number x.op = true then 32 :: sgn x.n else [] := by
    by_cases h : number x.op = true
    · rw [if_pos h, if_pos h]
      unfold numT sgn
      by_cases hn : x.n < 0
      · rw [if_pos hn, if_pos hn]; simp [tl, Lib.joinTail, Lx.pack_list, bMinus]
      · rw [if_neg hn, if_neg hn]; simp [tl, Lib.joinTail, Lx.pack_list]
    · rw [if_neg h, if_neg h]; rfl
  have hl : Lib.joinTail [32] (tl (if x.op = 1 then [(3, bAt), (1, names.getD x.l.toNat ByteArray.empty)] else [])) = if x.op = 1 then [32, 64, 32] ++ nameL names x.l else [] := by
    by_cases h : x.op = 1
    · rw [if_pos h, if_pos h]; simp [tl, Lib.joinTail, nameL, bAt]
    · rw [if_neg h, if_neg h]; rfl
  have he : ∀ (p : Int × ByteArray) (a b c : List (Int × ByteArray)), tl (p :: (a ++ (b ++ c))) = [p.2.data.toList] ++ (tl a ++ (tl b ++ tl c)) := fun p a b c => by simp [tl]
  rw [he, tail_append, tail_append, tail_append, hn, hl]
  simp [Lib.joinTail, tl, bSemi, Tb.word, Lx.pack_list]
theorem tail_join (names : List ByteArray) : ∀ l : List In, Lib.joinTail [32] (l.map (insL names)) = Lib.joinTail [32] (tl (l.flatMap (insT names)))
  | [] => rfl
  | x :: l => by
    have ih := tail_join names l
    rw [List.flatMap_cons]
    have e : tl (insT names x ++ l.flatMap (insT names)) = tl (insT names x) ++ tl (l.flatMap (insT names)) := by simp [tl]
    rw [e, tail_append, ← ih, ← insL_join]
    simp [Lib.joinTail]
theorem join_drop (r : List (List UInt8)) (h : r ≠ []) : 32 :: Lib.join r [32] = Lib.joinTail [32] r := by
  cases r with
  | nil => exact absurd rfl h
  | cons x r => rw [Lib.join_cons]; simp [Lib.joinTail]
theorem insL_len {names : List ByteArray} {k : Nat} {x : In} (hN : Names names k) (h : inB k x = true) : (insL names x).length ≤ 28 := by
  obtain ⟨h0, h1⟩ := inB_op h
  obtain ⟨n0, n1⟩ := inB_n h
  have hw := (Tb.word_letters (op := x.op.toNat) (by omega)).2.2
  have h2 : (if number x.op = true then 32 :: sgn x.n else []).length ≤ 5 := by
    split
    · unfold sgn
      split
      · have := (dec_facts (u := (-x.n).toNat) (by omega)).2.2.1
        simp only [List.length_cons, List.length_append, List.length_nil]; omega
      · have := (dec_facts (u := x.n.toNat) (by omega)).2.2.1
        simp only [List.length_cons]; omega
    · simp
  have h3 : (if x.op = 1 then [32, 64, 32] ++ nameL names x.l else []).length ≤ 15 := by
    by_cases ho : x.op = 1
    · rw [if_pos ho]
      have := (hN.letters (inB_l h ho).1).2.2
      unfold nameL
      simp only [List.length_cons, List.length_append, List.length_nil]; omega
    · rw [if_neg ho]; simp
  unfold insL bodyL
  simp only [List.length_append, List.length_cons, List.length_nil] at h2 h3 ⊢
  omega
theorem tail_len {names : List ByteArray} {k : Nat} (hN : Names names k) : ∀ l : List In, (∀ x ∈ l, inB k x = true) → (Lib.joinTail [32] (l.map (insL names))).length ≤ 29 * l.length
  | [], _ => by simp [Lib.joinTail]
  | x :: l, h => by
    have ih := tail_len hN l fun y hy => h y (by simp [hy])
    have hx := insL_len hN (h x (by simp))
    have e : Lib.joinTail [32] ((x :: l).map (insL names)) = 32 :: (insL names x ++ Lib.joinTail [32] (l.map (insL names))) := by simp [Lib.joinTail]
    rw [e]
    simp only [List.length_cons, List.length_append]
    omega
theorem textL_len {names : List ByteArray} {k : Nat} (hN : Names names k) {l : List In} (h : rightB k l = true) : (textL names l).length ≤ 348 := by
  unfold rightB at h
  rw [Bool.and_eq_true] at h
  have h1 := of_decide_eq_true h.1
  have h2 := tail_len hN l fun x hx => List.all_eq_true.1 h.2 x hx
  cases l with
  | nil => simp [textL, Lib.join_nil]
  | cons x l =>
    have := congrArg List.length (join_drop ((x :: l).map (insL names)) (by simp))
    unfold textL
    simp only [List.length_cons] at this h1 h2 ⊢
    omega
section
variable {l : List Tk} {i : Nat}
end
end Cd
end Go.Proofs.YtipbilmnknmhmaaGreatDoor

/- States over plain data: what may be, the text as lines of tokens, what tokens tell; what is written is read. Over no program but what CodP names. -/
namespace Go.Proofs.YtipbilmnknmhmaaGreatDoor
set_option maxRecDepth 100000
open Lx (Tk kt pack toks first)
open Tb (tok Fine)
namespace St

/-! Texts whose tokens stand with a blank or a line's end behind each. -/
/-- The bytes of tokens and the blank behind each. -/
def bytes (l : List ((Int × ByteArray) × UInt8)) : List UInt8 := l.flatMap fun q => q.1.2.data.toList ++ [q.2]
/-! States. -/
structure Atom where
  v : Int
  l : Int
structure Slot where
  ret : Bool
  v : Int
  l : Int
structure State where
  pc : Atom
  code : List Cd.In
  mem : List Atom
  stack : List Slot
  out : List Atom
deriving instance DecidableEq for Atom
deriving instance DecidableEq for Slot
def labB (k : Nat) (a : Int) : Bool := decide (0 ≤ a ∧ a < k)
def valB (v : Int) : Bool := decide (-20 ≤ v ∧ v ≤ 20)
def pcB (v : Int) : Bool := decide (0 ≤ v ∧ v ≤ 12)
def atomB (k : Nat) (x : Atom) : Bool := valB x.v && labB k x.l
def slotB (k : Nat) (x : Slot) : Bool := valB x.v && labB k x.l && (!x.ret || pcB x.v)
def rightB (k : Nat) (s : State) : Bool :=
  Cd.rightB k s.code && (pcB s.pc.v && labB k s.pc.l) && (decide (s.mem.length ≤ 6) && s.mem.all (atomB k)) && (decide (s.stack.length ≤ 12) && s.stack.all (slotB k)) && (decide (s.out.length ≤ 8) && s.out.all (atomB k))

/-! The text. -/
def bComma : ByteArray := { data := #[44] }
def bPc : ByteArray := { data := #[112, 99] }
def bCode : ByteArray := { data := #[99, 111, 100, 101] }
def bMem : ByteArray := { data := #[109, 101, 109] }
def bStack : ByteArray := { data := #[115, 116, 97, 99, 107] }
def bOut : ByteArray := { data := #[111, 117, 116] }
def bRet : ByteArray := { data := #[114, 101, 116] }
def nameT (names : List ByteArray) (a : Int) : ByteArray := names.getD a.toNat ByteArray.empty
def atomT (names : List ByteArray) (v a : Int) : List (Int × ByteArray) := Cd.numT v ++ [(3, Cd.bAt), (1, nameT names a)]
def slotT (names : List ByteArray) (x : Slot) : List (Int × ByteArray) := (if x.ret = true then [(1, bRet)] else []) ++ atomT names x.v x.l
def toSlot (x : Atom) : Slot := ⟨false, x.v, x.l⟩
def toAtom (x : Slot) : Atom := ⟨x.v, x.l⟩
def rowT (names : List ByteArray) : List Slot → List (Int × ByteArray)
  | [] => []
  | x :: xs => slotT names x ++ xs.flatMap fun y => (3, bComma) :: slotT names y
def lines (names : List ByteArray) (s : State) : List (List (Int × ByteArray)) :=
  [(1, bPc) :: (atomT names s.pc.v s.pc.l ++ [(3, Cd.bSemi)]), (1, bCode) :: s.code.flatMap (Cd.insT names), (1, bMem) :: (rowT names (s.mem.map toSlot) ++ [(3, Cd.bSemi)]), (1, bStack) :: (rowT names s.stack ++ [(3, Cd.bSemi)]), (1, bOut) :: (rowT names (s.out.map toSlot) ++ [(3, Cd.bSemi)])]
/-- A line: its tokens with blanks between them, and a line's end. -/
def lineL (ks : List (Int × ByteArray)) : List UInt8 := Lib.join (Cd.tl ks) [32] ++ [10]
def textL (names : List ByteArray) (s : State) : List UInt8 := (lines names s).flatMap lineL
def text (names : List ByteArray) (up : List Nat) (s : State) : ByteArray × Nat :=
  if checkN names up = 0 then (if rightB up.length s = true then (pack (textL names s), 0) else (ByteArray.empty, 1)) else (ByteArray.empty, checkN names up)
end St
end Go.Proofs.YtipbilmnknmhmaaGreatDoor

/- What tokens tell of a state; what is written is read as the same state, or is too many tokens; what is read may be. -/
namespace Go.Proofs.YtipbilmnknmhmaaGreatDoor
set_option maxRecDepth 100000
open Lx (Tk kt pack toks first)
open Tb (tok Fine)
namespace St

def isW (l : List Tk) (t : ByteArray) (i : Nat) : Bool := decide ((tok l i).kind = 1 ∧ (tok l i).text = t)
def andP {α β : Type} (r : α × Nat × Nat) (z : β) (f : α → Nat → β × Nat × Nat) : β × Nat × Nat := if r.2.2 = 0 then f r.1 r.2.1 else (z, r.2.1, r.2.2)
def wordE (l : List Tk) (t : ByteArray) (i : Nat) : Unit × Nat × Nat := if isW l t i = true then ((), i + 1, 0) else ((), i, 4)
def markE (l : List Tk) (t : ByteArray) (i : Nat) : Unit × Nat × Nat := if Cd.isM l t i = true then ((), i + 1, 0) else ((), i, 4)
def atomP (names : List ByteArray) (l : List Tk) (i : Nat) : Atom × Nat × Nat :=
  andP (Cd.intP l i) ⟨0, 0⟩ fun v j => andP (Cd.labP names l j) ⟨0, 0⟩ fun a j => (⟨v, a⟩, j, 0)
def retP (rets : Bool) (l : List Tk) (i : Nat) : Bool := rets && isW l bRet i
def slotP (names : List ByteArray) (rets : Bool) (l : List Tk) (i : Nat) : Slot × Nat × Nat :=
  andP (atomP names l (if retP rets l i = true then i + 1 else i)) ⟨false, 0, 0⟩ fun a j => (⟨retP rets l i, a.v, a.l⟩, j, 0)
def rowP (names : List ByteArray) (l : List Tk) (most : Nat) (rets : Bool) : Nat → List Slot → Nat → List Slot × Nat × Nat
  | 0, _, i => ([], i, 8)
  | n + 1, out, i => if out.length = most then ([], i, 8) else andP (slotP names rets l i) [] fun x j =>
      if Cd.isM l bComma j = true then rowP names l most rets n (out ++ [x]) (j + 1) else if Cd.isM l Cd.bSemi j = true then (out ++ [x], j + 1, 0) else ([], j, 4)
def wordP (names : List ByteArray) (l : List Tk) (word : ByteArray) (most : Nat) (rets : Bool) (i : Nat) : List Slot × Nat × Nat :=
  andP (wordE l word i) [] fun _ j => if Cd.isM l Cd.bSemi j = true then ([], j + 1, 0) else rowP names l most rets (most + 1) [] j
def zero : State := ⟨⟨0, 0⟩, [], [], [], []⟩
def endS (k i : Nat) (s : State) (j : Nat) : State × Nat × Nat := if rightB k s = true then (s, j, 0) else (zero, i, 1)
def fromS (names : List ByteArray) (k : Nat) (l : List Tk) (i : Nat) : State × Nat × Nat :=
  andP (wordE l bPc i) zero fun _ j => andP (atomP names l j) zero fun pc j => andP (markE l Cd.bSemi j) zero fun _ j => andP (wordE l bCode j) zero fun _ j =>
  andP (Cd.fromP names k l 13 [] j) zero fun code j => andP (wordP names l bMem 6 false j) zero fun mem j => andP (wordP names l bStack 12 true j) zero fun stack j =>
  andP (wordP names l bOut 8 false j) zero fun out j => endS k i ⟨pc, code, mem.map toAtom, stack, out.map toAtom⟩ j
def endT (l : List Tk) (r : State × Nat × Nat) : State × Int × Nat :=
  if r.2.2 = 0 then (if (tok l r.2.1).kind = 0 then (r.1, 0, 0) else (zero, (tok l r.2.1).pos, 4)) else (zero, (tok l r.2.1).pos, r.2.2)
def parseL (names : List ByteArray) (k : Nat) (x : List Tk × Nat × Nat) : State × Int × Nat :=
  if x.2.2 = 0 then endT x.1 (fromS names k x.1 0) else (zero, x.2.1, x.2.2)
def parse (names : List ByteArray) (up : List Nat) (s : List UInt8) : State × Int × Nat :=
  if checkN names up = 0 then parseL names up.length (Lx.lex s) else (zero, 0, checkN names up)

/-! What is read may be. -/
/-! What is written is read. -/
section
variable {l : List Tk} {i k : Nat} {names : List ByteArray}
theorem andP_do {α β : Type} {a : α} {j : Nat} {z : β} {f : α → Nat → β × Nat × Nat} : andP (a, j, 0) z f = f a j := by unfold andP; rw [if_pos rfl]
end
end St
end Go.Proofs.YtipbilmnknmhmaaGreatDoor

/- What is written of a state is read as the same state, or is too many tokens. -/
namespace Go.Proofs.YtipbilmnknmhmaaGreatDoor
set_option maxRecDepth 100000
open Lx (Tk kt pack toks first)
open Tb (tok Fine)
namespace St

end St
end Go.Proofs.YtipbilmnknmhmaaGreatDoor

/- A state's text, byte by byte. -/
namespace Go.Proofs.YtipbilmnknmhmaaGreatDoor
set_option maxRecDepth 100000
open Lx (Tk kt pack)
namespace St

def atomL (names : List ByteArray) (v a : Int) : List UInt8 := Cd.sgn v ++ [32, 64, 32] ++ Cd.nameL names a
def slotL (names : List ByteArray) (x : Slot) : List UInt8 := (if x.ret = true then [114, 101, 116, 32] else []) ++ atomL names x.v x.l
/-- A row of slots: a blank ahead of each, a comma between each two. -/
def rowL (names : List ByteArray) : List Slot → List UInt8
  | [] => []
  | x :: xs => 32 :: slotL names x ++ xs.flatMap fun y => [32, 44, 32] ++ slotL names y
def lineW (names : List ByteArray) (word : List UInt8) (xs : List Slot) : List UInt8 := word ++ rowL names xs ++ [32, 59, 10]
def textB (names : List ByteArray) (s : State) : List UInt8 :=
  [112, 99, 32] ++ atomL names s.pc.v s.pc.l ++ [32, 59, 10] ++ ([99, 111, 100, 101] ++ (if s.code = [] then [] else 32 :: Cd.textL names s.code) ++ [10]) ++ (lineW names [109, 101, 109] (s.mem.map toSlot) ++ (lineW names [115, 116, 97, 99, 107] s.stack ++ lineW names [111, 117, 116] (s.out.map toSlot)))

theorem tl_append (a b : List (Int × ByteArray)) : Cd.tl (a ++ b) = Cd.tl a ++ Cd.tl b := by simp [Cd.tl]
theorem tail_num (n : Int) : Lib.joinTail [32] (Cd.tl (Cd.numT n)) = 32 :: Cd.sgn n := by
  unfold Cd.numT Cd.sgn
  by_cases hn : n < 0
  · rw [if_pos hn, if_pos hn]; simp [Cd.tl, Lib.joinTail, Lx.pack_list, Cd.bMinus]
  · rw [if_neg hn, if_neg hn]; simp [Cd.tl, Lib.joinTail, Lx.pack_list]
theorem tail_atom (names : List ByteArray) (v a : Int) : Lib.joinTail [32] (Cd.tl (atomT names v a)) = 32 :: atomL names v a := by
  unfold atomT atomL
  rw [tl_append, Cd.tail_append, tail_num]
  simp [Cd.tl, Lib.joinTail, Cd.bAt, nameT, Cd.nameL]
theorem tail_slot (names : List ByteArray) (x : Slot) : Lib.joinTail [32] (Cd.tl (slotT names x)) = 32 :: slotL names x := by
  unfold slotT slotL
  by_cases hr : x.ret = true
  · rw [if_pos hr, if_pos hr, tl_append, Cd.tail_append, tail_atom]
    simp [Cd.tl, Lib.joinTail, bRet]
  · rw [if_neg hr, if_neg hr, List.nil_append, List.nil_append, tail_atom]
theorem tail_more (names : List ByteArray) : ∀ xs : List Slot, Lib.joinTail [32] (Cd.tl (xs.flatMap fun y => (3, bComma) :: slotT names y)) = xs.flatMap fun y => [32, 44, 32] ++ slotL names y
  | [] => rfl
  | x :: xs => by
    rw [List.flatMap_cons, List.flatMap_cons, tl_append, Cd.tail_append, tail_more names xs, show Cd.tl ((3, bComma) :: slotT names x) = [[44]] ++ Cd.tl (slotT names x) from rfl, Cd.tail_append, tail_slot]
    simp [Lib.joinTail]
theorem tail_row (names : List ByteArray) (xs : List Slot) : Lib.joinTail [32] (Cd.tl (rowT names xs)) = rowL names xs := by
  cases xs with
  | nil => rfl
  | cons x xs =>
    unfold rowT rowL
    rw [tl_append, Cd.tail_append, tail_slot, tail_more]
theorem line_word (p : Int × ByteArray) (ks : List (Int × ByteArray)) : lineL (p :: ks) = p.2.data.toList ++ Lib.joinTail [32] (Cd.tl ks) ++ [10] := by
  unfold lineL
  rw [show Cd.tl (p :: ks) = p.2.data.toList :: Cd.tl ks from rfl, Lib.join_cons]
theorem line_row (names : List ByteArray) (word : ByteArray) (xs : List Slot) : lineL ((1, word) :: (rowT names xs ++ [(3, Cd.bSemi)])) = lineW names word.data.toList xs := by
  rw [line_word, tl_append, Cd.tail_append, tail_row]
  unfold lineW
  simp [Cd.tl, Lib.joinTail, Cd.bSemi]
theorem tail_code (names : List ByteArray) (l : List Cd.In) : Lib.joinTail [32] (Cd.tl (l.flatMap (Cd.insT names))) = if l = [] then [] else 32 :: Cd.textL names l := by
  rw [← Cd.tail_join]
  by_cases h : l = []
  · rw [if_pos h, h]; rfl
  · rw [if_neg h, ← Cd.join_drop _ (by simpa using h)]
    rfl
theorem text_byte (names : List ByteArray) (s : State) : textL names s = textB names s := by
  unfold textL lines textB
  simp only [List.flatMap_cons, List.flatMap_nil, List.append_nil]
  rw [line_row, line_row, line_row, line_word, line_word, tl_append, Cd.tail_append, tail_atom, tail_code]
  simp [Cd.tl, Lib.joinTail, Cd.bSemi, bPc, bCode, bMem, bStack, bOut]
end St
end Go.Proofs.YtipbilmnknmhmaaGreatDoor
