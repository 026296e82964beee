/- Tokens over plain data: a text's bytes as a list. Over no program. -/
import Derived.Test.YtmgaaejghfgbnaaBase
import Derived.Lib.Strings
import Derived.Lib.Join
namespace Go.Proofs.Ytmgaaejghfgbnaa
set_option maxRecDepth 100000
namespace Lx

def blank (c : UInt8) : Bool := c == 9 || c == 10 || c == 32
def inLine (c : UInt8) : Bool := c != 10
def letter (c : UInt8) : Bool := decide (97 ≤ c) && decide (c ≤ 122)
def digit (c : UInt8) : Bool := decide (48 ≤ c) && decide (c ≤ 57)
def run (p : UInt8 → Bool) (r : List UInt8) : Nat := (r.takeWhile p).length
def comment : List UInt8 → Nat
  | [] => 0
  | c :: r => if c = 35 then 1 + run inLine r else 0
def marks : List UInt8 := [40, 41, 91, 93, 59, 58, 44, 60, 62, 64, 45, 61]
def mark : List UInt8 → Nat
  | [] => 0
  | c :: r => if c = 60 ∧ r.head? = some 61 then 2 else if marks.contains c then 1 else 0
theorem mark_cons (c : UInt8) (r : List UInt8) : mark (c :: r) = if c = 60 ∧ r.head? = some 61 then 2 else if marks.contains c then 1 else 0 := rfl
theorem comment_cons (c : UInt8) (r : List UInt8) : comment (c :: r) = if c = 35 then 1 + run inLine r else 0 := rfl
/-- What a text begins with: its kind (-1: left out), and how many bytes (0: a wrong byte). -/
def first (r : List UInt8) : Int × Nat :=
  if 0 < run blank r then (-1, run blank r)
  else if 0 < comment r then (-1, comment r)
  else if 0 < run letter r then (1, run letter r)
  else if 0 < run digit r then (2, run digit r)
  else if 0 < mark r then (3, mark r) else (-1, 0)

structure Tk where
  kind : Int
  text : ByteArray
  pos : Int

def pack (l : List UInt8) : ByteArray := ⟨l.toArray⟩
theorem pack_list (l : List UInt8) : (pack l).data.toList = l := rfl
theorem pack_data (s : ByteArray) : pack s.data.toList = s := Lib.mk_data s
theorem pack_size (l : List UInt8) : (pack l).size = l.length := by rw [Lib.size_eq, pack_list]
theorem empty_list : ByteArray.empty.data.toList = [] := rfl
theorem pack_inj {a b : List UInt8} (h : pack a = pack b) : a = b := by
  have := congrArg (fun s : ByteArray => s.data.toList) h
  exact this

/-- A text's tokens from a place on, and where they end (the end, or the first wrong byte). -/
def toks : Nat → List UInt8 → Nat → List Tk × Nat
  | 0, _, k => ([], k)
  | n + 1, r, k =>
    if r = [] then ([], k)
    else if (first r).2 = 0 then ([], k)
    else (if (first r).1 = -1 then (toks n (r.drop (first r).2) (k + (first r).2)).1
          else ⟨(first r).1, pack (r.take (first r).2), k⟩ :: (toks n (r.drop (first r).2) (k + (first r).2)).1,
          (toks n (r.drop (first r).2) (k + (first r).2)).2)
theorem toks_end (n k : Nat) : toks n [] k = ([], k) := by cases n <;> rfl
theorem toks_bad {n k : Nat} {r : List UInt8} (h : (first r).2 = 0) : toks n r k = ([], k) := by
  cases n with
  | zero => rfl
  | succ n =>
    unfold toks
    by_cases hr : r = []
    · rw [if_pos hr]
    · rw [if_neg hr, if_pos h]
theorem toks_skip {n k : Nat} {r : List UInt8} (hr : r ≠ []) (h : (first r).2 ≠ 0) (h1 : (first r).1 = -1) : toks (n + 1) r k = toks n (r.drop (first r).2) (k + (first r).2) := by
  simp only [toks]
  rw [if_neg hr, if_neg h, if_pos h1]
theorem toks_take {n k : Nat} {r : List UInt8} (hr : r ≠ []) (h : (first r).2 ≠ 0) (h1 : (first r).1 ≠ -1) : toks (n + 1) r k = (⟨(first r).1, pack (r.take (first r).2), k⟩ :: (toks n (r.drop (first r).2) (k + (first r).2)).1, (toks n (r.drop (first r).2) (k + (first r).2)).2) := by
  simp only [toks]
  rw [if_neg hr, if_neg h, if_neg h1]

theorem run_le (p : UInt8 → Bool) (r : List UInt8) : run p r ≤ r.length := (List.takeWhile_prefix p).length_le
theorem comment_le (r : List UInt8) : comment r ≤ r.length := by
  cases r with
  | nil => simp [comment]
  | cons c r =>
    simp only [comment, List.length_cons]
    have := run_le inLine r
    split <;> omega
theorem mark_le (r : List UInt8) : mark r ≤ r.length := by
  rcases r with _ | ⟨c, r⟩
  · exact Nat.le_refl _
  · rw [mark_cons]
    by_cases h : c = 60 ∧ r.head? = some 61
    · rw [if_pos h]
      rcases r with _ | ⟨d, r⟩
      · simp at h
      · simp
    · rw [if_neg h]
      by_cases h2 : marks.contains c = true
      · rw [if_pos h2]; simp
      · rw [if_neg h2]; simp
theorem first_le (r : List UInt8) : (first r).2 ≤ r.length := by
  unfold first
  repeat' split
  · exact run_le _ _
  · exact comment_le _
  · exact run_le _ _
  · exact run_le _ _
  · exact mark_le _
  · simp
theorem first_kind (r : List UInt8) : (first r).1 = -1 ∨ 1 ≤ (first r).1 ∧ (first r).1 ≤ 3 := by
  unfold first
  repeat' split
  all_goals simp

/-- The whole of Lex: the tokens, a place, an error's number. -/
def lex (s : List UInt8) : List Tk × Nat × Nat :=
  if 2000 < s.length then ([], 0, 8)
  else if (toks s.length s 0).2 < s.length then ([], (toks s.length s 0).2, 4)
  else if 200 < (toks s.length s 0).1.length + 1 then ([], 0, 8)
  else ((toks s.length s 0).1 ++ [⟨0, ByteArray.empty, ((toks s.length s 0).2 : Nat)⟩], 0, 0)

/-- The texts that Join joins. -/
def texts (l : List Tk) : List ByteArray := (l.map Tk.text).filter fun s => !s.data.toList.isEmpty
def joined (l : List Tk) : ByteArray := pack (Lib.join ((texts l).map (·.data.toList)) [32])
end Lx
end Go.Proofs.Ytmgaaejghfgbnaa
