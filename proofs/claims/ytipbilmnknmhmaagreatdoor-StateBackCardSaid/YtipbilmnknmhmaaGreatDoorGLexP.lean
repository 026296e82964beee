/- Tokens over plain data: a text's bytes as a list. Over no program. -/
import Derived.Lib.Strings
import Derived.Lib.Join
import Derived.Test.YtipbilmnknmhmaaGreatDoorGBase
namespace Go.Proofs.YtipbilmnknmhmaaGreatDoor
set_option maxRecDepth 100000
namespace Lx

def blank (c : UInt8) : Bool := c == 9 || c == 10 || c == 32
def inLine (c : UInt8) : Bool := c != 10
def letter (c : UInt8) : Bool := decide (97 ≤ c) && decide (c ≤ 122)
def digit (c : UInt8) : Bool := decide (48 ≤ c) && decide (c ≤ 57)
def run (p : UInt8 → Bool) (r : List UInt8) : Nat := (r.takeWhile p).length
def comment : List UInt8 → Nat
  | [] => 0
  | c :: r => if c = 35 then 1 + run inLine r else 0
def marks : List UInt8 := [40, 41, 91, 93, 59, 58, 44, 60, 62, 64, 45, 61]
def mark : List UInt8 → Nat
  | [] => 0
  | c :: r => if c = 60 ∧ r.head? = some 61 then 2 else if marks.contains c then 1 else 0
theorem mark_cons (c : UInt8) (r : List UInt8) : mark (c :: r) = if c = 60 ∧ r.head? = some 61 then 2 else if marks.contains c then 1 else 0 := rfl
theorem comment_cons (c : UInt8) (r : List UInt8) : comment (c :: r) = if c = 35 then 1 + run inLine r else 0 := rfl
/-- What a text begins with: its kind (-1: left out), and how many bytes (0: a wrong byte). -/
def first (r : List UInt8) : Int × Nat :=
  if 0 < run blank r then (-1, run blank r)
  else if 0 < comment r then (-1, comment r)
  else if 0 < run letter r then (1, run letter r)
  else if 0 < run digit r then (2, run digit r)
  else if 0 < mark r then (3, mark r) else (-1, 0)

structure Tk where
  kind : Int
  text : ByteArray
  pos : Int

def pack (l : List UInt8) : ByteArray := ⟨l.toArray⟩
theorem pack_list (l : List UInt8) : (pack l).data.toList = l := rfl
theorem pack_data (s : ByteArray) : pack s.data.toList = s := Lib.mk_data s
theorem pack_size (l : List UInt8) : (pack l).size = l.length := by rw [Lib.size_eq, pack_list]
theorem empty_list : ByteArray.empty.data.toList = [] := rfl
/-- A text's tokens from a place on, and where they end (the end, or the first wrong byte). -/
def toks : Nat → List UInt8 → Nat → List Tk × Nat
  | 0, _, k => ([], k)
  | n + 1, r, k =>
    if r = [] then ([], k)
    else if (first r).2 = 0 then ([], k)
    else (if (first r).1 = -1 then (toks n (r.drop (first r).2) (k + (first r).2)).1
          else ⟨(first r).1, pack (r.take (first r).2), k⟩ :: (toks n (r.drop (first r).2) (k + (first r).2)).1,
          (toks n (r.drop (first r).2) (k + (first r).2)).2)
theorem toks_end (n k : Nat) : toks n [] k = ([], k) := by cases n <;> rfl
theorem toks_bad {n k : Nat} {r : List UInt8} (h : (first r).2 = 0) : toks n r k = ([], k) := by
  cases n with
  | zero => rfl
  | succ n =>
    unfold toks
    by_cases hr : r = []
    · rw [if_pos hr]
    · rw [if_neg hr, if_pos h]
theorem toks_skip {n k : Nat} {r : List UInt8} (hr : r ≠ []) (h : (first r).2 ≠ 0) (h1 : (first r).1 = -1) : toks (n + 1) r k = toks n (r.drop (first r).2) (k + (first r).2) := by
  simp only [toks]
  rw [if_neg hr, if_neg h, if_pos h1]
theorem toks_take {n k : Nat} {r : List UInt8} (hr : r ≠ []) (h : (first r).2 ≠ 0) (h1 : (first r).1 ≠ -1) : toks (n + 1) r k = (⟨(first r).1, pack (r.take (first r).2), k⟩ :: (toks n (r.drop (first r).2) (k + (first r).2)).1, (toks n (r.drop (first r).2) (k + (first r).2)).2) := by
  simp only [toks]
  rw [if_neg hr, if_neg h, if_neg h1]

theorem run_le (p : UInt8 → Bool) (r : List UInt8) : run p r ≤ r.length := (List.takeWhile_prefix p).length_le
theorem comment_le (r : List UInt8) : comment r ≤ r.length := by
  cases r with
  | nil => simp [comment]
  | cons c r =>
    simp only [comment, List.length_cons]
    have := run_le inLine r
    split <;> omega
theorem mark_le (r : List UInt8) : mark r ≤ r.length := by
  rcases r with _ | ⟨c, r⟩
  · exact Nat.le_refl _
  · rw [mark_cons]
    by_cases h : c = 60 ∧ r.head? = some 61
    · rw [if_pos h]
      rcases r with _ | ⟨d, r⟩
      · simp at h
      · simp
    · rw [if_neg h]
      by_cases h2 : marks.contains c = true
      · rw [if_pos h2]; simp
      · rw [if_neg h2]; simp
theorem first_le (r : List UInt8) : (first r).2 ≤ r.length := by
  unfold first
  repeat' split
  · exact run_le _ _
  · exact comment_le _
  · exact run_le _ _
  · exact run_le _ _
  · exact mark_le _
  · simp
/-- The whole of Lex: the tokens, a place, an error's number. -/
def lex (s : List UInt8) : List Tk × Nat × Nat :=
  if 2000 < s.length then ([], 0, 8)
  else if (toks s.length s 0).2 < s.length then ([], (toks s.length s 0).2, 4)
  else if 200 < (toks s.length s 0).1.length + 1 then ([], 0, 8)
  else ((toks s.length s 0).1 ++ [⟨0, ByteArray.empty, ((toks s.length s 0).2 : Nat)⟩], 0, 0)

end Lx
end Go.Proofs.YtipbilmnknmhmaaGreatDoor

/- Rules over plain data: what tokens tell, and what is made right. Over no program. -/
namespace Go.Proofs.YtipbilmnknmhmaaGreatDoor
set_option maxRecDepth 100000
namespace Rl
open Lx (Tk)

/-- How far tokens are read, how many brackets are open, and the rule so far. -/
structure St where
  pos : Nat
  deep : Nat
  out : List Int
/-- A state, and an error's number (0: none). -/
abbrev Res := St × Nat

abbrev wTrue : ByteArray := { data := #[116, 114, 117, 101] }
abbrev wFalse : ByteArray := { data := #[102, 97, 108, 115, 101] }
abbrev wAnd : ByteArray := { data := #[97, 110, 100] }
abbrev wOr : ByteArray := { data := #[111, 114] }
abbrev wFlows : ByteArray := { data := #[60, 61] }
abbrev wJoin : ByteArray := { data := #[106, 111, 105, 110] }
abbrev wMeet : ByteArray := { data := #[109, 101, 101, 116] }
abbrev wOpen : ByteArray := { data := #[40] }
abbrev wShut : ByteArray := { data := #[41] }
abbrev wOpenL : ByteArray := { data := #[91] }
abbrev wShutL : ByteArray := { data := #[93] }
/-- What each word puts. -/
def table : List (ByteArray × Int) :=
  [(wTrue, 1), (wFalse, 2), (wAnd, 3), (wOr, 4), (wFlows, 5), ({ data := #[98, 111, 116] }, 6), ({ data := #[116, 111, 112] }, 7), ({ data := #[112, 99] }, 8),
   ({ data := #[111, 110, 101] }, 9), ({ data := #[116, 119, 111] }, 10), ({ data := #[116, 104, 114, 101, 101] }, 11), (wJoin, 12), (wMeet, 13)]
def look (s : ByteArray) : List (ByteArray × Int) → Int
  | [] => 0
  | (k, n) :: r => if k = s then n else look s r
def opOf (s : ByteArray) : Int := look s table
theorem op_and : opOf wAnd = 3 := by decide
theorem op_or : opOf wOr = 4 := by decide
theorem op_join : opOf wJoin = 12 := by decide
theorem op_meet : opOf wMeet = 13 := by decide

/-- Is a token a word or a mark of a text? -/
def isN (l : List Tk) (k : Nat) (w : ByteArray) : Bool :=
  match l[k]? with
  | some t => decide ((t.kind = 1 ∨ t.kind = 3) ∧ t.text = w)
  | none => false
def adv (s : St) : St := { s with pos := s.pos + 1 }
def put (op : Int) (s : St) : Res := if s.out.length = 40 then (s, 8) else ({ s with out := s.out ++ [op] }, 0)
def loop (l : List Tk) (more : St → Res) (w : ByteArray) : Nat → St → Res
  | 0, s => (s, 0)
  | n + 1, s => if isN l s.pos w = true then
      (if (more (adv s)).2 = 0 then
        (if (put (opOf w) (more (adv s)).1).2 = 0 then loop l more w n (put (opOf w) (more (adv s)).1).1 else put (opOf w) (more (adv s)).1)
       else more (adv s))
    else (s, 0)
def rows (l : List Tk) (part : St → Res) : List ByteArray → St → Res
  | [], s => part s
  | w :: ws, s => if (rows l part ws s).2 = 0 then loop l (rows l part ws) w l.length (rows l part ws s).1 else rows l part ws s
def into (s : St) : St := { s with pos := s.pos + 1, deep := s.deep + 1 }
def outof (s : St) : St := { s with pos := s.pos + 1, deep := s.deep - 1 }
def inside (l : List Tk) (part : St → Res) (fin : ByteArray) (s : St) : Res :=
  if s.deep = 12 then (s, 5)
  else if (part (into s)).2 = 0 then
    (if isN l (part (into s)).1.pos fin = true then (outof (part (into s)).1, 0) else ((part (into s)).1, 4))
  else part (into s)
/-- What an atom's word puts: 0, if a token is none. -/
def word (l : List Tk) (k : Nat) : Int :=
  match l[k]? with
  | some t => if t.kind = 1 ∧ 6 ≤ opOf t.text ∧ opOf t.text ≤ 11 then opOf t.text else 0
  | none => 0
def atom (l : List Tk) (lab : St → Res) (s : St) : Res :=
  if isN l s.pos wOpenL = true then inside l lab wShutL s
  else if word l s.pos = 0 then (s, 4) else put (word l s.pos) (adv s)
def label (l : List Tk) : Nat → St → Res
  | 0, s => (s, 5)
  | d + 1, s => rows l (atom l (label l d)) [wJoin, wMeet] s
def flow (l : List Tk) (lab : St → Res) (s : St) : Res :=
  if (lab s).2 = 0 then
    (if isN l (lab s).1.pos wFlows = true then
      (if (lab (adv (lab s).1)).2 = 0 then put 5 (lab (adv (lab s).1)).1 else lab (adv (lab s).1))
     else ((lab s).1, 4))
  else lab s
def prim (l : List Tk) (cnd lab : St → Res) (s : St) : Res :=
  if isN l s.pos wTrue = true then put 1 (adv s)
  else if isN l s.pos wFalse = true then put 2 (adv s)
  else if isN l s.pos wOpen = true then inside l cnd wShut s
  else flow l lab s
def cond (l : List Tk) : Nat → St → Res
  | 0, s => (s, 5)
  | d + 1, s => rows l (prim l (cond l d) (label l (d + 1))) [wOr, wAnd] s
def read (l : List Tk) (lab : Bool) (i : Nat) : Res := if lab then label l 13 ⟨i, 0, []⟩ else cond l 13 ⟨i, 0, []⟩

theorem isN_some {l : List Tk} {k : Nat} {w : ByteArray} (h : isN l k w = true) : ∃ t, l[k]? = some t ∧ (t.kind = 1 ∨ t.kind = 3) ∧ t.text = w := by
  unfold isN at h
  split at h
  · rename_i t ht
    exact ⟨t, ht, (of_decide_eq_true h).1, (of_decide_eq_true h).2⟩
  · cases h
/-- A pile's last two things, and what is put in their place. -/
def two (pile : List Bool) (take put : Bool) : Option (List Bool) :=
  if 2 ≤ pile.length ∧ pile[pile.length - 2]? = some take ∧ pile[pile.length - 1]? = some take then some (pile.take (pile.length - 2) ++ [put]) else none
def step (pile : List Bool) (n : Int) : Option (List Bool) :=
  if n = 1 ∨ n = 2 then some (pile ++ [false])
  else if 6 ≤ n ∧ n ≤ 11 then some (pile ++ [true])
  else if n = 3 ∨ n = 4 then two pile false false
  else if n = 5 then two pile true false
  else if n = 12 ∨ n = 13 then two pile true true
  else none
def pileOf : List Bool → List Int → Option (List Bool)
  | p, [] => some p
  | p, n :: r => (step p n).bind fun q => pileOf q r
def right (rule : List Int) (lab : Bool) : Bool := decide (rule.length ≤ 40 ∧ pileOf [] rule = some [lab])
end Rl
end Go.Proofs.YtipbilmnknmhmaaGreatDoor

/- What is told, read again up to its end alone, is the same. Over no program. -/
namespace Go.Proofs.YtipbilmnknmhmaaGreatDoor
set_option maxRecDepth 100000
namespace Rl
open Lx (Tk)

/-- The tokens m are those of l from i up to e, and an end. -/
structure Part (l m : List Tk) (i e : Nat) : Prop where
  same : ∀ j, i ≤ j → j < e → m[j - i]? = l[j]?
  fin : ∃ t, m[e - i]? = some t ∧ t.kind = 0
  len : m.length = e - i + 1
  le : i ≤ e
  lt : e < l.length
section
variable {l m : List Tk} {i e : Nat}
theorem Part.no (h : Part l m i e) (w : ByteArray) : isN m (e - i) w = false := by
  obtain ⟨t, ht, hk⟩ := h.fin
  unfold isN
  rw [ht]
  exact decide_eq_false fun h1 => by omega
theorem Part.yes (h : Part l m i e) {k : Nat} (hi : i ≤ k) (hk : k < e) (w : ByteArray) : isN m (k - i) w = isN l k w := by
  unfold isN
  rw [h.same k hi hk]
theorem Part.word (h : Part l m i e) {k : Nat} (hi : i ≤ k) (hk : k < e) : word m (k - i) = word l k := by
  unfold Rl.word
  rw [h.same k hi hk]
end
section
variable {l m : List Tk} {i e : Nat}
end
end Rl
end Go.Proofs.YtipbilmnknmhmaaGreatDoor

/- Tokens over plain data: they stand where they are told; joined, and read again, they are the same. -/
namespace Go.Proofs.YtipbilmnknmhmaaGreatDoor
set_option maxRecDepth 100000
namespace Lx

theorem run_cons (p : UInt8 → Bool) (c : UInt8) (r : List UInt8) : run p (c :: r) = if p c then run p r + 1 else 0 := by
  unfold run
  rw [List.takeWhile_cons]
  split <;> simp
theorem run_yes {p : UInt8 → Bool} {c : UInt8} (h : p c = true) (r : List UInt8) : run p (c :: r) = run p r + 1 := by rw [run_cons, if_pos h]
theorem run_no {p : UInt8 → Bool} {c : UInt8} (h : p c = false) (r : List UInt8) : run p (c :: r) = 0 := by rw [run_cons, if_neg (by rw [h]; decide)]
theorem letter_blank {c : UInt8} (h : letter c = true) : blank c = false := by
  cases hb : blank c
  · rfl
  · simp only [blank, Bool.or_eq_true, beq_iff_eq] at hb
    rcases hb with (rfl | rfl) | rfl <;> exact absurd h (by decide)
theorem digit_blank {c : UInt8} (h : digit c = true) : blank c = false := by
  cases hb : blank c
  · rfl
  · simp only [blank, Bool.or_eq_true, beq_iff_eq] at hb
    rcases hb with (rfl | rfl) | rfl <;> exact absurd h (by decide)
theorem letter_35 {c : UInt8} (h : letter c = true) : c ≠ 35 := by rintro rfl; exact absurd h (by decide)
theorem digit_35 {c : UInt8} (h : digit c = true) : c ≠ 35 := by rintro rfl; exact absurd h (by decide)
theorem digit_letter {c : UInt8} (h : digit c = true) : letter c = false := by
  simp only [digit, Bool.and_eq_true, decide_eq_true_eq, UInt8.le_iff_toNat_le] at h
  cases hl : letter c
  · rfl
  · simp only [letter, Bool.and_eq_true, decide_eq_true_eq, UInt8.le_iff_toNat_le] at hl
    have h1 : (57 : UInt8).toNat = 57 := rfl
    have h2 : (97 : UInt8).toNat = 97 := rfl
    omega
theorem mark_cases {c : UInt8} (h : marks.contains c = true) : blank c = false ∧ c ≠ 35 ∧ letter c = false ∧ digit c = false := by
  simp only [marks, List.contains_iff_mem, List.mem_cons, List.not_mem_nil, or_false] at h
  rcases h with rfl | rfl | rfl | rfl | rfl | rfl | rfl | rfl | rfl | rfl | rfl | rfl <;> decide
theorem first_letter {c : UInt8} (h : letter c = true) (r : List UInt8) : first (c :: r) = (1, run letter (c :: r)) := by
  unfold first
  rw [run_no (letter_blank h), comment_cons, if_neg (letter_35 h), if_neg (Nat.lt_irrefl 0), if_neg (Nat.lt_irrefl 0), if_pos (by rw [run_yes h]; omega)]
theorem first_digit {c : UInt8} (h : digit c = true) (r : List UInt8) : first (c :: r) = (2, run digit (c :: r)) := by
  unfold first
  rw [run_no (digit_blank h), comment_cons, if_neg (digit_35 h), run_no (digit_letter h), if_neg (Nat.lt_irrefl 0), if_neg (Nat.lt_irrefl 0), if_neg (Nat.lt_irrefl 0), if_pos (by rw [run_yes h]; omega)]
theorem first_mark {c : UInt8} (h : marks.contains c = true) (r : List UInt8) : first (c :: r) = (3, mark (c :: r)) := by
  obtain ⟨h1, h2, h3, h4⟩ := mark_cases h
  unfold first
  rw [run_no h1, comment_cons, if_neg h2, run_no h3, run_no h4, if_neg (Nat.lt_irrefl 0), if_neg (Nat.lt_irrefl 0), if_neg (Nat.lt_irrefl 0), if_neg (Nat.lt_irrefl 0), if_pos]
  rw [mark_cons, h]
  split
  · omega
  · simp
theorem first_blank {c : UInt8} (h : blank c = true) (r : List UInt8) : first (c :: r) = (-1, run blank (c :: r)) := by
  unfold first
  rw [if_pos (by rw [run_yes h]; omega)]
theorem first_sort {c : UInt8} {r : List UInt8} (h : (first (c :: r)).1 ≠ -1) : letter c = true ∨ digit c = true ∨ marks.contains c = true := by
  cases h1 : letter c
  · cases h2 : digit c
    · cases h3 : marks.contains c
      · refine absurd ?_ h
        have hm : mark (c :: r) = 0 := by
          rw [mark_cons, h3, if_neg, if_neg (by decide)]
          rintro ⟨rfl, _⟩
          exact absurd h3 (by decide)
        unfold first
        rw [run_no h1, run_no h2, hm, if_neg (Nat.lt_irrefl 0), if_neg (Nat.lt_irrefl 0), if_neg (Nat.lt_irrefl 0)]
        split
        · rfl
        · split <;> rfl
      · exact .inr (.inr rfl)
    · exact .inr (.inl rfl)
  · exact .inl rfl

/-- What may stand behind a token that stands alone. -/
def Stop (x : List UInt8) : Prop := x = [] ∨ ∃ y, x = 32 :: y
theorem run_stop {p : UInt8 → Bool} {x : List UInt8} (h : Stop x) (hp : p 32 = false) : ∀ l : List UInt8, (∀ c ∈ l, p c = true) → run p (l ++ x) = l.length
  | [], _ => by
    rcases h with rfl | ⟨y, rfl⟩
    · rfl
    · exact run_no hp y
  | c :: l, hl => by
    rw [List.cons_append, run_yes (hl c (by simp)), run_stop h hp l (fun d hd => hl d (by simp [hd])), List.length_cons]
theorem take_run (p : UInt8 → Bool) (r : List UInt8) : r.take (run p r) = r.takeWhile p := (List.prefix_iff_eq_take.1 (List.takeWhile_prefix p)).symm
theorem all_run (p : UInt8 → Bool) : ∀ r : List UInt8, ∀ c ∈ r.takeWhile p, p c = true
  | [], _, h => by simp at h
  | d :: r, c, h => by
    rw [List.takeWhile_cons] at h
    split at h
    · rcases List.mem_cons.1 h with rfl | h
      · assumption
      · exact all_run p r c h
    · simp at h

/-- A token that is read as itself wherever it stands alone. -/
def Alone (t : Tk) : Prop := 1 ≤ t.kind ∧ t.kind ≤ 3 ∧ t.text.data.toList ≠ [] ∧ ∀ x, Stop x → first (t.text.data.toList ++ x) = (t.kind, t.text.data.toList.length)
theorem alone_run {p : UInt8 → Bool} {kd : Int} (hk : 1 ≤ kd ∧ kd ≤ 3) (hp : p 32 = false) (hf : ∀ c r, p c = true → first (c :: r) = (kd, run p (c :: r))) (c : UInt8) (r : List UInt8) (hc : p c = true) (k : Int) : Alone ⟨kd, pack ((c :: r).take (run p (c :: r))), k⟩ := by
  refine ⟨hk.1, hk.2, ?_, fun x hx => ?_⟩
  · rw [pack_list, take_run, List.takeWhile_cons, if_pos hc]
    exact List.cons_ne_nil _ _
  · have ha := all_run p (c :: r)
    rw [pack_list, take_run]
    rw [List.takeWhile_cons, if_pos hc] at ha ⊢
    rw [List.cons_append, hf _ _ hc, ← List.cons_append, run_stop hx hp _ ha]
theorem alone_first {c : UInt8} {r : List UInt8} (h : (first (c :: r)).1 ≠ -1) (k : Int) : Alone ⟨(first (c :: r)).1, pack ((c :: r).take (first (c :: r)).2), k⟩ := by
  rcases first_sort h with h1 | h1 | h1
  · rw [first_letter h1]
    exact alone_run (by decide) (by decide) (fun c r hc => first_letter hc r) c r h1 k
  · rw [first_digit h1]
    exact alone_run (by decide) (by decide) (fun c r hc => first_digit hc r) c r h1 k
  · rw [first_mark h1]
    by_cases h2 : c = 60 ∧ r.head? = some 61
    · rw [mark_cons, if_pos h2]
      obtain ⟨rfl, h2⟩ := h2
      rcases r with _ | ⟨d, r⟩
      · simp at h2
      · simp only [List.head?_cons, Option.some.injEq] at h2
        subst h2
        refine ⟨show (1 : Int) ≤ 3 by decide, show (3 : Int) ≤ 3 by decide, by simp [pack_list], fun x _ => ?_⟩
        show first (60 :: 61 :: x) = (3, 2)
        rw [first_mark (by decide), mark_cons, if_pos ⟨rfl, rfl⟩]
    · rw [mark_cons, if_neg h2, if_pos h1]
      refine ⟨show (1 : Int) ≤ 3 by decide, show (3 : Int) ≤ 3 by decide, by simp [pack_list], fun x hx => ?_⟩
      show first (c :: x) = (3, 1)
      rw [first_mark h1, mark_cons, if_neg, if_pos h1]
      rintro ⟨_, h⟩
      rcases hx with rfl | ⟨y, rfl⟩ <;> simp at h

/-- Tokens stand where they are told, one behind the other. -/
def Stands (s : List UInt8) : Nat → List Tk → Prop
  | _, [] => True
  | k, t :: l => ∃ p : Nat, t.pos = p ∧ k ≤ p ∧ p + t.text.data.toList.length ≤ s.length ∧ Lib.hasPrefix (s.drop p) t.text.data.toList = true ∧ Stands s (p + t.text.data.toList.length) l
theorem Stands.less {s : List UInt8} {k k' : Nat} (h : k ≤ k') : ∀ {l : List Tk}, Stands s k' l → Stands s k l
  | [], _ => trivial
  | _ :: _, ⟨p, h1, h2, h3⟩ => ⟨p, h1, by omega, h3⟩

structure Told (s : List UInt8) (k : Nat) (r : List UInt8) (q : List Tk × Nat) : Prop where
  alone : ∀ t ∈ q.1, Alone t
  le : q.2 ≤ s.length
  sum : Lib.lens (q.1.map fun t => t.text.data.toList) ≤ r.length
  stands : ∀ t : Tk, t.pos = s.length → q.2 = s.length → t.text = ByteArray.empty → Stands s k (q.1 ++ [t])
theorem hasPrefix_take (r : List UInt8) (n : Nat) : Lib.hasPrefix r (r.take n) = true := by
  unfold Lib.hasPrefix
  rw [List.isPrefixOf_iff_prefix]
  exact List.take_prefix _ _
theorem toks_told (s : List UInt8) : ∀ (n k : Nat), k ≤ s.length → Told s k (s.drop k) (toks n (s.drop k) k)
  | 0, k, hk => ⟨by simp [toks], hk, by simp [toks, Lib.lens], fun t h1 h2 h3 => ⟨s.length, h1, hk, by rw [h3, empty_list]; exact Nat.le_refl _, by rw [h3, empty_list]; rfl, trivial⟩⟩
  | n + 1, k, hk => by
    have hstop : Told s k (s.drop k) ([], k) := ⟨by simp, hk, by simp [Lib.lens], fun t h1 h2 h3 => ⟨s.length, h1, hk, by rw [h3, empty_list]; exact Nat.le_refl _, by rw [h3, empty_list]; rfl, trivial⟩⟩
    by_cases hr : s.drop k = []
    · rw [hr, toks_end, ← hr]; exact hstop
    · by_cases h0 : (first (s.drop k)).2 = 0
      · rw [toks_bad h0]; exact hstop
      · have hle := first_le (s.drop k)
        rw [List.length_drop] at hle
        have ih := toks_told s n (k + (first (s.drop k)).2) (by omega)
        rw [← List.drop_drop] at ih
        have hlen : ((s.drop k).drop (first (s.drop k)).2).length = s.length - k - (first (s.drop k)).2 := by rw [List.length_drop, List.length_drop]
        by_cases h1 : (first (s.drop k)).1 = -1
        · rw [toks_skip hr h0 h1]
          refine ⟨ih.alone, ih.le, ?_, fun t a b c => (ih.stands t a b c).less (by omega)⟩
          have := ih.sum
          rw [hlen] at this
          rw [List.length_drop]
          omega
        · rw [toks_take hr h0 h1]
          have htl : ((s.drop k).take (first (s.drop k)).2).length = (first (s.drop k)).2 := by rw [List.length_take, List.length_drop]; omega
          refine ⟨?_, ih.le, ?_, fun t a b c => ?_⟩
          · intro t ht
            rcases List.mem_cons.1 ht with rfl | ht
            · obtain ⟨c, r, e⟩ : ∃ c r, s.drop k = c :: r := by
                cases e : s.drop k with
                | nil => exact absurd e hr
                | cons c r => exact ⟨c, r, rfl⟩
              rw [e] at h1 ⊢
              exact alone_first h1 _
            · exact ih.alone t ht
          · have := ih.sum
            rw [hlen] at this
            rw [List.length_drop]
            simp only [Lib.lens, List.map_cons, List.sum_cons, pack_list] at this ⊢
            rw [htl]
            omega
          · refine ⟨k, rfl, Nat.le_refl _, ?_, ?_, ?_⟩
            · rw [pack_list, htl]; omega
            · rw [pack_list]; exact hasPrefix_take _ _
            · rw [pack_list, htl]
              exact ih.stands t a b c

def kt (t : Tk) : Int × ByteArray := (t.kind, t.text)
theorem stop_tail (r : List (List UInt8)) : Stop (Lib.joinTail [32] r) := by
  cases r with
  | nil => exact .inl rfl
  | cons y r => exact .inr ⟨y ++ Lib.joinTail [32] r, by simp [Lib.joinTail]⟩
theorem first_gap {t : Tk} (h : Alone t) {x : List UInt8} (hx : Stop x) : first (32 :: (t.text.data.toList ++ x)) = (-1, 1) := by
  rw [first_blank (by decide), run_yes (by decide)]
  have h0 : run blank (t.text.data.toList ++ x) = 0 := by
    have := h.2.2.2 x hx
    rcases Nat.eq_zero_or_pos (run blank (t.text.data.toList ++ x)) with h0 | h0
    · exact h0
    · unfold first at this
      rw [if_pos h0] at this
      have h1 := congrArg Prod.fst this
      have := h.1
      simp only at h1
      omega
  rw [h0]
theorem toks_one {t : Tk} {n k : Nat} {x : List UInt8} (h : Alone t) (hx : Stop x) : toks (n + 1) (t.text.data.toList ++ x) k = (⟨t.kind, t.text, k⟩ :: (toks n x (k + t.text.data.toList.length)).1, (toks n x (k + t.text.data.toList.length)).2) := by
  have hf := h.2.2.2 x hx
  have h1 := h.1
  rw [toks_take (by intro e; exact h.2.2.1 (List.append_eq_nil_iff.1 e).1) (by rw [hf]; exact fun e => h.2.2.1 (List.length_eq_zero_iff.1 e)) (by rw [hf]; show t.kind ≠ -1; omega), hf]
  simp only [List.take_left, List.drop_left]
  rw [pack_data]
theorem toks_tail : ∀ (l : List Tk) (n k : Nat), (∀ t ∈ l, Alone t) → (Lib.joinTail [32] (l.map fun t => t.text.data.toList)).length ≤ n →
    ∃ m, toks n (Lib.joinTail [32] (l.map fun t => t.text.data.toList)) k = (m, k + (Lib.joinTail [32] (l.map fun t => t.text.data.toList)).length) ∧ m.map kt = l.map kt
  | [], n, k, _, _ => ⟨[], by simp [Lib.joinTail, toks_end], rfl⟩
  | t :: l, n, k, hl, hn => by
    have ht := hl t (by simp)
    have e : Lib.joinTail [32] ((t :: l).map fun t => t.text.data.toList) = 32 :: (t.text.data.toList ++ Lib.joinTail [32] (l.map fun t => t.text.data.toList)) := by simp [Lib.joinTail]
    rw [e] at hn ⊢
    have hx := stop_tail (l.map fun t => t.text.data.toList)
    have hpos := List.length_pos_iff.2 ht.2.2.1
    simp only [List.length_cons, List.length_append] at hn
    obtain ⟨n, rfl⟩ : ∃ n', n = n' + 2 := ⟨n - 2, by omega⟩
    obtain ⟨m, hm, hk⟩ := toks_tail l n (k + 1 + t.text.data.toList.length) (fun t h => hl t (by simp [h])) (by omega)
    have hf := first_gap ht hx
    rw [toks_skip (by simp) (by rw [hf]; decide) (by rw [hf]), hf]
    simp only [List.drop_succ_cons, List.drop_zero]
    rw [toks_one ht hx, hm]
    refine ⟨⟨t.kind, t.text, ((k + 1 : Nat) : Int)⟩ :: m, ?_, by simp [kt, hk]⟩
    congr 1
    simp only [List.length_cons, List.length_append]
    omega
theorem toks_join (l : List Tk) (n : Nat) (hl : ∀ t ∈ l, Alone t) (hn : (Lib.join (l.map fun t => t.text.data.toList) [32]).length ≤ n) :
    ∃ m, toks n (Lib.join (l.map fun t => t.text.data.toList) [32]) 0 = (m, (Lib.join (l.map fun t => t.text.data.toList) [32]).length) ∧ m.map kt = l.map kt := by
  cases l with
  | nil => exact ⟨[], by simp [Lib.join_nil, toks_end], rfl⟩
  | cons t l =>
    have ht := hl t (by simp)
    rw [List.map_cons, Lib.join_cons] at hn ⊢
    have hx := stop_tail (l.map fun t => t.text.data.toList)
    have hpos := List.length_pos_iff.2 ht.2.2.1
    rw [List.length_append] at hn
    obtain ⟨n, rfl⟩ : ∃ n', n = n' + 1 := ⟨n - 1, by omega⟩
    obtain ⟨m, hm, hk⟩ := toks_tail l n (0 + t.text.data.toList.length) (fun t h => hl t (by simp [h])) (by omega)
    rw [toks_one ht hx, hm]
    refine ⟨⟨t.kind, t.text, ((0 : Nat) : Int)⟩ :: m, ?_, by simp [kt, hk]⟩
    congr 1
    rw [List.length_append]
    omega

theorem lex_ok {s : List UInt8} {l : List Tk} {a : Nat} (h : lex s = (l, a, 0)) : ∃ ts, l = ts ++ [⟨0, ByteArray.empty, (s.length : Nat)⟩] ∧ ts.length ≤ 199 ∧ (∀ t ∈ ts, Alone t) ∧ Stands s 0 l ∧ Lib.lens (ts.map fun t => t.text.data.toList) ≤ s.length := by
  unfold lex at h
  by_cases h1 : 2000 < s.length
  · rw [if_pos h1] at h; cases h
  · rw [if_neg h1] at h
    by_cases h2 : (toks s.length s 0).2 < s.length
    · rw [if_pos h2] at h; cases h
    · rw [if_neg h2] at h
      by_cases h3 : 200 < (toks s.length s 0).1.length + 1
      · rw [if_pos h3] at h; cases h
      · rw [if_neg h3] at h
        have hT := toks_told s s.length 0 (Nat.zero_le _)
        rw [List.drop_zero] at hT
        have he : (toks s.length s 0).2 = s.length := by have := hT.le; omega
        injection h with hl _
        rw [he] at hl
        subst hl
        exact ⟨_, rfl, by omega, hT.alone, hT.stands _ rfl he rfl, hT.sum⟩
end Lx
end Go.Proofs.YtipbilmnknmhmaaGreatDoor

/- Rules as trees, and their texts; what Lex makes of such a text. Over no program. -/
namespace Go.Proofs.YtipbilmnknmhmaaGreatDoor
set_option maxRecDepth 100000
namespace Sh
open Rl (St Res opOf)

inductive Tree
  | leaf (op : Int)
  | node (op : Int) (x y : Tree)
def post : Tree → List Int
  | .leaf op => [op]
  | .node op x y => post x ++ post y ++ [op]
/-- Is a tree a thing of a sort (true: a label)? -/
def Ok : Bool → Tree → Prop
  | b, .leaf op => (b = true ∧ 6 ≤ op ∧ op ≤ 11) ∨ (b = false ∧ (op = 1 ∨ op = 2))
  | b, .node op x y => (b = false ∧ (op = 3 ∨ op = 4) ∧ Ok false x ∧ Ok false y) ∨ (b = false ∧ op = 5 ∧ Ok true x ∧ Ok true y) ∨ (b = true ∧ (op = 12 ∨ op = 13) ∧ Ok true x ∧ Ok true y)
/-- How a number binds. -/
def binds (op : Int) : Nat := if op = 4 ∨ op = 12 then 1 else if op = 3 ∨ op = 13 then 2 else 3
def top : Tree → Int
  | .leaf op => op
  | .node op _ _ => op
def bt (t : Tree) : Nat := binds (top t)
theorem binds_pos (op : Int) : 1 ≤ binds op ∧ binds op ≤ 3 := by
  unfold binds
  split
  · decide
  · split <;> decide

/-- A number's word. -/
def nameOf (op : Int) : ByteArray :=
  if op = 1 then Rl.wTrue else if op = 2 then Rl.wFalse else if op = 3 then Rl.wAnd else if op = 4 then Rl.wOr else if op = 5 then Rl.wFlows
  else if op = 6 then { data := #[98, 111, 116] } else if op = 7 then { data := #[116, 111, 112] } else if op = 8 then { data := #[112, 99] }
  else if op = 9 then { data := #[111, 110, 101] } else if op = 10 then { data := #[116, 119, 111] } else if op = 11 then { data := #[116, 104, 114, 101, 101] }
  else if op = 12 then Rl.wJoin else Rl.wMeet
def kindOf (op : Int) : Int := if op = 5 then 3 else 1
def tok1 (op : Int) : Int × ByteArray := (kindOf op, nameOf op)
/-- Is op a label's (its brackets are square)? -/
def square (op : Int) : Bool := decide (12 ≤ op)
def wrapK (b sq : Bool) (ks : List (Int × ByteArray)) : List (Int × ByteArray) :=
  if b = true then (3, if sq = true then Rl.wOpenL else Rl.wOpen) :: (ks ++ [(3, if sq = true then Rl.wShutL else Rl.wShut)]) else ks
def wrapT (b sq : Bool) (s : List UInt8) : List UInt8 := if b = true then (if sq = true then 91 else 40) :: (s ++ [if sq = true then 93 else 41]) else s
/-- Does what stands left, or right, of op stand in brackets? -/
def lowL (op : Int) (x : Tree) : Bool := decide (op ≠ 5 ∧ bt x < binds op)
def lowR (op : Int) (y : Tree) : Bool := decide (op ≠ 5 ∧ bt y < binds op + 1)
/-- A rule's tokens, its text, and how deep that is. -/
def toks : Tree → List (Int × ByteArray)
  | .leaf op => [tok1 op]
  | .node op x y => wrapK (lowL op x) (square op) (toks x) ++ tok1 op :: wrapK (lowR op y) (square op) (toks y)
def txt : Tree → List UInt8
  | .leaf op => (nameOf op).data.toList
  | .node op x y => wrapT (lowL op x) (square op) (txt x) ++ (32 :: ((nameOf op).data.toList ++ (32 :: wrapT (lowR op y) (square op) (txt y))))
def deep : Tree → Nat
  | .leaf _ => 0
  | .node op x y => max (deep x + (lowL op x).toNat) (deep y + (lowR op y).toNat)

theorem ok_op {b : Bool} {op : Int} {x y : Tree} (h : Ok b (.node op x y)) : op = 3 ∨ op = 4 ∨ op = 5 ∨ op = 12 ∨ op = 13 := by
  unfold Ok at h
  omega
theorem ok_sub {b : Bool} {op : Int} {x y : Tree} (h : Ok b (.node op x y)) : ∃ b', Ok b' x ∧ Ok b' y := by
  unfold Ok at h
  rcases h with ⟨_, _, h1, h2⟩ | ⟨_, _, h1, h2⟩ | ⟨_, _, h1, h2⟩
  · exact ⟨_, h1, h2⟩
  · exact ⟨_, h1, h2⟩
  · exact ⟨_, h1, h2⟩
/- What Lex makes of it. -/
open Lx (first letter run kt pack)
/-- A rest that ends a word. -/
def Fin (r : List UInt8) : Prop := ∀ c, r.head? = some c → letter c = false
/-- A text's tokens, whatever stands behind it. -/
def Reads (s : List UInt8) (ks : List (Int × ByteArray)) : Prop :=
  ∀ (r : List UInt8) (n k : Nat), Fin r → (s ++ r).length ≤ n → ∃ n' ts, r.length ≤ n' ∧ Lx.toks n (s ++ r) k = (ts ++ (Lx.toks n' r (k + s.length)).1, (Lx.toks n' r (k + s.length)).2) ∧ ts.map kt = ks
theorem run_letters {w r : List UInt8} (hw : ∀ c ∈ w, letter c = true) (hr : Fin r) : run letter (w ++ r) = w.length := by
  induction w with
  | nil =>
    cases r with
    | nil => rfl
    | cons c r => exact Lx.run_no (hr c rfl) r
  | cons c w ih =>
    rw [List.cons_append, Lx.run_yes (hw c (.head _)), ih fun d hd => hw d (.tail _ hd)]
    rfl
theorem reads_word {w : List UInt8} (h0 : w ≠ []) (hw : ∀ c ∈ w, letter c = true) : Reads w [(1, pack w)] := by
  intro r n k hr hn
  obtain ⟨c, w, rfl⟩ : ∃ c w', w = c :: w' := by
    cases w with
    | nil => exact absurd rfl h0
    | cons c w => exact ⟨c, w, rfl⟩
  have hf : first ((c :: w) ++ r) = (1, (c :: w).length) := by
    rw [List.cons_append, Lx.first_letter (hw c (.head _)), ← List.cons_append, run_letters hw hr]
  obtain ⟨m, rfl⟩ : ∃ m, n = m + 1 := ⟨n - 1, by simp at hn; omega⟩
  refine ⟨m, [⟨1, pack (c :: w), k⟩], by simp at hn; omega, ?_, rfl⟩
  rw [Lx.toks_take (by simp) (by rw [hf]; simp) (by rw [hf]; exact show (1 : Int) ≠ -1 by decide), hf]
  simp
theorem reads_flows : Reads [60, 61] [(3, Rl.wFlows)] := by
  intro r n k hr hn
  have hf : first ([60, 61] ++ r) = (3, 2) := by
    show first (60 :: 61 :: r) = _
    rw [Lx.first_mark (by decide)]
    rfl
  obtain ⟨m, rfl⟩ : ∃ m, n = m + 1 := ⟨n - 1, by simp at hn; omega⟩
  refine ⟨m, [⟨3, Rl.wFlows, k⟩], by simp at hn; omega, ?_, rfl⟩
  rw [Lx.toks_take (by simp) (by rw [hf]; decide) (by rw [hf]; decide), hf]
  rfl
/-- A bracket ahead. -/
theorem reads_bracket {c : UInt8} (hc : c = 40 ∨ c = 41 ∨ c = 91 ∨ c = 93) (r : List UInt8) (n k : Nat) (hn : (c :: r).length ≤ n) : ∃ m, r.length ≤ m ∧ Lx.toks n (c :: r) k = (⟨3, pack [c], k⟩ :: (Lx.toks m r (k + 1)).1, (Lx.toks m r (k + 1)).2) := by
  have hf : first (c :: r) = (3, 1) := by
    rcases hc with rfl | rfl | rfl | rfl
    all_goals
      rw [Lx.first_mark (by decide), Lx.mark_cons, if_neg (by rintro ⟨h, _⟩; exact absurd h (by decide)), if_pos (by decide)]
  obtain ⟨m, rfl⟩ : ∃ m, n = m + 1 := ⟨n - 1, by simp at hn; omega⟩
  refine ⟨m, by simp at hn; omega, ?_⟩
  rw [Lx.toks_take (by simp) (by rw [hf]; decide) (by rw [hf]; decide), hf]
  rfl
/-- A blank ahead of what is none. -/
theorem reads_blank {c : UInt8} (hc : Lx.blank c = false) (r : List UInt8) (n k : Nat) (hn : (32 :: c :: r).length ≤ n) : ∃ m, (c :: r).length ≤ m ∧ Lx.toks n (32 :: c :: r) k = Lx.toks m (c :: r) (k + 1) := by
  have hf : first (32 :: c :: r) = (-1, 1) := by
    rw [Lx.first_blank (by decide), Lx.run_yes (by decide), Lx.run_no hc]
  obtain ⟨m, rfl⟩ : ∃ m, n = m + 1 := ⟨n - 1, by simp at hn; omega⟩
  refine ⟨m, by simp at hn ⊢; omega, ?_⟩
  rw [Lx.toks_skip (by simp) (by rw [hf]; decide) (by rw [hf]), hf]
  rfl
/-- A text that begins with no blank. -/
def Solid (s : List UInt8) : Prop := ∃ c r, s = c :: r ∧ Lx.blank c = false
theorem reads_append {s s' : List UInt8} {ks ks' : List (Int × ByteArray)} (h : Reads s ks) (h' : Reads s' ks') (hf : ∀ r, Fin r → Fin (s' ++ r)) : Reads (s ++ s') (ks ++ ks') := by
  intro r n k hr hn
  obtain ⟨n1, ts, a1, a2, a3⟩ := h (s' ++ r) n k (hf r hr) (by rw [← List.append_assoc]; exact hn)
  obtain ⟨n2, ts', b1, b2, b3⟩ := h' r n1 (k + s.length) hr a1
  refine ⟨n2, ts ++ ts', b1, ?_, by rw [List.map_append, a3, b3]⟩
  rw [List.append_assoc, a2, b2, List.append_assoc, List.length_append, Nat.add_assoc]
theorem reads_gap {s : List UInt8} {ks : List (Int × ByteArray)} (h : Reads s ks) (hs : Solid s) : Reads (32 :: s) ks := by
  intro r n k hr hn
  obtain ⟨c, s, rfl, hc⟩ := hs
  obtain ⟨m, a1, a2⟩ := reads_blank hc (s ++ r) n k hn
  obtain ⟨n2, ts, b1, b2, b3⟩ := h r m (k + 1) hr a1
  refine ⟨n2, ts, b1, ?_, b3⟩
  show Lx.toks n (32 :: c :: (s ++ r)) k = _
  rw [a2]
  refine b2.trans ?_
  rw [show k + (32 :: c :: s).length = k + 1 + (c :: s).length by simp; omega]
theorem reads_wrap {s : List UInt8} {ks : List (Int × ByteArray)} (b sq : Bool) (h : Reads s ks) : Reads (wrapT b sq s) (wrapK b sq ks) := by
  cases b
  · exact h
  · intro r n k hr hn
    cases sq
    · obtain ⟨m, a1, a2⟩ := reads_bracket (c := 40) (by decide) (s ++ [41] ++ r) n k (by simpa [wrapT] using hn)
      obtain ⟨n1, ts, b1, b2, b3⟩ := h (41 :: r) m (k + 1) (fun c e => by injection e with e; subst e; decide) (by simpa using a1)
      obtain ⟨n2, c1, c2⟩ := reads_bracket (c := 41) (by decide) r n1 (k + 1 + s.length) b1
      refine ⟨n2, ⟨3, pack [40], k⟩ :: (ts ++ [⟨3, pack [41], (k + 1 + s.length : Nat)⟩]), c1, ?_, ?_⟩
      · show Lx.toks n (40 :: (s ++ [41] ++ r)) k = _
        rw [a2, show s ++ [41] ++ r = s ++ 41 :: r by simp, b2, c2]
        have e : k + (wrapT true false s).length = k + 1 + s.length + 1 := by simp [wrapT]; omega
        rw [e]
        simp
      · simp only [List.map_cons, List.map_append, List.map_nil, b3]
        rfl
    · obtain ⟨m, a1, a2⟩ := reads_bracket (c := 91) (by decide) (s ++ [93] ++ r) n k (by simpa [wrapT] using hn)
      obtain ⟨n1, ts, b1, b2, b3⟩ := h (93 :: r) m (k + 1) (fun c e => by injection e with e; subst e; decide) (by simpa using a1)
      obtain ⟨n2, c1, c2⟩ := reads_bracket (c := 93) (by decide) r n1 (k + 1 + s.length) b1
      refine ⟨n2, ⟨3, pack [91], k⟩ :: (ts ++ [⟨3, pack [93], (k + 1 + s.length : Nat)⟩]), c1, ?_, ?_⟩
      · show Lx.toks n (91 :: (s ++ [93] ++ r)) k = _
        rw [a2, show s ++ [93] ++ r = s ++ 93 :: r by simp, b2, c2]
        have e : k + (wrapT true true s).length = k + 1 + s.length + 1 := by simp [wrapT]; omega
        rw [e]
        simp
      · simp only [List.map_cons, List.map_append, List.map_nil, b3]
        rfl
theorem reads_name (op : Int) (h : 1 ≤ op ∧ op ≤ 13) : Reads (nameOf op).data.toList [tok1 op] := by
  have hops : op = 1 ∨ op = 2 ∨ op = 3 ∨ op = 4 ∨ op = 5 ∨ op = 6 ∨ op = 7 ∨ op = 8 ∨ op = 9 ∨ op = 10 ∨ op = 11 ∨ op = 12 ∨ op = 13 := by omega
  rcases hops with rfl | rfl | rfl | rfl | rfl | rfl | rfl | rfl | rfl | rfl | rfl | rfl | rfl
  all_goals first
    | exact reads_flows
    | exact reads_word (by decide) (by decide)
theorem solid_name (op : Int) (h : 1 ≤ op ∧ op ≤ 13) : Solid (nameOf op).data.toList := by
  have hops : op = 1 ∨ op = 2 ∨ op = 3 ∨ op = 4 ∨ op = 5 ∨ op = 6 ∨ op = 7 ∨ op = 8 ∨ op = 9 ∨ op = 10 ∨ op = 11 ∨ op = 12 ∨ op = 13 := by omega
  rcases hops with rfl | rfl | rfl | rfl | rfl | rfl | rfl | rfl | rfl | rfl | rfl | rfl | rfl
  all_goals exact ⟨_, _, rfl, by decide⟩
theorem solid_append {s s' : List UInt8} (h : Solid s) : Solid (s ++ s') := by
  obtain ⟨c, r, rfl, hc⟩ := h
  exact ⟨c, r ++ s', rfl, hc⟩
theorem solid_wrap {s : List UInt8} (b sq : Bool) (h : Solid s) : Solid (wrapT b sq s) := by
  cases b
  · exact h
  · cases sq
    · exact ⟨40, _, rfl, by decide⟩
    · exact ⟨91, _, rfl, by decide⟩
theorem ok_range {b : Bool} {t : Tree} (h : Ok b t) : 1 ≤ top t ∧ top t ≤ 13 := by
  cases t with
  | leaf op => unfold Ok at h; show 1 ≤ op ∧ op ≤ 13; omega
  | node op x y => have := ok_op h; show 1 ≤ op ∧ op ≤ 13; omega
theorem solid_txt : ∀ (t : Tree) (b : Bool), Ok b t → Solid (txt t)
  | .leaf op, b, h => solid_name op (ok_range h)
  | .node op x y, b, h => by
    obtain ⟨b', hx, _⟩ := ok_sub h
    exact solid_append (solid_wrap _ _ (solid_txt x b' hx))
theorem fin_blank (s r : List UInt8) : Fin (32 :: s ++ r) := fun c e => by
  injection e with e
  subst e
  decide
theorem reads_txt : ∀ (t : Tree) (b : Bool), Ok b t → Reads (txt t) (toks t)
  | .leaf op, b, h => reads_name op (ok_range h)
  | .node op x y, b, h => by
    obtain ⟨b', hx, hy⟩ := ok_sub h
    have r1 := reads_wrap (lowL op x) (square op) (reads_txt x b' hx)
    have r2 := reads_gap (reads_wrap (lowR op y) (square op) (reads_txt y b' hy)) (solid_wrap _ _ (solid_txt y b' hy))
    have r3 := reads_append (reads_name op (ok_range h)) r2 (fun r _ => fin_blank _ r)
    have r4 := reads_gap r3 (solid_append (solid_name op (ok_range h)))
    exact reads_append r1 r4 (fun r _ => fin_blank _ r)
end Sh
end Go.Proofs.YtipbilmnknmhmaaGreatDoor

/- What is written is read as the same rule. Over no program. -/
namespace Go.Proofs.YtipbilmnknmhmaaGreatDoor
set_option maxRecDepth 100000
namespace Sh
open Rl (St Res opOf isN loop rows adv put into outof inside)
open Lx (Tk kt)

/-- The tokens ks stand in l from k on. -/
def At (l : List Tk) (k : Nat) (ks : List (Int × ByteArray)) : Prop := ∀ j p, ks[j]? = some p → ∃ t, l[k + j]? = some t ∧ kt t = p
section
variable {l : List Tk} {k : Nat} {ks ks' : List (Int × ByteArray)} {p : Int × ByteArray}
theorem At.left (h : At l k (ks ++ ks')) : At l k ks := fun j p e => h j p (by rw [List.getElem?_append_left (List.getElem?_eq_some_iff.1 e).1]; exact e)
theorem At.right (h : At l k (ks ++ ks')) : At l (k + ks.length) ks' := fun j p e => by
  have := h (ks.length + j) p (by rw [List.getElem?_append_right (by omega), Nat.add_sub_cancel_left]; exact e)
  rwa [← Nat.add_assoc] at this
theorem At.tail (h : At l k (p :: ks)) : At l (k + 1) ks := At.right (ks := [p]) h
theorem At.head (h : At l k (p :: ks)) : ∃ t, l[k]? = some t ∧ kt t = p := h 0 p rfl
theorem At.lt (h : At l k (p :: ks)) : k < l.length := by
  obtain ⟨t, ht, _⟩ := h.head
  exact (List.getElem?_eq_some_iff.1 ht).1
theorem At.isN (h : At l k (p :: ks)) (w : ByteArray) : Rl.isN l k w = decide ((p.1 = 1 ∨ p.1 = 3) ∧ p.2 = w) := by
  obtain ⟨t, ht, e⟩ := h.head
  subst e
  unfold Rl.isN
  rw [ht]
  rfl
theorem At.word (h : At l k (p :: ks)) : Rl.word l k = if p.1 = 1 ∧ 6 ≤ opOf p.2 ∧ opOf p.2 ≤ 11 then opOf p.2 else 0 := by
  obtain ⟨t, ht, e⟩ := h.head
  subst e
  unfold Rl.word
  rw [ht]
  rfl
end
theorem loop_no {l : List Tk} {more : St → Res} {w : ByteArray} {n : Nat} {s : St} (h : isN l s.pos w = false) : loop l more w n s = (s, 0) := by
  cases n with
  | zero => rfl
  | succ n => rw [loop, if_neg (by rw [h]; decide)]
def after (s : St) (n : Nat) (x : List Int) : St := ⟨s.pos + n, s.deep, s.out ++ x⟩
/-- A tree's tokens where least m must bind, and how deep they are. -/
def tokW (sq : Bool) (m : Nat) (t : Tree) : List (Int × ByteArray) := wrapK (decide (bt t < m)) sq (toks t)
def W (m : Nat) (t : Tree) : Nat := deep t + (decide (bt t < m)).toNat
def fits (s : St) (t : Tree) : Prop := s.out.length + (post t).length ≤ 40
theorem put_ok {op : Int} {s : St} (h : s.out.length < 40) : put op s = ({ s with out := s.out ++ [op] }, 0) := by
  unfold put
  rw [if_neg (by omega)]

section
variable (l : List Tk) (part : St → Res) (sq : Bool) (w1 w2 : ByteArray) (o1 o2 : Int) (N3 : Nat → Prop) (o : Nat)
/-- A part tells a tree exactly; rows of them do, as far as a loop goes. -/
def E3 (t : Tree) : Prop := ∀ s : St, At l s.pos (tokW sq 3 t) → s.deep = o → o + W 3 t ≤ 12 → fits s t → N3 (s.pos + (tokW sq 3 t).length) → part s = (after s (tokW sq 3 t).length (post t), 0)
def L2 (t : Tree) : Prop := ∀ s : St, At l s.pos (tokW sq 2 t) → s.deep = o → o + W 2 t ≤ 12 → fits s t → N3 (s.pos + (tokW sq 2 t).length) →
  ∃ n, l.length ≤ n + (s.pos + (tokW sq 2 t).length) ∧ rows l part [w2] s = loop l part w2 n (after s (tokW sq 2 t).length (post t))
def L1 (t : Tree) : Prop := ∀ s : St, At l s.pos (tokW sq 1 t) → s.deep = o → o + W 1 t ≤ 12 → fits s t → N3 (s.pos + (tokW sq 1 t).length) ∧ isN l (s.pos + (tokW sq 1 t).length) w2 = false →
  ∃ n, l.length ≤ n + (s.pos + (tokW sq 1 t).length) ∧ rows l part [w1, w2] s = loop l (rows l part [w2]) w1 n (after s (tokW sq 1 t).length (post t))
end
section
variable {l : List Tk} {part : St → Res} {sq : Bool} {w1 w2 : ByteArray} {o1 o2 : Int} {N3 : Nat → Prop} {o : Nat}
theorem l2_of_e3 {t : Tree} (h : E3 l part sq N3 o t) (hb : bt t ≠ 2) : L2 l part sq w2 N3 o t := by
  have e : decide (bt t < 2) = decide (bt t < 3) := by
    have := binds_pos (top t)
    unfold bt at hb ⊢
    by_cases h1 : binds (top t) < 2
    · rw [decide_eq_true h1, decide_eq_true (by omega)]
    · rw [decide_eq_false h1, decide_eq_false (by omega)]
  unfold L2 tokW W
  rw [e]
  intro s h1 h2 h3 h4 h5
  have hp := h s h1 h2 h3 h4 h5
  refine ⟨l.length, by omega, ?_⟩
  show (if (part s).2 = 0 then loop l part w2 l.length (part s).1 else part s) = _
  rw [hp, if_pos rfl]
  rfl
theorem l1_of_l2 {t : Tree} (h : L2 l part sq w2 N3 o t) (hb : bt t ≠ 1) : L1 l part sq w1 w2 N3 o t := by
  have e : decide (bt t < 1) = decide (bt t < 2) := by
    have := binds_pos (top t)
    unfold bt at hb ⊢
    rw [decide_eq_false (by omega), decide_eq_false (by omega)]
  unfold L1 tokW W
  rw [e]
  intro s h1 h2 h3 h4 h5
  obtain ⟨n, _, hp⟩ := h s h1 h2 h3 h4 h5.1
  have hx : rows l part [w2] s = (after s (tokW sq 2 t).length (post t), 0) := by
    rw [hp]
    exact loop_no h5.2
  refine ⟨l.length, by omega, ?_⟩
  show (if (rows l part [w2] s).2 = 0 then loop l (rows l part [w2]) w1 l.length (rows l part [w2] s).1 else rows l part [w2] s) = _
  rw [hx, if_pos rfl]
  rfl
theorem bt_node (op : Int) (x y : Tree) : bt (.node op x y) = binds op := rfl
/-- A row's next word, and what stands behind it. -/
theorem row_on {more : St → Res} {w : ByteArray} {op : Int} {n i j : Nat} {s : St} {x y : List Int} (hop : opOf w = op) (hn : isN l (s.pos + i) w = true) (hlen : l.length ≤ n + (s.pos + i)) (hlt : s.pos + i < l.length)
    (hm : more (adv (after s i x)) = (after (adv (after s i x)) j y, 0)) (hf : s.out.length + x.length + y.length + 1 ≤ 40) :
    ∃ m, l.length ≤ m + (s.pos + (i + 1 + j)) ∧ loop l more w n (after s i x) = loop l more w m (after s (i + 1 + j) (x ++ y ++ [op])) := by
  obtain ⟨m, rfl⟩ : ∃ m, n = m + 1 := ⟨n - 1, by omega⟩
  refine ⟨m, by omega, ?_⟩
  have hn' : isN l (after s i x).pos w = true := hn
  have hput : put (opOf w) (after (adv (after s i x)) j y) = (after s (i + 1 + j) (x ++ y ++ [op]), 0) := by
    rw [put_ok (by simp [after, adv]; omega), hop]
    unfold after adv
    simp only [List.append_assoc]
    congr 2
    omega
  rw [loop, if_pos hn', hm, if_pos rfl, hput, if_pos rfl]
theorem l2_node {x y : Tree} (hw : nameOf o2 = w2) (hop : opOf w2 = o2) (hk : kindOf o2 = 1) (hb : binds o2 = 2) (h5 : o2 ≠ 5) (hsq : square o2 = sq) (hN : ∀ k, isN l k w2 = true → N3 k)
    (hx : L2 l part sq w2 N3 o x) (hy : E3 l part sq N3 o y) : L2 l part sq w2 N3 o (.node o2 x y) := by
  have et : tokW sq 2 (.node o2 x y) = tokW sq 2 x ++ (1, w2) :: tokW sq 3 y := by
    unfold tokW
    rw [bt_node, hb]
    simp only [toks, lowL, lowR, hb, hsq, tok1, hw, hk, ne_eq, h5, not_false_eq_true, true_and]
    rfl
  have ed : W 2 (.node o2 x y) = max (W 2 x) (W 3 y) := by
    unfold W
    rw [bt_node, hb]
    simp only [deep, lowL, lowR, hb, ne_eq, h5, not_false_eq_true, true_and]
    rfl
  intro s h1 h2 h3 h4 h6
  rw [et] at h1 h6 ⊢
  rw [ed] at h3
  unfold fits at h4
  simp only [post, List.length_append, List.length_cons, List.length_nil] at h4
  have hn : isN l (s.pos + (tokW sq 2 x).length) w2 = true := by
    rw [h1.right.isN]
    exact decide_eq_true ⟨.inl rfl, rfl⟩
  obtain ⟨n, a1, a2⟩ := hx s h1.left h2 (by omega) (by unfold fits; omega) (hN _ hn)
  have hlen : ((tokW sq 2 x) ++ (1, w2) :: tokW sq 3 y).length = (tokW sq 2 x).length + 1 + (tokW sq 3 y).length := by simp; omega
  have hyy := hy (adv (after s (tokW sq 2 x).length (post x))) h1.right.tail h2 (by omega) (by unfold fits; simp only [after, adv, List.length_append]; omega) (by
    rw [hlen] at h6
    show N3 (s.pos + (tokW sq 2 x).length + 1 + _)
    rw [show s.pos + (tokW sq 2 x).length + 1 + (tokW sq 3 y).length = s.pos + ((tokW sq 2 x).length + 1 + (tokW sq 3 y).length) by omega]
    exact h6)
  obtain ⟨m, b1, b2⟩ := row_on hop hn a1 h1.right.lt hyy (by omega)
  refine ⟨m, by rw [hlen]; exact b1, ?_⟩
  rw [a2, b2, hlen]
  rfl
theorem l1_node {x y : Tree} (hw : nameOf o1 = w1) (hop : opOf w1 = o1) (hk : kindOf o1 = 1) (hb : binds o1 = 1) (h5 : o1 ≠ 5) (hsq : square o1 = sq) (hN : ∀ k, isN l k w1 = true → N3 k ∧ isN l k w2 = false)
    (hx : L1 l part sq w1 w2 N3 o x) (hy : L2 l part sq w2 N3 o y) : L1 l part sq w1 w2 N3 o (.node o1 x y) := by
  have et : tokW sq 1 (.node o1 x y) = tokW sq 1 x ++ (1, w1) :: tokW sq 2 y := by
    unfold tokW
    rw [bt_node, hb]
    simp only [toks, lowL, lowR, hb, hsq, tok1, hw, hk, ne_eq, h5, not_false_eq_true, true_and]
    rfl
  have ed : W 1 (.node o1 x y) = max (W 1 x) (W 2 y) := by
    unfold W
    rw [bt_node, hb]
    simp only [deep, lowL, lowR, hb, ne_eq, h5, not_false_eq_true, true_and]
    rfl
  intro s h1 h2 h3 h4 h6
  rw [et] at h1 h6 ⊢
  rw [ed] at h3
  unfold fits at h4
  simp only [post, List.length_append, List.length_cons, List.length_nil] at h4
  have hn : isN l (s.pos + (tokW sq 1 x).length) w1 = true := by
    rw [h1.right.isN]
    exact decide_eq_true ⟨.inl rfl, rfl⟩
  obtain ⟨n, a1, a2⟩ := hx s h1.left h2 (by omega) (by unfold fits; omega) (hN _ hn)
  have hlen : ((tokW sq 1 x) ++ (1, w1) :: tokW sq 2 y).length = (tokW sq 1 x).length + 1 + (tokW sq 2 y).length := by simp; omega
  rw [hlen, show s.pos + ((tokW sq 1 x).length + 1 + (tokW sq 2 y).length) = s.pos + (tokW sq 1 x).length + 1 + (tokW sq 2 y).length by omega] at h6
  obtain ⟨n2, _, c2⟩ := hy (adv (after s (tokW sq 1 x).length (post x))) h1.right.tail h2 (by omega) (by unfold fits; simp only [after, adv, List.length_append]; omega) h6.1
  have hyy : rows l part [w2] (adv (after s (tokW sq 1 x).length (post x))) = (after (adv (after s (tokW sq 1 x).length (post x))) (tokW sq 2 y).length (post y), 0) := by
    rw [c2]
    exact loop_no h6.2
  obtain ⟨m, b1, b2⟩ := row_on hop hn a1 h1.right.lt hyy (by omega)
  refine ⟨m, by rw [hlen]; exact b1, ?_⟩
  rw [a2, b2, hlen]
  rfl
/-- Rows of both words, exactly. -/
theorem l1_exact {t : Tree} (h : L1 l part sq w1 w2 N3 o t) (s : St) (h1 : At l s.pos (toks t)) (h2 : s.deep = o) (h3 : o + deep t ≤ 12) (h4 : fits s t) (h5 : N3 (s.pos + (toks t).length)) (h6 : isN l (s.pos + (toks t).length) w2 = false) (h7 : isN l (s.pos + (toks t).length) w1 = false) :
    rows l part [w1, w2] s = (after s (toks t).length (post t), 0) := by
  have e0 : decide (bt t < 1) = false := by have := binds_pos (top t); unfold bt; rw [decide_eq_false (by omega)]
  have e1 : tokW sq 1 t = toks t := by unfold tokW; rw [e0]; rfl
  have e2 : W 1 t = deep t := by unfold W; rw [e0]; rfl
  have hh := h s
  rw [e1, e2] at hh
  obtain ⟨n, _, a⟩ := hh h1 h2 h3 h4 ⟨h5, h6⟩
  rw [a]
  exact loop_no h7
end

/- Labels. -/
abbrev partL (l : List Tk) (d : Nat) : St → Res := Rl.atom l (Rl.label l d)
def Tells (l : List Tk) (d : Nat) (t : Tree) : Prop :=
  E3 l (partL l d) true (fun _ => True) (12 - d) t ∧ L2 l (partL l d) true Rl.wMeet (fun _ => True) (12 - d) t ∧ L1 l (partL l d) true Rl.wJoin Rl.wMeet (fun _ => True) (12 - d) t
theorem join_not_meet {l : List Tk} {k : Nat} (h : isN l k Rl.wJoin = true) : isN l k Rl.wMeet = false := by
  obtain ⟨t, ht, _, e⟩ := Rl.isN_some h
  unfold Rl.isN
  rw [ht]
  exact decide_eq_false fun h1 => absurd (e.symm.trans h1.2) (by decide)
theorem opOf_name (op : Int) (h : 1 ≤ op ∧ op ≤ 13) : opOf (nameOf op) = op := by
  have hops : op = 1 ∨ op = 2 ∨ op = 3 ∨ op = 4 ∨ op = 5 ∨ op = 6 ∨ op = 7 ∨ op = 8 ∨ op = 9 ∨ op = 10 ∨ op = 11 ∨ op = 12 ∨ op = 13 := by omega
  rcases hops with rfl | rfl | rfl | rfl | rfl | rfl | rfl | rfl | rfl | rfl | rfl | rfl | rfl <;> decide
theorem name_mark (op : Int) (h : 6 ≤ op ∧ op ≤ 11) : nameOf op ≠ Rl.wOpenL := by
  have hops : op = 6 ∨ op = 7 ∨ op = 8 ∨ op = 9 ∨ op = 10 ∨ op = 11 := by omega
  rcases hops with rfl | rfl | rfl | rfl | rfl | rfl <;> decide
theorem wrap_len (sq : Bool) (ks : List (Int × ByteArray)) : (wrapK true sq ks).length = ks.length + 2 := by simp [wrapK]
theorem shut_no {l : List Tk} {k : Nat} {ks : List (Int × ByteArray)} {m w : ByteArray} (h : At l k ((3, m) :: ks)) (hne : m ≠ w) : isN l k w = false := by
  rw [h.isN]
  exact decide_eq_false fun h1 => hne h1.2
/-- What stands in brackets, exactly. -/
theorem inside_exact {l : List Tk} {p : St → Res} {fin beg : ByteArray} {s : St} {t : Tree} {o : Nat} (h1 : At l s.pos ((3, beg) :: (toks t ++ [(3, fin)]))) (hd : s.deep = o) (ho : o < 12) (hp : p (into s) = (after (into s) (toks t).length (post t), 0)) :
    inside l p fin s = (after s ((toks t).length + 2) (post t), 0) := by
  have hn : isN l (after (into s) (toks t).length (post t)).pos fin = true := by
    have h2 : At l (s.pos + 1 + (toks t).length) [(3, fin)] := h1.tail.right
    exact (h2.isN fin).trans (decide_eq_true ⟨.inr rfl, rfl⟩)
  rw [inside, if_neg (by omega), hp, if_pos rfl, if_pos hn]
  unfold outof after into
  simp only [Nat.add_sub_cancel]
  congr 2
  omega
theorem label_tells {l : List Tk} : ∀ (t : Tree), Ok true t → ∀ d, d ≤ 12 → Tells l d t
  | .leaf op, h, d, hd => by
    have hop : 6 ≤ op ∧ op ≤ 11 := by unfold Ok at h; rcases h with ⟨_, h⟩ | ⟨h, _⟩; exact h; cases h
    have hbt : bt (.leaf op) = 3 := by show (if op = 4 ∨ op = 12 then 1 else if op = 3 ∨ op = 13 then 2 else 3) = 3; rw [if_neg (by omega), if_neg (by omega)]
    have e3 : E3 l (partL l d) true (fun _ => True) (12 - d) (.leaf op) := by
      intro s h1 h2 h3 h4 _
      have et : tokW true 3 (.leaf op) = [(1, nameOf op)] := by
        unfold tokW
        rw [hbt]
        simp only [toks, tok1, kindOf, if_neg (show ¬ op = 5 by omega)]
        rfl
      rw [et] at h1 ⊢
      have hw : Rl.word l s.pos = op := by
        rw [h1.word]
        dsimp only
        rw [opOf_name op ⟨by omega, by omega⟩]
        exact if_pos ⟨rfl, hop.1, hop.2⟩
      have hn : ¬ isN l s.pos Rl.wOpenL = true := by
        rw [h1.isN]
        simp only [decide_eq_true_eq]
        exact fun hh => name_mark op hop hh.2
      unfold fits at h4
      simp only [post, List.length_cons, List.length_nil] at h4
      show Rl.atom l (Rl.label l d) s = _
      rw [Rl.atom, if_neg hn, hw, if_neg (by omega), put_ok (show (adv s).out.length < 40 by show s.out.length < 40; omega)]
      rfl
    exact ⟨e3, l2_of_e3 e3 (by rw [hbt]; decide), l1_of_l2 (l2_of_e3 e3 (by rw [hbt]; decide)) (by rw [hbt]; decide)⟩
  | .node op x y, h, d, hd => by
    have hx : Ok true x := by unfold Ok at h; rcases h with ⟨h, _⟩ | ⟨h, _⟩ | ⟨_, _, h, _⟩ <;> first | exact h | cases h
    have hy : Ok true y := by unfold Ok at h; rcases h with ⟨h, _⟩ | ⟨h, _⟩ | ⟨_, _, _, h⟩ <;> first | exact h | cases h
    have hop : op = 12 ∨ op = 13 := by unfold Ok at h; rcases h with ⟨h, _⟩ | ⟨h, _⟩ | ⟨_, h, _, _⟩ <;> first | exact h | cases h
    have ix := fun d hd => label_tells (l := l) x hx d hd
    have iy := fun d hd => label_tells (l := l) y hy d hd
    have core : ∀ d, d ≤ 12 → L1 l (partL l d) true Rl.wJoin Rl.wMeet (fun _ => True) (12 - d) (.node op x y) ∧ (op = 13 → L2 l (partL l d) true Rl.wMeet (fun _ => True) (12 - d) (.node op x y)) := by
      intro d hd
      rcases hop with rfl | rfl
      · exact ⟨l1_node (o1 := 12) (w1 := Rl.wJoin) rfl Rl.op_join rfl rfl (by decide) rfl (fun k hk => ⟨trivial, join_not_meet hk⟩) (ix d hd).2.2 (iy d hd).2.1, fun h => absurd h (by decide)⟩
      · have h2 := l2_node (o2 := 13) (w2 := Rl.wMeet) (sq := true) (part := partL l d) rfl Rl.op_meet rfl rfl (by decide) rfl (fun _ _ => trivial) (ix d hd).2.1 (iy d hd).1
        exact ⟨l1_of_l2 h2 (by rw [bt_node]; decide), fun _ => h2⟩
    have e3 : E3 l (partL l d) true (fun _ => True) (12 - d) (.node op x y) := by
      have hbt : decide (bt (.node op x y) < 3) = true := by rw [bt_node]; rcases hop with rfl | rfl <;> decide
      intro s h1 h2 h3 h4 _
      unfold tokW W at *
      rw [hbt] at h1 h3 ⊢
      rw [wrap_len]
      have h1' : At l s.pos ((3, Rl.wOpenL) :: (toks (.node op x y) ++ [(3, Rl.wShutL)])) := h1
      have hb1 : (true).toNat = 1 := rfl
      rw [hb1] at h3
      obtain ⟨d', rfl⟩ : ∃ d', d = d' + 1 := ⟨d - 1, by omega⟩
      have hshut := At.right (ks := toks (.node op x y)) h1'.tail
      have hin := l1_exact (core d' (by omega)).1 (into s) h1'.tail.left (by show s.deep + 1 = _; omega) (by omega) h4 trivial
        (shut_no hshut (by decide)) (shut_no hshut (by decide))
      have hn : isN l s.pos Rl.wOpenL = true := by rw [h1'.isN]; exact decide_eq_true ⟨.inr rfl, rfl⟩
      show Rl.atom l (Rl.label l (d' + 1)) s = _
      rw [Rl.atom, if_pos hn]
      exact inside_exact h1' h2 (by omega) hin
    refine ⟨e3, ?_, (core d hd).1⟩
    rcases hop with rfl | rfl
    · exact l2_of_e3 e3 (by rw [bt_node]; decide)
    · exact (core d hd).2 rfl

/- Conditions. -/
abbrev partC (l : List Tk) (d : Nat) : St → Res := Rl.prim l (Rl.cond l d) (Rl.label l (d + 1))
def NoL (l : List Tk) (k : Nat) : Prop := isN l k Rl.wJoin = false ∧ isN l k Rl.wMeet = false
def TellsC (l : List Tk) (d : Nat) (t : Tree) : Prop :=
  E3 l (partC l d) false (NoL l) (12 - d) t ∧ L2 l (partC l d) false Rl.wAnd (NoL l) (12 - d) t ∧ L1 l (partC l d) false Rl.wOr Rl.wAnd (NoL l) (12 - d) t
theorem isN_else {l : List Tk} {k : Nat} {w w' : ByteArray} (h : isN l k w = true) (hne : w ≠ w') : isN l k w' = false := by
  obtain ⟨t, ht, _, e⟩ := Rl.isN_some h
  unfold Rl.isN
  rw [ht]
  exact decide_eq_false fun h1 => hne (e.symm.trans h1.2)
/-- A label's first token begins no condition. -/
theorem label_head : ∀ (t : Tree), Ok true t → ∃ p ks, toks t = p :: ks ∧ p.2 ≠ Rl.wTrue ∧ p.2 ≠ Rl.wFalse ∧ p.2 ≠ Rl.wOpen
  | .leaf op, h => by
    have hop : op = 6 ∨ op = 7 ∨ op = 8 ∨ op = 9 ∨ op = 10 ∨ op = 11 := by
      unfold Ok at h
      rcases h with ⟨_, h⟩ | ⟨h, _⟩
      · omega
      · cases h
    refine ⟨_, _, rfl, ?_⟩
    rcases hop with rfl | rfl | rfl | rfl | rfl | rfl <;> decide
  | .node op x y, h => by
    have hx : Ok true x := by unfold Ok at h; rcases h with ⟨h, _⟩ | ⟨h, _⟩ | ⟨_, _, h, _⟩ <;> first | exact h | cases h
    have hop : op = 12 ∨ op = 13 := by unfold Ok at h; rcases h with ⟨h, _⟩ | ⟨h, _⟩ | ⟨_, h, _, _⟩ <;> first | exact h | cases h
    obtain ⟨p, ks, e, h1⟩ := label_head x hx
    simp only [toks]
    cases hb : lowL op x
    · refine ⟨p, _, by rw [wrapK, if_neg (by decide), e]; rfl, h1⟩
    · have hs : square op = true := by rcases hop with rfl | rfl <;> decide
      refine ⟨(3, Rl.wOpenL), _, by rw [wrapK, if_pos rfl, hs]; rfl, by decide⟩
theorem cond_tells {l : List Tk} : ∀ (t : Tree), Ok false t → ∀ d, d ≤ 12 → TellsC l d t
  | .leaf op, h, d, hd => by
    have hop : op = 1 ∨ op = 2 := by unfold Ok at h; rcases h with ⟨h, _⟩ | ⟨_, h⟩; cases h; exact h
    have hbt : bt (.leaf op) = 3 := by rcases hop with rfl | rfl <;> rfl
    have e3 : E3 l (partC l d) false (NoL l) (12 - d) (.leaf op) := by
      intro s h1 h2 h3 h4 _
      have et : tokW false 3 (.leaf op) = [(1, nameOf op)] := by
        unfold tokW
        rw [hbt]
        simp only [toks, tok1, kindOf, if_neg (show ¬ op = 5 by omega)]
        rfl
      rw [et] at h1 ⊢
      unfold fits at h4
      simp only [post, List.length_cons, List.length_nil] at h4
      show Rl.prim l (Rl.cond l d) (Rl.label l (d + 1)) s = _
      rcases hop with rfl | rfl
      · have hn : isN l s.pos Rl.wTrue = true := by rw [h1.isN]; exact decide_eq_true ⟨.inl rfl, rfl⟩
        rw [Rl.prim, if_pos hn, put_ok (show (adv s).out.length < 40 by show s.out.length < 40; omega)]
        rfl
      · have hn : isN l s.pos Rl.wFalse = true := by rw [h1.isN]; exact decide_eq_true ⟨.inl rfl, rfl⟩
        have hn0 : ¬ isN l s.pos Rl.wTrue = true := by rw [isN_else hn (by decide)]; decide
        rw [Rl.prim, if_neg hn0, if_pos hn, put_ok (show (adv s).out.length < 40 by show s.out.length < 40; omega)]
        rfl
    exact ⟨e3, l2_of_e3 e3 (by rw [hbt]; decide), l1_of_l2 (l2_of_e3 e3 (by rw [hbt]; decide)) (by rw [hbt]; decide)⟩
  | .node op x y, h, d, hd => by
    by_cases h5 : op = 5
    · subst h5
      have hx : Ok true x := by unfold Ok at h; rcases h with ⟨_, h, _⟩ | ⟨_, _, h, _⟩ | ⟨h, _⟩ <;> first | exact h | (exact absurd h (by decide))
      have hy : Ok true y := by unfold Ok at h; rcases h with ⟨_, h, _⟩ | ⟨_, _, _, h⟩ | ⟨h, _⟩ <;> first | exact h | (exact absurd h (by decide))
      have ix := label_tells (l := l) x hx d hd
      have iy := label_tells (l := l) y hy d hd
      have e3 : E3 l (partC l d) false (NoL l) (12 - d) (.node 5 x y) := by
        have et : tokW false 3 (.node 5 x y) = toks x ++ (3, Rl.wFlows) :: toks y := rfl
        have ed : W 3 (.node 5 x y) = max (deep x) (deep y) := rfl
        intro s h1 h2 h3 h4 h6
        rw [et] at h1 h6 ⊢
        rw [ed] at h3
        unfold fits at h4
        simp only [post, List.length_append, List.length_cons, List.length_nil] at h4
        obtain ⟨p, ks, ep, p1, p2, p3⟩ := label_head x hx
        have hhead := h1
        rw [ep] at hhead
        have hno : ∀ w, p.2 ≠ w → ¬ isN l s.pos w = true := fun w hw => by
          rw [At.isN hhead]
          simp only [decide_eq_true_eq]
          exact fun hh => hw hh.2
        have hfl : isN l (s.pos + (toks x).length) Rl.wFlows = true := by rw [h1.right.isN]; exact decide_eq_true ⟨.inr rfl, rfl⟩
        have hxx := l1_exact ix.2.2 s h1.left h2 (by omega) (by unfold fits; omega) trivial (isN_else hfl (by decide)) (isN_else hfl (by decide))
        have hlen : (toks x ++ (3, Rl.wFlows) :: toks y).length = (toks x).length + 1 + (toks y).length := by simp; omega
        rw [hlen, show s.pos + ((toks x).length + 1 + (toks y).length) = s.pos + (toks x).length + 1 + (toks y).length by omega] at h6
        have hyy := l1_exact iy.2.2 (adv (after s (toks x).length (post x))) h1.right.tail h2 (by omega) (by unfold fits; simp only [after, adv, List.length_append]; omega) trivial h6.2 h6.1
        have hl : ∀ u, Rl.label l (d + 1) u = rows l (partL l d) [Rl.wJoin, Rl.wMeet] u := fun _ => rfl
        show Rl.prim l (Rl.cond l d) (Rl.label l (d + 1)) s = _
        have hfl' : isN l (after s (toks x).length (post x)).pos Rl.wFlows = true := hfl
        rw [Rl.prim, if_neg (hno _ p1), if_neg (hno _ p2), if_neg (hno _ p3), Rl.flow, hl, hxx, if_pos rfl]
        refine (if_pos hfl').trans ?_
        show (if (Rl.label l (d + 1) (adv (after s (toks x).length (post x)))).2 = 0 then put 5 (Rl.label l (d + 1) (adv (after s (toks x).length (post x)))).1 else Rl.label l (d + 1) (adv (after s (toks x).length (post x)))) = _
        rw [hl, hyy, if_pos rfl, put_ok (by simp only [after, adv, List.length_append]; omega), hlen]
        unfold after adv
        simp only [post, List.append_assoc]
        congr 2
        omega
      exact ⟨e3, l2_of_e3 e3 (by rw [bt_node]; decide), l1_of_l2 (l2_of_e3 e3 (by rw [bt_node]; decide)) (by rw [bt_node]; decide)⟩
    · have hx : Ok false x := by unfold Ok at h; rcases h with ⟨_, _, h, _⟩ | ⟨_, h, _⟩ | ⟨h, _⟩ <;> first | exact h | (exact absurd h h5) | cases h
      have hy : Ok false y := by unfold Ok at h; rcases h with ⟨_, _, _, h⟩ | ⟨_, h, _⟩ | ⟨h, _⟩ <;> first | exact h | (exact absurd h h5) | cases h
      have hop : op = 4 ∨ op = 3 := by unfold Ok at h; rcases h with ⟨_, h, _, _⟩ | ⟨_, h, _⟩ | ⟨h, _⟩ <;> first | (exact h.symm) | (exact absurd h h5) | cases h
      have ix := fun d hd => cond_tells (l := l) x hx d hd
      have iy := fun d hd => cond_tells (l := l) y hy d hd
      have core : ∀ d, d ≤ 12 → L1 l (partC l d) false Rl.wOr Rl.wAnd (NoL l) (12 - d) (.node op x y) ∧ (op = 3 → L2 l (partC l d) false Rl.wAnd (NoL l) (12 - d) (.node op x y)) := by
        intro d hd
        rcases hop with rfl | rfl
        · exact ⟨l1_node (o1 := 4) (w1 := Rl.wOr) rfl Rl.op_or rfl rfl (by decide) rfl (fun k hk => ⟨⟨isN_else hk (by decide), isN_else hk (by decide)⟩, isN_else hk (by decide)⟩) (ix d hd).2.2 (iy d hd).2.1, fun h => absurd h (by decide)⟩
        · have h2 := l2_node (o2 := 3) (w2 := Rl.wAnd) (sq := false) (part := partC l d) rfl Rl.op_and rfl rfl (by decide) rfl (fun k hk => ⟨isN_else hk (by decide), isN_else hk (by decide)⟩) (ix d hd).2.1 (iy d hd).1
          exact ⟨l1_of_l2 h2 (by rw [bt_node]; decide), fun _ => h2⟩
      have e3 : E3 l (partC l d) false (NoL l) (12 - d) (.node op x y) := by
        have hbt : decide (bt (.node op x y) < 3) = true := by rw [bt_node]; rcases hop with rfl | rfl <;> decide
        intro s h1 h2 h3 h4 _
        unfold tokW W at *
        rw [hbt] at h1 h3 ⊢
        rw [wrap_len]
        have h1' : At l s.pos ((3, Rl.wOpen) :: (toks (.node op x y) ++ [(3, Rl.wShut)])) := h1
        have hb1 : (true).toNat = 1 := rfl
        rw [hb1] at h3
        obtain ⟨d', rfl⟩ : ∃ d', d = d' + 1 := ⟨d - 1, by omega⟩
        have hshut := At.right (ks := toks (.node op x y)) h1'.tail
        have hin := l1_exact (core d' (by omega)).1 (into s) h1'.tail.left (by show s.deep + 1 = _; omega) (by omega) h4 ⟨shut_no hshut (by decide), shut_no hshut (by decide)⟩
          (shut_no hshut (by decide)) (shut_no hshut (by decide))
        have hn : isN l s.pos Rl.wOpen = true := by rw [h1'.isN]; exact decide_eq_true ⟨.inr rfl, rfl⟩
        show Rl.prim l (Rl.cond l (d' + 1)) (Rl.label l (d' + 1 + 1)) s = _
        rw [Rl.prim, if_neg (by rw [isN_else hn (by decide)]; decide), if_neg (by rw [isN_else hn (by decide)]; decide), if_pos hn]
        exact inside_exact h1' h2 (by omega) hin
      refine ⟨e3, ?_, (core d hd).1⟩
      rcases hop with rfl | rfl
      · exact l2_of_e3 e3 (by rw [bt_node]; decide)
      · exact (core d hd).2 rfl
end Sh
end Go.Proofs.YtipbilmnknmhmaaGreatDoor

/- What is made right is one tree; what tokens tell is one that is not too deep, and no longer than the tokens. Over no program. -/
namespace Go.Proofs.YtipbilmnknmhmaaGreatDoor
set_option maxRecDepth 100000
namespace Sh
open Rl (St Res opOf isN loop rows adv put into outof inside)
open Lx (Tk kt)

/- One tree. -/
/-- A pile's sorts are those of trees. -/
def Piled (q : List Bool) (ts : List Tree) : Prop := ts.length = q.length ∧ ∀ (j : Nat) (b : Bool) (t : Tree), q[j]? = some b → ts[j]? = some t → Ok b t
theorem Piled.take {q : List Bool} {ts : List Tree} (h : Piled q ts) (n : Nat) : Piled (q.take n) (ts.take n) := by
  refine ⟨by simp [h.1], fun j c u hc hu => ?_⟩
  rw [List.getElem?_take] at hc hu
  split at hc
  · rename_i hj
    rw [if_pos hj] at hu
    exact h.2 j c u hc hu
  · cases hc
/- What tokens tell. -/
section
variable {l : List Tk} {o : Nat} {sort : Bool} {more : St → Res} {w : ByteArray} {op : Int} {m : Nat}
end
end Sh
end Go.Proofs.YtipbilmnknmhmaaGreatDoor

/- Rows of a table as text and as tokens; a rule read in the middle of tokens. Over no program. -/
namespace Go.Proofs.YtipbilmnknmhmaaGreatDoor
set_option maxRecDepth 100000
namespace Sh
open Rl (St Res opOf isN loop rows adv put into outof inside)
open Lx (Tk kt first letter run pack)

/-- A rule's tokens are read, wherever they stand, up to what goes on with no rule. -/
theorem read_at {t : Tree} {b : Bool} (h : Ok b t) (hl : (post t).length ≤ 40) (hd : deep t ≤ 12) {l : List Tk} {i : Nat} (h1 : At l i (toks t)) (hend : ∀ w, w = Rl.wJoin ∨ w = Rl.wMeet ∨ w = Rl.wAnd ∨ w = Rl.wOr → isN l (i + (toks t).length) w = false) :
    Rl.read l b i = (⟨i + (toks t).length, 0, post t⟩, 0) := by
  have ha : after ⟨i, 0, []⟩ (toks t).length (post t) = ⟨i + (toks t).length, 0, post t⟩ := by
    unfold after
    simp
  have e1 := hend Rl.wJoin (.inl rfl)
  have e2 := hend Rl.wMeet (.inr (.inl rfl))
  have e3 := hend Rl.wAnd (.inr (.inr (.inl rfl)))
  have e4 := hend Rl.wOr (.inr (.inr (.inr rfl)))
  cases b
  · have := l1_exact (cond_tells (l := l) t h 12 (Nat.le_refl _)).2.2 ⟨i, 0, []⟩ h1 rfl (by omega) (by unfold fits; simpa using hl) ⟨e1, e2⟩ e3 e4
    rw [ha] at this
    exact this
  · have := l1_exact (label_tells (l := l) t h 12 (Nat.le_refl _)).2.2 ⟨i, 0, []⟩ h1 rfl (by omega) (by unfold fits; simpa using hl) trivial e2 e1
    rw [ha] at this
    exact this
end Sh
namespace Tb
open Sh (Tree Ok post toks txt deep Reads Solid Fin At reads_append reads_gap reads_word reads_txt solid_txt fin_blank)
open Lx (Tk kt first letter run pack)

/-- The instructions' words. -/
def words : List (List UInt8) :=
  [[110, 111, 111, 112], [112, 117, 115, 104], [112, 111, 112], [97, 100, 100], [115, 117, 98], [108, 111, 97, 100], [115, 116, 111, 114, 101], [106, 117, 109, 112], [98, 110, 122], [99, 97, 108, 108],
   [114, 101, 116, 117, 114, 110], [111, 117, 116, 112, 117, 116], [104, 97, 108, 116]]
def wordL (op : Nat) : List UInt8 := words.getD op []
def word (op : Nat) : ByteArray := pack (wordL op)
def arity (op : Nat) : Nat := [0, 1, 1, 2, 2, 2, 3, 1, 1, 1, 2, 1, 0].getD op 0
theorem op_cases {op : Nat} (h : op < 13) : op = 0 ∨ op = 1 ∨ op = 2 ∨ op = 3 ∨ op = 4 ∨ op = 5 ∨ op = 6 ∨ op = 7 ∨ op = 8 ∨ op = 9 ∨ op = 10 ∨ op = 11 ∨ op = 12 := by omega
theorem word_letters {op : Nat} (h : op < 13) : wordL op ≠ [] ∧ (∀ c ∈ wordL op, letter c = true) ∧ (wordL op).length ≤ 6 := by
  rcases op_cases h with rfl | rfl | rfl | rfl | rfl | rfl | rfl | rfl | rfl | rfl | rfl | rfl | rfl <;> decide
abbrev mColon : ByteArray := { data := #[58] }
abbrev mSemi : ByteArray := { data := #[59] }
/-- A row, of an instruction and three rules. -/
structure Row where
  op : Nat
  m : Tree
  r : Tree
  p : Tree
def Row.ok (x : Row) : Prop := x.op < 13 ∧ Ok false x.m ∧ Ok true x.r ∧ Ok true x.p
def rowToks (x : Row) : List (Int × ByteArray) := (1, word x.op) :: (3, mColon) :: (toks x.m ++ (3, mSemi) :: (toks x.r ++ (3, mSemi) :: (toks x.p ++ [(3, mSemi)])))
/-- Of a row's tokens, what stands where. -/
theorem row_at {x : Row} (h : x.ok) {l : List Tk} {i : Nat} {rest : List (Int × ByteArray)} (ha : At l i (rowToks x ++ rest)) :
    At l i [(1, word x.op)] ∧ At l (i + 1) [(3, mColon)] ∧ At l (i + 2) (toks x.m) ∧ At l (i + 2 + (toks x.m).length) [(3, mSemi)] ∧
    At l (i + 2 + (toks x.m).length + 1) (toks x.r) ∧ At l (i + 2 + (toks x.m).length + 1 + (toks x.r).length) [(3, mSemi)] ∧
    At l (i + 2 + (toks x.m).length + 1 + (toks x.r).length + 1) (toks x.p) ∧ At l (i + 2 + (toks x.m).length + 1 + (toks x.r).length + 1 + (toks x.p).length) [(3, mSemi)] ∧
    At l (i + 2 + (toks x.m).length + 1 + (toks x.r).length + 1 + (toks x.p).length + 1) rest ∧ (rowToks x).length = 2 + (toks x.m).length + 1 + (toks x.r).length + 1 + (toks x.p).length + 1 := by
  have _ := h
  have e : rowToks x ++ rest = [(1, word x.op)] ++ ([(3, mColon)] ++ (toks x.m ++ ([(3, mSemi)] ++ (toks x.r ++ ([(3, mSemi)] ++ (toks x.p ++ ([(3, mSemi)] ++ rest))))))) := by simp [rowToks]
  rw [e] at ha
  have a1 := ha.right
  have a2 := a1.right
  have a3 := a2.right
  have a4 := a3.right
  have a5 := a4.right
  have a6 := a5.right
  have a7 := a6.right
  have a8 := a7.right
  refine ⟨ha.left, a1.left, a2.left, a3.left, a4.left, a5.left, a6.left, a7.left, a8, ?_⟩
  simp [rowToks]
  omega
end Tb
end Go.Proofs.YtipbilmnknmhmaaGreatDoor

/- Things of two piles: what a rule's numbers make of them, and how large they get. Over no program. -/
namespace Go.Proofs.YtipbilmnknmhmaaGreatDoor
set_option maxRecDepth 100000
namespace Sh
/-- A thing: its text, how it binds, how deep it is. -/
structure Th where
  s : ByteArray
  b : Nat
  d : Nat
def one (n : Int) : Th := ⟨nameOf n, binds n, 0⟩
theorem pack_append (a b : List UInt8) : Lx.pack (a ++ b) = Lx.pack a ++ Lx.pack b := by
  apply ByteArray.ext
  simp [Lx.pack]
abbrev Two := List Th × List Th
def add (p : Two) (b : Bool) (x : Th) : Two := if b = true then (p.1, p.2 ++ [x]) else (p.1 ++ [x], p.2)
end Sh
end Go.Proofs.YtipbilmnknmhmaaGreatDoor
