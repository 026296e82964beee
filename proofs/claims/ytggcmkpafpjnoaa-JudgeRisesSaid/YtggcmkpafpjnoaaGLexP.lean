/- Tokens over plain data: a text's bytes as a list. Over no program. -/
import Derived.Lib.Strings
import Derived.Lib.Join
import Derived.Test.YtggcmkpafpjnoaaGBase
namespace Go.Proofs.Ytggcmkpafpjnoaa
set_option maxRecDepth 100000
namespace Lx

def blank (c : UInt8) : Bool := c == 9 || c == 10 || c == 32
def inLine (c : UInt8) : Bool := c != 10
def letter (c : UInt8) : Bool := decide (97 ≤ c) && decide (c ≤ 122)
def digit (c : UInt8) : Bool := decide (48 ≤ c) && decide (c ≤ 57)
def run (p : UInt8 → Bool) (r : List UInt8) : Nat := (r.takeWhile p).length
def comment : List UInt8 → Nat
  | [] => 0
  | c :: r => if c = 35 then 1 + run inLine r else 0
def marks : List UInt8 := [40, 41, 91, 93, 59, 58, 44, 60, 62, 64, 45, 61]
def mark : List UInt8 → Nat
  | [] => 0
  | c :: r => if c = 60 ∧ r.head? = some 61 then 2 else if marks.contains c then 1 else 0
theorem mark_cons (c : UInt8) (r : List UInt8) : mark (c :: r) = if c = 60 ∧ r.head? = some 61 then 2 else if marks.contains c then 1 else 0 := rfl
theorem comment_cons (c : UInt8) (r : List UInt8) : comment (c :: r) = if c = 35 then 1 + run inLine r else 0 := rfl
/-- What a text begins with: its kind (-1: left out), and how many bytes (0: a wrong byte). -/
def first (r : List UInt8) : Int × Nat :=
  if 0 < run blank r then (-1, run blank r)
  else if 0 < comment r then (-1, comment r)
  else if 0 < run letter r then (1, run letter r)
  else if 0 < run digit r then (2, run digit r)
  else if 0 < mark r then (3, mark r) else (-1, 0)

structure Tk where
  kind : Int
  text : ByteArray
  pos : Int

def pack (l : List UInt8) : ByteArray := ⟨l.toArray⟩
theorem pack_list (l : List UInt8) : (pack l).data.toList = l := rfl
theorem pack_data (s : ByteArray) : pack s.data.toList = s := Lib.mk_data s
theorem pack_size (l : List UInt8) : (pack l).size = l.length := by rw [Lib.size_eq, pack_list]
theorem empty_list : ByteArray.empty.data.toList = [] := rfl
theorem pack_inj {a b : List UInt8} (h : pack a = pack b) : a = b := by
  have := congrArg (fun s : ByteArray => s.data.toList) h
  exact this

/-- A text's tokens from a place on, and where they end (the end, or the first wrong byte). -/
def toks : Nat → List UInt8 → Nat → List Tk × Nat
  | 0, _, k => ([], k)
  | n + 1, r, k =>
    if r = [] then ([], k)
    else if (first r).2 = 0 then ([], k)
    else (if (first r).1 = -1 then (toks n (r.drop (first r).2) (k + (first r).2)).1
          else ⟨(first r).1, pack (r.take (first r).2), k⟩ :: (toks n (r.drop (first r).2) (k + (first r).2)).1,
          (toks n (r.drop (first r).2) (k + (first r).2)).2)
theorem toks_end (n k : Nat) : toks n [] k = ([], k) := by cases n <;> rfl
theorem toks_bad {n k : Nat} {r : List UInt8} (h : (first r).2 = 0) : toks n r k = ([], k) := by
  cases n with
  | zero => rfl
  | succ n =>
    unfold toks
    by_cases hr : r = []
    · rw [if_pos hr]
    · rw [if_neg hr, if_pos h]
theorem toks_skip {n k : Nat} {r : List UInt8} (hr : r ≠ []) (h : (first r).2 ≠ 0) (h1 : (first r).1 = -1) : toks (n + 1) r k = toks n (r.drop (first r).2) (k + (first r).2) := by
  simp only [toks]
  rw [if_neg hr, if_neg h, if_pos h1]
theorem toks_take {n k : Nat} {r : List UInt8} (hr : r ≠ []) (h : (first r).2 ≠ 0) (h1 : (first r).1 ≠ -1) : toks (n + 1) r k = (⟨(first r).1, pack (r.take (first r).2), k⟩ :: (toks n (r.drop (first r).2) (k + (first r).2)).1, (toks n (r.drop (first r).2) (k + (first r).2)).2) := by
  simp only [toks]
  rw [if_neg hr, if_neg h, if_neg h1]

theorem run_le (p : UInt8 → Bool) (r : List UInt8) : run p r ≤ r.length := (List.takeWhile_prefix p).length_le
theorem comment_le (r : List UInt8) : comment r ≤ r.length := by
  cases r with
  | nil => simp [comment]
  | cons c r =>
    simp only [comment, List.length_cons]
    have := run_le inLine r
    split <;> omega
theorem mark_le (r : List UInt8) : mark r ≤ r.length := by
  rcases r with _ | ⟨c, r⟩
  · exact Nat.le_refl _
  · rw [mark_cons]
    by_cases h : c = 60 ∧ r.head? = some 61
    · rw [if_pos h]
      rcases r with _ | ⟨d, r⟩
      · simp at h
      · simp
    · rw [if_neg h]
      by_cases h2 : marks.contains c = true
      · rw [if_pos h2]; simp
      · rw [if_neg h2]; simp
theorem first_le (r : List UInt8) : (first r).2 ≤ r.length := by
  unfold first
  repeat' split
  · exact run_le _ _
  · exact comment_le _
  · exact run_le _ _
  · exact run_le _ _
  · exact mark_le _
  · simp
theorem first_kind (r : List UInt8) : (first r).1 = -1 ∨ 1 ≤ (first r).1 ∧ (first r).1 ≤ 3 := by
  unfold first
  repeat' split
  all_goals simp

/-- The whole of Lex: the tokens, a place, an error's number. -/
def lex (s : List UInt8) : List Tk × Nat × Nat :=
  if 2000 < s.length then ([], 0, 8)
  else if (toks s.length s 0).2 < s.length then ([], (toks s.length s 0).2, 4)
  else if 200 < (toks s.length s 0).1.length + 1 then ([], 0, 8)
  else ((toks s.length s 0).1 ++ [⟨0, ByteArray.empty, ((toks s.length s 0).2 : Nat)⟩], 0, 0)

/-- The texts that Join joins. -/
def texts (l : List Tk) : List ByteArray := (l.map Tk.text).filter fun s => !s.data.toList.isEmpty
def joined (l : List Tk) : ByteArray := pack (Lib.join ((texts l).map (·.data.toList)) [32])
end Lx
end Go.Proofs.Ytggcmkpafpjnoaa

/- Rules over plain data: what tokens tell, and what is made right. Over no program. -/
namespace Go.Proofs.Ytggcmkpafpjnoaa
set_option maxRecDepth 100000
namespace Rl
open Lx (Tk)

/-- How far tokens are read, how many brackets are open, and the rule so far. -/
structure St where
  pos : Nat
  deep : Nat
  out : List Int
/-- A state, and an error's number (0: none). -/
abbrev Res := St × Nat

abbrev wTrue : ByteArray := { data := #[116, 114, 117, 101] }
abbrev wFalse : ByteArray := { data := #[102, 97, 108, 115, 101] }
abbrev wAnd : ByteArray := { data := #[97, 110, 100] }
abbrev wOr : ByteArray := { data := #[111, 114] }
abbrev wFlows : ByteArray := { data := #[60, 61] }
abbrev wJoin : ByteArray := { data := #[106, 111, 105, 110] }
abbrev wMeet : ByteArray := { data := #[109, 101, 101, 116] }
abbrev wOpen : ByteArray := { data := #[40] }
abbrev wShut : ByteArray := { data := #[41] }
abbrev wOpenL : ByteArray := { data := #[91] }
abbrev wShutL : ByteArray := { data := #[93] }
/-- What each word puts. -/
def table : List (ByteArray × Int) :=
  [(wTrue, 1), (wFalse, 2), (wAnd, 3), (wOr, 4), (wFlows, 5), ({ data := #[98, 111, 116] }, 6), ({ data := #[116, 111, 112] }, 7), ({ data := #[112, 99] }, 8),
   ({ data := #[111, 110, 101] }, 9), ({ data := #[116, 119, 111] }, 10), ({ data := #[116, 104, 114, 101, 101] }, 11), (wJoin, 12), (wMeet, 13)]
def look (s : ByteArray) : List (ByteArray × Int) → Int
  | [] => 0
  | (k, n) :: r => if k = s then n else look s r
def opOf (s : ByteArray) : Int := look s table
theorem look_bounds (s : ByteArray) : ∀ l : List (ByteArray × Int), (∀ x ∈ l, 1 ≤ x.2 ∧ x.2 ≤ 13) → 0 ≤ look s l ∧ look s l ≤ 13
  | [], _ => ⟨Int.le_refl _, show (0 : Int) ≤ 13 by decide⟩
  | (k, n) :: r, h => by
    unfold look
    split
    · have := h (k, n) (.head _); exact ⟨by omega, this.2⟩
    · exact look_bounds s r fun x hx => h x (.tail _ hx)
theorem opOf_bounds (s : ByteArray) : 0 ≤ opOf s ∧ opOf s ≤ 13 := look_bounds s table (by decide)
theorem op_true : opOf wTrue = 1 := by decide
theorem op_false : opOf wFalse = 2 := by decide
theorem op_and : opOf wAnd = 3 := by decide
theorem op_or : opOf wOr = 4 := by decide
theorem op_flows : opOf wFlows = 5 := by decide
theorem op_join : opOf wJoin = 12 := by decide
theorem op_meet : opOf wMeet = 13 := by decide

/-- Is a token a word or a mark of a text? -/
def isN (l : List Tk) (k : Nat) (w : ByteArray) : Bool :=
  match l[k]? with
  | some t => decide ((t.kind = 1 ∨ t.kind = 3) ∧ t.text = w)
  | none => false
def adv (s : St) : St := { s with pos := s.pos + 1 }
def put (op : Int) (s : St) : Res := if s.out.length = 40 then (s, 8) else ({ s with out := s.out ++ [op] }, 0)
def loop (l : List Tk) (more : St → Res) (w : ByteArray) : Nat → St → Res
  | 0, s => (s, 0)
  | n + 1, s => if isN l s.pos w = true then
      (if (more (adv s)).2 = 0 then
        (if (put (opOf w) (more (adv s)).1).2 = 0 then loop l more w n (put (opOf w) (more (adv s)).1).1 else put (opOf w) (more (adv s)).1)
       else more (adv s))
    else (s, 0)
def rows (l : List Tk) (part : St → Res) : List ByteArray → St → Res
  | [], s => part s
  | w :: ws, s => if (rows l part ws s).2 = 0 then loop l (rows l part ws) w l.length (rows l part ws s).1 else rows l part ws s
def into (s : St) : St := { s with pos := s.pos + 1, deep := s.deep + 1 }
def outof (s : St) : St := { s with pos := s.pos + 1, deep := s.deep - 1 }
def inside (l : List Tk) (part : St → Res) (fin : ByteArray) (s : St) : Res :=
  if s.deep = 12 then (s, 5)
  else if (part (into s)).2 = 0 then
    (if isN l (part (into s)).1.pos fin = true then (outof (part (into s)).1, 0) else ((part (into s)).1, 4))
  else part (into s)
/-- What an atom's word puts: 0, if a token is none. -/
def word (l : List Tk) (k : Nat) : Int :=
  match l[k]? with
  | some t => if t.kind = 1 ∧ 6 ≤ opOf t.text ∧ opOf t.text ≤ 11 then opOf t.text else 0
  | none => 0
def atom (l : List Tk) (lab : St → Res) (s : St) : Res :=
  if isN l s.pos wOpenL = true then inside l lab wShutL s
  else if word l s.pos = 0 then (s, 4) else put (word l s.pos) (adv s)
def label (l : List Tk) : Nat → St → Res
  | 0, s => (s, 5)
  | d + 1, s => rows l (atom l (label l d)) [wJoin, wMeet] s
def flow (l : List Tk) (lab : St → Res) (s : St) : Res :=
  if (lab s).2 = 0 then
    (if isN l (lab s).1.pos wFlows = true then
      (if (lab (adv (lab s).1)).2 = 0 then put 5 (lab (adv (lab s).1)).1 else lab (adv (lab s).1))
     else ((lab s).1, 4))
  else lab s
def prim (l : List Tk) (cnd lab : St → Res) (s : St) : Res :=
  if isN l s.pos wTrue = true then put 1 (adv s)
  else if isN l s.pos wFalse = true then put 2 (adv s)
  else if isN l s.pos wOpen = true then inside l cnd wShut s
  else flow l lab s
def cond (l : List Tk) : Nat → St → Res
  | 0, s => (s, 5)
  | d + 1, s => rows l (prim l (cond l d) (label l (d + 1))) [wOr, wAnd] s
def read (l : List Tk) (lab : Bool) (i : Nat) : Res := if lab then label l 13 ⟨i, 0, []⟩ else cond l 13 ⟨i, 0, []⟩

/-- The last token is no word and no mark. -/
def Ends (l : List Tk) : Prop := ∀ k t, l[k]? = some t → (t.kind = 1 ∨ t.kind = 3) → k + 1 < l.length
theorem ends_of {l : List Tk} {t : Tk} (h : l[l.length - 1]? = some t) (h0 : t.kind = 0) : Ends l := fun k u hu hk => by
  have h1 := (List.getElem?_eq_some_iff.1 hu).1
  by_cases hk1 : k = l.length - 1
  · subst hk1
    rw [h] at hu
    injection hu with hu
    subst hu
    omega
  · omega
theorem isN_some {l : List Tk} {k : Nat} {w : ByteArray} (h : isN l k w = true) : ∃ t, l[k]? = some t ∧ (t.kind = 1 ∨ t.kind = 3) ∧ t.text = w := by
  unfold isN at h
  split at h
  · rename_i t ht
    exact ⟨t, ht, (of_decide_eq_true h).1, (of_decide_eq_true h).2⟩
  · cases h
theorem isN_lt {l : List Tk} {k : Nat} {w : ByteArray} (he : Ends l) (h : isN l k w = true) : k + 1 < l.length := by
  obtain ⟨t, ht, hk, _⟩ := isN_some h
  exact he k t ht hk
theorem word_some {l : List Tk} {k : Nat} (h : word l k ≠ 0) : ∃ t, l[k]? = some t ∧ t.kind = 1 ∧ word l k = opOf t.text ∧ 6 ≤ opOf t.text ∧ opOf t.text ≤ 11 := by
  unfold word at h ⊢
  split at h
  · rename_i t ht
    split at h
    · rename_i h1
      simp only [ht, if_pos h1]
      exact ⟨t, rfl, h1.1, rfl, h1.2⟩
    · exact absurd rfl h
  · exact absurd rfl h
theorem word_lt {l : List Tk} {k : Nat} (he : Ends l) (h : word l k ≠ 0) : k + 1 < l.length := by
  obtain ⟨t, ht, hk, _⟩ := word_some h
  exact he k t ht (.inl hk)

/-- A pile's last two things, and what is put in their place. -/
def two (pile : List Bool) (take put : Bool) : Option (List Bool) :=
  if 2 ≤ pile.length ∧ pile[pile.length - 2]? = some take ∧ pile[pile.length - 1]? = some take then some (pile.take (pile.length - 2) ++ [put]) else none
def step (pile : List Bool) (n : Int) : Option (List Bool) :=
  if n = 1 ∨ n = 2 then some (pile ++ [false])
  else if 6 ≤ n ∧ n ≤ 11 then some (pile ++ [true])
  else if n = 3 ∨ n = 4 then two pile false false
  else if n = 5 then two pile true false
  else if n = 12 ∨ n = 13 then two pile true true
  else none
def pileOf : List Bool → List Int → Option (List Bool)
  | p, [] => some p
  | p, n :: r => (step p n).bind fun q => pileOf q r
def right (rule : List Int) (lab : Bool) : Bool := decide (rule.length ≤ 40 ∧ pileOf [] rule = some [lab])
theorem pileOf_append : ∀ (a b : List Int) (p : List Bool), pileOf p (a ++ b) = (pileOf p a).bind fun q => pileOf q b
  | [], b, p => rfl
  | n :: a, b, p => by
    simp only [List.cons_append, pileOf]
    cases step p n with
    | none => rfl
    | some q => exact pileOf_append a b q
theorem two_snoc (p : List Bool) (a b : Bool) : two (p ++ [a] ++ [a]) a b = some (p ++ [b]) := by
  unfold two
  have e0 : (p ++ [a] ++ [a]).length = p.length + 2 := by simp
  rw [e0, if_pos ⟨by omega, by simp, by simp⟩]
  congr 1
  rw [Nat.add_sub_cancel, List.append_assoc, List.take_left]
/-- What rows of numbers put on any pile: one thing. -/
def Seg (x : List Int) (sort : Bool) : Prop := ∀ p, pileOf p x = some (p ++ [sort])
theorem seg_one {n : Int} {b : Bool} (h : ∀ p, step p n = some (p ++ [b])) : Seg [n] b := fun p => by
  simp only [pileOf, h p, Option.bind_some]
theorem seg_two {x y : List Int} {n : Int} {a b : Bool} (hx : Seg x a) (hy : Seg y a) (h : ∀ p, step p n = two p a b) : Seg (x ++ y ++ [n]) b := fun p => by
  rw [pileOf_append, pileOf_append, hx p]
  simp only [Option.bind_some, hy (p ++ [a])]
  simp only [pileOf, h, two_snoc, Option.bind_some]
theorem right_of {x : List Int} {b : Bool} (h : Seg x b) (hl : x.length ≤ 40) : right x b = true ∧ right x (!b) = false := by
  have h0 := h []
  unfold right
  rw [h0]
  refine ⟨decide_eq_true ⟨hl, rfl⟩, decide_eq_false ?_⟩
  rintro ⟨_, h1⟩
  injection h1 with h1
  simp at h1

/-- What a part keeps, read at a depth: places and lengths; and, if nothing is wrong, that it told one thing. -/
def Good (l : List Tk) (o : Nat) (sort : Bool) (p : St → Res) : Prop :=
  ∀ s : St, s.pos < l.length → s.deep = o → s.out.length ≤ 40 →
    (p s).1.pos < l.length ∧ (p s).1.out.length ≤ 40 ∧ ((p s).2 = 0 → (p s).1.deep = o ∧ s.pos < (p s).1.pos ∧ ∃ x, (p s).1.out = s.out ++ x ∧ Seg x sort)
theorem put_good (op : Int) (s : St) (h : s.out.length ≤ 40) : (put op s).1.pos = s.pos ∧ (put op s).1.deep = s.deep ∧ (put op s).1.out.length ≤ 40 ∧ ((put op s).2 = 0 → (put op s).1.out = s.out ++ [op]) := by
  unfold put
  split
  · exact ⟨rfl, rfl, h, fun e => by cases e⟩
  · exact ⟨rfl, rfl, by simp; omega, fun _ => rfl⟩
theorem loop_good {l : List Tk} (he : Ends l) {o : Nat} {sort : Bool} {more : St → Res} (hm : Good l o sort more) (w : ByteArray) (hw : ∀ p, step p (opOf w) = two p sort sort) :
    ∀ (n : Nat) (s : St) (y x : List Int), s.pos < l.length → s.deep = o → s.out.length ≤ 40 → s.out = y ++ x → Seg x sort →
      (loop l more w n s).1.pos < l.length ∧ (loop l more w n s).1.out.length ≤ 40 ∧ ((loop l more w n s).2 = 0 → (loop l more w n s).1.deep = o ∧ s.pos ≤ (loop l more w n s).1.pos ∧ ∃ z, (loop l more w n s).1.out = y ++ z ∧ Seg z sort)
  | 0, s, y, x, h1, h2, h3, h4, h5 => ⟨h1, h3, fun _ => ⟨h2, Nat.le_refl _, x, h4, h5⟩⟩
  | n + 1, s, y, x, h1, h2, h3, h4, h5 => by
    by_cases hn : isN l s.pos w = true
    · obtain ⟨a1, a2, a3⟩ := hm (adv s) (by have := isN_lt he hn; exact this) h2 h3
      by_cases hr : (more (adv s)).2 = 0
      · obtain ⟨b1, b2, z, b3, b4⟩ := a3 hr
        obtain ⟨c1, c2, c3, c4⟩ := put_good (opOf w) _ a2
        by_cases hq : (put (opOf w) (more (adv s)).1).2 = 0
        · have e : loop l more w (n + 1) s = loop l more w n (put (opOf w) (more (adv s)).1).1 := by rw [loop, if_pos hn, if_pos hr, if_pos hq]
          rw [e]
          obtain ⟨d1, d2, d3⟩ := loop_good he hm w hw n (put (opOf w) (more (adv s)).1).1 y (x ++ z ++ [opOf w]) (by rw [c1]; exact a1) (by rw [c2]; exact b1) c3 (by rw [c4 hq, b3, show (adv s).out = s.out from rfl, h4]; simp) (seg_two h5 b4 hw)
          refine ⟨d1, d2, fun h => ?_⟩
          obtain ⟨f1, f2, f3⟩ := d3 h
          have b2' : s.pos + 1 < (more (adv s)).1.pos := b2
          exact ⟨f1, by omega, f3⟩
        · have e : loop l more w (n + 1) s = put (opOf w) (more (adv s)).1 := by rw [loop, if_pos hn, if_pos hr, if_neg hq]
          rw [e]
          exact ⟨by rw [c1]; exact a1, c3, fun h => absurd h hq⟩
      · have e : loop l more w (n + 1) s = more (adv s) := by rw [loop, if_pos hn, if_neg hr]
        rw [e]
        exact ⟨a1, a2, fun h => absurd h hr⟩
    · have e : loop l more w (n + 1) s = (s, 0) := by rw [loop, if_neg hn]
      rw [e]
      exact ⟨h1, h3, fun _ => ⟨h2, Nat.le_refl _, x, h4, h5⟩⟩
theorem rows_good {l : List Tk} (he : Ends l) {o : Nat} {sort : Bool} {part : St → Res} (hp : Good l o sort part) : ∀ ws : List ByteArray, (∀ w ∈ ws, ∀ p, step p (opOf w) = two p sort sort) → Good l o sort (rows l part ws)
  | [], _ => hp
  | w :: ws, hw => fun s h1 h2 h3 => by
    have hm := rows_good he hp ws (fun v hv => hw v (.tail _ hv))
    obtain ⟨a1, a2, a3⟩ := hm s h1 h2 h3
    by_cases hr : (rows l part ws s).2 = 0
    · obtain ⟨b1, b2, x, b3, b4⟩ := a3 hr
      have e : rows l part (w :: ws) s = loop l (rows l part ws) w l.length (rows l part ws s).1 := by rw [rows, if_pos hr]
      rw [e]
      obtain ⟨d1, d2, d3⟩ := loop_good he hm w (hw w (.head _)) l.length _ s.out x a1 b1 a2 b3 b4
      refine ⟨d1, d2, fun h => ?_⟩
      obtain ⟨f1, f2, f3⟩ := d3 h
      exact ⟨f1, by omega, f3⟩
    · have e : rows l part (w :: ws) s = rows l part ws s := by rw [rows, if_neg hr]
      rw [e]
      exact ⟨a1, a2, fun h => absurd h hr⟩
theorem inside_good {l : List Tk} (he : Ends l) {o : Nat} {sort : Bool} {part : St → Res} (hp : o < 12 → Good l (o + 1) sort part) (w fin : ByteArray) (s : St) (h0 : isN l s.pos w = true) (h2 : s.deep = o) (h4 : o ≤ 12) (h3 : s.out.length ≤ 40) :
    (inside l part fin s).1.pos < l.length ∧ (inside l part fin s).1.out.length ≤ 40 ∧ ((inside l part fin s).2 = 0 → (inside l part fin s).1.deep = o ∧ s.pos < (inside l part fin s).1.pos ∧ ∃ x, (inside l part fin s).1.out = s.out ++ x ∧ Seg x sort) := by
  have h1 := isN_lt he h0
  by_cases hd : s.deep = 12
  · have e : inside l part fin s = (s, 5) := by rw [inside, if_pos hd]
    rw [e]
    exact ⟨by show s.pos < _; omega, h3, fun h => by cases h⟩
  · obtain ⟨a1, a2, a3⟩ := hp (by omega) (into s) h1 (by show s.deep + 1 = _; omega) h3
    by_cases hr : (part (into s)).2 = 0
    · obtain ⟨b1, b2, x, b3, b4⟩ := a3 hr
      have b2' : s.pos + 1 < (part (into s)).1.pos := b2
      by_cases hn : isN l (part (into s)).1.pos fin = true
      · have e : inside l part fin s = (outof (part (into s)).1, 0) := by rw [inside, if_neg hd, if_pos hr, if_pos hn]
        rw [e]
        exact ⟨isN_lt he hn, a2, fun _ => ⟨by show (part (into s)).1.deep - 1 = o; omega, by show s.pos < (part (into s)).1.pos + 1; omega, x, b3, b4⟩⟩
      · have e : inside l part fin s = ((part (into s)).1, 4) := by rw [inside, if_neg hd, if_pos hr, if_neg hn]
        rw [e]
        exact ⟨a1, a2, fun h => by cases h⟩
    · have e : inside l part fin s = part (into s) := by rw [inside, if_neg hd, if_neg hr]
      rw [e]
      exact ⟨a1, a2, fun h => absurd h hr⟩
theorem atom_good {l : List Tk} (he : Ends l) {o : Nat} (ho : o ≤ 12) {lab : St → Res} (hp : o < 12 → Good l (o + 1) true lab) : Good l o true (atom l lab) := fun s h1 h2 h3 => by
  by_cases hn : isN l s.pos wOpenL = true
  · have e : atom l lab s = inside l lab wShutL s := by rw [atom, if_pos hn]
    rw [e]
    exact inside_good he hp _ _ s hn h2 ho h3
  · by_cases hw : word l s.pos = 0
    · have e : atom l lab s = (s, 4) := by rw [atom, if_neg hn, if_pos hw]
      rw [e]
      exact ⟨h1, h3, fun h => by cases h⟩
    · have e : atom l lab s = put (word l s.pos) (adv s) := by rw [atom, if_neg hn, if_neg hw]
      rw [e]
      obtain ⟨c1, c2, c3, c4⟩ := put_good (word l s.pos) (adv s) h3
      obtain ⟨t, _, _, t3, t4, t5⟩ := word_some hw
      refine ⟨by rw [c1]; exact word_lt he hw, c3, fun h => ⟨by rw [c2]; exact h2, by rw [c1]; exact Nat.lt_succ_self _, [word l s.pos], c4 h, seg_one fun p => ?_⟩⟩
      unfold step
      rw [t3, if_neg (by omega), if_pos ⟨t4, t5⟩]
theorem step_join (p : List Bool) : step p (opOf wJoin) = two p true true := by rw [op_join]; rfl
theorem step_meet (p : List Bool) : step p (opOf wMeet) = two p true true := by rw [op_meet]; rfl
theorem step_or (p : List Bool) : step p (opOf wOr) = two p false false := by rw [op_or]; rfl
theorem step_and (p : List Bool) : step p (opOf wAnd) = two p false false := by rw [op_and]; rfl
theorem label_good {l : List Tk} (he : Ends l) : ∀ (d o : Nat), o + d = 12 → Good l o true (label l (d + 1))
  | 0, o, h => rows_good he (atom_good he (by omega) fun h2 => absurd h2 (by omega)) _ (by
      intro w hw p
      simp only [List.mem_cons, List.not_mem_nil, or_false] at hw
      rcases hw with rfl | rfl
      · exact step_join p
      · exact step_meet p)
  | d + 1, o, h => rows_good he (atom_good he (by omega) fun _ => label_good he d (o + 1) (by omega)) _ (by
      intro w hw p
      simp only [List.mem_cons, List.not_mem_nil, or_false] at hw
      rcases hw with rfl | rfl
      · exact step_join p
      · exact step_meet p)
theorem flow_good {l : List Tk} (he : Ends l) {o : Nat} {lab : St → Res} (hp : Good l o true lab) : Good l o false (flow l lab) := fun s h1 h2 h3 => by
  obtain ⟨a1, a2, a3⟩ := hp s h1 h2 h3
  by_cases hr : (lab s).2 = 0
  · obtain ⟨b1, b2, x, b3, b4⟩ := a3 hr
    by_cases hn : isN l (lab s).1.pos wFlows = true
    · obtain ⟨c1, c2, c3⟩ := hp (adv (lab s).1) (isN_lt he hn) b1 a2
      by_cases hq : (lab (adv (lab s).1)).2 = 0
      · obtain ⟨d1, d2, y, d3, d4⟩ := c3 hq
        have d2' : (lab s).1.pos + 1 < (lab (adv (lab s).1)).1.pos := d2
        have e : flow l lab s = put 5 (lab (adv (lab s).1)).1 := by rw [flow, if_pos hr, if_pos hn, if_pos hq]
        rw [e]
        obtain ⟨f1, f2, f3, f4⟩ := put_good 5 _ c2
        refine ⟨by rw [f1]; exact c1, f3, fun h => ⟨by rw [f2]; exact d1, by rw [f1]; omega, x ++ y ++ [5], ?_, seg_two b4 d4 fun p => rfl⟩⟩
        rw [f4 h, d3, show (adv (lab s).1).out = (lab s).1.out from rfl, b3]
        simp
      · have e : flow l lab s = lab (adv (lab s).1) := by rw [flow, if_pos hr, if_pos hn, if_neg hq]
        rw [e]
        exact ⟨c1, c2, fun h => absurd h hq⟩
    · have e : flow l lab s = ((lab s).1, 4) := by rw [flow, if_pos hr, if_neg hn]
      rw [e]
      exact ⟨a1, a2, fun h => by cases h⟩
  · have e : flow l lab s = lab s := by rw [flow, if_neg hr]
    rw [e]
    exact ⟨a1, a2, fun h => absurd h hr⟩
theorem prim_good {l : List Tk} (he : Ends l) {o : Nat} (ho : o ≤ 12) {cnd lab : St → Res} (hc : o < 12 → Good l (o + 1) false cnd) (hp : Good l o true lab) : Good l o false (prim l cnd lab) := fun s h1 h2 h3 => by
  by_cases t1 : isN l s.pos wTrue = true
  · have e : prim l cnd lab s = put 1 (adv s) := by rw [prim, if_pos t1]
    rw [e]
    obtain ⟨f1, f2, f3, f4⟩ := put_good 1 (adv s) h3
    exact ⟨by rw [f1]; exact isN_lt he t1, f3, fun h => ⟨by rw [f2]; exact h2, by rw [f1]; exact Nat.lt_succ_self _, [1], f4 h, seg_one fun p => rfl⟩⟩
  · by_cases t2 : isN l s.pos wFalse = true
    · have e : prim l cnd lab s = put 2 (adv s) := by rw [prim, if_neg t1, if_pos t2]
      rw [e]
      obtain ⟨f1, f2, f3, f4⟩ := put_good 2 (adv s) h3
      exact ⟨by rw [f1]; exact isN_lt he t2, f3, fun h => ⟨by rw [f2]; exact h2, by rw [f1]; exact Nat.lt_succ_self _, [2], f4 h, seg_one fun p => rfl⟩⟩
    · by_cases t3 : isN l s.pos wOpen = true
      · have e : prim l cnd lab s = inside l cnd wShut s := by rw [prim, if_neg t1, if_neg t2, if_pos t3]
        rw [e]
        exact inside_good he hc _ _ s t3 h2 ho h3
      · have e : prim l cnd lab s = flow l lab s := by rw [prim, if_neg t1, if_neg t2, if_neg t3]
        rw [e]
        exact flow_good he hp s h1 h2 h3
theorem cond_good {l : List Tk} (he : Ends l) : ∀ (d o : Nat), o + d = 12 → Good l o false (cond l (d + 1))
  | 0, o, h => rows_good he (prim_good he (by omega) (fun h2 => absurd h2 (by omega)) (label_good he 0 o h)) _ (by
      intro w hw p
      simp only [List.mem_cons, List.not_mem_nil, or_false] at hw
      rcases hw with rfl | rfl
      · exact step_or p
      · exact step_and p)
  | d + 1, o, h => rows_good he (prim_good he (by omega) (fun _ => cond_good he d (o + 1) (by omega)) (label_good he (d + 1) o h)) _ (by
      intro w hw p
      simp only [List.mem_cons, List.not_mem_nil, or_false] at hw
      rcases hw with rfl | rfl
      · exact step_or p
      · exact step_and p)

/-- What is told is made right, behind where it began, and before the end. -/
theorem read_right {l : List Tk} (he : Ends l) (lab : Bool) (i : Nat) (hi : i < l.length) (h : (read l lab i).2 = 0) :
    right (read l lab i).1.out lab = true ∧ right (read l lab i).1.out (!lab) = false ∧ i < (read l lab i).1.pos ∧ (read l lab i).1.pos < l.length ∧ (read l lab i).1.out.length ≤ 40 := by
  have hg : ∀ {p : St → Res}, Good l 0 lab p → (p ⟨i, 0, []⟩).2 = 0 → right (p ⟨i, 0, []⟩).1.out lab = true ∧ right (p ⟨i, 0, []⟩).1.out (!lab) = false ∧ i < (p ⟨i, 0, []⟩).1.pos ∧ (p ⟨i, 0, []⟩).1.pos < l.length ∧ (p ⟨i, 0, []⟩).1.out.length ≤ 40 := fun hg h => by
    obtain ⟨a1, a2, a3⟩ := hg ⟨i, 0, []⟩ hi rfl (by simp)
    obtain ⟨b1, b2, x, b3, b4⟩ := a3 h
    have hx : (_ : List Int) = x := b3.trans (List.nil_append x)
    obtain ⟨r1, r2⟩ := right_of b4 (by rw [← hx]; exact a2)
    rw [hx]
    exact ⟨r1, r2, b2, a1, by rw [← hx]; exact a2⟩
  cases lab
  · exact hg (cond_good he 12 0 rfl) h
  · exact hg (label_good he 12 0 rfl) h
theorem read_lt {l : List Tk} (he : Ends l) (lab : Bool) (i : Nat) (hi : i < l.length) : (read l lab i).1.pos < l.length ∧ (read l lab i).1.out.length ≤ 40 := by
  cases lab
  · exact ⟨(cond_good he 12 0 rfl ⟨i, 0, []⟩ hi rfl (by simp)).1, (cond_good he 12 0 rfl ⟨i, 0, []⟩ hi rfl (by simp)).2.1⟩
  · exact ⟨(label_good he 12 0 rfl ⟨i, 0, []⟩ hi rfl (by simp)).1, (label_good he 12 0 rfl ⟨i, 0, []⟩ hi rfl (by simp)).2.1⟩
end Rl
end Go.Proofs.Ytggcmkpafpjnoaa

/- What is told, read again up to its end alone, is the same. Over no program. -/
namespace Go.Proofs.Ytggcmkpafpjnoaa
set_option maxRecDepth 100000
namespace Rl
open Lx (Tk)

/-- The tokens m are those of l from i up to e, and an end. -/
structure Part (l m : List Tk) (i e : Nat) : Prop where
  same : ∀ j, i ≤ j → j < e → m[j - i]? = l[j]?
  fin : ∃ t, m[e - i]? = some t ∧ t.kind = 0
  len : m.length = e - i + 1
  le : i ≤ e
  lt : e < l.length
section
variable {l m : List Tk} {i e : Nat}
theorem Part.no (h : Part l m i e) (w : ByteArray) : isN m (e - i) w = false := by
  obtain ⟨t, ht, hk⟩ := h.fin
  unfold isN
  rw [ht]
  exact decide_eq_false fun h1 => by omega
theorem Part.yes (h : Part l m i e) {k : Nat} (hi : i ≤ k) (hk : k < e) (w : ByteArray) : isN m (k - i) w = isN l k w := by
  unfold isN
  rw [h.same k hi hk]
theorem Part.not (h : Part l m i e) {k : Nat} {w : ByteArray} (hi : i ≤ k) (hk : k ≤ e) (hn : ¬ isN l k w = true) : ¬ isN m (k - i) w = true := by
  by_cases he : k = e
  · subst he; rw [h.no]; decide
  · rw [h.yes hi (by omega)]; exact hn
theorem Part.word (h : Part l m i e) {k : Nat} (hi : i ≤ k) (hk : k < e) : word m (k - i) = word l k := by
  unfold Rl.word
  rw [h.same k hi hk]
end
/-- A state, told from i on. -/
def sh (i : Nat) (s : St) : St := { s with pos := s.pos - i }
/-- What a part reads over l, up to e at most, its twin reads over m. -/
def Again (l : List Tk) (i e o : Nat) (p q : St → Res) : Prop :=
  ∀ s s1 : St, i ≤ s.pos → s.pos < l.length → s.deep = o → s.out.length ≤ 40 → p s = (s1, 0) → s1.pos ≤ e → q (sh i s) = (sh i s1, 0)
theorem sh_adv {i : Nat} {s : St} (h : i ≤ s.pos) : adv (sh i s) = sh i (adv s) := by
  unfold adv sh
  congr 1
  show s.pos - i + 1 = s.pos + 1 - i
  omega
theorem sh_into {i : Nat} {s : St} (h : i ≤ s.pos) : into (sh i s) = sh i (into s) := by
  unfold into sh
  congr 1
  show s.pos - i + 1 = s.pos + 1 - i
  omega
theorem sh_outof {i : Nat} {s : St} (h : i ≤ s.pos) : outof (sh i s) = sh i (outof s) := by
  unfold outof sh
  congr 1
  show s.pos - i + 1 = s.pos + 1 - i
  omega
theorem sh_put {i : Nat} {s s1 : St} {op : Int} (h : put op s = (s1, 0)) : put op (sh i s) = (sh i s1, 0) := by
  unfold put at h ⊢
  by_cases hl : s.out.length = 40
  · rw [if_pos hl] at h
    injection h with _ h
    cases h
  · rw [if_neg hl] at h
    rw [if_neg (show ¬ (sh i s).out.length = 40 from hl)]
    injection h with h _
    subst h
    rfl
theorem res_eq {r : Res} {s1 : St} (h : r = (s1, 0)) : r.2 = 0 ∧ r.1 = s1 := by subst h; exact ⟨rfl, rfl⟩
theorem res_mk {r : Res} (h : r.2 = 0) : r = (r.1, 0) := by
  obtain ⟨a, b⟩ := r
  dsimp only at h
  subst h
  rfl
section
variable {l m : List Tk} {i e : Nat}
theorem loop_pos {o : Nat} {sort : Bool} {more : St → Res} (he : Ends l) (hm : Good l o sort more) (w : ByteArray) :
    ∀ (n : Nat) (s s1 : St), s.pos < l.length → s.deep = o → s.out.length ≤ 40 → loop l more w n s = (s1, 0) → s.pos ≤ s1.pos
  | 0, s, s1, _, _, _, h => by injection h with h _; subst h; exact Nat.le_refl _
  | n + 1, s, s1, h1, h2, h3, h => by
    by_cases hn : isN l s.pos w = true
    · obtain ⟨a1, a2, a3⟩ := hm (adv s) (isN_lt he hn) h2 h3
      by_cases hr : (more (adv s)).2 = 0
      · obtain ⟨b1, b2, _⟩ := a3 hr
        have b2' : s.pos + 1 < (more (adv s)).1.pos := b2
        obtain ⟨c1, c2, c3, c4⟩ := put_good (opOf w) _ a2
        by_cases hq : (put (opOf w) (more (adv s)).1).2 = 0
        · rw [loop, if_pos hn, if_pos hr, if_pos hq] at h
          have := loop_pos he hm w n _ s1 (by rw [c1]; exact a1) (by rw [c2]; exact b1) c3 h
          rw [c1] at this
          omega
        · rw [loop, if_pos hn, if_pos hr, if_neg hq] at h
          exact absurd (res_eq h).1 hq
      · rw [loop, if_pos hn, if_neg hr] at h
        exact absurd (res_eq h).1 hr
    · rw [loop, if_neg hn] at h
      injection h with h _
      subst h
      exact Nat.le_refl _
theorem loop_again (hP : Part l m i e) (he : Ends l) {o : Nat} {sort : Bool} {more more' : St → Res} (hm : Good l o sort more) (ha : Again l i e o more more') (w : ByteArray) :
    ∀ (n n' : Nat) (s s1 : St), i ≤ s.pos → s.pos < l.length → s.deep = o → s.out.length ≤ 40 → e + 1 ≤ n' + s.pos → loop l more w n s = (s1, 0) → l.length ≤ n + s.pos → s1.pos ≤ e → loop m more' w n' (sh i s) = (sh i s1, 0)
  | 0, n', s, s1, h0, h1, h2, h3, hn', h, hl, hle => by omega
  | n + 1, n', s, s1, h0, h1, h2, h3, hn', h, hl, hle => by
    have hse := loop_pos he hm w (n + 1) s s1 h1 h2 h3 h
    obtain ⟨n', rfl⟩ : ∃ k, n' = k + 1 := ⟨n' - 1, by omega⟩
    by_cases hn : isN l s.pos w = true
    · obtain ⟨a1, a2, a3⟩ := hm (adv s) (isN_lt he hn) h2 h3
      by_cases hr : (more (adv s)).2 = 0
      · obtain ⟨b1, b2, _⟩ := a3 hr
        have b2' : s.pos + 1 < (more (adv s)).1.pos := b2
        obtain ⟨c1, c2, c3, c4⟩ := put_good (opOf w) _ a2
        by_cases hq : (put (opOf w) (more (adv s)).1).2 = 0
        · rw [loop, if_pos hn, if_pos hr, if_pos hq] at h
          have hq1 := loop_pos he hm w n _ s1 (by rw [c1]; exact a1) (by rw [c2]; exact b1) c3 h
          rw [c1] at hq1
          have g1 := ha (adv s) (more (adv s)).1 (by show i ≤ s.pos + 1; omega) (isN_lt he hn) h2 h3 (res_mk hr) (by omega)
          rw [← sh_adv h0] at g1
          have g2 := sh_put (i := i) (res_mk hq)
          have hn2 : isN m (sh i s).pos w = true := by
            show isN m (s.pos - i) w = true
            rw [hP.yes h0 (by omega)]; exact hn
          rw [loop, if_pos hn2, g1, if_pos rfl, g2, if_pos rfl]
          exact loop_again hP he hm ha w n n' _ s1 (by rw [c1]; omega) (by rw [c1]; exact a1) (by rw [c2]; exact b1) c3 (by rw [c1]; omega) h (by rw [c1]; omega) hle
        · rw [loop, if_pos hn, if_pos hr, if_neg hq] at h
          exact absurd (res_eq h).1 hq
      · rw [loop, if_pos hn, if_neg hr] at h
        exact absurd (res_eq h).1 hr
    · rw [loop, if_neg hn] at h
      injection h with h _
      subst h
      have hn2 : ¬ isN m (sh i s).pos w = true := hP.not h0 hle hn
      rw [loop, if_neg hn2]
theorem rows_again (hP : Part l m i e) (he : Ends l) {o : Nat} {sort : Bool} {part part' : St → Res} (hm : Good l o sort part) (ha : Again l i e o part part') :
    ∀ ws : List ByteArray, (∀ w ∈ ws, ∀ p, step p (opOf w) = two p sort sort) → Again l i e o (rows l part ws) (rows m part' ws)
  | [], _ => ha
  | w :: ws, hw => fun s s1 h0 h1 h2 h3 h hle => by
    have hg := rows_good he hm ws (fun v hv => hw v (.tail _ hv))
    have hr' := rows_again hP he hm ha ws (fun v hv => hw v (.tail _ hv))
    by_cases hr : (rows l part ws s).2 = 0
    · obtain ⟨a1, a2, a3⟩ := hg s h1 h2 h3
      obtain ⟨b1, b2, _⟩ := a3 hr
      rw [rows, if_pos hr] at h
      have hp := loop_pos he hg w l.length _ s1 a1 b1 a2 h
      have g1 := hr' s (rows l part ws s).1 h0 h1 h2 h3 (res_mk hr) (by omega)
      rw [rows, g1, if_pos rfl]
      exact loop_again hP he hg hr' w l.length m.length _ s1 (by omega) a1 b1 a2 (by rw [hP.len]; omega) h (by omega) hle
    · rw [rows, if_neg hr] at h
      exact absurd (res_eq h).1 hr
theorem inside_again (hP : Part l m i e) (he : Ends l) {o : Nat} {sort : Bool} {part part' : St → Res} (hm : o < 12 → Good l (o + 1) sort part) (ha : o < 12 → Again l i e (o + 1) part part') (w fin : ByteArray) {s s1 : St}
    (hn : isN l s.pos w = true) (h0 : i ≤ s.pos) (h2 : s.deep = o) (h4 : o ≤ 12) (h3 : s.out.length ≤ 40) (h : inside l part fin s = (s1, 0)) (hle : s1.pos ≤ e) : inside m part' fin (sh i s) = (sh i s1, 0) ∧ s.pos < e := by
  have h1 := isN_lt he hn
  by_cases hd : s.deep = 12
  · rw [inside, if_pos hd] at h
    injection h with _ h
    cases h
  · obtain ⟨a1, a2, a3⟩ := hm (by omega) (into s) h1 (by show s.deep + 1 = _; omega) h3
    by_cases hr : (part (into s)).2 = 0
    · obtain ⟨b1, b2, _⟩ := a3 hr
      have b2' : s.pos + 1 < (part (into s)).1.pos := b2
      by_cases hf : isN l (part (into s)).1.pos fin = true
      · rw [inside, if_neg hd, if_pos hr, if_pos hf] at h
        injection h with h _
        subst h
        have hle' : (part (into s)).1.pos + 1 ≤ e := hle
        have g1 := ha (by omega) (into s) (part (into s)).1 (by show i ≤ s.pos + 1; omega) h1 (by show s.deep + 1 = _; omega) h3 (res_mk hr) (by omega)
        rw [← sh_into h0] at g1
        have hf2 : isN m (sh i (part (into s)).1).pos fin = true := by
          show isN m ((part (into s)).1.pos - i) fin = true
          rw [hP.yes (by omega) (by omega)]; exact hf
        rw [inside, if_neg (show ¬ (sh i s).deep = 12 from hd), g1, if_pos rfl, if_pos hf2, sh_outof (by omega)]
        exact ⟨rfl, by omega⟩
      · rw [inside, if_neg hd, if_pos hr, if_neg hf] at h
        injection h with _ h
        cases h
    · rw [inside, if_neg hd, if_neg hr] at h
      exact absurd (res_eq h).1 hr
theorem atom_again (hP : Part l m i e) (he : Ends l) {o : Nat} (ho : o ≤ 12) {lab lab' : St → Res} (hm : o < 12 → Good l (o + 1) true lab) (ha : o < 12 → Again l i e (o + 1) lab lab') : Again l i e o (atom l lab) (atom m lab') := fun s s1 h0 h1 h2 h3 h hle => by
  by_cases hn : isN l s.pos wOpenL = true
  · rw [atom, if_pos hn] at h
    obtain ⟨g, hlt⟩ := inside_again hP he hm ha wOpenL wShutL hn h0 h2 ho h3 h hle
    rw [atom, if_pos (show isN m (sh i s).pos wOpenL = true from (hP.yes h0 hlt _).trans hn)]
    exact g
  · by_cases hw : word l s.pos = 0
    · rw [atom, if_neg hn, if_pos hw] at h
      injection h with _ h
      cases h
    · rw [atom, if_neg hn, if_neg hw] at h
      have hp : s1.pos = s.pos + 1 := by
        have := (put_good (word l s.pos) (adv s) h3).1
        rw [(res_eq h).2] at this
        exact this
      have e2 : word m (sh i s).pos = word l s.pos := hP.word h0 (by omega)
      rw [atom, if_neg (show ¬ isN m (sh i s).pos wOpenL = true from hP.not h0 (by omega) hn), e2, if_neg hw, sh_adv h0]
      exact sh_put h
theorem word_join : ∀ w ∈ [wJoin, wMeet], ∀ p, step p (opOf w) = two p true true := fun w hw p => by
  simp only [List.mem_cons, List.not_mem_nil, or_false] at hw
  rcases hw with rfl | rfl
  · exact step_join p
  · exact step_meet p
theorem word_or : ∀ w ∈ [wOr, wAnd], ∀ p, step p (opOf w) = two p false false := fun w hw p => by
  simp only [List.mem_cons, List.not_mem_nil, or_false] at hw
  rcases hw with rfl | rfl
  · exact step_or p
  · exact step_and p
theorem label_again (hP : Part l m i e) (he : Ends l) : ∀ (d o : Nat), o + d = 12 → Again l i e o (label l (d + 1)) (label m (d + 1))
  | 0, o, h => rows_again hP he (atom_good he (by omega) fun h2 => absurd h2 (by omega)) (atom_again hP he (by omega) (fun h2 => absurd h2 (by omega)) fun h2 => absurd h2 (by omega)) _ word_join
  | d + 1, o, h => rows_again hP he (atom_good he (by omega) fun _ => label_good he d (o + 1) (by omega)) (atom_again hP he (by omega) (fun _ => label_good he d (o + 1) (by omega)) fun _ => label_again hP he d (o + 1) (by omega)) _ word_join
theorem flow_again (hP : Part l m i e) (he : Ends l) {o : Nat} {lab lab' : St → Res} (hm : Good l o true lab) (ha : Again l i e o lab lab') : Again l i e o (flow l lab) (flow m lab') := fun s s1 h0 h1 h2 h3 h hle => by
  obtain ⟨a1, a2, a3⟩ := hm s h1 h2 h3
  by_cases hr : (lab s).2 = 0
  · obtain ⟨b1, b2, _⟩ := a3 hr
    by_cases hn : isN l (lab s).1.pos wFlows = true
    · obtain ⟨c1, c2, c3⟩ := hm (adv (lab s).1) (isN_lt he hn) b1 a2
      by_cases hq : (lab (adv (lab s).1)).2 = 0
      · obtain ⟨d1, d2, _⟩ := c3 hq
        have d2' : (lab s).1.pos + 1 < (lab (adv (lab s).1)).1.pos := d2
        rw [flow, if_pos hr, if_pos hn, if_pos hq] at h
        have hp : s1.pos = (lab (adv (lab s).1)).1.pos := by
          have := (put_good 5 _ c2).1
          rw [(res_eq h).2] at this
          exact this
        have g1 := ha s (lab s).1 h0 h1 h2 h3 (res_mk hr) (by omega)
        have g2 := ha (adv (lab s).1) _ (by show i ≤ (lab s).1.pos + 1; omega) (isN_lt he hn) b1 a2 (res_mk hq) (by omega)
        rw [← sh_adv (by omega)] at g2
        have hn2 : isN m (sh i (lab s).1).pos wFlows = true := by
          show isN m ((lab s).1.pos - i) wFlows = true
          rw [hP.yes (by omega) (by omega)]; exact hn
        rw [flow, g1, if_pos rfl, if_pos hn2, g2, if_pos rfl]
        exact sh_put h
      · rw [flow, if_pos hr, if_pos hn, if_neg hq] at h
        exact absurd (res_eq h).1 hq
    · rw [flow, if_pos hr, if_neg hn] at h
      injection h with _ h
      cases h
  · rw [flow, if_neg hr] at h
    exact absurd (res_eq h).1 hr
theorem prim_again (hP : Part l m i e) (he : Ends l) {o : Nat} (ho : o ≤ 12) {cnd cnd' lab lab' : St → Res} (hc : o < 12 → Good l (o + 1) false cnd) (hc' : o < 12 → Again l i e (o + 1) cnd cnd') (hm : Good l o true lab) (ha : Again l i e o lab lab') :
    Again l i e o (prim l cnd lab) (prim m cnd' lab') := fun s s1 h0 h1 h2 h3 h hle => by
  have hg := prim_good he ho hc hm s h1 h2 h3
  rw [h] at hg
  have hlt : s.pos < s1.pos := (hg.2.2 rfl).2.1
  have yes : ∀ w, isN l s.pos w = true → isN m (sh i s).pos w = true := fun w hn => by
    show isN m (s.pos - i) w = true
    rw [hP.yes h0 (by omega)]; exact hn
  have no : ∀ w, ¬ isN l s.pos w = true → ¬ isN m (sh i s).pos w = true := fun w hn => hP.not h0 (by omega) hn
  by_cases t1 : isN l s.pos wTrue = true
  · rw [prim, if_pos t1] at h
    rw [prim, if_pos (yes _ t1), sh_adv h0]
    exact sh_put h
  · by_cases t2 : isN l s.pos wFalse = true
    · rw [prim, if_neg t1, if_pos t2] at h
      rw [prim, if_neg (no _ t1), if_pos (yes _ t2), sh_adv h0]
      exact sh_put h
    · by_cases t3 : isN l s.pos wOpen = true
      · rw [prim, if_neg t1, if_neg t2, if_pos t3] at h
        rw [prim, if_neg (no _ t1), if_neg (no _ t2), if_pos (yes _ t3)]
        exact (inside_again hP he hc hc' wOpen wShut t3 h0 h2 ho h3 h hle).1
      · rw [prim, if_neg t1, if_neg t2, if_neg t3] at h
        rw [prim, if_neg (no _ t1), if_neg (no _ t2), if_neg (no _ t3)]
        exact flow_again hP he hm ha s s1 h0 h1 h2 h3 h hle
theorem cond_again (hP : Part l m i e) (he : Ends l) : ∀ (d o : Nat), o + d = 12 → Again l i e o (cond l (d + 1)) (cond m (d + 1))
  | 0, o, h => rows_again hP he (prim_good he (by omega) (fun h2 => absurd h2 (by omega)) (label_good he 0 o h))
      (prim_again hP he (by omega) (fun h2 => absurd h2 (by omega)) (fun h2 => absurd h2 (by omega)) (label_good he 0 o h) (label_again hP he 0 o h)) _ word_or
  | d + 1, o, h => rows_again hP he (prim_good he (by omega) (fun _ => cond_good he d (o + 1) (by omega)) (label_good he (d + 1) o h))
      (prim_again hP he (by omega) (fun _ => cond_good he d (o + 1) (by omega)) (fun _ => cond_again hP he d (o + 1) (by omega)) (label_good he (d + 1) o h) (label_again hP he (d + 1) o h)) _ word_or
/-- What is told, read again up to its end alone, is the same. -/
theorem read_again (hP : Part l m i e) (he : Ends l) (lab : Bool) (hi : i < l.length) (h : (read l lab i).2 = 0) (hpos : (read l lab i).1.pos = e) : (read m lab 0).2 = 0 ∧ (read m lab 0).1.pos = e - i ∧ (read m lab 0).1.out = (read l lab i).1.out := by
  have hg : ∀ {p q : St → Res}, Again l i e 0 p q → (p ⟨i, 0, []⟩).2 = 0 → (p ⟨i, 0, []⟩).1.pos = e → (q ⟨0, 0, []⟩).2 = 0 ∧ (q ⟨0, 0, []⟩).1.pos = e - i ∧ (q ⟨0, 0, []⟩).1.out = (p ⟨i, 0, []⟩).1.out := fun hg h hpos => by
    have g := hg ⟨i, 0, []⟩ _ (Nat.le_refl _) hi rfl (by simp) (res_mk h) (by omega)
    have e0 : sh i ⟨i, 0, []⟩ = ⟨0, 0, []⟩ := by
      unfold sh
      congr 1
      exact Nat.sub_self i
    rw [e0] at g
    rw [g]
    refine ⟨rfl, ?_, rfl⟩
    show _ - i = e - i
    rw [hpos]
  cases lab
  · exact hg (cond_again hP he 12 0 rfl) h hpos
  · exact hg (label_again hP he 12 0 rfl) h hpos
end
end Rl
end Go.Proofs.Ytggcmkpafpjnoaa

/- Tokens over plain data: they stand where they are told; joined, and read again, they are the same. -/
namespace Go.Proofs.Ytggcmkpafpjnoaa
set_option maxRecDepth 100000
namespace Lx

theorem run_cons (p : UInt8 → Bool) (c : UInt8) (r : List UInt8) : run p (c :: r) = if p c then run p r + 1 else 0 := by
  unfold run
  rw [List.takeWhile_cons]
  split <;> simp
theorem run_yes {p : UInt8 → Bool} {c : UInt8} (h : p c = true) (r : List UInt8) : run p (c :: r) = run p r + 1 := by rw [run_cons, if_pos h]
theorem run_no {p : UInt8 → Bool} {c : UInt8} (h : p c = false) (r : List UInt8) : run p (c :: r) = 0 := by rw [run_cons, if_neg (by rw [h]; decide)]
theorem letter_blank {c : UInt8} (h : letter c = true) : blank c = false := by
  cases hb : blank c
  · rfl
  · simp only [blank, Bool.or_eq_true, beq_iff_eq] at hb
    rcases hb with (rfl | rfl) | rfl <;> exact absurd h (by decide)
theorem digit_blank {c : UInt8} (h : digit c = true) : blank c = false := by
  cases hb : blank c
  · rfl
  · simp only [blank, Bool.or_eq_true, beq_iff_eq] at hb
    rcases hb with (rfl | rfl) | rfl <;> exact absurd h (by decide)
theorem letter_35 {c : UInt8} (h : letter c = true) : c ≠ 35 := by rintro rfl; exact absurd h (by decide)
theorem digit_35 {c : UInt8} (h : digit c = true) : c ≠ 35 := by rintro rfl; exact absurd h (by decide)
theorem digit_letter {c : UInt8} (h : digit c = true) : letter c = false := by
  simp only [digit, Bool.and_eq_true, decide_eq_true_eq, UInt8.le_iff_toNat_le] at h
  cases hl : letter c
  · rfl
  · simp only [letter, Bool.and_eq_true, decide_eq_true_eq, UInt8.le_iff_toNat_le] at hl
    have h1 : (57 : UInt8).toNat = 57 := rfl
    have h2 : (97 : UInt8).toNat = 97 := rfl
    omega
theorem mark_cases {c : UInt8} (h : marks.contains c = true) : blank c = false ∧ c ≠ 35 ∧ letter c = false ∧ digit c = false := by
  simp only [marks, List.contains_iff_mem, List.mem_cons, List.not_mem_nil, or_false] at h
  rcases h with rfl | rfl | rfl | rfl | rfl | rfl | rfl | rfl | rfl | rfl | rfl | rfl <;> decide
theorem first_letter {c : UInt8} (h : letter c = true) (r : List UInt8) : first (c :: r) = (1, run letter (c :: r)) := by
  unfold first
  rw [run_no (letter_blank h), comment_cons, if_neg (letter_35 h), if_neg (Nat.lt_irrefl 0), if_neg (Nat.lt_irrefl 0), if_pos (by rw [run_yes h]; omega)]
theorem first_digit {c : UInt8} (h : digit c = true) (r : List UInt8) : first (c :: r) = (2, run digit (c :: r)) := by
  unfold first
  rw [run_no (digit_blank h), comment_cons, if_neg (digit_35 h), run_no (digit_letter h), if_neg (Nat.lt_irrefl 0), if_neg (Nat.lt_irrefl 0), if_neg (Nat.lt_irrefl 0), if_pos (by rw [run_yes h]; omega)]
theorem first_mark {c : UInt8} (h : marks.contains c = true) (r : List UInt8) : first (c :: r) = (3, mark (c :: r)) := by
  obtain ⟨h1, h2, h3, h4⟩ := mark_cases h
  unfold first
  rw [run_no h1, comment_cons, if_neg h2, run_no h3, run_no h4, if_neg (Nat.lt_irrefl 0), if_neg (Nat.lt_irrefl 0), if_neg (Nat.lt_irrefl 0), if_neg (Nat.lt_irrefl 0), if_pos]
  rw [mark_cons, h]
  split
  · omega
  · simp
theorem first_blank {c : UInt8} (h : blank c = true) (r : List UInt8) : first (c :: r) = (-1, run blank (c :: r)) := by
  unfold first
  rw [if_pos (by rw [run_yes h]; omega)]
theorem first_sort {c : UInt8} {r : List UInt8} (h : (first (c :: r)).1 ≠ -1) : letter c = true ∨ digit c = true ∨ marks.contains c = true := by
  cases h1 : letter c
  · cases h2 : digit c
    · cases h3 : marks.contains c
      · refine absurd ?_ h
        have hm : mark (c :: r) = 0 := by
          rw [mark_cons, h3, if_neg, if_neg (by decide)]
          rintro ⟨rfl, _⟩
          exact absurd h3 (by decide)
        unfold first
        rw [run_no h1, run_no h2, hm, if_neg (Nat.lt_irrefl 0), if_neg (Nat.lt_irrefl 0), if_neg (Nat.lt_irrefl 0)]
        split
        · rfl
        · split <;> rfl
      · exact .inr (.inr rfl)
    · exact .inr (.inl rfl)
  · exact .inl rfl

/-- What may stand behind a token that stands alone. -/
def Stop (x : List UInt8) : Prop := x = [] ∨ ∃ y, x = 32 :: y
theorem run_stop {p : UInt8 → Bool} {x : List UInt8} (h : Stop x) (hp : p 32 = false) : ∀ l : List UInt8, (∀ c ∈ l, p c = true) → run p (l ++ x) = l.length
  | [], _ => by
    rcases h with rfl | ⟨y, rfl⟩
    · rfl
    · exact run_no hp y
  | c :: l, hl => by
    rw [List.cons_append, run_yes (hl c (by simp)), run_stop h hp l (fun d hd => hl d (by simp [hd])), List.length_cons]
theorem take_run (p : UInt8 → Bool) (r : List UInt8) : r.take (run p r) = r.takeWhile p := (List.prefix_iff_eq_take.1 (List.takeWhile_prefix p)).symm
theorem all_run (p : UInt8 → Bool) : ∀ r : List UInt8, ∀ c ∈ r.takeWhile p, p c = true
  | [], _, h => by simp at h
  | d :: r, c, h => by
    rw [List.takeWhile_cons] at h
    split at h
    · rcases List.mem_cons.1 h with rfl | h
      · assumption
      · exact all_run p r c h
    · simp at h

/-- A token that is read as itself wherever it stands alone. -/
def Alone (t : Tk) : Prop := 1 ≤ t.kind ∧ t.kind ≤ 3 ∧ t.text.data.toList ≠ [] ∧ ∀ x, Stop x → first (t.text.data.toList ++ x) = (t.kind, t.text.data.toList.length)
theorem alone_run {p : UInt8 → Bool} {kd : Int} (hk : 1 ≤ kd ∧ kd ≤ 3) (hp : p 32 = false) (hf : ∀ c r, p c = true → first (c :: r) = (kd, run p (c :: r))) (c : UInt8) (r : List UInt8) (hc : p c = true) (k : Int) : Alone ⟨kd, pack ((c :: r).take (run p (c :: r))), k⟩ := by
  refine ⟨hk.1, hk.2, ?_, fun x hx => ?_⟩
  · rw [pack_list, take_run, List.takeWhile_cons, if_pos hc]
    exact List.cons_ne_nil _ _
  · have ha := all_run p (c :: r)
    rw [pack_list, take_run]
    rw [List.takeWhile_cons, if_pos hc] at ha ⊢
    rw [List.cons_append, hf _ _ hc, ← List.cons_append, run_stop hx hp _ ha]
theorem alone_first {c : UInt8} {r : List UInt8} (h : (first (c :: r)).1 ≠ -1) (k : Int) : Alone ⟨(first (c :: r)).1, pack ((c :: r).take (first (c :: r)).2), k⟩ := by
  rcases first_sort h with h1 | h1 | h1
  · rw [first_letter h1]
    exact alone_run (by decide) (by decide) (fun c r hc => first_letter hc r) c r h1 k
  · rw [first_digit h1]
    exact alone_run (by decide) (by decide) (fun c r hc => first_digit hc r) c r h1 k
  · rw [first_mark h1]
    by_cases h2 : c = 60 ∧ r.head? = some 61
    · rw [mark_cons, if_pos h2]
      obtain ⟨rfl, h2⟩ := h2
      rcases r with _ | ⟨d, r⟩
      · simp at h2
      · simp only [List.head?_cons, Option.some.injEq] at h2
        subst h2
        refine ⟨show (1 : Int) ≤ 3 by decide, show (3 : Int) ≤ 3 by decide, by simp [pack_list], fun x _ => ?_⟩
        show first (60 :: 61 :: x) = (3, 2)
        rw [first_mark (by decide), mark_cons, if_pos ⟨rfl, rfl⟩]
    · rw [mark_cons, if_neg h2, if_pos h1]
      refine ⟨show (1 : Int) ≤ 3 by decide, show (3 : Int) ≤ 3 by decide, by simp [pack_list], fun x hx => ?_⟩
      show first (c :: x) = (3, 1)
      rw [first_mark h1, mark_cons, if_neg, if_pos h1]
      rintro ⟨_, h⟩
      rcases hx with rfl | ⟨y, rfl⟩ <;> simp at h

/-- Tokens stand where they are told, one behind the other. -/
def Stands (s : List UInt8) : Nat → List Tk → Prop
  | _, [] => True
  | k, t :: l => ∃ p : Nat, t.pos = p ∧ k ≤ p ∧ p + t.text.data.toList.length ≤ s.length ∧ Lib.hasPrefix (s.drop p) t.text.data.toList = true ∧ Stands s (p + t.text.data.toList.length) l
theorem Stands.less {s : List UInt8} {k k' : Nat} (h : k ≤ k') : ∀ {l : List Tk}, Stands s k' l → Stands s k l
  | [], _ => trivial
  | _ :: _, ⟨p, h1, h2, h3⟩ => ⟨p, h1, by omega, h3⟩

structure Told (s : List UInt8) (k : Nat) (r : List UInt8) (q : List Tk × Nat) : Prop where
  alone : ∀ t ∈ q.1, Alone t
  le : q.2 ≤ s.length
  sum : Lib.lens (q.1.map fun t => t.text.data.toList) ≤ r.length
  stands : ∀ t : Tk, t.pos = s.length → q.2 = s.length → t.text = ByteArray.empty → Stands s k (q.1 ++ [t])
theorem hasPrefix_take (r : List UInt8) (n : Nat) : Lib.hasPrefix r (r.take n) = true := by
  unfold Lib.hasPrefix
  rw [List.isPrefixOf_iff_prefix]
  exact List.take_prefix _ _
theorem toks_told (s : List UInt8) : ∀ (n k : Nat), k ≤ s.length → Told s k (s.drop k) (toks n (s.drop k) k)
  | 0, k, hk => ⟨by simp [toks], hk, by simp [toks, Lib.lens], fun t h1 h2 h3 => ⟨s.length, h1, hk, by rw [h3, empty_list]; exact Nat.le_refl _, by rw [h3, empty_list]; rfl, trivial⟩⟩
  | n + 1, k, hk => by
    have hstop : Told s k (s.drop k) ([], k) := ⟨by simp, hk, by simp [Lib.lens], fun t h1 h2 h3 => ⟨s.length, h1, hk, by rw [h3, empty_list]; exact Nat.le_refl _, by rw [h3, empty_list]; rfl, trivial⟩⟩
    by_cases hr : s.drop k = []
    · rw [hr, toks_end, ← hr]; exact hstop
    · by_cases h0 : (first (s.drop k)).2 = 0
      · rw [toks_bad h0]; exact hstop
      · have hle := first_le (s.drop k)
        rw [List.length_drop] at hle
        have ih := toks_told s n (k + (first (s.drop k)).2) (by omega)
        rw [← List.drop_drop] at ih
        have hlen : ((s.drop k).drop (first (s.drop k)).2).length = s.length - k - (first (s.drop k)).2 := by rw [List.length_drop, List.length_drop]
        by_cases h1 : (first (s.drop k)).1 = -1
        · rw [toks_skip hr h0 h1]
          refine ⟨ih.alone, ih.le, ?_, fun t a b c => (ih.stands t a b c).less (by omega)⟩
          have := ih.sum
          rw [hlen] at this
          rw [List.length_drop]
          omega
        · rw [toks_take hr h0 h1]
          have htl : ((s.drop k).take (first (s.drop k)).2).length = (first (s.drop k)).2 := by rw [List.length_take, List.length_drop]; omega
          refine ⟨?_, ih.le, ?_, fun t a b c => ?_⟩
          · intro t ht
            rcases List.mem_cons.1 ht with rfl | ht
            · obtain ⟨c, r, e⟩ : ∃ c r, s.drop k = c :: r := by
                cases e : s.drop k with
                | nil => exact absurd e hr
                | cons c r => exact ⟨c, r, rfl⟩
              rw [e] at h1 ⊢
              exact alone_first h1 _
            · exact ih.alone t ht
          · have := ih.sum
            rw [hlen] at this
            rw [List.length_drop]
            simp only [Lib.lens, List.map_cons, List.sum_cons, pack_list] at this ⊢
            rw [htl]
            omega
          · refine ⟨k, rfl, Nat.le_refl _, ?_, ?_, ?_⟩
            · rw [pack_list, htl]; omega
            · rw [pack_list]; exact hasPrefix_take _ _
            · rw [pack_list, htl]
              exact ih.stands t a b c

def kt (t : Tk) : Int × ByteArray := (t.kind, t.text)
theorem stop_tail (r : List (List UInt8)) : Stop (Lib.joinTail [32] r) := by
  cases r with
  | nil => exact .inl rfl
  | cons y r => exact .inr ⟨y ++ Lib.joinTail [32] r, by simp [Lib.joinTail]⟩
theorem first_gap {t : Tk} (h : Alone t) {x : List UInt8} (hx : Stop x) : first (32 :: (t.text.data.toList ++ x)) = (-1, 1) := by
  rw [first_blank (by decide), run_yes (by decide)]
  have h0 : run blank (t.text.data.toList ++ x) = 0 := by
    have := h.2.2.2 x hx
    rcases Nat.eq_zero_or_pos (run blank (t.text.data.toList ++ x)) with h0 | h0
    · exact h0
    · unfold first at this
      rw [if_pos h0] at this
      have h1 := congrArg Prod.fst this
      have := h.1
      simp only at h1
      omega
  rw [h0]
theorem toks_one {t : Tk} {n k : Nat} {x : List UInt8} (h : Alone t) (hx : Stop x) : toks (n + 1) (t.text.data.toList ++ x) k = (⟨t.kind, t.text, k⟩ :: (toks n x (k + t.text.data.toList.length)).1, (toks n x (k + t.text.data.toList.length)).2) := by
  have hf := h.2.2.2 x hx
  have h1 := h.1
  rw [toks_take (by intro e; exact h.2.2.1 (List.append_eq_nil_iff.1 e).1) (by rw [hf]; exact fun e => h.2.2.1 (List.length_eq_zero_iff.1 e)) (by rw [hf]; show t.kind ≠ -1; omega), hf]
  simp only [List.take_left, List.drop_left]
  rw [pack_data]
theorem toks_tail : ∀ (l : List Tk) (n k : Nat), (∀ t ∈ l, Alone t) → (Lib.joinTail [32] (l.map fun t => t.text.data.toList)).length ≤ n →
    ∃ m, toks n (Lib.joinTail [32] (l.map fun t => t.text.data.toList)) k = (m, k + (Lib.joinTail [32] (l.map fun t => t.text.data.toList)).length) ∧ m.map kt = l.map kt
  | [], n, k, _, _ => ⟨[], by simp [Lib.joinTail, toks_end], rfl⟩
  | t :: l, n, k, hl, hn => by
    have ht := hl t (by simp)
    have e : Lib.joinTail [32] ((t :: l).map fun t => t.text.data.toList) = 32 :: (t.text.data.toList ++ Lib.joinTail [32] (l.map fun t => t.text.data.toList)) := by simp [Lib.joinTail]
    rw [e] at hn ⊢
    have hx := stop_tail (l.map fun t => t.text.data.toList)
    have hpos := List.length_pos_iff.2 ht.2.2.1
    simp only [List.length_cons, List.length_append] at hn
    obtain ⟨n, rfl⟩ : ∃ n', n = n' + 2 := ⟨n - 2, by omega⟩
    obtain ⟨m, hm, hk⟩ := toks_tail l n (k + 1 + t.text.data.toList.length) (fun t h => hl t (by simp [h])) (by omega)
    have hf := first_gap ht hx
    rw [toks_skip (by simp) (by rw [hf]; decide) (by rw [hf]), hf]
    simp only [List.drop_succ_cons, List.drop_zero]
    rw [toks_one ht hx, hm]
    refine ⟨⟨t.kind, t.text, ((k + 1 : Nat) : Int)⟩ :: m, ?_, by simp [kt, hk]⟩
    congr 1
    simp only [List.length_cons, List.length_append]
    omega
theorem toks_join (l : List Tk) (n : Nat) (hl : ∀ t ∈ l, Alone t) (hn : (Lib.join (l.map fun t => t.text.data.toList) [32]).length ≤ n) :
    ∃ m, toks n (Lib.join (l.map fun t => t.text.data.toList) [32]) 0 = (m, (Lib.join (l.map fun t => t.text.data.toList) [32]).length) ∧ m.map kt = l.map kt := by
  cases l with
  | nil => exact ⟨[], by simp [Lib.join_nil, toks_end], rfl⟩
  | cons t l =>
    have ht := hl t (by simp)
    rw [List.map_cons, Lib.join_cons] at hn ⊢
    have hx := stop_tail (l.map fun t => t.text.data.toList)
    have hpos := List.length_pos_iff.2 ht.2.2.1
    rw [List.length_append] at hn
    obtain ⟨n, rfl⟩ : ∃ n', n = n' + 1 := ⟨n - 1, by omega⟩
    obtain ⟨m, hm, hk⟩ := toks_tail l n (0 + t.text.data.toList.length) (fun t h => hl t (by simp [h])) (by omega)
    rw [toks_one ht hx, hm]
    refine ⟨⟨t.kind, t.text, ((0 : Nat) : Int)⟩ :: m, ?_, by simp [kt, hk]⟩
    congr 1
    rw [List.length_append]
    omega

theorem lex_ok {s : List UInt8} {l : List Tk} {a : Nat} (h : lex s = (l, a, 0)) : ∃ ts, l = ts ++ [⟨0, ByteArray.empty, (s.length : Nat)⟩] ∧ ts.length ≤ 199 ∧ (∀ t ∈ ts, Alone t) ∧ Stands s 0 l ∧ Lib.lens (ts.map fun t => t.text.data.toList) ≤ s.length := by
  unfold lex at h
  by_cases h1 : 2000 < s.length
  · rw [if_pos h1] at h; cases h
  · rw [if_neg h1] at h
    by_cases h2 : (toks s.length s 0).2 < s.length
    · rw [if_pos h2] at h; cases h
    · rw [if_neg h2] at h
      by_cases h3 : 200 < (toks s.length s 0).1.length + 1
      · rw [if_pos h3] at h; cases h
      · rw [if_neg h3] at h
        have hT := toks_told s s.length 0 (Nat.zero_le _)
        rw [List.drop_zero] at hT
        have he : (toks s.length s 0).2 = s.length := by have := hT.le; omega
        injection h with hl _
        rw [he] at hl
        subst hl
        exact ⟨_, rfl, by omega, hT.alone, hT.stands _ rfl he rfl, hT.sum⟩
theorem lens_join : ∀ (l : List (List UInt8)), (Lib.join l [32]).length ≤ Lib.lens l + l.length := by
  intro l
  cases l with
  | nil => simp [Lib.join_nil]
  | cons x r =>
    rw [Lib.join_cons, List.length_append, Lib.joinTail_length]
    simp only [Lib.lens, List.map_cons, List.sum_cons, List.length_cons, List.length_nil]
    omega
theorem texts_alone {ts : List Tk} (h : ∀ t ∈ ts, Alone t) (k : Int) : texts (ts ++ [⟨0, ByteArray.empty, k⟩]) = ts.map Tk.text := by
  unfold texts
  rw [List.map_append, List.filter_append, List.filter_eq_self.2]
  · exact List.append_nil _
  · intro x hx
    obtain ⟨t, ht, rfl⟩ := List.mem_map.1 hx
    have := (h t ht).2.2.1
    cases e : t.text.data.toList with
    | nil => exact absurd e this
    | cons _ _ => rfl
/-- Joined, and read again, tokens are the same. -/
theorem lex_back {s : List UInt8} {l : List Tk} {a : Nat} (hs : s.length ≤ 900) (h : lex s = (l, a, 0)) : (joined l).size ≤ 1200 ∧ ∃ m, lex (joined l).data.toList = (m, 0, 0) ∧ m.map kt = l.map kt := by
  obtain ⟨ts, rfl, hn, hal, _, hsum⟩ := lex_ok h
  have e : (joined (ts ++ [⟨0, ByteArray.empty, (s.length : Nat)⟩])).data.toList = Lib.join (ts.map fun t => t.text.data.toList) [32] := by
    unfold joined
    rw [texts_alone hal, pack_list, List.map_map]
    rfl
  have hlen := lens_join (ts.map fun t => t.text.data.toList)
  rw [List.length_map] at hlen
  rw [Lib.size_eq, e]
  refine ⟨by omega, ?_⟩
  obtain ⟨m, hm, hk⟩ := toks_join ts _ hal (Nat.le_refl _)
  have hml : m.length = ts.length := by have := congrArg List.length hk; simpa using this
  refine ⟨m ++ [⟨0, ByteArray.empty, ((Lib.join (ts.map fun t => t.text.data.toList) [32]).length : Nat)⟩], ?_, by simp [hk, kt]⟩
  unfold lex
  rw [if_neg (by omega), hm, if_neg (by simp), if_neg (by simp only [hml]; omega)]
end Lx
end Go.Proofs.Ytggcmkpafpjnoaa

/- Rules as trees, and their texts; what Lex makes of such a text. Over no program. -/
namespace Go.Proofs.Ytggcmkpafpjnoaa
set_option maxRecDepth 100000
namespace Sh
open Rl (St Res opOf)

inductive Tree
  | leaf (op : Int)
  | node (op : Int) (x y : Tree)
def post : Tree → List Int
  | .leaf op => [op]
  | .node op x y => post x ++ post y ++ [op]
/-- Is a tree a thing of a sort (true: a label)? -/
def Ok : Bool → Tree → Prop
  | b, .leaf op => (b = true ∧ 6 ≤ op ∧ op ≤ 11) ∨ (b = false ∧ (op = 1 ∨ op = 2))
  | b, .node op x y => (b = false ∧ (op = 3 ∨ op = 4) ∧ Ok false x ∧ Ok false y) ∨ (b = false ∧ op = 5 ∧ Ok true x ∧ Ok true y) ∨ (b = true ∧ (op = 12 ∨ op = 13) ∧ Ok true x ∧ Ok true y)
theorem post_pos : ∀ t : Tree, 1 ≤ (post t).length
  | .leaf _ => Nat.le_refl _
  | .node _ x y => by simp [post]; omega

/-- How a number binds. -/
def binds (op : Int) : Nat := if op = 4 ∨ op = 12 then 1 else if op = 3 ∨ op = 13 then 2 else 3
def top : Tree → Int
  | .leaf op => op
  | .node op _ _ => op
def bt (t : Tree) : Nat := binds (top t)
theorem binds_pos (op : Int) : 1 ≤ binds op ∧ binds op ≤ 3 := by
  unfold binds
  split
  · decide
  · split <;> decide

/-- A number's word. -/
def nameOf (op : Int) : ByteArray :=
  if op = 1 then Rl.wTrue else if op = 2 then Rl.wFalse else if op = 3 then Rl.wAnd else if op = 4 then Rl.wOr else if op = 5 then Rl.wFlows
  else if op = 6 then { data := #[98, 111, 116] } else if op = 7 then { data := #[116, 111, 112] } else if op = 8 then { data := #[112, 99] }
  else if op = 9 then { data := #[111, 110, 101] } else if op = 10 then { data := #[116, 119, 111] } else if op = 11 then { data := #[116, 104, 114, 101, 101] }
  else if op = 12 then Rl.wJoin else Rl.wMeet
def kindOf (op : Int) : Int := if op = 5 then 3 else 1
def tok1 (op : Int) : Int × ByteArray := (kindOf op, nameOf op)
/-- Is op a label's (its brackets are square)? -/
def square (op : Int) : Bool := decide (12 ≤ op)
def wrapK (b sq : Bool) (ks : List (Int × ByteArray)) : List (Int × ByteArray) :=
  if b = true then (3, if sq = true then Rl.wOpenL else Rl.wOpen) :: (ks ++ [(3, if sq = true then Rl.wShutL else Rl.wShut)]) else ks
def wrapT (b sq : Bool) (s : List UInt8) : List UInt8 := if b = true then (if sq = true then 91 else 40) :: (s ++ [if sq = true then 93 else 41]) else s
/-- Does what stands left, or right, of op stand in brackets? -/
def lowL (op : Int) (x : Tree) : Bool := decide (op ≠ 5 ∧ bt x < binds op)
def lowR (op : Int) (y : Tree) : Bool := decide (op ≠ 5 ∧ bt y < binds op + 1)
/-- A rule's tokens, its text, and how deep that is. -/
def toks : Tree → List (Int × ByteArray)
  | .leaf op => [tok1 op]
  | .node op x y => wrapK (lowL op x) (square op) (toks x) ++ tok1 op :: wrapK (lowR op y) (square op) (toks y)
def txt : Tree → List UInt8
  | .leaf op => (nameOf op).data.toList
  | .node op x y => wrapT (lowL op x) (square op) (txt x) ++ (32 :: ((nameOf op).data.toList ++ (32 :: wrapT (lowR op y) (square op) (txt y))))
def deep : Tree → Nat
  | .leaf _ => 0
  | .node op x y => max (deep x + (lowL op x).toNat) (deep y + (lowR op y).toNat)

theorem wrapK_len (b sq : Bool) (ks : List (Int × ByteArray)) : (wrapK b sq ks).length ≤ ks.length + 2 := by
  unfold wrapK
  split <;> simp
theorem wrapT_len (b sq : Bool) (s : List UInt8) : (wrapT b sq s).length ≤ s.length + 2 := by
  unfold wrapT
  split <;> simp
theorem toks_len : ∀ t : Tree, (toks t).length + 2 ≤ 3 * (post t).length
  | .leaf _ => by simp [toks, post]
  | .node op x y => by
    have h1 := toks_len x
    have h2 := toks_len y
    have h3 := wrapK_len (lowL op x) (square op) (toks x)
    have h4 := wrapK_len (lowR op y) (square op) (toks y)
    simp only [toks, post, List.length_append, List.length_cons, List.length_nil]
    omega
theorem nameOf_len (op : Int) : (nameOf op).data.toList.length ≤ 5 := by
  unfold nameOf
  repeat' split
  all_goals decide
theorem nameOf_op (op : Int) (h : op = 3 ∨ op = 4 ∨ op = 5 ∨ op = 12 ∨ op = 13) : (nameOf op).data.toList.length ≤ 4 := by
  rcases h with rfl | rfl | rfl | rfl | rfl <;> decide
theorem ok_op {b : Bool} {op : Int} {x y : Tree} (h : Ok b (.node op x y)) : op = 3 ∨ op = 4 ∨ op = 5 ∨ op = 12 ∨ op = 13 := by
  unfold Ok at h
  omega
theorem ok_sub {b : Bool} {op : Int} {x y : Tree} (h : Ok b (.node op x y)) : ∃ b', Ok b' x ∧ Ok b' y := by
  unfold Ok at h
  rcases h with ⟨_, _, h1, h2⟩ | ⟨_, _, h1, h2⟩ | ⟨_, _, h1, h2⟩
  · exact ⟨_, h1, h2⟩
  · exact ⟨_, h1, h2⟩
  · exact ⟨_, h1, h2⟩
theorem txt_len : ∀ (t : Tree) (b : Bool), Ok b t → (txt t).length + 3 ≤ 8 * (post t).length
  | .leaf op, b, h => by
    have := nameOf_len op
    simp only [txt, post, List.length_cons, List.length_nil]
    omega
  | .node op x y, b, h => by
    obtain ⟨b', hx, hy⟩ := ok_sub h
    have h1 := txt_len x b' hx
    have h2 := txt_len y b' hy
    have h3 := wrapT_len (lowL op x) (square op) (txt x)
    have h4 := wrapT_len (lowR op y) (square op) (txt y)
    have h5 := nameOf_op op (ok_op h)
    simp only [txt, post, List.length_append, List.length_cons, List.length_nil]
    omega

/- What Lex makes of it. -/
open Lx (first letter run kt pack)
/-- A rest that ends a word. -/
def Fin (r : List UInt8) : Prop := ∀ c, r.head? = some c → letter c = false
/-- A text's tokens, whatever stands behind it. -/
def Reads (s : List UInt8) (ks : List (Int × ByteArray)) : Prop :=
  ∀ (r : List UInt8) (n k : Nat), Fin r → (s ++ r).length ≤ n → ∃ n' ts, r.length ≤ n' ∧ Lx.toks n (s ++ r) k = (ts ++ (Lx.toks n' r (k + s.length)).1, (Lx.toks n' r (k + s.length)).2) ∧ ts.map kt = ks
theorem run_letters {w r : List UInt8} (hw : ∀ c ∈ w, letter c = true) (hr : Fin r) : run letter (w ++ r) = w.length := by
  induction w with
  | nil =>
    cases r with
    | nil => rfl
    | cons c r => exact Lx.run_no (hr c rfl) r
  | cons c w ih =>
    rw [List.cons_append, Lx.run_yes (hw c (.head _)), ih fun d hd => hw d (.tail _ hd)]
    rfl
theorem reads_word {w : List UInt8} (h0 : w ≠ []) (hw : ∀ c ∈ w, letter c = true) : Reads w [(1, pack w)] := by
  intro r n k hr hn
  obtain ⟨c, w, rfl⟩ : ∃ c w', w = c :: w' := by
    cases w with
    | nil => exact absurd rfl h0
    | cons c w => exact ⟨c, w, rfl⟩
  have hf : first ((c :: w) ++ r) = (1, (c :: w).length) := by
    rw [List.cons_append, Lx.first_letter (hw c (.head _)), ← List.cons_append, run_letters hw hr]
  obtain ⟨m, rfl⟩ : ∃ m, n = m + 1 := ⟨n - 1, by simp at hn; omega⟩
  refine ⟨m, [⟨1, pack (c :: w), k⟩], by simp at hn; omega, ?_, rfl⟩
  rw [Lx.toks_take (by simp) (by rw [hf]; simp) (by rw [hf]; exact show (1 : Int) ≠ -1 by decide), hf]
  simp
theorem reads_flows : Reads [60, 61] [(3, Rl.wFlows)] := by
  intro r n k hr hn
  have hf : first ([60, 61] ++ r) = (3, 2) := by
    show first (60 :: 61 :: r) = _
    rw [Lx.first_mark (by decide)]
    rfl
  obtain ⟨m, rfl⟩ : ∃ m, n = m + 1 := ⟨n - 1, by simp at hn; omega⟩
  refine ⟨m, [⟨3, Rl.wFlows, k⟩], by simp at hn; omega, ?_, rfl⟩
  rw [Lx.toks_take (by simp) (by rw [hf]; decide) (by rw [hf]; decide), hf]
  rfl
/-- A bracket ahead. -/
theorem reads_bracket {c : UInt8} (hc : c = 40 ∨ c = 41 ∨ c = 91 ∨ c = 93) (r : List UInt8) (n k : Nat) (hn : (c :: r).length ≤ n) : ∃ m, r.length ≤ m ∧ Lx.toks n (c :: r) k = (⟨3, pack [c], k⟩ :: (Lx.toks m r (k + 1)).1, (Lx.toks m r (k + 1)).2) := by
  have hf : first (c :: r) = (3, 1) := by
    rcases hc with rfl | rfl | rfl | rfl
    all_goals
      rw [Lx.first_mark (by decide), Lx.mark_cons, if_neg (by rintro ⟨h, _⟩; exact absurd h (by decide)), if_pos (by decide)]
  obtain ⟨m, rfl⟩ : ∃ m, n = m + 1 := ⟨n - 1, by simp at hn; omega⟩
  refine ⟨m, by simp at hn; omega, ?_⟩
  rw [Lx.toks_take (by simp) (by rw [hf]; decide) (by rw [hf]; decide), hf]
  rfl
/-- A blank ahead of what is none. -/
theorem reads_blank {c : UInt8} (hc : Lx.blank c = false) (r : List UInt8) (n k : Nat) (hn : (32 :: c :: r).length ≤ n) : ∃ m, (c :: r).length ≤ m ∧ Lx.toks n (32 :: c :: r) k = Lx.toks m (c :: r) (k + 1) := by
  have hf : first (32 :: c :: r) = (-1, 1) := by
    rw [Lx.first_blank (by decide), Lx.run_yes (by decide), Lx.run_no hc]
  obtain ⟨m, rfl⟩ : ∃ m, n = m + 1 := ⟨n - 1, by simp at hn; omega⟩
  refine ⟨m, by simp at hn ⊢; omega, ?_⟩
  rw [Lx.toks_skip (by simp) (by rw [hf]; decide) (by rw [hf]), hf]
  rfl
/-- A text that begins with no blank. -/
def Solid (s : List UInt8) : Prop := ∃ c r, s = c :: r ∧ Lx.blank c = false
theorem reads_append {s s' : List UInt8} {ks ks' : List (Int × ByteArray)} (h : Reads s ks) (h' : Reads s' ks') (hf : ∀ r, Fin r → Fin (s' ++ r)) : Reads (s ++ s') (ks ++ ks') := by
  intro r n k hr hn
  obtain ⟨n1, ts, a1, a2, a3⟩ := h (s' ++ r) n k (hf r hr) (by rw [← List.append_assoc]; exact hn)
  obtain ⟨n2, ts', b1, b2, b3⟩ := h' r n1 (k + s.length) hr a1
  refine ⟨n2, ts ++ ts', b1, ?_, by rw [List.map_append, a3, b3]⟩
  rw [List.append_assoc, a2, b2, List.append_assoc, List.length_append, Nat.add_assoc]
theorem reads_gap {s : List UInt8} {ks : List (Int × ByteArray)} (h : Reads s ks) (hs : Solid s) : Reads (32 :: s) ks := by
  intro r n k hr hn
  obtain ⟨c, s, rfl, hc⟩ := hs
  obtain ⟨m, a1, a2⟩ := reads_blank hc (s ++ r) n k hn
  obtain ⟨n2, ts, b1, b2, b3⟩ := h r m (k + 1) hr a1
  refine ⟨n2, ts, b1, ?_, b3⟩
  show Lx.toks n (32 :: c :: (s ++ r)) k = _
  rw [a2]
  refine b2.trans ?_
  rw [show k + (32 :: c :: s).length = k + 1 + (c :: s).length by simp; omega]
theorem reads_wrap {s : List UInt8} {ks : List (Int × ByteArray)} (b sq : Bool) (h : Reads s ks) : Reads (wrapT b sq s) (wrapK b sq ks) := by
  cases b
  · exact h
  · intro r n k hr hn
    cases sq
    · obtain ⟨m, a1, a2⟩ := reads_bracket (c := 40) (by decide) (s ++ [41] ++ r) n k (by simpa [wrapT] using hn)
      obtain ⟨n1, ts, b1, b2, b3⟩ := h (41 :: r) m (k + 1) (fun c e => by injection e with e; subst e; decide) (by simpa using a1)
      obtain ⟨n2, c1, c2⟩ := reads_bracket (c := 41) (by decide) r n1 (k + 1 + s.length) b1
      refine ⟨n2, ⟨3, pack [40], k⟩ :: (ts ++ [⟨3, pack [41], (k + 1 + s.length : Nat)⟩]), c1, ?_, ?_⟩
      · show Lx.toks n (40 :: (s ++ [41] ++ r)) k = _
        rw [a2, show s ++ [41] ++ r = s ++ 41 :: r by simp, b2, c2]
        have e : k + (wrapT true false s).length = k + 1 + s.length + 1 := by simp [wrapT]; omega
        rw [e]
        simp
      · simp only [List.map_cons, List.map_append, List.map_nil, b3]
        rfl
    · obtain ⟨m, a1, a2⟩ := reads_bracket (c := 91) (by decide) (s ++ [93] ++ r) n k (by simpa [wrapT] using hn)
      obtain ⟨n1, ts, b1, b2, b3⟩ := h (93 :: r) m (k + 1) (fun c e => by injection e with e; subst e; decide) (by simpa using a1)
      obtain ⟨n2, c1, c2⟩ := reads_bracket (c := 93) (by decide) r n1 (k + 1 + s.length) b1
      refine ⟨n2, ⟨3, pack [91], k⟩ :: (ts ++ [⟨3, pack [93], (k + 1 + s.length : Nat)⟩]), c1, ?_, ?_⟩
      · show Lx.toks n (91 :: (s ++ [93] ++ r)) k = _
        rw [a2, show s ++ [93] ++ r = s ++ 93 :: r by simp, b2, c2]
        have e : k + (wrapT true true s).length = k + 1 + s.length + 1 := by simp [wrapT]; omega
        rw [e]
        simp
      · simp only [List.map_cons, List.map_append, List.map_nil, b3]
        rfl
theorem reads_name (op : Int) (h : 1 ≤ op ∧ op ≤ 13) : Reads (nameOf op).data.toList [tok1 op] := by
  have hops : op = 1 ∨ op = 2 ∨ op = 3 ∨ op = 4 ∨ op = 5 ∨ op = 6 ∨ op = 7 ∨ op = 8 ∨ op = 9 ∨ op = 10 ∨ op = 11 ∨ op = 12 ∨ op = 13 := by omega
  rcases hops with rfl | rfl | rfl | rfl | rfl | rfl | rfl | rfl | rfl | rfl | rfl | rfl | rfl
  all_goals first
    | exact reads_flows
    | exact reads_word (by decide) (by decide)
theorem solid_name (op : Int) (h : 1 ≤ op ∧ op ≤ 13) : Solid (nameOf op).data.toList := by
  have hops : op = 1 ∨ op = 2 ∨ op = 3 ∨ op = 4 ∨ op = 5 ∨ op = 6 ∨ op = 7 ∨ op = 8 ∨ op = 9 ∨ op = 10 ∨ op = 11 ∨ op = 12 ∨ op = 13 := by omega
  rcases hops with rfl | rfl | rfl | rfl | rfl | rfl | rfl | rfl | rfl | rfl | rfl | rfl | rfl
  all_goals exact ⟨_, _, rfl, by decide⟩
theorem solid_append {s s' : List UInt8} (h : Solid s) : Solid (s ++ s') := by
  obtain ⟨c, r, rfl, hc⟩ := h
  exact ⟨c, r ++ s', rfl, hc⟩
theorem solid_wrap {s : List UInt8} (b sq : Bool) (h : Solid s) : Solid (wrapT b sq s) := by
  cases b
  · exact h
  · cases sq
    · exact ⟨40, _, rfl, by decide⟩
    · exact ⟨91, _, rfl, by decide⟩
theorem ok_range {b : Bool} {t : Tree} (h : Ok b t) : 1 ≤ top t ∧ top t ≤ 13 := by
  cases t with
  | leaf op => unfold Ok at h; show 1 ≤ op ∧ op ≤ 13; omega
  | node op x y => have := ok_op h; show 1 ≤ op ∧ op ≤ 13; omega
theorem solid_txt : ∀ (t : Tree) (b : Bool), Ok b t → Solid (txt t)
  | .leaf op, b, h => solid_name op (ok_range h)
  | .node op x y, b, h => by
    obtain ⟨b', hx, _⟩ := ok_sub h
    exact solid_append (solid_wrap _ _ (solid_txt x b' hx))
theorem fin_blank (s r : List UInt8) : Fin (32 :: s ++ r) := fun c e => by
  injection e with e
  subst e
  decide
theorem reads_txt : ∀ (t : Tree) (b : Bool), Ok b t → Reads (txt t) (toks t)
  | .leaf op, b, h => reads_name op (ok_range h)
  | .node op x y, b, h => by
    obtain ⟨b', hx, hy⟩ := ok_sub h
    have r1 := reads_wrap (lowL op x) (square op) (reads_txt x b' hx)
    have r2 := reads_gap (reads_wrap (lowR op y) (square op) (reads_txt y b' hy)) (solid_wrap _ _ (solid_txt y b' hy))
    have r3 := reads_append (reads_name op (ok_range h)) r2 (fun r _ => fin_blank _ r)
    have r4 := reads_gap r3 (solid_append (solid_name op (ok_range h)))
    exact reads_append r1 r4 (fun r _ => fin_blank _ r)
/-- What is written is cut into its tokens, and an end. -/
theorem lex_txt {t : Tree} {b : Bool} (h : Ok b t) (hl : (post t).length ≤ 40) : ∃ l : List Lx.Tk, Lx.lex (txt t) = (l ++ [⟨0, ByteArray.empty, ((txt t).length : Nat)⟩], 0, 0) ∧ l.map kt = toks t := by
  obtain ⟨n', ts, _, a2, a3⟩ := reads_txt t b h [] (txt t).length 0 (fun c e => by cases e) (by simp)
  rw [List.append_nil, Lx.toks_end, List.append_nil, Nat.zero_add] at a2
  have h1 := txt_len t b h
  have h2 := toks_len t
  have h3 : ts.length = (toks t).length := by rw [← a3, List.length_map]
  refine ⟨ts, ?_, a3⟩
  unfold Lx.lex
  rw [if_neg (by omega), a2, if_neg (by simp), if_neg (by simp only; omega)]
end Sh
end Go.Proofs.Ytggcmkpafpjnoaa

/- What is written is read as the same rule. Over no program. -/
namespace Go.Proofs.Ytggcmkpafpjnoaa
set_option maxRecDepth 100000
namespace Sh
open Rl (St Res opOf isN loop rows adv put into outof inside)
open Lx (Tk kt)

/-- The tokens ks stand in l from k on. -/
def At (l : List Tk) (k : Nat) (ks : List (Int × ByteArray)) : Prop := ∀ j p, ks[j]? = some p → ∃ t, l[k + j]? = some t ∧ kt t = p
section
variable {l : List Tk} {k : Nat} {ks ks' : List (Int × ByteArray)} {p : Int × ByteArray}
theorem At.left (h : At l k (ks ++ ks')) : At l k ks := fun j p e => h j p (by rw [List.getElem?_append_left (List.getElem?_eq_some_iff.1 e).1]; exact e)
theorem At.right (h : At l k (ks ++ ks')) : At l (k + ks.length) ks' := fun j p e => by
  have := h (ks.length + j) p (by rw [List.getElem?_append_right (by omega), Nat.add_sub_cancel_left]; exact e)
  rwa [← Nat.add_assoc] at this
theorem At.tail (h : At l k (p :: ks)) : At l (k + 1) ks := At.right (ks := [p]) h
theorem At.head (h : At l k (p :: ks)) : ∃ t, l[k]? = some t ∧ kt t = p := h 0 p rfl
theorem At.lt (h : At l k (p :: ks)) : k < l.length := by
  obtain ⟨t, ht, _⟩ := h.head
  exact (List.getElem?_eq_some_iff.1 ht).1
theorem At.isN (h : At l k (p :: ks)) (w : ByteArray) : Rl.isN l k w = decide ((p.1 = 1 ∨ p.1 = 3) ∧ p.2 = w) := by
  obtain ⟨t, ht, e⟩ := h.head
  subst e
  unfold Rl.isN
  rw [ht]
  rfl
theorem At.word (h : At l k (p :: ks)) : Rl.word l k = if p.1 = 1 ∧ 6 ≤ opOf p.2 ∧ opOf p.2 ≤ 11 then opOf p.2 else 0 := by
  obtain ⟨t, ht, e⟩ := h.head
  subst e
  unfold Rl.word
  rw [ht]
  rfl
end
theorem loop_no {l : List Tk} {more : St → Res} {w : ByteArray} {n : Nat} {s : St} (h : isN l s.pos w = false) : loop l more w n s = (s, 0) := by
  cases n with
  | zero => rfl
  | succ n => rw [loop, if_neg (by rw [h]; decide)]
def after (s : St) (n : Nat) (x : List Int) : St := ⟨s.pos + n, s.deep, s.out ++ x⟩
/-- A tree's tokens where least m must bind, and how deep they are. -/
def tokW (sq : Bool) (m : Nat) (t : Tree) : List (Int × ByteArray) := wrapK (decide (bt t < m)) sq (toks t)
def W (m : Nat) (t : Tree) : Nat := deep t + (decide (bt t < m)).toNat
def fits (s : St) (t : Tree) : Prop := s.out.length + (post t).length ≤ 40
theorem put_ok {op : Int} {s : St} (h : s.out.length < 40) : put op s = ({ s with out := s.out ++ [op] }, 0) := by
  unfold put
  rw [if_neg (by omega)]

section
variable (l : List Tk) (part : St → Res) (sq : Bool) (w1 w2 : ByteArray) (o1 o2 : Int) (N3 : Nat → Prop) (o : Nat)
/-- A part tells a tree exactly; rows of them do, as far as a loop goes. -/
def E3 (t : Tree) : Prop := ∀ s : St, At l s.pos (tokW sq 3 t) → s.deep = o → o + W 3 t ≤ 12 → fits s t → N3 (s.pos + (tokW sq 3 t).length) → part s = (after s (tokW sq 3 t).length (post t), 0)
def L2 (t : Tree) : Prop := ∀ s : St, At l s.pos (tokW sq 2 t) → s.deep = o → o + W 2 t ≤ 12 → fits s t → N3 (s.pos + (tokW sq 2 t).length) →
  ∃ n, l.length ≤ n + (s.pos + (tokW sq 2 t).length) ∧ rows l part [w2] s = loop l part w2 n (after s (tokW sq 2 t).length (post t))
def L1 (t : Tree) : Prop := ∀ s : St, At l s.pos (tokW sq 1 t) → s.deep = o → o + W 1 t ≤ 12 → fits s t → N3 (s.pos + (tokW sq 1 t).length) ∧ isN l (s.pos + (tokW sq 1 t).length) w2 = false →
  ∃ n, l.length ≤ n + (s.pos + (tokW sq 1 t).length) ∧ rows l part [w1, w2] s = loop l (rows l part [w2]) w1 n (after s (tokW sq 1 t).length (post t))
end
section
variable {l : List Tk} {part : St → Res} {sq : Bool} {w1 w2 : ByteArray} {o1 o2 : Int} {N3 : Nat → Prop} {o : Nat}
theorem l2_of_e3 {t : Tree} (h : E3 l part sq N3 o t) (hb : bt t ≠ 2) : L2 l part sq w2 N3 o t := by
  have e : decide (bt t < 2) = decide (bt t < 3) := by
    have := binds_pos (top t)
    unfold bt at hb ⊢
    by_cases h1 : binds (top t) < 2
    · rw [decide_eq_true h1, decide_eq_true (by omega)]
    · rw [decide_eq_false h1, decide_eq_false (by omega)]
  unfold L2 tokW W
  rw [e]
  intro s h1 h2 h3 h4 h5
  have hp := h s h1 h2 h3 h4 h5
  refine ⟨l.length, by omega, ?_⟩
  show (if (part s).2 = 0 then loop l part w2 l.length (part s).1 else part s) = _
  rw [hp, if_pos rfl]
  rfl
theorem l1_of_l2 {t : Tree} (h : L2 l part sq w2 N3 o t) (hb : bt t ≠ 1) : L1 l part sq w1 w2 N3 o t := by
  have e : decide (bt t < 1) = decide (bt t < 2) := by
    have := binds_pos (top t)
    unfold bt at hb ⊢
    rw [decide_eq_false (by omega), decide_eq_false (by omega)]
  unfold L1 tokW W
  rw [e]
  intro s h1 h2 h3 h4 h5
  obtain ⟨n, _, hp⟩ := h s h1 h2 h3 h4 h5.1
  have hx : rows l part [w2] s = (after s (tokW sq 2 t).length (post t), 0) := by
    rw [hp]
    exact loop_no h5.2
  refine ⟨l.length, by omega, ?_⟩
  show (if (rows l part [w2] s).2 = 0 then loop l (rows l part [w2]) w1 l.length (rows l part [w2] s).1 else rows l part [w2] s) = _
  rw [hx, if_pos rfl]
  rfl
theorem bt_node (op : Int) (x y : Tree) : bt (.node op x y) = binds op := rfl
/-- A row's next word, and what stands behind it. -/
theorem row_on {more : St → Res} {w : ByteArray} {op : Int} {n i j : Nat} {s : St} {x y : List Int} (hop : opOf w = op) (hn : isN l (s.pos + i) w = true) (hlen : l.length ≤ n + (s.pos + i)) (hlt : s.pos + i < l.length)
    (hm : more (adv (after s i x)) = (after (adv (after s i x)) j y, 0)) (hf : s.out.length + x.length + y.length + 1 ≤ 40) :
    ∃ m, l.length ≤ m + (s.pos + (i + 1 + j)) ∧ loop l more w n (after s i x) = loop l more w m (after s (i + 1 + j) (x ++ y ++ [op])) := by
  obtain ⟨m, rfl⟩ : ∃ m, n = m + 1 := ⟨n - 1, by omega⟩
  refine ⟨m, by omega, ?_⟩
  have hn' : isN l (after s i x).pos w = true := hn
  have hput : put (opOf w) (after (adv (after s i x)) j y) = (after s (i + 1 + j) (x ++ y ++ [op]), 0) := by
    rw [put_ok (by simp [after, adv]; omega), hop]
    unfold after adv
    simp only [List.append_assoc]
    congr 2
    omega
  rw [loop, if_pos hn', hm, if_pos rfl, hput, if_pos rfl]
theorem l2_node {x y : Tree} (hw : nameOf o2 = w2) (hop : opOf w2 = o2) (hk : kindOf o2 = 1) (hb : binds o2 = 2) (h5 : o2 ≠ 5) (hsq : square o2 = sq) (hN : ∀ k, isN l k w2 = true → N3 k)
    (hx : L2 l part sq w2 N3 o x) (hy : E3 l part sq N3 o y) : L2 l part sq w2 N3 o (.node o2 x y) := by
  have et : tokW sq 2 (.node o2 x y) = tokW sq 2 x ++ (1, w2) :: tokW sq 3 y := by
    unfold tokW
    rw [bt_node, hb]
    simp only [toks, lowL, lowR, hb, hsq, tok1, hw, hk, ne_eq, h5, not_false_eq_true, true_and]
    rfl
  have ed : W 2 (.node o2 x y) = max (W 2 x) (W 3 y) := by
    unfold W
    rw [bt_node, hb]
    simp only [deep, lowL, lowR, hb, ne_eq, h5, not_false_eq_true, true_and]
    rfl
  intro s h1 h2 h3 h4 h6
  rw [et] at h1 h6 ⊢
  rw [ed] at h3
  unfold fits at h4
  simp only [post, List.length_append, List.length_cons, List.length_nil] at h4
  have hn : isN l (s.pos + (tokW sq 2 x).length) w2 = true := by
    rw [h1.right.isN]
    exact decide_eq_true ⟨.inl rfl, rfl⟩
  obtain ⟨n, a1, a2⟩ := hx s h1.left h2 (by omega) (by unfold fits; omega) (hN _ hn)
  have hlen : ((tokW sq 2 x) ++ (1, w2) :: tokW sq 3 y).length = (tokW sq 2 x).length + 1 + (tokW sq 3 y).length := by simp; omega
  have hyy := hy (adv (after s (tokW sq 2 x).length (post x))) h1.right.tail h2 (by omega) (by unfold fits; simp only [after, adv, List.length_append]; omega) (by
    rw [hlen] at h6
    show N3 (s.pos + (tokW sq 2 x).length + 1 + _)
    rw [show s.pos + (tokW sq 2 x).length + 1 + (tokW sq 3 y).length = s.pos + ((tokW sq 2 x).length + 1 + (tokW sq 3 y).length) by omega]
    exact h6)
  obtain ⟨m, b1, b2⟩ := row_on hop hn a1 h1.right.lt hyy (by omega)
  refine ⟨m, by rw [hlen]; exact b1, ?_⟩
  rw [a2, b2, hlen]
  rfl
theorem l1_node {x y : Tree} (hw : nameOf o1 = w1) (hop : opOf w1 = o1) (hk : kindOf o1 = 1) (hb : binds o1 = 1) (h5 : o1 ≠ 5) (hsq : square o1 = sq) (hN : ∀ k, isN l k w1 = true → N3 k ∧ isN l k w2 = false)
    (hx : L1 l part sq w1 w2 N3 o x) (hy : L2 l part sq w2 N3 o y) : L1 l part sq w1 w2 N3 o (.node o1 x y) := by
  have et : tokW sq 1 (.node o1 x y) = tokW sq 1 x ++ (1, w1) :: tokW sq 2 y := by
    unfold tokW
    rw [bt_node, hb]
    simp only [toks, lowL, lowR, hb, hsq, tok1, hw, hk, ne_eq, h5, not_false_eq_true, true_and]
    rfl
  have ed : W 1 (.node o1 x y) = max (W 1 x) (W 2 y) := by
    unfold W
    rw [bt_node, hb]
    simp only [deep, lowL, lowR, hb, ne_eq, h5, not_false_eq_true, true_and]
    rfl
  intro s h1 h2 h3 h4 h6
  rw [et] at h1 h6 ⊢
  rw [ed] at h3
  unfold fits at h4
  simp only [post, List.length_append, List.length_cons, List.length_nil] at h4
  have hn : isN l (s.pos + (tokW sq 1 x).length) w1 = true := by
    rw [h1.right.isN]
    exact decide_eq_true ⟨.inl rfl, rfl⟩
  obtain ⟨n, a1, a2⟩ := hx s h1.left h2 (by omega) (by unfold fits; omega) (hN _ hn)
  have hlen : ((tokW sq 1 x) ++ (1, w1) :: tokW sq 2 y).length = (tokW sq 1 x).length + 1 + (tokW sq 2 y).length := by simp; omega
  rw [hlen, show s.pos + ((tokW sq 1 x).length + 1 + (tokW sq 2 y).length) = s.pos + (tokW sq 1 x).length + 1 + (tokW sq 2 y).length by omega] at h6
  obtain ⟨n2, _, c2⟩ := hy (adv (after s (tokW sq 1 x).length (post x))) h1.right.tail h2 (by omega) (by unfold fits; simp only [after, adv, List.length_append]; omega) h6.1
  have hyy : rows l part [w2] (adv (after s (tokW sq 1 x).length (post x))) = (after (adv (after s (tokW sq 1 x).length (post x))) (tokW sq 2 y).length (post y), 0) := by
    rw [c2]
    exact loop_no h6.2
  obtain ⟨m, b1, b2⟩ := row_on hop hn a1 h1.right.lt hyy (by omega)
  refine ⟨m, by rw [hlen]; exact b1, ?_⟩
  rw [a2, b2, hlen]
  rfl
/-- Rows of both words, exactly. -/
theorem l1_exact {t : Tree} (h : L1 l part sq w1 w2 N3 o t) (s : St) (h1 : At l s.pos (toks t)) (h2 : s.deep = o) (h3 : o + deep t ≤ 12) (h4 : fits s t) (h5 : N3 (s.pos + (toks t).length)) (h6 : isN l (s.pos + (toks t).length) w2 = false) (h7 : isN l (s.pos + (toks t).length) w1 = false) :
    rows l part [w1, w2] s = (after s (toks t).length (post t), 0) := by
  have e0 : decide (bt t < 1) = false := by have := binds_pos (top t); unfold bt; rw [decide_eq_false (by omega)]
  have e1 : tokW sq 1 t = toks t := by unfold tokW; rw [e0]; rfl
  have e2 : W 1 t = deep t := by unfold W; rw [e0]; rfl
  have hh := h s
  rw [e1, e2] at hh
  obtain ⟨n, _, a⟩ := hh h1 h2 h3 h4 ⟨h5, h6⟩
  rw [a]
  exact loop_no h7
end

/- Labels. -/
abbrev partL (l : List Tk) (d : Nat) : St → Res := Rl.atom l (Rl.label l d)
def Tells (l : List Tk) (d : Nat) (t : Tree) : Prop :=
  E3 l (partL l d) true (fun _ => True) (12 - d) t ∧ L2 l (partL l d) true Rl.wMeet (fun _ => True) (12 - d) t ∧ L1 l (partL l d) true Rl.wJoin Rl.wMeet (fun _ => True) (12 - d) t
theorem join_not_meet {l : List Tk} {k : Nat} (h : isN l k Rl.wJoin = true) : isN l k Rl.wMeet = false := by
  obtain ⟨t, ht, _, e⟩ := Rl.isN_some h
  unfold Rl.isN
  rw [ht]
  exact decide_eq_false fun h1 => absurd (e.symm.trans h1.2) (by decide)
theorem opOf_name (op : Int) (h : 1 ≤ op ∧ op ≤ 13) : opOf (nameOf op) = op := by
  have hops : op = 1 ∨ op = 2 ∨ op = 3 ∨ op = 4 ∨ op = 5 ∨ op = 6 ∨ op = 7 ∨ op = 8 ∨ op = 9 ∨ op = 10 ∨ op = 11 ∨ op = 12 ∨ op = 13 := by omega
  rcases hops with rfl | rfl | rfl | rfl | rfl | rfl | rfl | rfl | rfl | rfl | rfl | rfl | rfl <;> decide
theorem name_mark (op : Int) (h : 6 ≤ op ∧ op ≤ 11) : nameOf op ≠ Rl.wOpenL := by
  have hops : op = 6 ∨ op = 7 ∨ op = 8 ∨ op = 9 ∨ op = 10 ∨ op = 11 := by omega
  rcases hops with rfl | rfl | rfl | rfl | rfl | rfl <;> decide
theorem wrap_len (sq : Bool) (ks : List (Int × ByteArray)) : (wrapK true sq ks).length = ks.length + 2 := by simp [wrapK]
theorem shut_no {l : List Tk} {k : Nat} {ks : List (Int × ByteArray)} {m w : ByteArray} (h : At l k ((3, m) :: ks)) (hne : m ≠ w) : isN l k w = false := by
  rw [h.isN]
  exact decide_eq_false fun h1 => hne h1.2
/-- What stands in brackets, exactly. -/
theorem inside_exact {l : List Tk} {p : St → Res} {fin beg : ByteArray} {s : St} {t : Tree} {o : Nat} (h1 : At l s.pos ((3, beg) :: (toks t ++ [(3, fin)]))) (hd : s.deep = o) (ho : o < 12) (hp : p (into s) = (after (into s) (toks t).length (post t), 0)) :
    inside l p fin s = (after s ((toks t).length + 2) (post t), 0) := by
  have hn : isN l (after (into s) (toks t).length (post t)).pos fin = true := by
    have h2 : At l (s.pos + 1 + (toks t).length) [(3, fin)] := h1.tail.right
    exact (h2.isN fin).trans (decide_eq_true ⟨.inr rfl, rfl⟩)
  rw [inside, if_neg (by omega), hp, if_pos rfl, if_pos hn]
  unfold outof after into
  simp only [Nat.add_sub_cancel]
  congr 2
  omega
theorem label_tells {l : List Tk} : ∀ (t : Tree), Ok true t → ∀ d, d ≤ 12 → Tells l d t
  | .leaf op, h, d, hd => by
    have hop : 6 ≤ op ∧ op ≤ 11 := by unfold Ok at h; rcases h with ⟨_, h⟩ | ⟨h, _⟩; exact h; cases h
    have hbt : bt (.leaf op) = 3 := by show (if op = 4 ∨ op = 12 then 1 else if op = 3 ∨ op = 13 then 2 else 3) = 3; rw [if_neg (by omega), if_neg (by omega)]
    have e3 : E3 l (partL l d) true (fun _ => True) (12 - d) (.leaf op) := by
      intro s h1 h2 h3 h4 _
      have et : tokW true 3 (.leaf op) = [(1, nameOf op)] := by
        unfold tokW
        rw [hbt]
        simp only [toks, tok1, kindOf, if_neg (show ¬ op = 5 by omega)]
        rfl
      rw [et] at h1 ⊢
      have hw : Rl.word l s.pos = op := by
        rw [h1.word]
        dsimp only
        rw [opOf_name op ⟨by omega, by omega⟩]
        exact if_pos ⟨rfl, hop.1, hop.2⟩
      have hn : ¬ isN l s.pos Rl.wOpenL = true := by
        rw [h1.isN]
        simp only [decide_eq_true_eq]
        exact fun hh => name_mark op hop hh.2
      unfold fits at h4
      simp only [post, List.length_cons, List.length_nil] at h4
      show Rl.atom l (Rl.label l d) s = _
      rw [Rl.atom, if_neg hn, hw, if_neg (by omega), put_ok (show (adv s).out.length < 40 by show s.out.length < 40; omega)]
      rfl
    exact ⟨e3, l2_of_e3 e3 (by rw [hbt]; decide), l1_of_l2 (l2_of_e3 e3 (by rw [hbt]; decide)) (by rw [hbt]; decide)⟩
  | .node op x y, h, d, hd => by
    have hx : Ok true x := by unfold Ok at h; rcases h with ⟨h, _⟩ | ⟨h, _⟩ | ⟨_, _, h, _⟩ <;> first | exact h | cases h
    have hy : Ok true y := by unfold Ok at h; rcases h with ⟨h, _⟩ | ⟨h, _⟩ | ⟨_, _, _, h⟩ <;> first | exact h | cases h
    have hop : op = 12 ∨ op = 13 := by unfold Ok at h; rcases h with ⟨h, _⟩ | ⟨h, _⟩ | ⟨_, h, _, _⟩ <;> first | exact h | cases h
    have ix := fun d hd => label_tells (l := l) x hx d hd
    have iy := fun d hd => label_tells (l := l) y hy d hd
    have core : ∀ d, d ≤ 12 → L1 l (partL l d) true Rl.wJoin Rl.wMeet (fun _ => True) (12 - d) (.node op x y) ∧ (op = 13 → L2 l (partL l d) true Rl.wMeet (fun _ => True) (12 - d) (.node op x y)) := by
      intro d hd
      rcases hop with rfl | rfl
      · exact ⟨l1_node (o1 := 12) (w1 := Rl.wJoin) rfl Rl.op_join rfl rfl (by decide) rfl (fun k hk => ⟨trivial, join_not_meet hk⟩) (ix d hd).2.2 (iy d hd).2.1, fun h => absurd h (by decide)⟩
      · have h2 := l2_node (o2 := 13) (w2 := Rl.wMeet) (sq := true) (part := partL l d) rfl Rl.op_meet rfl rfl (by decide) rfl (fun _ _ => trivial) (ix d hd).2.1 (iy d hd).1
        exact ⟨l1_of_l2 h2 (by rw [bt_node]; decide), fun _ => h2⟩
    have e3 : E3 l (partL l d) true (fun _ => True) (12 - d) (.node op x y) := by
      have hbt : decide (bt (.node op x y) < 3) = true := by rw [bt_node]; rcases hop with rfl | rfl <;> decide
      intro s h1 h2 h3 h4 _
      unfold tokW W at *
      rw [hbt] at h1 h3 ⊢
      rw [wrap_len]
      have h1' : At l s.pos ((3, Rl.wOpenL) :: (toks (.node op x y) ++ [(3, Rl.wShutL)])) := h1
      have hb1 : (true).toNat = 1 := rfl
      rw [hb1] at h3
      obtain ⟨d', rfl⟩ : ∃ d', d = d' + 1 := ⟨d - 1, by omega⟩
      have hshut := At.right (ks := toks (.node op x y)) h1'.tail
      have hin := l1_exact (core d' (by omega)).1 (into s) h1'.tail.left (by show s.deep + 1 = _; omega) (by omega) h4 trivial
        (shut_no hshut (by decide)) (shut_no hshut (by decide))
      have hn : isN l s.pos Rl.wOpenL = true := by rw [h1'.isN]; exact decide_eq_true ⟨.inr rfl, rfl⟩
      show Rl.atom l (Rl.label l (d' + 1)) s = _
      rw [Rl.atom, if_pos hn]
      exact inside_exact h1' h2 (by omega) hin
    refine ⟨e3, ?_, (core d hd).1⟩
    rcases hop with rfl | rfl
    · exact l2_of_e3 e3 (by rw [bt_node]; decide)
    · exact (core d hd).2 rfl

/- Conditions. -/
abbrev partC (l : List Tk) (d : Nat) : St → Res := Rl.prim l (Rl.cond l d) (Rl.label l (d + 1))
def NoL (l : List Tk) (k : Nat) : Prop := isN l k Rl.wJoin = false ∧ isN l k Rl.wMeet = false
def TellsC (l : List Tk) (d : Nat) (t : Tree) : Prop :=
  E3 l (partC l d) false (NoL l) (12 - d) t ∧ L2 l (partC l d) false Rl.wAnd (NoL l) (12 - d) t ∧ L1 l (partC l d) false Rl.wOr Rl.wAnd (NoL l) (12 - d) t
theorem isN_else {l : List Tk} {k : Nat} {w w' : ByteArray} (h : isN l k w = true) (hne : w ≠ w') : isN l k w' = false := by
  obtain ⟨t, ht, _, e⟩ := Rl.isN_some h
  unfold Rl.isN
  rw [ht]
  exact decide_eq_false fun h1 => hne (e.symm.trans h1.2)
/-- A label's first token begins no condition. -/
theorem label_head : ∀ (t : Tree), Ok true t → ∃ p ks, toks t = p :: ks ∧ p.2 ≠ Rl.wTrue ∧ p.2 ≠ Rl.wFalse ∧ p.2 ≠ Rl.wOpen
  | .leaf op, h => by
    have hop : op = 6 ∨ op = 7 ∨ op = 8 ∨ op = 9 ∨ op = 10 ∨ op = 11 := by
      unfold Ok at h
      rcases h with ⟨_, h⟩ | ⟨h, _⟩
      · omega
      · cases h
    refine ⟨_, _, rfl, ?_⟩
    rcases hop with rfl | rfl | rfl | rfl | rfl | rfl <;> decide
  | .node op x y, h => by
    have hx : Ok true x := by unfold Ok at h; rcases h with ⟨h, _⟩ | ⟨h, _⟩ | ⟨_, _, h, _⟩ <;> first | exact h | cases h
    have hop : op = 12 ∨ op = 13 := by unfold Ok at h; rcases h with ⟨h, _⟩ | ⟨h, _⟩ | ⟨_, h, _, _⟩ <;> first | exact h | cases h
    obtain ⟨p, ks, e, h1⟩ := label_head x hx
    simp only [toks]
    cases hb : lowL op x
    · refine ⟨p, _, by rw [wrapK, if_neg (by decide), e]; rfl, h1⟩
    · have hs : square op = true := by rcases hop with rfl | rfl <;> decide
      refine ⟨(3, Rl.wOpenL), _, by rw [wrapK, if_pos rfl, hs]; rfl, by decide⟩
theorem cond_tells {l : List Tk} : ∀ (t : Tree), Ok false t → ∀ d, d ≤ 12 → TellsC l d t
  | .leaf op, h, d, hd => by
    have hop : op = 1 ∨ op = 2 := by unfold Ok at h; rcases h with ⟨h, _⟩ | ⟨_, h⟩; cases h; exact h
    have hbt : bt (.leaf op) = 3 := by rcases hop with rfl | rfl <;> rfl
    have e3 : E3 l (partC l d) false (NoL l) (12 - d) (.leaf op) := by
      intro s h1 h2 h3 h4 _
      have et : tokW false 3 (.leaf op) = [(1, nameOf op)] := by
        unfold tokW
        rw [hbt]
        simp only [toks, tok1, kindOf, if_neg (show ¬ op = 5 by omega)]
        rfl
      rw [et] at h1 ⊢
      unfold fits at h4
      simp only [post, List.length_cons, List.length_nil] at h4
      show Rl.prim l (Rl.cond l d) (Rl.label l (d + 1)) s = _
      rcases hop with rfl | rfl
      · have hn : isN l s.pos Rl.wTrue = true := by rw [h1.isN]; exact decide_eq_true ⟨.inl rfl, rfl⟩
        rw [Rl.prim, if_pos hn, put_ok (show (adv s).out.length < 40 by show s.out.length < 40; omega)]
        rfl
      · have hn : isN l s.pos Rl.wFalse = true := by rw [h1.isN]; exact decide_eq_true ⟨.inl rfl, rfl⟩
        have hn0 : ¬ isN l s.pos Rl.wTrue = true := by rw [isN_else hn (by decide)]; decide
        rw [Rl.prim, if_neg hn0, if_pos hn, put_ok (show (adv s).out.length < 40 by show s.out.length < 40; omega)]
        rfl
    exact ⟨e3, l2_of_e3 e3 (by rw [hbt]; decide), l1_of_l2 (l2_of_e3 e3 (by rw [hbt]; decide)) (by rw [hbt]; decide)⟩
  | .node op x y, h, d, hd => by
    by_cases h5 : op = 5
    · subst h5
      have hx : Ok true x := by unfold Ok at h; rcases h with ⟨_, h, _⟩ | ⟨_, _, h, _⟩ | ⟨h, _⟩ <;> first | exact h | (exact absurd h (by decide))
      have hy : Ok true y := by unfold Ok at h; rcases h with ⟨_, h, _⟩ | ⟨_, _, _, h⟩ | ⟨h, _⟩ <;> first | exact h | (exact absurd h (by decide))
      have ix := label_tells (l := l) x hx d hd
      have iy := label_tells (l := l) y hy d hd
      have e3 : E3 l (partC l d) false (NoL l) (12 - d) (.node 5 x y) := by
        have et : tokW false 3 (.node 5 x y) = toks x ++ (3, Rl.wFlows) :: toks y := rfl
        have ed : W 3 (.node 5 x y) = max (deep x) (deep y) := rfl
        intro s h1 h2 h3 h4 h6
        rw [et] at h1 h6 ⊢
        rw [ed] at h3
        unfold fits at h4
        simp only [post, List.length_append, List.length_cons, List.length_nil] at h4
        obtain ⟨p, ks, ep, p1, p2, p3⟩ := label_head x hx
        have hhead := h1
        rw [ep] at hhead
        have hno : ∀ w, p.2 ≠ w → ¬ isN l s.pos w = true := fun w hw => by
          rw [At.isN hhead]
          simp only [decide_eq_true_eq]
          exact fun hh => hw hh.2
        have hfl : isN l (s.pos + (toks x).length) Rl.wFlows = true := by rw [h1.right.isN]; exact decide_eq_true ⟨.inr rfl, rfl⟩
        have hxx := l1_exact ix.2.2 s h1.left h2 (by omega) (by unfold fits; omega) trivial (isN_else hfl (by decide)) (isN_else hfl (by decide))
        have hlen : (toks x ++ (3, Rl.wFlows) :: toks y).length = (toks x).length + 1 + (toks y).length := by simp; omega
        rw [hlen, show s.pos + ((toks x).length + 1 + (toks y).length) = s.pos + (toks x).length + 1 + (toks y).length by omega] at h6
        have hyy := l1_exact iy.2.2 (adv (after s (toks x).length (post x))) h1.right.tail h2 (by omega) (by unfold fits; simp only [after, adv, List.length_append]; omega) trivial h6.2 h6.1
        have hl : ∀ u, Rl.label l (d + 1) u = rows l (partL l d) [Rl.wJoin, Rl.wMeet] u := fun _ => rfl
        show Rl.prim l (Rl.cond l d) (Rl.label l (d + 1)) s = _
        have hfl' : isN l (after s (toks x).length (post x)).pos Rl.wFlows = true := hfl
        rw [Rl.prim, if_neg (hno _ p1), if_neg (hno _ p2), if_neg (hno _ p3), Rl.flow, hl, hxx, if_pos rfl]
        refine (if_pos hfl').trans ?_
        show (if (Rl.label l (d + 1) (adv (after s (toks x).length (post x)))).2 = 0 then put 5 (Rl.label l (d + 1) (adv (after s (toks x).length (post x)))).1 else Rl.label l (d + 1) (adv (after s (toks x).length (post x)))) = _
        rw [hl, hyy, if_pos rfl, put_ok (by simp only [after, adv, List.length_append]; omega), hlen]
        unfold after adv
        simp only [post, List.append_assoc]
        congr 2
        omega
      exact ⟨e3, l2_of_e3 e3 (by rw [bt_node]; decide), l1_of_l2 (l2_of_e3 e3 (by rw [bt_node]; decide)) (by rw [bt_node]; decide)⟩
    · have hx : Ok false x := by unfold Ok at h; rcases h with ⟨_, _, h, _⟩ | ⟨_, h, _⟩ | ⟨h, _⟩ <;> first | exact h | (exact absurd h h5) | cases h
      have hy : Ok false y := by unfold Ok at h; rcases h with ⟨_, _, _, h⟩ | ⟨_, h, _⟩ | ⟨h, _⟩ <;> first | exact h | (exact absurd h h5) | cases h
      have hop : op = 4 ∨ op = 3 := by unfold Ok at h; rcases h with ⟨_, h, _, _⟩ | ⟨_, h, _⟩ | ⟨h, _⟩ <;> first | (exact h.symm) | (exact absurd h h5) | cases h
      have ix := fun d hd => cond_tells (l := l) x hx d hd
      have iy := fun d hd => cond_tells (l := l) y hy d hd
      have core : ∀ d, d ≤ 12 → L1 l (partC l d) false Rl.wOr Rl.wAnd (NoL l) (12 - d) (.node op x y) ∧ (op = 3 → L2 l (partC l d) false Rl.wAnd (NoL l) (12 - d) (.node op x y)) := by
        intro d hd
        rcases hop with rfl | rfl
        · exact ⟨l1_node (o1 := 4) (w1 := Rl.wOr) rfl Rl.op_or rfl rfl (by decide) rfl (fun k hk => ⟨⟨isN_else hk (by decide), isN_else hk (by decide)⟩, isN_else hk (by decide)⟩) (ix d hd).2.2 (iy d hd).2.1, fun h => absurd h (by decide)⟩
        · have h2 := l2_node (o2 := 3) (w2 := Rl.wAnd) (sq := false) (part := partC l d) rfl Rl.op_and rfl rfl (by decide) rfl (fun k hk => ⟨isN_else hk (by decide), isN_else hk (by decide)⟩) (ix d hd).2.1 (iy d hd).1
          exact ⟨l1_of_l2 h2 (by rw [bt_node]; decide), fun _ => h2⟩
      have e3 : E3 l (partC l d) false (NoL l) (12 - d) (.node op x y) := by
        have hbt : decide (bt (.node op x y) < 3) = true := by rw [bt_node]; rcases hop with rfl | rfl <;> decide
        intro s h1 h2 h3 h4 _
        unfold tokW W at *
        rw [hbt] at h1 h3 ⊢
        rw [wrap_len]
        have h1' : At l s.pos ((3, Rl.wOpen) :: (toks (.node op x y) ++ [(3, Rl.wShut)])) := h1
        have hb1 : (true).toNat = 1 := rfl
        rw [hb1] at h3
        obtain ⟨d', rfl⟩ : ∃ d', d = d' + 1 := ⟨d - 1, by omega⟩
        have hshut := At.right (ks := toks (.node op x y)) h1'.tail
        have hin := l1_exact (core d' (by omega)).1 (into s) h1'.tail.left (by show s.deep + 1 = _; omega) (by omega) h4 ⟨shut_no hshut (by decide), shut_no hshut (by decide)⟩
          (shut_no hshut (by decide)) (shut_no hshut (by decide))
        have hn : isN l s.pos Rl.wOpen = true := by rw [h1'.isN]; exact decide_eq_true ⟨.inr rfl, rfl⟩
        show Rl.prim l (Rl.cond l (d' + 1)) (Rl.label l (d' + 1 + 1)) s = _
        rw [Rl.prim, if_neg (by rw [isN_else hn (by decide)]; decide), if_neg (by rw [isN_else hn (by decide)]; decide), if_pos hn]
        exact inside_exact h1' h2 (by omega) hin
      refine ⟨e3, ?_, (core d hd).1⟩
      rcases hop with rfl | rfl
      · exact l2_of_e3 e3 (by rw [bt_node]; decide)
      · exact (core d hd).2 rfl
/-- What is written is read as the same rule. -/
theorem read_back {t : Tree} {b : Bool} (h : Ok b t) (hl : (post t).length ≤ 40) (hd : deep t ≤ 12) {l : List Tk} {e : Tk} (hk : l.map kt = toks t) (he : e.kind = 0) :
    Rl.read (l ++ [e]) b 0 = (⟨l.length, 0, post t⟩, 0) := by
  have hlen : (toks t).length = l.length := by rw [← hk, List.length_map]
  have h1 : At (l ++ [e]) 0 (toks t) := fun j p hp => by
    rw [← hk, List.getElem?_map] at hp
    obtain ⟨u, hu, e1⟩ := Option.map_eq_some_iff.1 hp
    exact ⟨u, by rw [Nat.zero_add, List.getElem?_append_left (List.getElem?_eq_some_iff.1 hu).1]; exact hu, e1⟩
  have hend : ∀ w, isN (l ++ [e]) (0 + (toks t).length) w = false := fun w => by
    unfold Rl.isN
    rw [Nat.zero_add, hlen, List.getElem?_append_right (Nat.le_refl _), Nat.sub_self]
    exact decide_eq_false fun h1 => by omega
  have ha : after ⟨0, 0, []⟩ (toks t).length (post t) = ⟨l.length, 0, post t⟩ := by
    unfold after
    rw [hlen]
    simp
  cases b
  · have := l1_exact (cond_tells (l := l ++ [e]) t h 12 (Nat.le_refl _)).2.2 ⟨0, 0, []⟩ h1 rfl (by omega) (by unfold fits; simpa using hl) ⟨hend _, hend _⟩ (hend _) (hend _)
    rw [ha] at this
    exact this
  · have := l1_exact (label_tells (l := l ++ [e]) t h 12 (Nat.le_refl _)).2.2 ⟨0, 0, []⟩ h1 rfl (by omega) (by unfold fits; simpa using hl) trivial (hend _) (hend _)
    rw [ha] at this
    exact this
end Sh
end Go.Proofs.Ytggcmkpafpjnoaa

/- What is made right is one tree; what tokens tell is one that is not too deep, and no longer than the tokens. Over no program. -/
namespace Go.Proofs.Ytggcmkpafpjnoaa
set_option maxRecDepth 100000
namespace Sh
open Rl (St Res opOf isN loop rows adv put into outof inside)
open Lx (Tk kt)

/- One tree. -/
def isLeaf (n : Int) : Bool := decide (n = 1 ∨ n = 2 ∨ 6 ≤ n ∧ n ≤ 11)
/-- A pile of trees behind a number. -/
def tstep (ts : List Tree) (n : Int) : List Tree :=
  if isLeaf n = true then ts ++ [.leaf n]
  else ts.take (ts.length - 2) ++ [.node n (ts.getD (ts.length - 2) (.leaf 0)) (ts.getD (ts.length - 1) (.leaf 0))]
def tmach : List Tree → List Int → List Tree
  | ts, [] => ts
  | ts, n :: r => tmach (tstep ts n) r
theorem tmach_append : ∀ (a b : List Int) (ts : List Tree), tmach ts (a ++ b) = tmach (tmach ts a) b
  | [], _, _ => rfl
  | n :: a, b, ts => tmach_append a b (tstep ts n)
theorem tstep_node {n : Int} (h : isLeaf n = false) (ts : List Tree) (x y : Tree) : tstep (ts ++ [x] ++ [y]) n = ts ++ [.node n x y] := by
  unfold tstep
  rw [if_neg (by rw [h]; decide)]
  have e0 : (ts ++ [x] ++ [y]).length = ts.length + 2 := by simp
  rw [e0, Nat.add_sub_cancel, show ts.length + 2 - 1 = ts.length + 1 by omega]
  congr 1
  · rw [List.append_assoc, List.take_left]
  · simp
theorem ok_leaf {b : Bool} {op : Int} (h : Ok b (.leaf op)) : isLeaf op = true := by
  unfold Ok at h
  exact decide_eq_true (by rcases h with ⟨_, h⟩ | ⟨_, h⟩ <;> omega)
theorem ok_noleaf {b : Bool} {op : Int} {x y : Tree} (h : Ok b (.node op x y)) : isLeaf op = false := by
  have := ok_op h
  exact decide_eq_false (by omega)
theorem tmach_post : ∀ (t : Tree) (b : Bool) (ts : List Tree), Ok b t → tmach ts (post t) = ts ++ [t]
  | .leaf op, b, ts, h => by
    show tstep ts op = _
    unfold tstep
    rw [if_pos (ok_leaf h)]
  | .node op x y, b, ts, h => by
    obtain ⟨b', hx, hy⟩ := ok_sub h
    show tmach ts (post x ++ post y ++ [op]) = _
    rw [tmach_append, tmach_append, tmach_post x b' ts hx, tmach_post y b' _ hy]
    exact tstep_node (ok_noleaf h) ts x y
/-- A rule is of one tree. -/
theorem post_inj {t t' : Tree} {b b' : Bool} (h : Ok b t) (h' : Ok b' t') (e : post t = post t') : t = t' := by
  have h1 := tmach_post t b [] h
  rw [e, tmach_post t' b' [] h'] at h1
  simpa using h1.symm
/-- A pile's sorts are those of trees. -/
def Piled (q : List Bool) (ts : List Tree) : Prop := ts.length = q.length ∧ ∀ (j : Nat) (b : Bool) (t : Tree), q[j]? = some b → ts[j]? = some t → Ok b t
theorem Piled.snoc {q : List Bool} {ts : List Tree} {b : Bool} {t : Tree} (h : Piled q ts) (ht : Ok b t) : Piled (q ++ [b]) (ts ++ [t]) := by
  refine ⟨by simp [h.1], fun j c u hc hu => ?_⟩
  by_cases hj : j < q.length
  · rw [List.getElem?_append_left hj] at hc
    rw [List.getElem?_append_left (by rw [h.1]; exact hj)] at hu
    exact h.2 j c u hc hu
  · rw [List.getElem?_append_right (by omega)] at hc
    rw [List.getElem?_append_right (by have := h.1; omega)] at hu
    have h0 : j - q.length = 0 := by have := (List.getElem?_eq_some_iff.1 hc).1; simp at this; omega
    rw [h0] at hc
    rw [h.1, h0] at hu
    injection hc with hc
    injection hu with hu
    subst hc hu
    exact ht
theorem Piled.take {q : List Bool} {ts : List Tree} (h : Piled q ts) (n : Nat) : Piled (q.take n) (ts.take n) := by
  refine ⟨by simp [h.1], fun j c u hc hu => ?_⟩
  rw [List.getElem?_take] at hc hu
  split at hc
  · rename_i hj
    rw [if_pos hj] at hu
    exact h.2 j c u hc hu
  · cases hc
def posts (ts : List Tree) : List Int := ts.flatMap post
theorem posts_append (a b : List Tree) : posts (a ++ b) = posts a ++ posts b := by simp [posts]
/-- A number of a rule, told over trees. -/
theorem step_tree {q q' : List Bool} {ts : List Tree} {n : Int} (h : Piled q ts) (hs : Rl.step q n = some q') : Piled q' (tstep ts n) ∧ posts (tstep ts n) = posts ts ++ [n] := by
  have leaf : ∀ b, Ok b (.leaf n) → Piled (q ++ [b]) (tstep ts n) ∧ posts (tstep ts n) = posts ts ++ [n] := fun b hb => by
    unfold tstep
    rw [if_pos (ok_leaf hb)]
    exact ⟨h.snoc hb, by rw [posts_append]; simp [posts, post]⟩
  have node : ∀ a b, (∀ x y, Ok a x → Ok a y → Ok b (.node n x y)) → Rl.two q a b = some q' → Piled q' (tstep ts n) ∧ posts (tstep ts n) = posts ts ++ [n] := fun a b hb h2 => by
    unfold Rl.two at h2
    split at h2
    · rename_i hq
      obtain ⟨hq2, hqa, hqb⟩ := hq
      injection h2 with h2
      subst h2
      obtain ⟨m, hm⟩ : ∃ m, q.length = m + 2 := ⟨q.length - 2, by omega⟩
      have hl := h.1
      rw [hm] at hqa hqb hl ⊢
      rw [Nat.add_sub_cancel] at hqa ⊢
      rw [show m + 2 - 1 = m + 1 by omega] at hqb
      have g1 : ts[m]? = some ts[m] := List.getElem?_eq_getElem (by omega)
      have g2 : ts[m + 1]? = some ts[m + 1] := List.getElem?_eq_getElem (by omega)
      have ok1 := h.2 _ _ _ hqa g1
      have ok2 := h.2 _ _ _ hqb g2
      have okn := hb _ _ ok1 ok2
      have hts : ts = ts.take m ++ [ts[m]] ++ [ts[m + 1]] := by
        have e1 : ts.take (m + 1) = ts.take m ++ [ts[m]] := by rw [List.take_add_one, g1]; rfl
        have e2 : ts.take (m + 2) = ts.take (m + 1) ++ [ts[m + 1]] := by rw [List.take_add_one, g2]; rfl
        rw [← e1, ← e2, List.take_of_length_le (by omega)]
      have hst : tstep ts n = ts.take m ++ [.node n ts[m] ts[m + 1]] := by
        have := tstep_node (ok_noleaf okn) (ts.take m) ts[m] ts[m + 1]
        rwa [← hts] at this
      rw [hst]
      refine ⟨(h.take m).snoc okn, ?_⟩
      have hp : posts ts = posts (ts.take m) ++ post ts[m] ++ post ts[m + 1] := by
        have := congrArg posts hts
        rw [posts_append, posts_append] at this
        rw [this]
        simp [posts]
      rw [hp, posts_append]
      simp [posts, post]
    · cases h2
  unfold Rl.step at hs
  split at hs
  · rename_i h1; injection hs with hs; subst hs
    exact leaf false (by unfold Ok; exact .inr ⟨rfl, h1⟩)
  · split at hs
    · rename_i h1; injection hs with hs; subst hs
      exact leaf true (by unfold Ok; exact .inl ⟨rfl, h1.1, h1.2⟩)
    · split at hs
      · rename_i h1; exact node false false (fun x y hx hy => by unfold Ok; exact .inl ⟨rfl, h1, hx, hy⟩) hs
      · split at hs
        · rename_i h1; exact node true false (fun x y hx hy => by unfold Ok; exact .inr (.inl ⟨rfl, h1, hx, hy⟩)) hs
        · split at hs
          · rename_i h1; exact node true true (fun x y hx hy => by unfold Ok; exact .inr (.inr ⟨rfl, h1, hx, hy⟩)) hs
          · cases hs
theorem pile_tree : ∀ (rule : List Int) (q q' : List Bool) (ts : List Tree), Piled q ts → Rl.pileOf q rule = some q' → Piled q' (tmach ts rule) ∧ posts (tmach ts rule) = posts ts ++ rule
  | [], q, q', ts, h, hs => by
    injection hs with hs
    subst hs
    exact ⟨h, by simp [tmach]⟩
  | n :: r, q, q', ts, h, hs => by
    simp only [Rl.pileOf] at hs
    cases hq : Rl.step q n with
    | none => rw [hq] at hs; cases hs
    | some q1 =>
      rw [hq, Option.bind_some] at hs
      obtain ⟨a1, a2⟩ := step_tree h hq
      obtain ⟨b1, b2⟩ := pile_tree r q1 q' _ a1 hs
      exact ⟨b1, by show posts (tmach (tstep ts n) r) = _; rw [b2, a2]; simp⟩
/-- What is made right is a tree. -/
theorem right_tree {rule : List Int} {b : Bool} (h : Rl.right rule b = true) : ∃ t, Ok b t ∧ post t = rule ∧ tmach [] rule = [t] := by
  obtain ⟨_, h2⟩ := of_decide_eq_true h
  obtain ⟨a1, a2⟩ := pile_tree rule [] [b] [] ⟨rfl, fun j c u hc => by simp at hc⟩ h2
  obtain ⟨t, ht⟩ : ∃ t, tmach [] rule = [t] := by
    have := a1.1
    match hm : tmach [] rule, this with
    | [t], _ => exact ⟨t, rfl⟩
  rw [ht] at a1 a2
  exact ⟨t, a1.2 0 b t rfl rfl, by simpa [posts] using a2, ht⟩
theorem tree_seg : ∀ (t : Tree) (b : Bool), Ok b t → Rl.Seg (post t) b
  | .leaf op, b, h => Rl.seg_one fun p => by
    unfold Ok at h
    unfold Rl.step
    rcases h with ⟨rfl, h1, h2⟩ | ⟨rfl, h1⟩
    · rw [if_neg (by omega), if_pos ⟨h1, h2⟩]
    · rw [if_pos h1]
  | .node op x y, b, h => by
    unfold Ok at h
    rcases h with ⟨rfl, h1, hx, hy⟩ | ⟨rfl, rfl, hx, hy⟩ | ⟨rfl, h1, hx, hy⟩
    · exact Rl.seg_two (tree_seg x _ hx) (tree_seg y _ hy) fun p => by
        unfold Rl.step
        rw [if_neg (by omega), if_neg (by omega), if_pos h1]
    · exact Rl.seg_two (tree_seg x _ hx) (tree_seg y _ hy) fun p => rfl
    · exact Rl.seg_two (tree_seg x _ hx) (tree_seg y _ hy) fun p => by
        unfold Rl.step
        rw [if_neg (by omega), if_neg (by omega), if_neg (by omega), if_neg (by omega), if_pos h1]

/- What tokens tell. -/
/-- The bytes of the words that a rule is written with; of the tokens up to a place. -/
def wl (x : List Int) : Nat := (x.map fun n => (nameOf n).size).sum
theorem wl_append (a b : List Int) : wl (a ++ b) = wl a + wl b := by simp [wl]
theorem wl_one (n : Int) : wl [n] = (nameOf n).size := by simp [wl]
def sumTo (l : List Tk) (k : Nat) : Nat := ((l.take k).map fun t => t.text.size).sum
theorem sumTo_next {l : List Tk} {k : Nat} {t : Tk} (h : l[k]? = some t) : sumTo l (k + 1) = sumTo l k + t.text.size := by
  unfold sumTo
  rw [List.take_add_one, h]
  simp
theorem sumTo_up {l : List Tk} (k : Nat) : sumTo l k ≤ sumTo l (k + 1) := by
  cases h : l[k]? with
  | none =>
    have hk := List.getElem?_eq_none_iff.1 h
    unfold sumTo
    rw [List.take_of_length_le hk, List.take_of_length_le (by omega)]
    exact Nat.le_refl _
  | some t => rw [sumTo_next h]; omega
theorem sum_isN {l : List Tk} {k : Nat} {w : ByteArray} (h : isN l k w = true) : sumTo l (k + 1) = sumTo l k + w.size := by
  obtain ⟨t, ht, _, e⟩ := Rl.isN_some h
  rw [sumTo_next ht, e]
theorem W_mono {m m' : Nat} (h : m ≤ m') (t : Tree) : W m t ≤ W m' t := by
  unfold W
  by_cases h1 : bt t < m
  · rw [decide_eq_true h1, decide_eq_true (by omega)]
    exact Nat.le_refl _
  · rw [decide_eq_false h1]
    exact Nat.le_add_right _ _
theorem W_le (m : Nat) (t : Tree) : W m t ≤ deep t + 1 := by
  unfold W
  cases decide (bt t < m) <;> simp
/-- What a part makes, read at a depth, where least m must bind. -/
def Makes (l : List Tk) (o : Nat) (sort : Bool) (m : Nat) (p : St → Res) : Prop :=
  ∀ s s1 : St, s.deep = o → p s = (s1, 0) → s1.deep = o ∧ ∃ t, Ok sort t ∧ s1.out = s.out ++ post t ∧ o + W m t ≤ 12 ∧ sumTo l s.pos + wl (post t) ≤ sumTo l s1.pos
theorem put_inv {op : Int} {s s1 : St} (h : put op s = (s1, 0)) : s1 = { s with out := s.out ++ [op] } := by
  unfold put at h
  split at h
  · injection h with _ h; cases h
  · injection h with h _; exact h.symm
theorem res_two {r : Res} {s1 : St} (h : r = (s1, 0)) : r.2 = 0 ∧ r.1 = s1 := by subst h; exact ⟨rfl, rfl⟩
section
variable {l : List Tk} {o : Nat} {sort : Bool} {more : St → Res} {w : ByteArray} {op : Int} {m : Nat}
theorem loop_makes (hm : Makes l o sort (m + 1) more) (hop : opOf w = op) (hw : nameOf op = w) (hok : ∀ x y, Ok sort x → Ok sort y → Ok sort (.node op x y)) (hW : ∀ x y, W m (.node op x y) = max (W m x) (W (m + 1) y)) :
    ∀ (n : Nat) (s s1 : St) (y : List Int) (t : Tree) (k : Nat), s.deep = o → s.out = y ++ post t → Ok sort t → o + W m t ≤ 12 → k + wl (post t) ≤ sumTo l s.pos → loop l more w n s = (s1, 0) →
      s1.deep = o ∧ ∃ t', Ok sort t' ∧ s1.out = y ++ post t' ∧ o + W m t' ≤ 12 ∧ k + wl (post t') ≤ sumTo l s1.pos
  | 0, s, s1, y, t, k, h1, h2, h3, h4, h5, h => by
    injection h with h _
    subst h
    exact ⟨h1, t, h3, h2, h4, h5⟩
  | n + 1, s, s1, y, t, k, h1, h2, h3, h4, h5, h => by
    by_cases hn : isN l s.pos w = true
    · by_cases hr : (more (adv s)).2 = 0
      · by_cases hq : (put (opOf w) (more (adv s)).1).2 = 0
        · rw [loop, if_pos hn, if_pos hr, if_pos hq] at h
          obtain ⟨a1, u, a2, a3, a4, a5⟩ := hm (adv s) (more (adv s)).1 h1 (Rl.res_mk hr)
          have hp := put_inv (Rl.res_mk hq)
          have a5' : sumTo l (s.pos + 1) + wl (post u) ≤ sumTo l (more (adv s)).1.pos := a5
          rw [sum_isN hn] at a5'
          refine loop_makes hm hop hw hok hW n _ s1 y (.node op t u) k ?_ ?_ (hok _ _ h3 a2) (by rw [hW]; omega) ?_ h
          · rw [hp]; exact a1
          · rw [hp]
            show (more (adv s)).1.out ++ [opOf w] = _
            rw [a3, hop, show (adv s).out = s.out from rfl, h2]
            simp [post]
          · rw [hp]
            show k + wl (post t ++ post u ++ [op]) ≤ sumTo l (more (adv s)).1.pos
            rw [wl_append, wl_append, wl_one, hw]
            omega
        · rw [loop, if_pos hn, if_pos hr, if_neg hq] at h
          exact absurd (res_two h).1 hq
      · rw [loop, if_pos hn, if_neg hr] at h
        exact absurd (res_two h).1 hr
    · rw [loop, if_neg hn] at h
      injection h with h _
      subst h
      exact ⟨h1, t, h3, h2, h4, h5⟩
theorem rows_makes {part : St → Res} {ws : List ByteArray} (hm : Makes l o sort (m + 1) (rows l part ws)) (hop : opOf w = op) (hw : nameOf op = w) (hok : ∀ x y, Ok sort x → Ok sort y → Ok sort (.node op x y)) (hW : ∀ x y, W m (.node op x y) = max (W m x) (W (m + 1) y)) :
    Makes l o sort m (rows l part (w :: ws)) := by
  intro s s1 h1 h
  by_cases hr : (rows l part ws s).2 = 0
  · rw [rows, if_pos hr] at h
    obtain ⟨a1, t, a2, a3, a4, a5⟩ := hm s _ h1 (Rl.res_mk hr)
    exact loop_makes hm hop hw hok hW l.length _ s1 s.out t (sumTo l s.pos) a1 a3 a2 (by have := W_mono (show m ≤ m + 1 by omega) t; omega) a5 h
  · rw [rows, if_neg hr] at h
    exact absurd (res_two h).1 hr
end
theorem W_node (op : Int) (x y : Tree) (h5 : op ≠ 5) : W (binds op) (.node op x y) = max (W (binds op) x) (W (binds op + 1) y) := by
  unfold W
  rw [bt_node, decide_eq_false (by omega)]
  simp only [deep, lowL, lowR, ne_eq, h5, not_false_eq_true, true_and]
  rfl
theorem inside_makes {l : List Tk} {o : Nat} {sort : Bool} {p : St → Res} {fin beg : ByteArray} (hp : o < 12 → Makes l (o + 1) sort 1 p) {s s1 : St} (_ : isN l s.pos beg = true) (h1 : s.deep = o) (ho : o ≤ 12) (h : inside l p fin s = (s1, 0)) :
    s1.deep = o ∧ ∃ t, Ok sort t ∧ s1.out = s.out ++ post t ∧ o + W 3 t ≤ 12 ∧ sumTo l s.pos + wl (post t) ≤ sumTo l s1.pos := by
  by_cases hd : s.deep = 12
  · rw [inside, if_pos hd] at h
    injection h with _ h
    cases h
  · by_cases hr : (p (into s)).2 = 0
    · by_cases hf : isN l (p (into s)).1.pos fin = true
      · rw [inside, if_neg hd, if_pos hr, if_pos hf] at h
        injection h with h _
        subst h
        obtain ⟨a1, t, a2, a3, a4, a5⟩ := hp (by omega) (into s) _ (by show s.deep + 1 = _; omega) (Rl.res_mk hr)
        have hw1 : deep t ≤ W 1 t := by unfold W; omega
        have hw3 := W_le 3 t
        have a5' : sumTo l (s.pos + 1) + wl (post t) ≤ sumTo l (p (into s)).1.pos := a5
        have u1 := sumTo_up (l := l) s.pos
        have u2 := sumTo_up (l := l) (p (into s)).1.pos
        exact ⟨by show (p (into s)).1.deep - 1 = o; omega, t, a2, a3, by omega, by show _ ≤ sumTo l ((p (into s)).1.pos + 1); omega⟩
      · rw [inside, if_neg hd, if_pos hr, if_neg hf] at h
        injection h with _ h
        cases h
    · rw [inside, if_neg hd, if_neg hr] at h
      exact absurd (res_two h).1 hr
theorem look_mem (s : ByteArray) : ∀ l : List (ByteArray × Int), Rl.look s l ≠ 0 → (s, Rl.look s l) ∈ l
  | [], h => absurd rfl h
  | (k, n) :: r, h => by
    unfold Rl.look at h ⊢
    by_cases hk : k = s
    · rw [if_pos hk]
      subst hk
      exact .head _
    · rw [if_neg hk] at h ⊢
      exact .tail _ (look_mem s r h)
theorem table_name : ∀ p ∈ Rl.table, nameOf p.2 = p.1 := by decide
theorem name_opOf {s : ByteArray} (h : opOf s ≠ 0) : nameOf (opOf s) = s := table_name _ (look_mem s Rl.table h)
theorem atom_makes {l : List Tk} {o : Nat} (ho : o ≤ 12) {lab : St → Res} (hp : o < 12 → Makes l (o + 1) true 1 lab) : Makes l o true 3 (Rl.atom l lab) := by
  intro s s1 h1 h
  by_cases hn : isN l s.pos Rl.wOpenL = true
  · rw [Rl.atom, if_pos hn] at h
    exact inside_makes hp hn h1 ho h
  · by_cases hw : Rl.word l s.pos = 0
    · rw [Rl.atom, if_neg hn, if_pos hw] at h
      injection h with _ h
      cases h
    · rw [Rl.atom, if_neg hn, if_neg hw] at h
      have hs := put_inv h
      subst hs
      obtain ⟨t, ht, _, t3, t4, t5⟩ := Rl.word_some hw
      refine ⟨h1, .leaf (Rl.word l s.pos), by unfold Ok; exact .inl ⟨rfl, by omega, by omega⟩, rfl, ?_, ?_⟩
      · have hb : bt (.leaf (Rl.word l s.pos)) = 3 := by
          show (if Rl.word l s.pos = 4 ∨ Rl.word l s.pos = 12 then 1 else if Rl.word l s.pos = 3 ∨ Rl.word l s.pos = 13 then 2 else 3) = 3
          rw [if_neg (by omega), if_neg (by omega)]
        unfold W
        rw [hb]
        exact ho
      · show sumTo l s.pos + wl [Rl.word l s.pos] ≤ sumTo l (s.pos + 1)
        rw [wl_one, sumTo_next ht, t3, name_opOf (by omega)]
        exact Nat.le_refl _
theorem ok_join (x y : Tree) (hx : Ok true x) (hy : Ok true y) : Ok true (.node 12 x y) := by unfold Ok; exact .inr (.inr ⟨rfl, .inl rfl, hx, hy⟩)
theorem ok_meet (x y : Tree) (hx : Ok true x) (hy : Ok true y) : Ok true (.node 13 x y) := by unfold Ok; exact .inr (.inr ⟨rfl, .inr rfl, hx, hy⟩)
theorem ok_or (x y : Tree) (hx : Ok false x) (hy : Ok false y) : Ok false (.node 4 x y) := by unfold Ok; exact .inl ⟨rfl, .inr rfl, hx, hy⟩
theorem ok_and (x y : Tree) (hx : Ok false x) (hy : Ok false y) : Ok false (.node 3 x y) := by unfold Ok; exact .inl ⟨rfl, .inl rfl, hx, hy⟩
theorem label_makes {l : List Tk} : ∀ (d o : Nat), o + d = 12 → Makes l o true 1 (Rl.label l (d + 1))
  | 0, o, h => rows_makes (op := 12) (rows_makes (op := 13) (part := Rl.atom l (Rl.label l 0)) (ws := []) (atom_makes (by omega) fun h2 => absurd h2 (by omega)) Rl.op_meet rfl ok_meet (fun x y => W_node 13 x y (by decide))) Rl.op_join rfl ok_join (fun x y => W_node 12 x y (by decide))
  | d + 1, o, h => rows_makes (op := 12) (rows_makes (op := 13) (part := Rl.atom l (Rl.label l (d + 1))) (ws := []) (atom_makes (by omega) fun _ => label_makes d (o + 1) (by omega)) Rl.op_meet rfl ok_meet (fun x y => W_node 13 x y (by decide))) Rl.op_join rfl ok_join (fun x y => W_node 12 x y (by decide))
theorem flow_makes {l : List Tk} {o : Nat} {lab : St → Res} (hp : Makes l o true 1 lab) : Makes l o false 3 (Rl.flow l lab) := by
  intro s s1 h1 h
  by_cases hr : (lab s).2 = 0
  · by_cases hn : isN l (lab s).1.pos Rl.wFlows = true
    · by_cases hq : (lab (adv (lab s).1)).2 = 0
      · rw [Rl.flow, if_pos hr, if_pos hn, if_pos hq] at h
        obtain ⟨a1, t, a2, a3, a4, a5⟩ := hp s _ h1 (Rl.res_mk hr)
        obtain ⟨b1, u, b2, b3, b4, b5⟩ := hp (adv (lab s).1) _ a1 (Rl.res_mk hq)
        have hs := put_inv h
        subst hs
        have hw1 : deep t ≤ W 1 t := by unfold W; omega
        have hw2 : deep u ≤ W 1 u := by unfold W; omega
        have ed : W 3 (.node 5 t u) = max (deep t) (deep u) := rfl
        have b5' : sumTo l ((lab s).1.pos + 1) + wl (post u) ≤ sumTo l (lab (adv (lab s).1)).1.pos := b5
        rw [sum_isN hn] at b5'
        refine ⟨b1, .node 5 t u, by unfold Ok; exact .inr (.inl ⟨rfl, rfl, a2, b2⟩), ?_, by rw [ed]; omega, ?_⟩
        · show (lab (adv (lab s).1)).1.out ++ [5] = _
          rw [b3, show (adv (lab s).1).out = (lab s).1.out from rfl, a3]
          simp [post]
        · show sumTo l s.pos + wl (post t ++ post u ++ [5]) ≤ sumTo l (lab (adv (lab s).1)).1.pos
          rw [wl_append, wl_append, wl_one]
          have : (nameOf 5).size = Rl.wFlows.size := rfl
          omega
      · rw [Rl.flow, if_pos hr, if_pos hn, if_neg hq] at h
        exact absurd (res_two h).1 hq
    · rw [Rl.flow, if_pos hr, if_neg hn] at h
      injection h with _ h
      cases h
  · rw [Rl.flow, if_neg hr] at h
    exact absurd (res_two h).1 hr
theorem prim_makes {l : List Tk} {o : Nat} (ho : o ≤ 12) {cnd lab : St → Res} (hc : o < 12 → Makes l (o + 1) false 1 cnd) (hp : Makes l o true 1 lab) : Makes l o false 3 (Rl.prim l cnd lab) := by
  intro s s1 h1 h
  by_cases t1 : isN l s.pos Rl.wTrue = true
  · rw [Rl.prim, if_pos t1] at h
    have hs := put_inv h
    subst hs
    refine ⟨h1, .leaf 1, by unfold Ok; exact .inr ⟨rfl, .inl rfl⟩, rfl, ho, ?_⟩
    show sumTo l s.pos + wl [1] ≤ sumTo l (s.pos + 1)
    rw [sum_isN t1, wl_one]
    exact Nat.le_refl _
  · by_cases t2 : isN l s.pos Rl.wFalse = true
    · rw [Rl.prim, if_neg t1, if_pos t2] at h
      have hs := put_inv h
      subst hs
      refine ⟨h1, .leaf 2, by unfold Ok; exact .inr ⟨rfl, .inr rfl⟩, rfl, ho, ?_⟩
      show sumTo l s.pos + wl [2] ≤ sumTo l (s.pos + 1)
      rw [sum_isN t2, wl_one]
      exact Nat.le_refl _
    · by_cases t3 : isN l s.pos Rl.wOpen = true
      · rw [Rl.prim, if_neg t1, if_neg t2, if_pos t3] at h
        exact inside_makes hc t3 h1 ho h
      · rw [Rl.prim, if_neg t1, if_neg t2, if_neg t3] at h
        exact flow_makes hp s s1 h1 h
theorem cond_makes {l : List Tk} : ∀ (d o : Nat), o + d = 12 → Makes l o false 1 (Rl.cond l (d + 1))
  | 0, o, h => rows_makes (op := 4) (rows_makes (op := 3) (part := Rl.prim l (Rl.cond l 0) (Rl.label l 1)) (ws := []) (prim_makes (by omega) (fun h2 => absurd h2 (by omega)) (label_makes 0 o h)) Rl.op_and rfl ok_and (fun x y => W_node 3 x y (by decide))) Rl.op_or rfl ok_or (fun x y => W_node 4 x y (by decide))
  | d + 1, o, h => rows_makes (op := 4) (rows_makes (op := 3) (part := Rl.prim l (Rl.cond l (d + 1)) (Rl.label l (d + 1 + 1))) (ws := []) (prim_makes (by omega) (fun _ => cond_makes d (o + 1) (by omega)) (label_makes (d + 1) o h)) Rl.op_and rfl ok_and (fun x y => W_node 3 x y (by decide))) Rl.op_or rfl ok_or (fun x y => W_node 4 x y (by decide))
/-- What tokens tell is a tree that is not too deep, of words that stand there. -/
theorem read_tree {l : List Tk} {lab : Bool} {i : Nat} (h : (Rl.read l lab i).2 = 0) : ∃ t, Ok lab t ∧ (Rl.read l lab i).1.out = post t ∧ deep t ≤ 12 ∧ wl (post t) ≤ sumTo l (Rl.read l lab i).1.pos := by
  have key : ∀ {p : St → Res}, Makes l 0 lab 1 p → (p ⟨i, 0, []⟩).2 = 0 → ∃ t, Ok lab t ∧ (p ⟨i, 0, []⟩).1.out = post t ∧ deep t ≤ 12 ∧ wl (post t) ≤ sumTo l (p ⟨i, 0, []⟩).1.pos := fun hm hh => by
    obtain ⟨_, t, a2, a3, a4, a5⟩ := hm ⟨i, 0, []⟩ _ rfl (Rl.res_mk hh)
    have hw1 : deep t ≤ W 1 t := by unfold W; omega
    exact ⟨t, a2, by simpa using a3, by omega, by omega⟩
  cases lab
  · exact key (cond_makes 12 0 rfl) h
  · exact key (label_makes 12 0 rfl) h
/-- A text is little longer than its words. -/
theorem txt_words : ∀ (t : Tree), (txt t).length + 3 ≤ wl (post t) + 3 * (post t).length
  | .leaf op => by
    show (nameOf op).data.toList.length + 3 ≤ wl [op] + 3 * 1
    rw [wl_one, ← Lib.size_eq]
    omega
  | .node op x y => by
    have h1 := txt_words x
    have h2 := txt_words y
    have h3 := wrapT_len (lowL op x) (square op) (txt x)
    have h4 := wrapT_len (lowR op y) (square op) (txt y)
    have h5 : (nameOf op).data.toList.length = (nameOf op).size := (Lib.size_eq _).symm
    simp only [txt, post, List.length_append, List.length_cons, List.length_nil, wl_append, wl_one]
    omega
theorem lens_le_join : ∀ (l : List (List UInt8)), Lib.lens l ≤ (Lib.join l [32]).length := by
  intro l
  cases l with
  | nil => simp [Lib.join_nil, Lib.lens]
  | cons x r =>
    rw [Lib.join_cons, List.length_append, Lib.joinTail_length]
    simp only [Lib.lens, List.map_cons, List.sum_cons]
    omega
theorem lens_texts : ∀ (l : List Tk), Lib.lens ((Lx.texts l).map (·.data.toList)) = (l.map fun t => t.text.size).sum
  | [] => rfl
  | t :: l => by
    have ih := lens_texts l
    unfold Lx.texts at ih ⊢
    rw [List.map_cons, List.filter_cons]
    have hsz : t.text.size = t.text.data.toList.length := Lib.size_eq _
    by_cases h : (!t.text.data.toList.isEmpty) = true
    · rw [if_pos h, List.map_cons, List.map_cons, List.sum_cons, hsz, ← ih]
      simp [Lib.lens]
    · rw [if_neg h, List.map_cons, List.sum_cons, ih]
      have h0 : t.text.data.toList = [] := by
        cases e : t.text.data.toList with
        | nil => rfl
        | cons c r => rw [e] at h; exact absurd rfl h
      rw [hsz, h0]
      simp
theorem sumTo_le_joined {l : List Tk} (k : Nat) : sumTo l k ≤ (Lx.joined l).size := by
  have h1 : sumTo l k ≤ (l.map fun t => t.text.size).sum := by
    unfold sumTo
    have h2 := List.take_append_drop k l
    have h3 : (l.map fun t => t.text.size).sum = ((l.take k).map fun t => t.text.size).sum + ((l.drop k).map fun t => t.text.size).sum := by rw [← List.sum_append, ← List.map_append, h2]
    omega
  have h4 := lens_le_join ((Lx.texts l).map (·.data.toList))
  rw [lens_texts] at h4
  have h5 : (Lx.joined l).size = (Lib.join ((Lx.texts l).map (·.data.toList)) [32]).length := by unfold Lx.joined; rw [Lx.pack_size]
  omega
/-- What is read, written, is little longer than its tokens, joined. -/
theorem read_short {l : List Tk} {lab : Bool} {i : Nat} {t : Tree} (ht : wl (post t) ≤ sumTo l (Rl.read l lab i).1.pos) : (txt t).length ≤ (Lx.joined l).size + 4 * (post t).length := by
  have h1 := txt_words t
  have h2 := sumTo_le_joined (l := l) (Rl.read l lab i).1.pos
  omega
end Sh
end Go.Proofs.Ytggcmkpafpjnoaa

/- What rules come to, over plain data. Over no program. -/
namespace Go.Proofs.Ytggcmkpafpjnoaa
set_option maxRecDepth 100000
namespace Jg
open Sh (Tree Ok post)

/-- A thing: whether a condition is so, or a label's place. -/
inductive Th
  | c (b : Bool)
  | l (n : Nat)
def sort : Th → Bool
  | .c _ => false
  | .l _ => true
def Is : Th → Bool
  | .c b => b
  | .l _ => false
def A : Th → Nat
  | .c _ => 0
  | .l n => n
/-- What a lattice tells of its labels, and a rule's four. -/
structure Ops where
  fl : Nat → Nat → Bool
  jn : Nat → Nat → Nat
  mt : Nat → Nat → Nat
  bot : Nat
  top : Nat
  lab : Nat → Nat
variable (o : Ops)
def one (n : Int) : Th :=
  if n = 1 then .c true else if n = 2 then .c false else if n = 6 then .l o.bot else if n = 7 then .l o.top else .l (o.lab (n - 8).toNat)
def two (n : Int) (x y : Th) : Th :=
  match x with
  | .c b => if n = 3 then .c (b && Is y) else .c (b || Is y)
  | .l a => if n = 5 then .c (o.fl a (A y)) else if n = 12 then .l (o.jn a (A y)) else .l (o.mt a (A y))
def ev : Tree → Th
  | .leaf n => one o n
  | .node n x y => two o n (ev x) (ev y)
def isTwo (n : Int) : Bool := decide (n = 3 ∨ n = 4 ∨ n = 5 ∨ n = 12 ∨ n = 13)
def step (q : List Th) (n : Int) : List Th :=
  if isTwo n = true then
    match q[q.length - 2]?, q[q.length - 1]? with
    | some x, some y => q.take (q.length - 2) ++ [two o n x y]
    | _, _ => q
  else q ++ [one o n]
def mach : List Th → List Int → List Th
  | q, [] => q
  | q, n :: r => mach (step o q n) r
theorem mach_append : ∀ (a b : List Int) (q : List Th), mach o q (a ++ b) = mach o (mach o q a) b
  | [], _, _ => rfl
  | n :: a, b, q => by simp only [List.cons_append, mach]; exact mach_append a b _
theorem step_snoc {n : Int} (h : isTwo n = true) (q : List Th) (x y : Th) : step o (q ++ [x] ++ [y]) n = q ++ [two o n x y] := by
  unfold step
  rw [if_pos h]
  have e1 : (q ++ [x] ++ [y])[(q ++ [x] ++ [y]).length - 2]? = some x := by simp
  have e2 : (q ++ [x] ++ [y])[(q ++ [x] ++ [y]).length - 1]? = some y := by simp
  rw [e1, e2]
  simp
theorem step_one {n : Int} (h : isTwo n = false) (q : List Th) : step o q n = q ++ [one o n] := by
  unfold step
  rw [if_neg (by rw [h]; decide)]
theorem isTwo_leaf {b : Bool} {n : Int} (h : Ok b (.leaf n)) : isTwo n = false := by
  unfold Ok at h
  exact decide_eq_false fun h1 => by omega
theorem isTwo_node {b : Bool} {n : Int} {x y : Tree} (h : Ok b (.node n x y)) : isTwo n = true := by
  have := Sh.ok_op h
  exact decide_eq_true this
theorem mach_post : ∀ (t : Tree) (b : Bool) (q : List Th), Ok b t → mach o q (post t) = q ++ [ev o t]
  | .leaf n, b, q, h => by
    show mach o (step o q n) [] = _
    rw [step_one o (isTwo_leaf h)]
    rfl
  | .node n x y, b, q, h => by
    obtain ⟨b', hx, hy⟩ := Sh.ok_sub h
    show mach o q (post x ++ post y ++ [n]) = _
    rw [mach_append, mach_append, mach_post x b' q hx, mach_post y b' _ hy]
    show mach o (step o _ n) [] = _
    rw [step_snoc o (isTwo_node h)]
    rfl

/-- A thing is of a sort, and its label is one of the lattice. -/
def Good (m : Nat) : Th → Prop
  | .c _ => True
  | .l a => a < m
structure Ops.Fine (m : Nat) : Prop where
  jn : ∀ a b, a < m → b < m → o.jn a b < m
  mt : ∀ a b, a < m → b < m → o.mt a b < m
  bot : o.bot < m
  top : o.top < m
  lab : ∀ k, k < 4 → o.lab k < m
variable {o}
theorem one_good {m : Nat} (h : o.Fine m) {n : Int} (h1 : 6 ≤ n → n ≤ 11) (h2 : 1 ≤ n) : Good m (one o n) := by
  unfold one
  split
  · trivial
  · split
    · trivial
    · split
      · exact h.bot
      · split
        · exact h.top
        · by_cases h6 : 6 ≤ n
          · exact h.lab _ (by have := h1 h6; omega)
          · exact h.lab _ (by omega)
theorem two_good {m : Nat} (h : o.Fine m) (n : Int) {x y : Th} (hx : Good m x) (hy : Good m y) (hs : sort x = sort y) : Good m (two o n x y) := by
  cases x with
  | c b => unfold two; dsimp only; split <;> trivial
  | l a =>
    cases y with
    | c b => cases hs
    | l b =>
      unfold two
      dsimp only
      split
      · trivial
      · split
        · exact h.jn _ _ hx hy
        · exact h.mt _ _ hx hy
theorem one_sort {n : Int} {b : Bool} (h : Ok b (.leaf n)) : sort (one o n) = b := by
  unfold Ok at h
  unfold one
  rcases h with ⟨rfl, h1, h2⟩ | ⟨rfl, rfl | rfl⟩
  · rw [if_neg (by omega), if_neg (by omega)]
    split
    · rfl
    · split <;> rfl
  · rfl
  · rfl
theorem two_sort {n : Int} {b : Bool} {x y : Tree} (h : Ok b (.node n x y)) {u v : Th} {b' : Bool} (hx : Ok b' x) (hu : sort u = b') : sort (two o n u v) = b := by
  unfold Ok at h
  have key : ∀ (t : Tree) (a c : Bool), Ok a t → Ok c t → a = c := by
    intro t a c h1 h2
    cases t with
    | leaf n => unfold Ok at h1 h2; rcases h1 with ⟨rfl, _⟩ | ⟨rfl, _⟩ <;> rcases h2 with ⟨rfl, _⟩ | ⟨rfl, _⟩ <;> first | rfl | omega
    | node n x y => unfold Ok at h1 h2; rcases h1 with ⟨rfl, _⟩ | ⟨rfl, _⟩ | ⟨rfl, _⟩ <;> rcases h2 with ⟨rfl, _⟩ | ⟨rfl, _⟩ | ⟨rfl, _⟩ <;> first | rfl | omega
  rcases h with ⟨rfl, h1, h2, _⟩ | ⟨rfl, rfl, h2, _⟩ | ⟨rfl, h1, h2, _⟩
  · have := key x _ _ hx h2
    rw [this] at hu
    cases u with
    | c u => unfold two; dsimp only; split <;> rfl
    | l u => cases hu
  · have := key x _ _ hx h2
    rw [this] at hu
    cases u with
    | c u => cases hu
    | l u => rfl
  · have := key x _ _ hx h2
    rw [this] at hu
    cases u with
    | c u => cases hu
    | l u =>
      unfold two
      dsimp only
      rw [if_neg (by omega)]
      split <;> rfl
theorem ev_sort : ∀ (t : Tree) (b : Bool), Ok b t → sort (ev o t) = b
  | .leaf n, b, h => one_sort h
  | .node n x y, b, h => by
    obtain ⟨b', hx, hy⟩ := Sh.ok_sub h
    exact two_sort h hx (ev_sort x b' hx)
theorem ev_good {m : Nat} (hf : o.Fine m) : ∀ (t : Tree) (b : Bool), Ok b t → Good m (ev o t)
  | .leaf n, b, h => one_good hf (by unfold Ok at h; omega) (by unfold Ok at h; omega)
  | .node n x y, b, h => by
    obtain ⟨b', hx, hy⟩ := Sh.ok_sub h
    exact two_good hf n (ev_good hf x b' hx) (ev_good hf y b' hy) (by rw [ev_sort x b' hx, ev_sort y b' hy])

/-- A pile as its sorts. -/
def sorts (q : List Th) : List Bool := q.map sort
theorem sorts_len (q : List Th) : (sorts q).length = q.length := by simp [sorts]
theorem two_split {α : Type} {l : List α} {x y : α} (h1 : 2 ≤ l.length) (hx : l[l.length - 2]? = some x) (hy : l[l.length - 1]? = some y) : l = l.take (l.length - 2) ++ [x] ++ [y] := by
  obtain ⟨n, hn⟩ : ∃ n, l.length = n + 2 := ⟨l.length - 2, by omega⟩
  rw [hn] at hx hy ⊢
  rw [show n + 2 - 2 = n by omega] at hx ⊢
  rw [show n + 2 - 1 = n + 1 by omega] at hy
  refine List.ext_getElem? fun j => ?_
  by_cases h : j < n
  · rw [List.append_assoc, List.getElem?_append_left (by rw [List.length_take]; omega), List.getElem?_take, if_pos h]
  · by_cases h2 : j = n
    · subst h2
      rw [hx, List.append_assoc, List.getElem?_append_right (by rw [List.length_take]; omega), List.length_take, hn]
      simp
    · by_cases h3 : j = n + 1
      · subst h3
        rw [hy, List.append_assoc, List.getElem?_append_right (by rw [List.length_take]; omega), List.length_take, hn, show n + 1 - min n (n + 2) = 1 by omega]
        rfl
      · rw [List.getElem?_eq_none (by omega), List.getElem?_eq_none (by simp [hn]; omega)]
/-- What is made of two things, told by their sorts. -/
theorem step_two {q : List Th} {n : Int} {a b : Bool} {p' : List Bool} (hn : isTwo n = true) (h : Rl.two (sorts q) a b = some p') : ∃ q0 x y, q = q0 ++ [x] ++ [y] ∧ sort x = a ∧ sort y = a ∧ p' = sorts q0 ++ [b] ∧ step o q n = q0 ++ [two o n x y] := by
  unfold Rl.two at h
  split at h
  · rename_i hc
    injection h with h
    obtain ⟨h1, h2, h3⟩ := hc
    rw [sorts_len] at h1 h2 h3 h
    obtain ⟨x, hx⟩ : ∃ x, q[q.length - 2]? = some x := ⟨_, List.getElem?_eq_getElem (by omega)⟩
    obtain ⟨y, hy⟩ : ∃ y, q[q.length - 1]? = some y := ⟨_, List.getElem?_eq_getElem (by omega)⟩
    have hx2 : sort x = a := by have := h2; unfold sorts at this; rw [List.getElem?_map, hx] at this; simpa using this
    have hy2 : sort y = a := by have := h3; unfold sorts at this; rw [List.getElem?_map, hy] at this; simpa using this
    have hq := two_split h1 hx hy
    refine ⟨q.take (q.length - 2), x, y, hq, hx2, hy2, ?_, ?_⟩
    · rw [← h]; unfold sorts; rw [List.map_take]
    · conv => lhs; rw [hq]
      exact step_snoc o hn _ x y
  · cases h
/-- One number, told by sorts. -/
inductive Kind (q : List Th) (n : Int) : List Bool → Prop
  | one (b : Bool) (h : Ok b (.leaf n)) : Kind q n (sorts q ++ [b])
  | two (q0 : List Th) (x y : Th) (a b : Bool) (hq : q = q0 ++ [x] ++ [y]) (hx : sort x = a) (hy : sort y = a) (hn : ((n = 3 ∨ n = 4) ∧ a = false ∧ b = false) ∨ (n = 5 ∧ a = true ∧ b = false) ∨ ((n = 12 ∨ n = 13) ∧ a = true ∧ b = true)) : Kind q n (sorts q0 ++ [b])
theorem kind_of (q : List Th) {n : Int} {p' : List Bool} (h : Rl.step (sorts q) n = some p') : Kind q n p' := by
  have h2 : ∀ a b, isTwo n = true → ((n = 3 ∨ n = 4) ∧ a = false ∧ b = false) ∨ (n = 5 ∧ a = true ∧ b = false) ∨ ((n = 12 ∨ n = 13) ∧ a = true ∧ b = true) → Rl.two (sorts q) a b = some p' → Kind q n p' := fun a b hn hk h => by
    obtain ⟨q0, x, y, e1, e2, e3, e4, -⟩ := step_two (o := ⟨fun _ _ => false, fun _ _ => 0, fun _ _ => 0, 0, 0, fun _ => 0⟩) hn h
    rw [e4]
    exact .two q0 x y a b e1 e2 e3 hk
  unfold Rl.step at h
  split at h
  · rename_i h1; injection h with h; subst h; exact .one false (by unfold Ok; exact .inr ⟨rfl, h1⟩)
  · split at h
    · rename_i h1; injection h with h; subst h; exact .one true (by unfold Ok; exact .inl ⟨rfl, h1⟩)
    · split at h
      · rename_i h1; exact h2 _ _ (decide_eq_true (by omega)) (.inl ⟨h1, rfl, rfl⟩) h
      · split at h
        · rename_i h1; exact h2 _ _ (decide_eq_true (by omega)) (.inr (.inl ⟨h1, rfl, rfl⟩)) h
        · split at h
          · rename_i h1; exact h2 _ _ (decide_eq_true (by omega)) (.inr (.inr ⟨h1, rfl, rfl⟩)) h
          · cases h
theorem step_sorts {q : List Th} {n : Int} {p' : List Bool} (h : Kind q n p') : sorts (step o q n) = p' := by
  cases h with
  | one b h => rw [step_one o (isTwo_leaf h)]; unfold sorts; rw [List.map_append]; simp [one_sort (o := o) h]
  | two q0 x y a b hq hx hy hn =>
    subst hq
    rw [step_snoc o (decide_eq_true (by omega))]
    unfold sorts
    rw [List.map_append, List.map_singleton]
    congr 2
    rcases hn with ⟨h1, rfl, rfl⟩ | ⟨rfl, rfl, rfl⟩ | ⟨h1, rfl, rfl⟩
    · cases x with
      | c u => unfold two; dsimp only; split <;> rfl
      | l u => cases hx
    · cases x with
      | c u => cases hx
      | l u => rfl
    · cases x with
      | c u => cases hx
      | l u =>
        unfold two
        dsimp only
        rw [if_neg (by omega)]
        split <;> rfl
theorem step_good {m : Nat} (hf : o.Fine m) {q : List Th} {n : Int} {p' : List Bool} (h : Kind q n p') (hg : ∀ x ∈ q, Good m x) : ∀ x ∈ step o q n, Good m x := by
  cases h with
  | one b h =>
    rw [step_one o (isTwo_leaf h)]
    intro x hx
    rcases List.mem_append.1 hx with hx | hx
    · exact hg x hx
    · rw [List.mem_singleton.1 hx]
      exact ev_good hf (.leaf n) b h
  | two q0 x y a b hq hx hy hn =>
    subst hq
    rw [step_snoc o (decide_eq_true (by omega))]
    intro z hz
    rcases List.mem_append.1 hz with hz | hz
    · exact hg z (by simp [hz])
    · rw [List.mem_singleton.1 hz]
      exact two_good hf n (hg x (by simp)) (hg y (by simp)) (by rw [hx, hy])
theorem step_length {q : List Th} {n : Int} {p' : List Bool} (h : Kind q n p') : (step o q n).length ≤ q.length + 1 := by
  cases h with
  | one b h => rw [step_one o (isTwo_leaf h)]; simp
  | two q0 x y a b hq hx hy hn =>
    subst hq
    rw [step_snoc o (decide_eq_true (by omega))]
    simp

/-- A rule that is made right comes to what its tree comes to. -/
theorem mach_right {rule : List Int} {b : Bool} (h : Rl.right rule b = true) : ∃ t, Ok b t ∧ post t = rule ∧ mach o [] rule = [ev o t] := by
  obtain ⟨t, ht, hp, -⟩ := Sh.right_tree h
  exact ⟨t, ht, hp, by rw [← hp, mach_post o t b [] ht]; rfl⟩
/-- What a rule that is made right comes to. -/
def val (o : Ops) (rule : List Int) : Th := (mach o [] rule).headD (.c false)
theorem val_tree {t : Tree} {b : Bool} (h : Ok b t) : val o (post t) = ev o t := by
  unfold val
  rw [mach_post o t b [] h]
  rfl
theorem right_post {t : Tree} {b : Bool} (h : Ok b t) (hl : (post t).length ≤ 40) : Rl.right (post t) b = true := (Rl.right_of (Sh.tree_seg t b h) hl).1
/-- Two rules with something behind them. -/
theorem right_two {r s : List Int} {n : Int} {a b : Bool} (hr : Rl.right r a = true) (hs : Rl.right s a = true) (hl : (r ++ s ++ [n]).length ≤ 40) (hn : ((n = 3 ∨ n = 4) ∧ a = false ∧ b = false) ∨ (n = 5 ∧ a = true ∧ b = false) ∨ ((n = 12 ∨ n = 13) ∧ a = true ∧ b = true)) :
    Rl.right (r ++ s ++ [n]) b = true ∧ val o (r ++ s ++ [n]) = two o n (val o r) (val o s) := by
  obtain ⟨x, hx, rfl, -⟩ := Sh.right_tree hr
  obtain ⟨y, hy, rfl, -⟩ := Sh.right_tree hs
  have hok : Ok b (.node n x y) := by
    unfold Ok
    rcases hn with ⟨h1, rfl, rfl⟩ | ⟨rfl, rfl, rfl⟩ | ⟨h1, rfl, rfl⟩
    · exact .inl ⟨rfl, h1, hx, hy⟩
    · exact .inr (.inl ⟨rfl, rfl, hx, hy⟩)
    · exact .inr (.inr ⟨rfl, h1, hx, hy⟩)
  refine ⟨right_post (t := .node n x y) hok hl, ?_⟩
  rw [val_tree hx, val_tree hy]
  exact val_tree (t := .node n x y) hok

/-- A label that a rule doesn't name. -/
theorem ev_unnamed {o o' : Ops} {k : Nat} (h1 : o'.fl = o.fl) (h2 : o'.jn = o.jn) (h3 : o'.mt = o.mt) (h4 : o'.bot = o.bot) (h5 : o'.top = o.top) (h6 : ∀ j, j ≠ k → o'.lab j = o.lab j) : ∀ (t : Tree) (b : Bool), Ok b t → (8 + (k : Int)) ∉ post t → ev o' t = ev o t
  | .leaf n, b, h, hk => by
    unfold Ok at h
    have hn : n ≠ 8 + (k : Int) := fun e => hk (by rw [← e]; exact List.mem_singleton_self _)
    show one o' n = one o n
    unfold one
    rw [h4, h5]
    split
    · rfl
    · split
      · rfl
      · split
        · rfl
        · split
          · rfl
          · rw [h6 _ (by omega)]
  | .node n x y, b, h, hk => by
    obtain ⟨b', hx, hy⟩ := Sh.ok_sub h
    show two o' n (ev o' x) (ev o' y) = two o n (ev o x) (ev o y)
    rw [ev_unnamed h1 h2 h3 h4 h5 h6 x b' hx (fun e => hk (by unfold post; simp [e])), ev_unnamed h1 h2 h3 h4 h5 h6 y b' hy (fun e => hk (by unfold post; simp [e]))]
    unfold two
    rw [h1, h2, h3]
def labOf (o : Ops) (n : Int) : Nat := if n = 6 then o.bot else if n = 7 then o.top else o.lab (n - 8).toNat
theorem one_lab (o : Ops) {n : Int} (h : 6 ≤ n) : one o n = .l (labOf o n) := by
  unfold one labOf
  rw [if_neg (show ¬ n = 1 by omega), if_neg (show ¬ n = 2 by omega)]
  split
  · rfl
  · split <;> rfl
theorem two_lab (o : Ops) {n : Int} (h : n = 12 ∨ n = 13) (a b : Nat) : two o n (.l a) (.l b) = .l (if n = 12 then o.jn a b else o.mt a b) := by
  unfold two
  dsimp only
  rw [if_neg (show ¬ n = 5 by omega)]
  split <;> rfl
/-- Higher labels. -/
structure Ops.Up (o : Ops) (m : Nat) : Prop where
  refl : ∀ a, a < m → o.fl a a = true
  trans : ∀ a b c, a < m → b < m → c < m → o.fl a b = true → o.fl b c = true → o.fl a c = true
  jl : ∀ a b, a < m → b < m → o.fl a (o.jn a b) = true
  jr : ∀ a b, a < m → b < m → o.fl b (o.jn a b) = true
  jm : ∀ a b c, a < m → b < m → c < m → o.fl a c = true → o.fl b c = true → o.fl (o.jn a b) c = true
  ml : ∀ a b, a < m → b < m → o.fl (o.mt a b) a = true
  mr : ∀ a b, a < m → b < m → o.fl (o.mt a b) b = true
  mm : ∀ a b c, a < m → b < m → c < m → o.fl c a = true → o.fl c b = true → o.fl c (o.mt a b) = true
theorem ev_rises {o o' : Ops} {m : Nat} (hf : o.Fine m) (hf' : o'.Fine m) (hu : o.Up m) (h2 : o'.jn = o.jn) (h3 : o'.mt = o.mt) (h4 : o'.bot = o.bot) (h5 : o'.top = o.top) (h6 : ∀ j, j < 4 → o.fl (o.lab j) (o'.lab j) = true) : ∀ (t : Tree), Ok true t → o.fl (A (ev o t)) (A (ev o' t)) = true
  | .leaf n, h => by
    unfold Ok at h
    obtain ⟨h7, h8⟩ : 6 ≤ n ∧ n ≤ 11 := by rcases h with ⟨_, h⟩ | ⟨h, _⟩; exact h; cases h
    show o.fl (A (one o n)) (A (one o' n)) = true
    rw [one_lab o h7, one_lab o' h7]
    show o.fl (labOf o n) (labOf o' n) = true
    unfold labOf
    rw [h4, h5]
    split
    · exact hu.refl _ hf.bot
    · split
      · exact hu.refl _ hf.top
      · exact h6 _ (by omega)
  | .node n x y, h => by
    obtain ⟨hn, hx, hy⟩ : (n = 12 ∨ n = 13) ∧ Ok true x ∧ Ok true y := by
      unfold Ok at h
      rcases h with ⟨h, _⟩ | ⟨h, _⟩ | ⟨_, h⟩
      · cases h
      · cases h
      · exact h
    have ix := ev_rises hf hf' hu h2 h3 h4 h5 h6 x hx
    have iy := ev_rises hf hf' hu h2 h3 h4 h5 h6 y hy
    have gx := ev_good hf x _ hx
    have gy := ev_good hf y _ hy
    have gx' := ev_good hf' x _ hx
    have gy' := ev_good hf' y _ hy
    have sx := ev_sort (o := o) x _ hx
    have sx' := ev_sort (o := o') x _ hx
    have sy := ev_sort (o := o) y _ hy
    have sy' := ev_sort (o := o') y _ hy
    show o.fl (A (two o n (ev o x) (ev o y))) (A (two o' n (ev o' x) (ev o' y))) = true
    generalize ev o x = a at *
    generalize ev o y = b at *
    generalize ev o' x = a' at *
    generalize ev o' y = b' at *
    cases a with
    | c _ => cases sx
    | l a =>
    cases b with
    | c _ => cases sy
    | l b =>
    cases a' with
    | c _ => cases sx'
    | l a' =>
    cases b' with
    | c _ => cases sy'
    | l b' =>
    have ga : a < m := gx
    have gb : b < m := gy
    have ga' : a' < m := gx'
    have gb' : b' < m := gy'
    have ia : o.fl a a' = true := ix
    have ib : o.fl b b' = true := iy
    rw [two_lab o hn, two_lab o' hn, h2, h3]
    show o.fl (if n = 12 then o.jn a b else o.mt a b) (if n = 12 then o.jn a' b' else o.mt a' b') = true
    rcases hn with rfl | rfl
    · rw [if_pos rfl, if_pos rfl]
      have hj := hf.jn a b ga gb
      have hj' : o.jn a' b' < m := by rw [← h2]; exact hf'.jn a' b' ga' gb'
      exact hu.jm a b _ ga gb hj' (hu.trans _ _ _ ga ga' hj' ia (hu.jl _ _ ga' gb')) (hu.trans _ _ _ gb gb' hj' ib (hu.jr _ _ ga' gb'))
    · rw [if_neg (by decide), if_neg (by decide)]
      have hj := hf.mt a b ga gb
      exact hu.mm a' b' _ ga' gb' hj (hu.trans _ _ _ hj ga ga' (hu.ml _ _ ga gb) ia) (hu.trans _ _ _ hj gb gb' (hu.mr _ _ ga gb) ib)
end Jg
end Go.Proofs.Ytggcmkpafpjnoaa

/- Things of two piles: what a rule's numbers make of them, and how large they get. Over no program. -/
namespace Go.Proofs.Ytggcmkpafpjnoaa
set_option maxRecDepth 100000
namespace Sh
/-- A thing: its text, how it binds, how deep it is. -/
structure Th where
  s : ByteArray
  b : Nat
  d : Nat
def inBr (o e : ByteArray) (x : Th) : Th := ⟨o ++ x.s ++ e, x.b, x.d + 1⟩
def btw (x : Th) (n : Int) (y : Th) : Th := ⟨x.s ++ ({ data := #[32] } ++ nameOf n ++ { data := #[32] }) ++ y.s, binds n, max x.d y.d⟩
def brL (n : Int) (o e : ByteArray) (x : Th) : Th := if x.b < binds n then inBr o e x else x
def brR (n : Int) (o e : ByteArray) (x : Th) : Th := if x.b ≤ binds n then inBr o e x else x
def one (n : Int) : Th := ⟨nameOf n, binds n, 0⟩
def thOf (t : Tree) : Th := ⟨Lx.pack (txt t), bt t, deep t⟩
abbrev bOpen : Bool → ByteArray
  | true => { data := #[91] }
  | false => { data := #[40] }
abbrev bShut : Bool → ByteArray
  | true => { data := #[93] }
  | false => { data := #[41] }
theorem pack_append (a b : List UInt8) : Lx.pack (a ++ b) = Lx.pack a ++ Lx.pack b := by
  apply ByteArray.ext
  simp [Lx.pack]
theorem pack_name (n : Int) : Lx.pack (nameOf n).data.toList = nameOf n := by
  apply ByteArray.ext
  simp [Lx.pack]
theorem thOf_leaf (n : Int) : thOf (.leaf n) = one n := by
  unfold thOf one
  rw [show txt (.leaf n) = (nameOf n).data.toList from rfl, pack_name]
  rfl
theorem wrap_yes (sq : Bool) (s : List UInt8) : Lx.pack (wrapT true sq s) = bOpen sq ++ Lx.pack s ++ bShut sq := by
  cases sq
  · rw [show wrapT true false s = [40] ++ s ++ [41] by simp [wrapT], pack_append, pack_append]
    rfl
  · rw [show wrapT true true s = [91] ++ s ++ [93] by simp [wrapT], pack_append, pack_append]
    rfl
theorem brL_tree {n : Int} (h5 : n ≠ 5) (x : Tree) : brL n (bOpen (square n)) (bShut (square n)) (thOf x) = ⟨Lx.pack (wrapT (lowL n x) (square n) (txt x)), bt x, deep x + (lowL n x).toNat⟩ := by
  unfold brL lowL
  by_cases h : bt x < binds n
  · rw [if_pos (show (thOf x).b < binds n from h), decide_eq_true ⟨h5, h⟩, wrap_yes]
    rfl
  · rw [if_neg (show ¬ (thOf x).b < binds n from h), decide_eq_false (fun h1 => h h1.2)]
    rfl
theorem brR_tree {n : Int} (h5 : n ≠ 5) (x : Tree) : brR n (bOpen (square n)) (bShut (square n)) (thOf x) = ⟨Lx.pack (wrapT (lowR n x) (square n) (txt x)), bt x, deep x + (lowR n x).toNat⟩ := by
  unfold brR lowR
  by_cases h : bt x ≤ binds n
  · rw [if_pos (show (thOf x).b ≤ binds n from h), decide_eq_true ⟨h5, by omega⟩, wrap_yes]
    rfl
  · rw [if_neg (show ¬ (thOf x).b ≤ binds n from h), decide_eq_false (fun h1 => h (by omega))]
    rfl
theorem txt_node (n : Int) (x y : Tree) : Lx.pack (txt (.node n x y)) = Lx.pack (wrapT (lowL n x) (square n) (txt x)) ++ ({ data := #[32] } ++ nameOf n ++ { data := #[32] }) ++ Lx.pack (wrapT (lowR n y) (square n) (txt y)) := by
  have e : txt (.node n x y) = wrapT (lowL n x) (square n) (txt x) ++ ([32] ++ (nameOf n).data.toList ++ [32]) ++ wrapT (lowR n y) (square n) (txt y) := by simp [txt]
  rw [e, pack_append, pack_append, pack_append, pack_append, pack_name]
  rfl
theorem thOf_node {n : Int} (h5 : n ≠ 5) (x y : Tree) : thOf (.node n x y) = btw (brL n (bOpen (square n)) (bShut (square n)) (thOf x)) n (brR n (bOpen (square n)) (bShut (square n)) (thOf y)) := by
  rw [brL_tree h5, brR_tree h5]
  unfold btw thOf
  rw [txt_node]
  rfl
theorem thOf_five (x y : Tree) : thOf (.node 5 x y) = btw (thOf x) 5 (thOf y) := by
  unfold btw thOf
  rw [txt_node]
  rfl

/-- The last two of a pile. -/
def two? (l : List Th) : Option (List Th × Th × Th) :=
  match l.reverse with
  | y :: x :: r => some (r.reverse, x, y)
  | _ => none
theorem two_snoc (l : List Th) (x y : Th) : two? (l ++ [x] ++ [y]) = some (l, x, y) := by
  unfold two?
  simp
theorem two_some {l l0 : List Th} {x y : Th} (h : two? l = some (l0, x, y)) : l = l0 ++ [x] ++ [y] := by
  unfold two? at h
  split at h
  · rename_i y' x' r hr
    injection h with h
    injection h with h1 h2
    injection h2 with h2 h3
    subst h1 h2 h3
    have := congrArg List.reverse hr
    rw [List.reverse_reverse] at this
    rw [this]
    simp
  · cases h
abbrev Two := List Th × List Th
def isCond (n : Int) : Bool := decide (n = 1 ∨ n = 2)
def isLab (n : Int) : Bool := decide (n = 6 ∨ n = 7 ∨ n = 8 ∨ n = 9 ∨ n = 10 ∨ n = 11)
/-- What a number makes of the piles: conditions, labels. -/
def pstep (p : Two) (n : Int) : Option Two :=
  if n = 1 ∨ n = 2 then some (p.1 ++ [one n], p.2)
  else if 6 ≤ n ∧ n ≤ 11 then some (p.1, p.2 ++ [one n])
  else if n = 3 ∨ n = 4 then (two? p.1).map fun r => (r.1 ++ [btw (brL n { data := #[40] } { data := #[41] } r.2.1) n (brR n { data := #[40] } { data := #[41] } r.2.2)], p.2)
  else if n = 5 then (two? p.2).map fun r => (p.1 ++ [btw r.2.1 5 r.2.2], r.1)
  else if n = 12 ∨ n = 13 then (two? p.2).map fun r => (p.1, r.1 ++ [btw (brL n { data := #[91] } { data := #[93] } r.2.1) n (brR n { data := #[91] } { data := #[93] } r.2.2)])
  else none
def pmach : Two → List Int → Option Two
  | p, [] => some p
  | p, n :: r => (pstep p n).bind fun q => pmach q r
theorem pmach_append : ∀ (a b : List Int) (p : Two), pmach p (a ++ b) = (pmach p a).bind fun q => pmach q b
  | [], _, _ => rfl
  | n :: a, b, p => by
    simp only [List.cons_append, pmach]
    cases pstep p n with
    | none => rfl
    | some q => exact pmach_append a b q
def add (p : Two) (b : Bool) (x : Th) : Two := if b = true then (p.1, p.2 ++ [x]) else (p.1 ++ [x], p.2)
theorem pmach_post : ∀ (t : Tree) (b : Bool) (p : Two), Ok b t → pmach p (post t) = some (add p b (thOf t))
  | .leaf n, b, p, h => by
    unfold Ok at h
    rw [thOf_leaf]
    simp only [post, pmach, pstep]
    rcases h with ⟨rfl, h1, h2⟩ | ⟨rfl, h1⟩
    · rw [if_neg (by omega), if_pos ⟨h1, h2⟩]
      rfl
    · rw [if_pos h1]
      rfl
  | .node n x y, b, p, h => by
    unfold Ok at h
    simp only [post]
    rcases h with ⟨rfl, h1, hx, hy⟩ | ⟨rfl, rfl, hx, hy⟩ | ⟨rfl, h1, hx, hy⟩
    · rw [pmach_append, pmach_append, pmach_post x false p hx]
      simp only [Option.bind_some, add, Bool.false_eq_true, if_false]
      rw [pmach_post y false _ hy]
      simp only [Option.bind_some, add, Bool.false_eq_true, if_false, pmach, pstep]
      rw [if_neg (by omega), if_neg (by omega), if_pos h1, two_snoc, thOf_node (by omega)]
      have hs : square n = false := decide_eq_false (by omega)
      rw [hs]
      rfl
    · rw [pmach_append, pmach_append, pmach_post x true p hx]
      simp only [Option.bind_some, add, if_true]
      rw [pmach_post y true _ hy]
      simp only [Option.bind_some, add, Bool.false_eq_true, if_false, if_true, pmach, pstep]
      rw [if_neg (by decide), if_neg (by decide), if_neg (by decide), two_snoc, thOf_five]
      rfl
    · rw [pmach_append, pmach_append, pmach_post x true p hx]
      simp only [Option.bind_some, add, if_true]
      rw [pmach_post y true _ hy]
      simp only [Option.bind_some, add, if_true, pmach, pstep]
      rw [if_neg (by omega), if_neg (by omega), if_neg (by omega), if_neg (by omega), if_pos h1, two_snoc, thOf_node (by omega)]
      have hs : square n = true := decide_eq_true (by omega)
      rw [hs]
      rfl
/-- How large a pile is. -/
def wt (x : Th) : Nat := x.s.size + x.d + 1
def wts (l : List Th) : Nat := (l.map wt).sum
theorem wts_snoc (l : List Th) (x : Th) : wts (l ++ [x]) = wts l + wt x := by simp [wts]
def size2 (p : Two) : Nat := wts p.1 + wts p.2
theorem name_size (n : Int) : (nameOf n).size ≤ 5 := by
  have := nameOf_len n
  rwa [← Lib.size_eq] at this
theorem wt_one (n : Int) : wt (one n) ≤ 6 := by
  have := name_size n
  unfold wt one
  simp only
  omega
theorem one_size (c : UInt8) : ({ data := #[c] } : ByteArray).size = 1 := rfl
theorem wt_inBr (a b : UInt8) (x : Th) : wt (inBr { data := #[a] } { data := #[b] } x) = wt x + 3 := by
  unfold wt inBr
  simp only [ByteArray.size_append, one_size]
  omega
theorem wt_brL (n : Int) (a b : UInt8) (x : Th) : wt (brL n { data := #[a] } { data := #[b] } x) ≤ wt x + 3 := by
  unfold brL
  split
  · rw [wt_inBr]; exact Nat.le_refl _
  · omega
theorem wt_brR (n : Int) (a b : UInt8) (x : Th) : wt (brR n { data := #[a] } { data := #[b] } x) ≤ wt x + 3 := by
  unfold brR
  split
  · rw [wt_inBr]; exact Nat.le_refl _
  · omega
theorem wt_btw (x : Th) (n : Int) (y : Th) : wt (btw x n y) ≤ wt x + wt y + 7 := by
  have := name_size n
  unfold wt btw
  simp only [ByteArray.size_append, one_size]
  omega
theorem pstep_size {p q : Two} {n : Int} (h : pstep p n = some q) : size2 q ≤ size2 p + 13 := by
  unfold pstep at h
  split at h
  · injection h with h; subst h
    have := wt_one n
    unfold size2; simp only [wts_snoc]; omega
  · split at h
    · injection h with h; subst h
      have := wt_one n
      unfold size2; simp only [wts_snoc]; omega
    · split at h
      · obtain ⟨⟨l0, x, y⟩, h1, h2⟩ := Option.map_eq_some_iff.1 h
        subst h2
        have e := two_some h1
        unfold size2
        rw [e]
        simp only [wts_snoc]
        have := wt_btw (brL n { data := #[40] } { data := #[41] } x) n (brR n { data := #[40] } { data := #[41] } y)
        have := wt_brL n 40 41 x
        have := wt_brR n 40 41 y
        omega
      · split at h
        · obtain ⟨⟨l0, x, y⟩, h1, h2⟩ := Option.map_eq_some_iff.1 h
          subst h2
          have e := two_some h1
          unfold size2
          rw [e]
          simp only [wts_snoc]
          have := wt_btw x 5 y
          omega
        · split at h
          · obtain ⟨⟨l0, x, y⟩, h1, h2⟩ := Option.map_eq_some_iff.1 h
            subst h2
            have e := two_some h1
            unfold size2
            rw [e]
            simp only [wts_snoc]
            have := wt_btw (brL n { data := #[91] } { data := #[93] } x) n (brR n { data := #[91] } { data := #[93] } y)
            have := wt_brL n 91 93 x
            have := wt_brR n 91 93 y
            omega
          · cases h
theorem wts_len (l : List Th) : l.length ≤ wts l := by
  induction l with
  | nil => exact Nat.zero_le _
  | cons x r ih =>
    have e : wts (x :: r) = wt x + wts r := by simp [wts]
    rw [e]
    unfold wt
    simp only [List.length_cons]
    omega
theorem wts_mem {l : List Th} {x : Th} (h : x ∈ l) : wt x ≤ wts l := by
  induction l with
  | nil => cases h
  | cons y r ih =>
    have e : wts (y :: r) = wt y + wts r := by simp [wts]
    rw [e]
    rcases List.mem_cons.1 h with rfl | h
    · omega
    · have := ih h; omega
end Sh
end Go.Proofs.Ytggcmkpafpjnoaa
