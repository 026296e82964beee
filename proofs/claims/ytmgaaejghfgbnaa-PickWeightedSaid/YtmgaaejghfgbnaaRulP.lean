/- Rules over plain data: what tokens tell, and what is made right. Over no program. -/
import Derived.Test.YtmgaaejghfgbnaaLexP
namespace Go.Proofs.Ytmgaaejghfgbnaa
set_option maxRecDepth 100000
namespace Rl
open Lx (Tk)

/-- How far tokens are read, how many brackets are open, and the rule so far. -/
structure St where
  pos : Nat
  deep : Nat
  out : List Int
/-- A state, and an error's number (0: none). -/
abbrev Res := St × Nat

abbrev wTrue : ByteArray := { data := #[116, 114, 117, 101] }
abbrev wFalse : ByteArray := { data := #[102, 97, 108, 115, 101] }
abbrev wAnd : ByteArray := { data := #[97, 110, 100] }
abbrev wOr : ByteArray := { data := #[111, 114] }
abbrev wFlows : ByteArray := { data := #[60, 61] }
abbrev wJoin : ByteArray := { data := #[106, 111, 105, 110] }
abbrev wMeet : ByteArray := { data := #[109, 101, 101, 116] }
abbrev wOpen : ByteArray := { data := #[40] }
abbrev wShut : ByteArray := { data := #[41] }
abbrev wOpenL : ByteArray := { data := #[91] }
abbrev wShutL : ByteArray := { data := #[93] }
/-- What each word puts. -/
def table : List (ByteArray × Int) :=
  [(wTrue, 1), (wFalse, 2), (wAnd, 3), (wOr, 4), (wFlows, 5), ({ data := #[98, 111, 116] }, 6), ({ data := #[116, 111, 112] }, 7), ({ data := #[112, 99] }, 8),
   ({ data := #[111, 110, 101] }, 9), ({ data := #[116, 119, 111] }, 10), ({ data := #[116, 104, 114, 101, 101] }, 11), (wJoin, 12), (wMeet, 13)]
def look (s : ByteArray) : List (ByteArray × Int) → Int
  | [] => 0
  | (k, n) :: r => if k = s then n else look s r
def opOf (s : ByteArray) : Int := look s table
theorem look_bounds (s : ByteArray) : ∀ l : List (ByteArray × Int), (∀ x ∈ l, 1 ≤ x.2 ∧ x.2 ≤ 13) → 0 ≤ look s l ∧ look s l ≤ 13
  | [], _ => ⟨Int.le_refl _, show (0 : Int) ≤ 13 by decide⟩
  | (k, n) :: r, h => by
    unfold look
    split
    · have := h (k, n) (.head _); exact ⟨by omega, this.2⟩
    · exact look_bounds s r fun x hx => h x (.tail _ hx)
theorem opOf_bounds (s : ByteArray) : 0 ≤ opOf s ∧ opOf s ≤ 13 := look_bounds s table (by decide)
theorem op_true : opOf wTrue = 1 := by decide
theorem op_false : opOf wFalse = 2 := by decide
theorem op_and : opOf wAnd = 3 := by decide
theorem op_or : opOf wOr = 4 := by decide
theorem op_flows : opOf wFlows = 5 := by decide
theorem op_join : opOf wJoin = 12 := by decide
theorem op_meet : opOf wMeet = 13 := by decide

/-- Is a token a word or a mark of a text? -/
def isN (l : List Tk) (k : Nat) (w : ByteArray) : Bool :=
  match l[k]? with
  | some t => decide ((t.kind = 1 ∨ t.kind = 3) ∧ t.text = w)
  | none => false
def adv (s : St) : St := { s with pos := s.pos + 1 }
def put (op : Int) (s : St) : Res := if s.out.length = 40 then (s, 8) else ({ s with out := s.out ++ [op] }, 0)
def loop (l : List Tk) (more : St → Res) (w : ByteArray) : Nat → St → Res
  | 0, s => (s, 0)
  | n + 1, s => if isN l s.pos w = true then
      (if (more (adv s)).2 = 0 then
        (if (put (opOf w) (more (adv s)).1).2 = 0 then loop l more w n (put (opOf w) (more (adv s)).1).1 else put (opOf w) (more (adv s)).1)
       else more (adv s))
    else (s, 0)
def rows (l : List Tk) (part : St → Res) : List ByteArray → St → Res
  | [], s => part s
  | w :: ws, s => if (rows l part ws s).2 = 0 then loop l (rows l part ws) w l.length (rows l part ws s).1 else rows l part ws s
def into (s : St) : St := { s with pos := s.pos + 1, deep := s.deep + 1 }
def outof (s : St) : St := { s with pos := s.pos + 1, deep := s.deep - 1 }
def inside (l : List Tk) (part : St → Res) (fin : ByteArray) (s : St) : Res :=
  if s.deep = 12 then (s, 5)
  else if (part (into s)).2 = 0 then
    (if isN l (part (into s)).1.pos fin = true then (outof (part (into s)).1, 0) else ((part (into s)).1, 4))
  else part (into s)
/-- What an atom's word puts: 0, if a token is none. -/
def word (l : List Tk) (k : Nat) : Int :=
  match l[k]? with
  | some t => if t.kind = 1 ∧ 6 ≤ opOf t.text ∧ opOf t.text ≤ 11 then opOf t.text else 0
  | none => 0
def atom (l : List Tk) (lab : St → Res) (s : St) : Res :=
  if isN l s.pos wOpenL = true then inside l lab wShutL s
  else if word l s.pos = 0 then (s, 4) else put (word l s.pos) (adv s)
def label (l : List Tk) : Nat → St → Res
  | 0, s => (s, 5)
  | d + 1, s => rows l (atom l (label l d)) [wJoin, wMeet] s
def flow (l : List Tk) (lab : St → Res) (s : St) : Res :=
  if (lab s).2 = 0 then
    (if isN l (lab s).1.pos wFlows = true then
      (if (lab (adv (lab s).1)).2 = 0 then put 5 (lab (adv (lab s).1)).1 else lab (adv (lab s).1))
     else ((lab s).1, 4))
  else lab s
def prim (l : List Tk) (cnd lab : St → Res) (s : St) : Res :=
  if isN l s.pos wTrue = true then put 1 (adv s)
  else if isN l s.pos wFalse = true then put 2 (adv s)
  else if isN l s.pos wOpen = true then inside l cnd wShut s
  else flow l lab s
def cond (l : List Tk) : Nat → St → Res
  | 0, s => (s, 5)
  | d + 1, s => rows l (prim l (cond l d) (label l (d + 1))) [wOr, wAnd] s
def read (l : List Tk) (lab : Bool) (i : Nat) : Res := if lab then label l 13 ⟨i, 0, []⟩ else cond l 13 ⟨i, 0, []⟩

/-- The last token is no word and no mark. -/
def Ends (l : List Tk) : Prop := ∀ k t, l[k]? = some t → (t.kind = 1 ∨ t.kind = 3) → k + 1 < l.length
theorem ends_of {l : List Tk} {t : Tk} (h : l[l.length - 1]? = some t) (h0 : t.kind = 0) : Ends l := fun k u hu hk => by
  have h1 := (List.getElem?_eq_some_iff.1 hu).1
  by_cases hk1 : k = l.length - 1
  · subst hk1
    rw [h] at hu
    injection hu with hu
    subst hu
    omega
  · omega
theorem isN_some {l : List Tk} {k : Nat} {w : ByteArray} (h : isN l k w = true) : ∃ t, l[k]? = some t ∧ (t.kind = 1 ∨ t.kind = 3) ∧ t.text = w := by
  unfold isN at h
  split at h
  · rename_i t ht
    exact ⟨t, ht, (of_decide_eq_true h).1, (of_decide_eq_true h).2⟩
  · cases h
theorem isN_lt {l : List Tk} {k : Nat} {w : ByteArray} (he : Ends l) (h : isN l k w = true) : k + 1 < l.length := by
  obtain ⟨t, ht, hk, _⟩ := isN_some h
  exact he k t ht hk
theorem word_some {l : List Tk} {k : Nat} (h : word l k ≠ 0) : ∃ t, l[k]? = some t ∧ t.kind = 1 ∧ word l k = opOf t.text ∧ 6 ≤ opOf t.text ∧ opOf t.text ≤ 11 := by
  unfold word at h ⊢
  split at h
  · rename_i t ht
    split at h
    · rename_i h1
      simp only [ht, if_pos h1]
      exact ⟨t, rfl, h1.1, rfl, h1.2⟩
    · exact absurd rfl h
  · exact absurd rfl h
theorem word_lt {l : List Tk} {k : Nat} (he : Ends l) (h : word l k ≠ 0) : k + 1 < l.length := by
  obtain ⟨t, ht, hk, _⟩ := word_some h
  exact he k t ht (.inl hk)

/-- A pile's last two things, and what is put in their place. -/
def two (pile : List Bool) (take put : Bool) : Option (List Bool) :=
  if 2 ≤ pile.length ∧ pile[pile.length - 2]? = some take ∧ pile[pile.length - 1]? = some take then some (pile.take (pile.length - 2) ++ [put]) else none
def step (pile : List Bool) (n : Int) : Option (List Bool) :=
  if n = 1 ∨ n = 2 then some (pile ++ [false])
  else if 6 ≤ n ∧ n ≤ 11 then some (pile ++ [true])
  else if n = 3 ∨ n = 4 then two pile false false
  else if n = 5 then two pile true false
  else if n = 12 ∨ n = 13 then two pile true true
  else none
def pileOf : List Bool → List Int → Option (List Bool)
  | p, [] => some p
  | p, n :: r => (step p n).bind fun q => pileOf q r
def right (rule : List Int) (lab : Bool) : Bool := decide (rule.length ≤ 40 ∧ pileOf [] rule = some [lab])
theorem pileOf_append : ∀ (a b : List Int) (p : List Bool), pileOf p (a ++ b) = (pileOf p a).bind fun q => pileOf q b
  | [], b, p => rfl
  | n :: a, b, p => by
    simp only [List.cons_append, pileOf]
    cases step p n with
    | none => rfl
    | some q => exact pileOf_append a b q
theorem two_snoc (p : List Bool) (a b : Bool) : two (p ++ [a] ++ [a]) a b = some (p ++ [b]) := by
  unfold two
  have e0 : (p ++ [a] ++ [a]).length = p.length + 2 := by simp
  rw [e0, if_pos ⟨by omega, by simp, by simp⟩]
  congr 1
  rw [Nat.add_sub_cancel, List.append_assoc, List.take_left]
/-- What rows of numbers put on any pile: one thing. -/
def Seg (x : List Int) (sort : Bool) : Prop := ∀ p, pileOf p x = some (p ++ [sort])
theorem seg_one {n : Int} {b : Bool} (h : ∀ p, step p n = some (p ++ [b])) : Seg [n] b := fun p => by
  simp only [pileOf, h p, Option.bind_some]
theorem seg_two {x y : List Int} {n : Int} {a b : Bool} (hx : Seg x a) (hy : Seg y a) (h : ∀ p, step p n = two p a b) : Seg (x ++ y ++ [n]) b := fun p => by
  rw [pileOf_append, pileOf_append, hx p]
  simp only [Option.bind_some, hy (p ++ [a])]
  simp only [pileOf, h, two_snoc, Option.bind_some]
theorem right_of {x : List Int} {b : Bool} (h : Seg x b) (hl : x.length ≤ 40) : right x b = true ∧ right x (!b) = false := by
  have h0 := h []
  unfold right
  rw [h0]
  refine ⟨decide_eq_true ⟨hl, rfl⟩, decide_eq_false ?_⟩
  rintro ⟨_, h1⟩
  injection h1 with h1
  simp at h1

/-- What a part keeps, read at a depth: places and lengths; and, if nothing is wrong, that it told one thing. -/
def Good (l : List Tk) (o : Nat) (sort : Bool) (p : St → Res) : Prop :=
  ∀ s : St, s.pos < l.length → s.deep = o → s.out.length ≤ 40 →
    (p s).1.pos < l.length ∧ (p s).1.out.length ≤ 40 ∧ ((p s).2 = 0 → (p s).1.deep = o ∧ s.pos < (p s).1.pos ∧ ∃ x, (p s).1.out = s.out ++ x ∧ Seg x sort)
theorem put_good (op : Int) (s : St) (h : s.out.length ≤ 40) : (put op s).1.pos = s.pos ∧ (put op s).1.deep = s.deep ∧ (put op s).1.out.length ≤ 40 ∧ ((put op s).2 = 0 → (put op s).1.out = s.out ++ [op]) := by
  unfold put
  split
  · exact ⟨rfl, rfl, h, fun e => by cases e⟩
  · exact ⟨rfl, rfl, by simp; omega, fun _ => rfl⟩
theorem loop_good {l : List Tk} (he : Ends l) {o : Nat} {sort : Bool} {more : St → Res} (hm : Good l o sort more) (w : ByteArray) (hw : ∀ p, step p (opOf w) = two p sort sort) :
    ∀ (n : Nat) (s : St) (y x : List Int), s.pos < l.length → s.deep = o → s.out.length ≤ 40 → s.out = y ++ x → Seg x sort →
      (loop l more w n s).1.pos < l.length ∧ (loop l more w n s).1.out.length ≤ 40 ∧ ((loop l more w n s).2 = 0 → (loop l more w n s).1.deep = o ∧ s.pos ≤ (loop l more w n s).1.pos ∧ ∃ z, (loop l more w n s).1.out = y ++ z ∧ Seg z sort)
  | 0, s, y, x, h1, h2, h3, h4, h5 => ⟨h1, h3, fun _ => ⟨h2, Nat.le_refl _, x, h4, h5⟩⟩
  | n + 1, s, y, x, h1, h2, h3, h4, h5 => by
    by_cases hn : isN l s.pos w = true
    · obtain ⟨a1, a2, a3⟩ := hm (adv s) (by have := isN_lt he hn; exact this) h2 h3
      by_cases hr : (more (adv s)).2 = 0
      · obtain ⟨b1, b2, z, b3, b4⟩ := a3 hr
        obtain ⟨c1, c2, c3, c4⟩ := put_good (opOf w) _ a2
        by_cases hq : (put (opOf w) (more (adv s)).1).2 = 0
        · have e : loop l more w (n + 1) s = loop l more w n (put (opOf w) (more (adv s)).1).1 := by rw [loop, if_pos hn, if_pos hr, if_pos hq]
          rw [e]
          obtain ⟨d1, d2, d3⟩ := loop_good he hm w hw n (put (opOf w) (more (adv s)).1).1 y (x ++ z ++ [opOf w]) (by rw [c1]; exact a1) (by rw [c2]; exact b1) c3 (by rw [c4 hq, b3, show (adv s).out = s.out from rfl, h4]; simp) (seg_two h5 b4 hw)
          refine ⟨d1, d2, fun h => ?_⟩
          obtain ⟨f1, f2, f3⟩ := d3 h
          have b2' : s.pos + 1 < (more (adv s)).1.pos := b2
          exact ⟨f1, by omega, f3⟩
        · have e : loop l more w (n + 1) s = put (opOf w) (more (adv s)).1 := by rw [loop, if_pos hn, if_pos hr, if_neg hq]
          rw [e]
          exact ⟨by rw [c1]; exact a1, c3, fun h => absurd h hq⟩
      · have e : loop l more w (n + 1) s = more (adv s) := by rw [loop, if_pos hn, if_neg hr]
        rw [e]
        exact ⟨a1, a2, fun h => absurd h hr⟩
    · have e : loop l more w (n + 1) s = (s, 0) := by rw [loop, if_neg hn]
      rw [e]
      exact ⟨h1, h3, fun _ => ⟨h2, Nat.le_refl _, x, h4, h5⟩⟩
theorem rows_good {l : List Tk} (he : Ends l) {o : Nat} {sort : Bool} {part : St → Res} (hp : Good l o sort part) : ∀ ws : List ByteArray, (∀ w ∈ ws, ∀ p, step p (opOf w) = two p sort sort) → Good l o sort (rows l part ws)
  | [], _ => hp
  | w :: ws, hw => fun s h1 h2 h3 => by
    have hm := rows_good he hp ws (fun v hv => hw v (.tail _ hv))
    obtain ⟨a1, a2, a3⟩ := hm s h1 h2 h3
    by_cases hr : (rows l part ws s).2 = 0
    · obtain ⟨b1, b2, x, b3, b4⟩ := a3 hr
      have e : rows l part (w :: ws) s = loop l (rows l part ws) w l.length (rows l part ws s).1 := by rw [rows, if_pos hr]
      rw [e]
      obtain ⟨d1, d2, d3⟩ := loop_good he hm w (hw w (.head _)) l.length _ s.out x a1 b1 a2 b3 b4
      refine ⟨d1, d2, fun h => ?_⟩
      obtain ⟨f1, f2, f3⟩ := d3 h
      exact ⟨f1, by omega, f3⟩
    · have e : rows l part (w :: ws) s = rows l part ws s := by rw [rows, if_neg hr]
      rw [e]
      exact ⟨a1, a2, fun h => absurd h hr⟩
theorem inside_good {l : List Tk} (he : Ends l) {o : Nat} {sort : Bool} {part : St → Res} (hp : o < 12 → Good l (o + 1) sort part) (w fin : ByteArray) (s : St) (h0 : isN l s.pos w = true) (h2 : s.deep = o) (h4 : o ≤ 12) (h3 : s.out.length ≤ 40) :
    (inside l part fin s).1.pos < l.length ∧ (inside l part fin s).1.out.length ≤ 40 ∧ ((inside l part fin s).2 = 0 → (inside l part fin s).1.deep = o ∧ s.pos < (inside l part fin s).1.pos ∧ ∃ x, (inside l part fin s).1.out = s.out ++ x ∧ Seg x sort) := by
  have h1 := isN_lt he h0
  by_cases hd : s.deep = 12
  · have e : inside l part fin s = (s, 5) := by rw [inside, if_pos hd]
    rw [e]
    exact ⟨by show s.pos < _; omega, h3, fun h => by cases h⟩
  · obtain ⟨a1, a2, a3⟩ := hp (by omega) (into s) h1 (by show s.deep + 1 = _; omega) h3
    by_cases hr : (part (into s)).2 = 0
    · obtain ⟨b1, b2, x, b3, b4⟩ := a3 hr
      have b2' : s.pos + 1 < (part (into s)).1.pos := b2
      by_cases hn : isN l (part (into s)).1.pos fin = true
      · have e : inside l part fin s = (outof (part (into s)).1, 0) := by rw [inside, if_neg hd, if_pos hr, if_pos hn]
        rw [e]
        exact ⟨isN_lt he hn, a2, fun _ => ⟨by show (part (into s)).1.deep - 1 = o; omega, by show s.pos < (part (into s)).1.pos + 1; omega, x, b3, b4⟩⟩
      · have e : inside l part fin s = ((part (into s)).1, 4) := by rw [inside, if_neg hd, if_pos hr, if_neg hn]
        rw [e]
        exact ⟨a1, a2, fun h => by cases h⟩
    · have e : inside l part fin s = part (into s) := by rw [inside, if_neg hd, if_neg hr]
      rw [e]
      exact ⟨a1, a2, fun h => absurd h hr⟩
theorem atom_good {l : List Tk} (he : Ends l) {o : Nat} (ho : o ≤ 12) {lab : St → Res} (hp : o < 12 → Good l (o + 1) true lab) : Good l o true (atom l lab) := fun s h1 h2 h3 => by
  by_cases hn : isN l s.pos wOpenL = true
  · have e : atom l lab s = inside l lab wShutL s := by rw [atom, if_pos hn]
    rw [e]
    exact inside_good he hp _ _ s hn h2 ho h3
  · by_cases hw : word l s.pos = 0
    · have e : atom l lab s = (s, 4) := by rw [atom, if_neg hn, if_pos hw]
      rw [e]
      exact ⟨h1, h3, fun h => by cases h⟩
    · have e : atom l lab s = put (word l s.pos) (adv s) := by rw [atom, if_neg hn, if_neg hw]
      rw [e]
      obtain ⟨c1, c2, c3, c4⟩ := put_good (word l s.pos) (adv s) h3
      obtain ⟨t, _, _, t3, t4, t5⟩ := word_some hw
      refine ⟨by rw [c1]; exact word_lt he hw, c3, fun h => ⟨by rw [c2]; exact h2, by rw [c1]; exact Nat.lt_succ_self _, [word l s.pos], c4 h, seg_one fun p => ?_⟩⟩
      unfold step
      rw [t3, if_neg (by omega), if_pos ⟨t4, t5⟩]
theorem step_join (p : List Bool) : step p (opOf wJoin) = two p true true := by rw [op_join]; rfl
theorem step_meet (p : List Bool) : step p (opOf wMeet) = two p true true := by rw [op_meet]; rfl
theorem step_or (p : List Bool) : step p (opOf wOr) = two p false false := by rw [op_or]; rfl
theorem step_and (p : List Bool) : step p (opOf wAnd) = two p false false := by rw [op_and]; rfl
theorem label_good {l : List Tk} (he : Ends l) : ∀ (d o : Nat), o + d = 12 → Good l o true (label l (d + 1))
  | 0, o, h => rows_good he (atom_good he (by omega) fun h2 => absurd h2 (by omega)) _ (by
      intro w hw p
      simp only [List.mem_cons, List.not_mem_nil, or_false] at hw
      rcases hw with rfl | rfl
      · exact step_join p
      · exact step_meet p)
  | d + 1, o, h => rows_good he (atom_good he (by omega) fun _ => label_good he d (o + 1) (by omega)) _ (by
      intro w hw p
      simp only [List.mem_cons, List.not_mem_nil, or_false] at hw
      rcases hw with rfl | rfl
      · exact step_join p
      · exact step_meet p)
theorem flow_good {l : List Tk} (he : Ends l) {o : Nat} {lab : St → Res} (hp : Good l o true lab) : Good l o false (flow l lab) := fun s h1 h2 h3 => by
  obtain ⟨a1, a2, a3⟩ := hp s h1 h2 h3
  by_cases hr : (lab s).2 = 0
  · obtain ⟨b1, b2, x, b3, b4⟩ := a3 hr
    by_cases hn : isN l (lab s).1.pos wFlows = true
    · obtain ⟨c1, c2, c3⟩ := hp (adv (lab s).1) (isN_lt he hn) b1 a2
      by_cases hq : (lab (adv (lab s).1)).2 = 0
      · obtain ⟨d1, d2, y, d3, d4⟩ := c3 hq
        have d2' : (lab s).1.pos + 1 < (lab (adv (lab s).1)).1.pos := d2
        have e : flow l lab s = put 5 (lab (adv (lab s).1)).1 := by rw [flow, if_pos hr, if_pos hn, if_pos hq]
        rw [e]
        obtain ⟨f1, f2, f3, f4⟩ := put_good 5 _ c2
        refine ⟨by rw [f1]; exact c1, f3, fun h => ⟨by rw [f2]; exact d1, by rw [f1]; omega, x ++ y ++ [5], ?_, seg_two b4 d4 fun p => rfl⟩⟩
        rw [f4 h, d3, show (adv (lab s).1).out = (lab s).1.out from rfl, b3]
        simp
      · have e : flow l lab s = lab (adv (lab s).1) := by rw [flow, if_pos hr, if_pos hn, if_neg hq]
        rw [e]
        exact ⟨c1, c2, fun h => absurd h hq⟩
    · have e : flow l lab s = ((lab s).1, 4) := by rw [flow, if_pos hr, if_neg hn]
      rw [e]
      exact ⟨a1, a2, fun h => by cases h⟩
  · have e : flow l lab s = lab s := by rw [flow, if_neg hr]
    rw [e]
    exact ⟨a1, a2, fun h => absurd h hr⟩
theorem prim_good {l : List Tk} (he : Ends l) {o : Nat} (ho : o ≤ 12) {cnd lab : St → Res} (hc : o < 12 → Good l (o + 1) false cnd) (hp : Good l o true lab) : Good l o false (prim l cnd lab) := fun s h1 h2 h3 => by
  by_cases t1 : isN l s.pos wTrue = true
  · have e : prim l cnd lab s = put 1 (adv s) := by rw [prim, if_pos t1]
    rw [e]
    obtain ⟨f1, f2, f3, f4⟩ := put_good 1 (adv s) h3
    exact ⟨by rw [f1]; exact isN_lt he t1, f3, fun h => ⟨by rw [f2]; exact h2, by rw [f1]; exact Nat.lt_succ_self _, [1], f4 h, seg_one fun p => rfl⟩⟩
  · by_cases t2 : isN l s.pos wFalse = true
    · have e : prim l cnd lab s = put 2 (adv s) := by rw [prim, if_neg t1, if_pos t2]
      rw [e]
      obtain ⟨f1, f2, f3, f4⟩ := put_good 2 (adv s) h3
      exact ⟨by rw [f1]; exact isN_lt he t2, f3, fun h => ⟨by rw [f2]; exact h2, by rw [f1]; exact Nat.lt_succ_self _, [2], f4 h, seg_one fun p => rfl⟩⟩
    · by_cases t3 : isN l s.pos wOpen = true
      · have e : prim l cnd lab s = inside l cnd wShut s := by rw [prim, if_neg t1, if_neg t2, if_pos t3]
        rw [e]
        exact inside_good he hc _ _ s t3 h2 ho h3
      · have e : prim l cnd lab s = flow l lab s := by rw [prim, if_neg t1, if_neg t2, if_neg t3]
        rw [e]
        exact flow_good he hp s h1 h2 h3
theorem cond_good {l : List Tk} (he : Ends l) : ∀ (d o : Nat), o + d = 12 → Good l o false (cond l (d + 1))
  | 0, o, h => rows_good he (prim_good he (by omega) (fun h2 => absurd h2 (by omega)) (label_good he 0 o h)) _ (by
      intro w hw p
      simp only [List.mem_cons, List.not_mem_nil, or_false] at hw
      rcases hw with rfl | rfl
      · exact step_or p
      · exact step_and p)
  | d + 1, o, h => rows_good he (prim_good he (by omega) (fun _ => cond_good he d (o + 1) (by omega)) (label_good he (d + 1) o h)) _ (by
      intro w hw p
      simp only [List.mem_cons, List.not_mem_nil, or_false] at hw
      rcases hw with rfl | rfl
      · exact step_or p
      · exact step_and p)

/-- What is told is made right, behind where it began, and before the end. -/
theorem read_right {l : List Tk} (he : Ends l) (lab : Bool) (i : Nat) (hi : i < l.length) (h : (read l lab i).2 = 0) :
    right (read l lab i).1.out lab = true ∧ right (read l lab i).1.out (!lab) = false ∧ i < (read l lab i).1.pos ∧ (read l lab i).1.pos < l.length ∧ (read l lab i).1.out.length ≤ 40 := by
  have hg : ∀ {p : St → Res}, Good l 0 lab p → (p ⟨i, 0, []⟩).2 = 0 → right (p ⟨i, 0, []⟩).1.out lab = true ∧ right (p ⟨i, 0, []⟩).1.out (!lab) = false ∧ i < (p ⟨i, 0, []⟩).1.pos ∧ (p ⟨i, 0, []⟩).1.pos < l.length ∧ (p ⟨i, 0, []⟩).1.out.length ≤ 40 := fun hg h => by
    obtain ⟨a1, a2, a3⟩ := hg ⟨i, 0, []⟩ hi rfl (by simp)
    obtain ⟨b1, b2, x, b3, b4⟩ := a3 h
    have hx : (_ : List Int) = x := b3.trans (List.nil_append x)
    obtain ⟨r1, r2⟩ := right_of b4 (by rw [← hx]; exact a2)
    rw [hx]
    exact ⟨r1, r2, b2, a1, by rw [← hx]; exact a2⟩
  cases lab
  · exact hg (cond_good he 12 0 rfl) h
  · exact hg (label_good he 12 0 rfl) h
theorem read_lt {l : List Tk} (he : Ends l) (lab : Bool) (i : Nat) (hi : i < l.length) : (read l lab i).1.pos < l.length ∧ (read l lab i).1.out.length ≤ 40 := by
  cases lab
  · exact ⟨(cond_good he 12 0 rfl ⟨i, 0, []⟩ hi rfl (by simp)).1, (cond_good he 12 0 rfl ⟨i, 0, []⟩ hi rfl (by simp)).2.1⟩
  · exact ⟨(label_good he 12 0 rfl ⟨i, 0, []⟩ hi rfl (by simp)).1, (label_good he 12 0 rfl ⟨i, 0, []⟩ hi rfl (by simp)).2.1⟩
end Rl
end Go.Proofs.Ytmgaaejghfgbnaa
