/- The walk of an atom. -/
import Derived.BigQuiet
import Derived.Deep.QuietTactic
import Derived.Test.YtipbilmnknmhmaaDoorGRulB
import Derived.Test.YtipbilmnknmhmaaDoorGLexD
import Derived.Test.YtipbilmnknmhmaaDoorGLexP
namespace Go.Proofs.YtipbilmnknmhmaaDoor
set_option maxRecDepth 100000
open Go.RowKit Go.Shelf
attribute [local go_sem] Oper.semAt_some

end Go.Proofs.YtipbilmnknmhmaaDoor

/- Walks of flow and of prim. -/
namespace Go.Proofs.YtipbilmnknmhmaaDoor
set_option maxRecDepth 100000
open Go.RowKit Go.Shelf
attribute [local go_sem] Oper.semAt_some

end Go.Proofs.YtipbilmnknmhmaaDoor

/- The walk of rows: parts with words between them. -/
namespace Go.Proofs.YtipbilmnknmhmaaDoor
set_option maxRecDepth 100000
open Go.RowKit Go.Shelf

namespace Rl
end Rl

end Go.Proofs.YtipbilmnknmhmaaDoor

/- The walks of cond and of label, by the depth; and of From. -/
namespace Go.Proofs.YtipbilmnknmhmaaDoor
set_option maxRecDepth 100000
open Go.RowKit Go.Shelf
attribute [local go_sem] Oper.semAt_some

section
variable {R M c : Nat} {A : Option Addr} {l : List Lx.Tk}
end

/-- A slice of numbers. -/
def IsInts (w : World) (B : Nat) (v : Value) (l : List Int) : Prop := ∃ A c, v = .slice A l.length c ∧ Row w B A (ints l) ∧ l.length ≤ c
theorem IsInts.below {w w' : World} {B : Nat} {v : Value} {l : List Int} (h : IsInts w B v l) (hb : Below B w w') : IsInts w' B v l := by
  obtain ⟨A, c, e, hr, hc⟩ := h
  exact ⟨A, c, e, hr.below hb, hc⟩
theorem IsInts.more {w : World} {B B' : Nat} {v : Value} {l : List Int} (h : IsInts w B v l) (hB : B ≤ B') : IsInts w B' v l := by
  obtain ⟨A, c, e, hr, hc⟩ := h
  exact ⟨A, c, e, hr.more hB, hc⟩
theorem IsInts.nil (w : World) (B : Nat) : IsInts w B (.slice none 0 0) [] := ⟨none, 0, rfl, Row.nil, Nat.le_refl _⟩
namespace Rl
/-- May tokens be read from a place on? -/
def may (l : List Lx.Tk) (i : Int) : Bool := decide (0 ≤ i ∧ i < l.length ∧ ∃ t, l[l.length - 1]? = some t ∧ t.kind = 0)
def told (r : Res) : List Int × Nat × Nat := if r.2 = 0 then (r.1.out, r.1.pos, 0) else ([], r.1.pos, r.2)
/-- What From answers. -/
def from_ (l : List Lx.Tk) (i : Int) (lab : Bool) : List Int × Nat × Nat := if may l i = true then told (read l lab i.toNat) else ([], 0, 1)
end Rl
def FromRes (w : World) (r : List Int × Nat × Nat) (e : Ending) (w' : World) : Prop :=
  ∃ v, e = .returned (.tuple #[v, .int .i64 (r.2.1 : Int), .int .i64 (r.2.2 : Int)]) ∧ IsInts w' w'.heap.size v r.1 ∧ Below w.heap.size w w'
/-- What From answers, in memory of its own. -/
def NewAt (B : Nat) (v : Value) : Prop := ∀ ad n c, v = .slice (some ad) n c → B ≤ ad.block
def FromNew (w : World) (r : List Int × Nat × Nat) (e : Ending) (w' : World) : Prop :=
  ∃ v, e = .returned (.tuple #[v, .int .i64 (r.2.1 : Int), .int .i64 (r.2.2 : Int)]) ∧ IsInts w' w'.heap.size v r.1 ∧ Below w.heap.size w w' ∧ NewAt w.heap.size v
theorem FromNew.res {w w' : World} {r : List Int × Nat × Nat} {e : Ending} (h : FromNew w r e w') : FromRes w r e w' := by
  obtain ⟨v, h1, h2, h3, _⟩ := h
  exact ⟨v, h1, h2, h3⟩
end Go.Proofs.YtipbilmnknmhmaaDoor

/- Tables over plain data: what may be, what a text tells; what is written is read. -/
namespace Go.Proofs.YtipbilmnknmhmaaDoor
set_option maxRecDepth 100000
namespace Tb
open Sh (Tree Ok post toks txt deep At)
open Lx (Tk kt pack)

/-- A row's rules. -/
structure PR where
  m : List Int
  r : List Int
  p : List Int
deriving DecidableEq
def PR.none : PR := ⟨[], [], []⟩
def PR.put (x : PR) (j : Nat) (v : List Int) : PR := if j = 0 then { x with m := v } else if j = 1 then { x with r := v } else { x with p := v }
def useOf (l : List Int) : Nat := if Rl.made l = true then Rl.usesOf l else 0
def over (op : Nat) (l : List Int) : Bool := decide (useOf l / 2 ^ (1 + arity op) ≠ 0)
def labE (op : Nat) (x : PR) : Nat := if (over op x.m || (over op x.r || over op x.p)) = true then 7 else 0
/-! What a text tells. -/
def tok (l : List Tk) (k : Nat) : Tk := l.getD k ⟨0, ByteArray.empty, 0⟩
def find (s : ByteArray) : Option Nat := (List.range 13).find? fun op => decide (word op = s)
structure St where
  pos : Nat
  rows : List PR
  had : List Bool
def wordP (l : List Tk) (s : St) : St × Nat × Nat :=
  if (tok l s.pos).kind = 1 then
    (match find (tok l s.pos).text with
      | none => (s, 0, 6)
      | some op => if s.had.getD op false = true then (s, 0, 6) else ({ s with had := s.had.set op true, pos := s.pos + 1 }, op, 0))
  else (s, 0, 4)
def markP (l : List Tk) (m : ByteArray) (s : St) : St × Nat := if (tok l s.pos).text = m then ({ s with pos := s.pos + 1 }, 0) else (s, 4)
def partP (l : List Tk) (op j : Nat) (s : St) : St × Nat :=
  if (Rl.from_ l s.pos (decide (j ≠ 0))).2.2 = 0 then
    markP l mSemi { s with pos := (Rl.from_ l s.pos (decide (j ≠ 0))).2.1, rows := s.rows.set op ((s.rows.getD op PR.none).put j (Rl.from_ l s.pos (decide (j ≠ 0))).1) }
  else ({ s with pos := (Rl.from_ l s.pos (decide (j ≠ 0))).2.1 }, (Rl.from_ l s.pos (decide (j ≠ 0))).2.2)
/-- Rules j to 2 of a row. -/
def partsP (l : List Tk) (op : Nat) : Nat → Nat → St → St × Nat
  | 0, _, s => (s, 0)
  | n + 1, j, s => if (partP l op j s).2 = 0 then partsP l op n (j + 1) (partP l op j s).1 else partP l op j s
def endP (op i : Nat) (r : St × Nat) : St × Nat :=
  if r.2 = 0 then (if labE op (r.1.rows.getD op PR.none) = 0 then r else ({ r.1 with pos := i }, 7)) else r
def rowP (l : List Tk) (s : St) : St × Nat :=
  if (wordP l s).2.2 = 0 then
    (if (markP l mColon (wordP l s).1).2 = 0 then endP (wordP l s).2.1 s.pos (partsP l (wordP l s).2.1 3 0 (markP l mColon (wordP l s).1).1)
     else markP l mColon (wordP l s).1)
  else ((wordP l s).1, (wordP l s).2.2)
def tableP (l : List Tk) : Nat → St → St × Nat
  | 0, s => (s, 0)
  | n + 1, s => if (tok l s.pos).kind = 0 then (if s.had.contains false = true then (s, 9) else (s, 0))
    else if (rowP l s).2 = 0 then tableP l n (rowP l s).1 else rowP l s
def start : St := ⟨0, List.replicate 13 PR.none, List.replicate 13 false⟩
def parseL (x : List Tk × Nat × Nat) : List PR × Int × Nat :=
  if x.2.2 = 0 then (if (tableP x.1 x.1.length start).2 = 0 then ((tableP x.1 x.1.length start).1.rows, 0, 0) else ([], (tok x.1 (tableP x.1 x.1.length start).1.pos).pos, (tableP x.1 x.1.length start).2))
  else ([], x.2.1, x.2.2)
def parse (s : List UInt8) : List PR × Int × Nat := parseL (Lx.lex s)

/-! What is written is read. -/
/-- The last token is the end. -/
def Fine (l : List Tk) : Prop := ∃ p, l[l.length - 1]? = some ⟨0, ByteArray.empty, p⟩
theorem Fine.may {l : List Tk} (h : Fine l) {i : Nat} (hi : i < l.length) : Rl.may l i = true := by
  obtain ⟨p, hp⟩ := h
  exact decide_eq_true ⟨by omega, by omega, _, hp, rfl⟩
theorem Fine.from_ {l : List Tk} (h : Fine l) {i : Nat} (hi : i < l.length) (b : Bool) : Rl.from_ l i b = Rl.told (Rl.read l b i) := by
  rw [Rl.from_, if_pos (h.may hi), Int.toNat_natCast]
theorem find_word {op : Nat} (h : op < 13) : find (word op) = some op := by
  have h1 : ∀ op < 13, find (word op) = some op := by decide +kernel
  exact h1 op h
theorem find_some {s : ByteArray} {op : Nat} (h : find s = some op) : op < 13 ∧ word op = s := by
  have h1 := List.find?_some h
  have h2 := List.mem_of_find?_eq_some h
  exact ⟨List.mem_range.1 h2, of_decide_eq_true h1⟩
end Tb
end Go.Proofs.YtipbilmnknmhmaaDoor

/- Tables over plain data: where a reading stands; what is read may be. -/
namespace Go.Proofs.YtipbilmnknmhmaaDoor
set_option maxRecDepth 100000
namespace Tb
open Lx (Tk kt pack)

theorem lex_fine {s : List UInt8} {l : List Tk} {a : Nat} (h : Lx.lex s = (l, a, 0)) : Fine l ∧ 0 < l.length ∧ l.length ≤ 200 ∧ a = 0 := by
  obtain ⟨ts, rfl, h2, _⟩ := Lx.lex_ok h
  refine ⟨⟨(s.length : Nat), by simp⟩, by simp, by simp; omega, ?_⟩
  unfold Lx.lex at h
  by_cases h1 : 2000 < s.length
  · rw [if_pos h1] at h
    exact absurd (show (8 : Nat) = 0 from congrArg (fun x => x.2.2) h) (by decide)
  · rw [if_neg h1] at h
    by_cases h3 : (Lx.toks s.length s 0).2 < s.length
    · rw [if_pos h3] at h
      exact absurd (show (4 : Nat) = 0 from congrArg (fun x => x.2.2) h) (by decide)
    · rw [if_neg h3] at h
      by_cases h4 : 200 < (Lx.toks s.length s 0).1.length + 1
      · rw [if_pos h4] at h
        exact absurd (show (8 : Nat) = 0 from congrArg (fun x => x.2.2) h) (by decide)
      · rw [if_neg h4] at h
        exact (congrArg (fun x => x.2.1) h).symm
section
variable {l : List Tk}
theorem tok_some {k : Nat} (h : k < l.length) : l[k]? = some (tok l k) := by
  unfold tok
  rw [List.getD_eq_getElem?_getD, List.getElem?_eq_getElem h]
  rfl
theorem tok_not_last (hf : Fine l) {k : Nat} (h : k < l.length) (hk : (tok l k).kind ≠ 0 ∨ (tok l k).text ≠ ByteArray.empty) : k + 1 < l.length := by
  obtain ⟨p, hp⟩ := hf
  by_cases e : k = l.length - 1
  · subst e
    rw [tok_some h] at hp
    injection hp with hp
    rw [hp] at hk
    rcases hk with h1 | h1 <;> exact absurd rfl h1
  · omega
end
theorem parse_none {s : List UInt8} (h : (parse s).2.2 ≠ 0) : (parse s).1 = [] := by
  unfold parse parseL at h ⊢
  split
  · split
    · rename_i h1 h2
      rw [if_pos h1, if_pos h2] at h
      exact absurd rfl h
    · rfl
  · rfl
end Tb
end Go.Proofs.YtipbilmnknmhmaaDoor

/- The walk of From. -/
namespace Go.Proofs.YtipbilmnknmhmaaDoor
set_option maxRecDepth 100000
open Go.RowKit Go.Shelf
attribute [local go_sem] Oper.semAt_some

theorem FromNew.bad {w w' : World} (a n : Nat) (hb : Below w.heap.size w w') : FromNew w ([], a, n) (.returned (.tuple #[.slice none 0 0, .int .i64 (a : Int), .int .i64 (n : Int)])) w' := ⟨_, rfl, IsInts.nil _ _, hb, fun _ _ _ e => by cases e⟩
end Go.Proofs.YtipbilmnknmhmaaDoor

/- Walks of the reference: two, Made, Right, Has, Uses, Same. -/
namespace Go.Proofs.YtipbilmnknmhmaaDoor
set_option maxRecDepth 100000
open Go.RowKit Go.Shelf

end Go.Proofs.YtipbilmnknmhmaaDoor

/- The walk of the reference's Made. -/
namespace Go.Proofs.YtipbilmnknmhmaaDoor
set_option maxRecDepth 100000
open Go.RowKit Go.Shelf

end Go.Proofs.YtipbilmnknmhmaaDoor

/- Walks of the reference's Right, Has, Uses, Same. -/
namespace Go.Proofs.YtipbilmnknmhmaaDoor
set_option maxRecDepth 100000
open Go.RowKit Go.Shelf

end Go.Proofs.YtipbilmnknmhmaaDoor
