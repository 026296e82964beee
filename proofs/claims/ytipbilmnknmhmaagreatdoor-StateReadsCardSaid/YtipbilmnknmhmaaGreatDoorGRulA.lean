/- The map of words; the reader in memory: what holds of it, and what a call keeps. -/
import Derived.Deep.RegionLaw
import Derived.Maps.AppendAt
import Derived.Laws.EntriesVeiled
import Derived.BigRegion
import Derived.RangeFuncBox
import Derived.BigQuiet
import Derived.Deep.QuietTactic
import Derived.KernelRfl
import Derived.Test.YtipbilmnknmhmaaGreatDoorGLexP
import Derived.Test.YtipbilmnknmhmaaGreatDoorGPairs
import Derived.Test.YtipbilmnknmhmaaGreatDoorGLexD
import Derived.Test.YtipbilmnknmhmaaGreatDoorGMapLit
import Derived.Test.YtipbilmnknmhmaaGreatDoorGLexA
namespace Go.Proofs.YtipbilmnknmhmaaGreatDoor
set_option maxRecDepth 100000
open Go.RowKit Go.Shelf

section
variable {P : Program} (w : World)
end
theorem step_append_own2 {P : Program} {ops : Array Oper} {o : Oper} {a : Act} {w : World} {K : Act → World → Prop} {Q : Exit → Act → World → Prop} {E : Prop} (hgd : o.guard = none) (s x : Operand) (t : TypeId)
    (ho : o.op = .call { callee := .builtin .append, args := #[s, x], argTypes := #[t, t] })
    (base : Nat) (e : TypeId) (i : TypeInfo) (z : Value) (size bytes : Nat) (ht : P.underlying t = some (.slice e)) (hi : P.info? e = some i) (hz : i.zero = some z)
    (hsize : i.size = size) (hby : i.bytes = bytes) (hzs : z.cells.size = size) (hsz : 0 < size)
    (v : Value) (n : Nat) (xs : List Value) (hs : a.eval s = v) (hown : w.ownsRow base e size v n xs)
    (ad : Addr) (m c : Nat) (news : List Value) (hx : a.eval x = .slice (some ad) m c) (hn : news.length = m * size) (hc : ∀ j u, news[j]? = some u → w.cell? (ad.add j) = some u) (h1 : ∀ u ∈ news, u.oneCell' = true)
    (h63 : n + m ≤ maxLen) (hbytes : (n + m) * bytes ≤ 140737488355328) (hbase : base ≤ w.heap.size)
    (h : ∀ v' w', w'.ownsRow base e size v' (n + m) (xs ++ news) → w.grownBy w' v.ownBlock → (v'.ownBlock = v.ownBlock ∨ v'.ownBlock = some w.heap.size) → K (a.put o.dst v') w') :
    if Region.wanted o (yielded ops a.tmps) = true then Oper.wp P o a w K Q else E := by
  have hw : Region.wanted o (yielded ops a.tmps) = true := by simp [Region.wanted, hgd]
  rw [if_pos hw]
  obtain ⟨v', w', hrun, h2, h3, _, h5⟩ := run_append_own_at (P := P) w base t o.type e i z size bytes ht hi hz hsize hby hzs hsz v n xs hown ad m c news hn hc h1 h63 hbytes hbase
  unfold Oper.wp execOp
  simp only [ho, resolve, invoke, builtin, Sem.run_bind, Sem.run_pure, Result.andThen_ok, List.map_toArray, List.map_cons, List.map_nil, hs, hx, hrun]
  exact h v' w' h2 h3 h5

/-- A block that a reading keeps: not the reader, not its row. -/
def Safe (R : Nat) (rv : Value) (W : World) (k : Nat) : Prop := k < W.heap.size ∧ k ≠ R ∧ some k ≠ rv.ownBlock
/-- What a reading keeps: all blocks but the reader and its row. -/
structure Still (R : Nat) (rv rv' : Value) (w w' : World) : Prop where
  os : w'.os = w.os
  tape : w'.tape = w.tape
  output : w'.output = w.output
  size : w.heap.size ≤ w'.heap.size
  block : ∀ k, Safe R rv w k → w'.heap[k]? = w.heap[k]?
  own : rv'.ownBlock = rv.ownBlock ∨ ∃ k, rv'.ownBlock = some k ∧ w.heap.size ≤ k
section
variable {R k : Nat} {rv rv' rv2 : Value} {a w w' w2 : World}
theorem Still.refl (R : Nat) (rv : Value) (w : World) : Still R rv rv w w := ⟨rfl, rfl, rfl, Nat.le_refl _, fun _ _ => rfl, .inl rfl⟩
theorem Still.safe (h : Still R rv rv' w w') (hs : Safe R rv w k) : Safe R rv' w' k := by
  refine ⟨Nat.lt_of_lt_of_le hs.1 h.size, hs.2.1, ?_⟩
  rcases h.own with e | ⟨j, e, hj⟩
  · rw [e]; exact hs.2.2
  · rw [e]
    intro e2
    injection e2 with e2
    have := hs.1
    omega
theorem Still.trans (h : Still R rv rv' a w) (h2 : Still R rv' rv2 w w2) : Still R rv rv2 a w2 := by
  refine ⟨h2.os.trans h.os, h2.tape.trans h.tape, h2.output.trans h.output, Nat.le_trans h.size h2.size, fun k hk => (h2.block k (h.safe hk)).trans (h.block k hk), ?_⟩
  rcases h2.own with e | ⟨j, e, hj⟩
  · rw [e]; exact h.own
  · exact .inr ⟨j, e, Nat.le_trans h.size hj⟩
theorem Still.alloc (h : Still R rv rv' a w) (o : Obj) : Still R rv rv' a (w.alloc o) :=
  h.trans ⟨rfl, rfl, rfl, by simp, fun k hk => Below.heap_alloc _ _ _ hk.1, .inl rfl⟩
theorem Still.drew (h : Still R rv rv' a w) : Still R rv rv' a w.drew := ⟨h.os, h.tape, h.output, h.size, h.block, h.own⟩
theorem Still.drewN (h : Still R rv rv' a w) (n : Nat) : Still R rv rv' a (w.drewN n) := ⟨h.os, h.tape, h.output, h.size, h.block, h.own⟩
theorem Still.setR (h : Still R rv rv' a w) {p : Addr} (hp : p.block = R) (u : Value) : Still R rv rv' a (w.setCell p u) :=
  h.trans ⟨rfl, rfl, rfl, by simp [World.setCell], fun k hk => Below.heap_setCell _ _ _ _ (by rw [hp]; exact hk.2.1), .inl rfl⟩
/-- A store into a block made since. -/
theorem Still.setNew (h : Still R rv rv' a w) {p : Addr} (hp : a.heap.size ≤ p.block) (u : Value) : Still R rv rv' a (w.setCell p u) :=
  ⟨h.os, h.tape, h.output, by have := h.size; simpa [World.setCell] using this, fun k hk => (Below.heap_setCell _ _ _ _ (by have := hk.1; omega)).trans (h.block k hk), h.own⟩
theorem Still.grown (h : Still R rv rv' a w) (hg : w.grownBy w' rv'.ownBlock) (ho : rv2.ownBlock = rv'.ownBlock ∨ rv2.ownBlock = some w.heap.size) : Still R rv rv2 a w' :=
  h.trans ⟨hg.os, hg.tape, hg.output, hg.size, fun k hk => hg.block k hk.1 hk.2.2, ho.imp id fun e => ⟨_, e, Nat.le_refl _⟩⟩
theorem Still.below (h : Below w.heap.size w w') (rv : Value) : Still R rv rv w w' := ⟨h.os, h.tape, h.output, h.size, fun k hk => h.block k hk.1, .inl rfl⟩
end

/-- The slice at A holds the cells xs, in a block that a reading keeps. -/
def SRow (R : Nat) (rv : Value) (W : World) (A : Option Addr) (xs : List Value) : Prop := xs ≠ [] → ∃ ad, A = some ad ∧ Safe R rv W ad.block ∧ ∀ j u, xs[j]? = some u → W.cell? (ad.add j) = some u
section
variable {R : Nat} {rv rv' : Value} {w w' : World} {A : Option Addr} {xs : List Value}
theorem SRow.row (h : SRow R rv w A xs) : Row w w.heap.size A xs := fun hn => by
  obtain ⟨ad, e, hb, hc⟩ := h hn
  exact ⟨ad, e, hb.1, hc⟩
end
def ints (l : List Int) : List Value := l.map (Value.int .i64)
theorem ints_length (l : List Int) : (ints l).length = l.length := by simp [ints]
section
variable {R M c : Nat} {A : Option Addr} {l : List Lx.Tk} {s : Rl.St} {rv rv' : Value} {w w' : World}
end
end Go.Proofs.YtipbilmnknmhmaaGreatDoor

/- Walks of the reader's small methods. -/
namespace Go.Proofs.YtipbilmnknmhmaaGreatDoor
set_option maxRecDepth 100000
open Go.RowKit Go.Shelf

theorem str_beq (a b : ByteArray) : (a.toList == b.toList) = decide (a = b) := by
  rw [Bool.eq_iff_iff, decide_eq_true_eq, beq_iff_eq, Lib.toList_data, Lib.toList_data]
  constructor
  · intro e
    rw [← Lib.mk_data a, ← Lib.mk_data b, e]
  · intro e
    rw [e]
theorem blk_grow {W W' : World} {o : Obj} {g : Nat} {t : TypeId} {cs : Array Value} {row : Option Nat} (hb : Blk W g t cs) (hne : some g ≠ row) (hgr : ((W.alloc o).drew).grownBy W' row) : Blk W' g t cs :=
  (hgr.block g (hb.alloc o).lt hne).trans (hb.alloc o)
theorem cell_one_new (w : World) (t : TypeId) (u : Value) : ∀ j v, [u][j]? = some v → (w.alloc (.cells #[u] t)).drew.cell? ((⟨w.heap.size, 0, none⟩ : Addr).add j) = some v := fun j v hv => cells_new w [u] t j v hv
end Go.Proofs.YtipbilmnknmhmaaGreatDoor

/- Walks of ofTwo and of done: a pile's last two things, and one number of a rule. -/
namespace Go.Proofs.YtipbilmnknmhmaaGreatDoor
set_option maxRecDepth 100000
open Go.RowKit Go.Shelf

/- One number of a rule. -/
end Go.Proofs.YtipbilmnknmhmaaGreatDoor

/- The walk of Right, and of Uses. -/
namespace Go.Proofs.YtipbilmnknmhmaaGreatDoor
set_option maxRecDepth 100000
open Go.RowKit Go.Shelf

/-- A bool is answered, and old memory stays. -/
def Tells (w : World) (b : Bool) (e : Ending) (w' : World) : Prop := e = .returned (.bool b) ∧ Below w.heap.size w w'

end Go.Proofs.YtipbilmnknmhmaaGreatDoor

/- The walk of Uses. -/
namespace Go.Proofs.YtipbilmnknmhmaaGreatDoor
set_option maxRecDepth 100000
open Go.RowKit Go.Shelf
namespace Rl
def usesOf (r : List Int) : Nat := (if (8 : Int) ∈ r then 1 else 0) + (if (9 : Int) ∈ r then 2 else 0) + (if (10 : Int) ∈ r then 4 else 0) + (if (11 : Int) ∈ r then 8 else 0)
def made (r : List Int) : Bool := right r false || right r true
end Rl
/-- What Uses answers. -/
def UsesRes (w : World) (rule : List Int) (e : Ending) (w' : World) : Prop :=
  e = .returned (.tuple #[.int .u32 (if Rl.made rule = true then (Rl.usesOf rule : Nat) else 0 : Int), .int .i64 (if Rl.made rule = true then 0 else 1)]) ∧ Below w.heap.size w w'
theorem UsesRes.no {w w' : World} {rule : List Int} (h : Rl.made rule = false) (hb : Below w.heap.size w w') : UsesRes w rule (.returned (.tuple #[.int .u32 0, .int .i64 1])) w' := by
  unfold UsesRes
  rw [if_neg (by rw [h]; decide), if_neg (by rw [h]; decide)]
  exact ⟨rfl, hb⟩
theorem UsesRes.yes {w w' : World} {rule : List Int} (h : Rl.made rule = true) (hb : Below w.heap.size w w') : UsesRes w rule (.returned (.tuple #[.int .u32 (Rl.usesOf rule : Nat), .int .i64 0])) w' := by
  unfold UsesRes
  rw [if_pos h, if_pos h]
  exact ⟨rfl, hb⟩

end Go.Proofs.YtipbilmnknmhmaaGreatDoor

/- The walk of what stands between brackets. -/
namespace Go.Proofs.YtipbilmnknmhmaaGreatDoor
set_option maxRecDepth 100000
open Go.RowKit Go.Shelf

end Go.Proofs.YtipbilmnknmhmaaGreatDoor

/- The walk of an atom. -/
namespace Go.Proofs.YtipbilmnknmhmaaGreatDoor
set_option maxRecDepth 100000
open Go.RowKit Go.Shelf
attribute [local go_sem] Oper.semAt_some

end Go.Proofs.YtipbilmnknmhmaaGreatDoor

/- Walks of flow and of prim. -/
namespace Go.Proofs.YtipbilmnknmhmaaGreatDoor
set_option maxRecDepth 100000
open Go.RowKit Go.Shelf
attribute [local go_sem] Oper.semAt_some

end Go.Proofs.YtipbilmnknmhmaaGreatDoor

/- The walk of rows: parts with words between them. -/
namespace Go.Proofs.YtipbilmnknmhmaaGreatDoor
set_option maxRecDepth 100000
open Go.RowKit Go.Shelf

namespace Rl
end Rl

end Go.Proofs.YtipbilmnknmhmaaGreatDoor

/- The walks of cond and of label, by the depth; and of From. -/
namespace Go.Proofs.YtipbilmnknmhmaaGreatDoor
set_option maxRecDepth 100000
open Go.RowKit Go.Shelf
attribute [local go_sem] Oper.semAt_some

section
variable {R M c : Nat} {A : Option Addr} {l : List Lx.Tk}
end

/-- A slice of numbers. -/
def IsInts (w : World) (B : Nat) (v : Value) (l : List Int) : Prop := ∃ A c, v = .slice A l.length c ∧ Row w B A (ints l) ∧ l.length ≤ c
theorem IsInts.below {w w' : World} {B : Nat} {v : Value} {l : List Int} (h : IsInts w B v l) (hb : Below B w w') : IsInts w' B v l := by
  obtain ⟨A, c, e, hr, hc⟩ := h
  exact ⟨A, c, e, hr.below hb, hc⟩
theorem IsInts.more {w : World} {B B' : Nat} {v : Value} {l : List Int} (h : IsInts w B v l) (hB : B ≤ B') : IsInts w B' v l := by
  obtain ⟨A, c, e, hr, hc⟩ := h
  exact ⟨A, c, e, hr.more hB, hc⟩
theorem IsInts.nil (w : World) (B : Nat) : IsInts w B (.slice none 0 0) [] := ⟨none, 0, rfl, Row.nil, Nat.le_refl _⟩
namespace Rl
/-- May tokens be read from a place on? -/
def may (l : List Lx.Tk) (i : Int) : Bool := decide (0 ≤ i ∧ i < l.length ∧ ∃ t, l[l.length - 1]? = some t ∧ t.kind = 0)
def told (r : Res) : List Int × Nat × Nat := if r.2 = 0 then (r.1.out, r.1.pos, 0) else ([], r.1.pos, r.2)
/-- What From answers. -/
def from_ (l : List Lx.Tk) (i : Int) (lab : Bool) : List Int × Nat × Nat := if may l i = true then told (read l lab i.toNat) else ([], 0, 1)
end Rl
def FromRes (w : World) (r : List Int × Nat × Nat) (e : Ending) (w' : World) : Prop :=
  ∃ v, e = .returned (.tuple #[v, .int .i64 (r.2.1 : Int), .int .i64 (r.2.2 : Int)]) ∧ IsInts w' w'.heap.size v r.1 ∧ Below w.heap.size w w'
/-- What From answers, in memory of its own. -/
def NewAt (B : Nat) (v : Value) : Prop := ∀ ad n c, v = .slice (some ad) n c → B ≤ ad.block
def FromNew (w : World) (r : List Int × Nat × Nat) (e : Ending) (w' : World) : Prop :=
  ∃ v, e = .returned (.tuple #[v, .int .i64 (r.2.1 : Int), .int .i64 (r.2.2 : Int)]) ∧ IsInts w' w'.heap.size v r.1 ∧ Below w.heap.size w w' ∧ NewAt w.heap.size v
theorem FromNew.res {w w' : World} {r : List Int × Nat × Nat} {e : Ending} (h : FromNew w r e w') : FromRes w r e w' := by
  obtain ⟨v, h1, h2, h3, _⟩ := h
  exact ⟨v, h1, h2, h3⟩
end Go.Proofs.YtipbilmnknmhmaaGreatDoor

/- Tables over plain data: what may be, what a text tells; what is written is read. -/
namespace Go.Proofs.YtipbilmnknmhmaaGreatDoor
set_option maxRecDepth 100000
namespace Tb
open Sh (Tree Ok post toks txt deep At)
open Lx (Tk kt pack)

/-- A row's rules. -/
structure PR where
  m : List Int
  r : List Int
  p : List Int
deriving DecidableEq
def PR.none : PR := ⟨[], [], []⟩
def PR.put (x : PR) (j : Nat) (v : List Int) : PR := if j = 0 then { x with m := v } else if j = 1 then { x with r := v } else { x with p := v }
def useOf (l : List Int) : Nat := if Rl.made l = true then Rl.usesOf l else 0
def over (op : Nat) (l : List Int) : Bool := decide (useOf l / 2 ^ (1 + arity op) ≠ 0)
def labE (op : Nat) (x : PR) : Nat := if (over op x.m || (over op x.r || over op x.p)) = true then 7 else 0
/-! What a text tells. -/
def tok (l : List Tk) (k : Nat) : Tk := l.getD k ⟨0, ByteArray.empty, 0⟩
def find (s : ByteArray) : Option Nat := (List.range 13).find? fun op => decide (word op = s)
structure St where
  pos : Nat
  rows : List PR
  had : List Bool
def wordP (l : List Tk) (s : St) : St × Nat × Nat :=
  if (tok l s.pos).kind = 1 then
    (match find (tok l s.pos).text with
      | none => (s, 0, 6)
      | some op => if s.had.getD op false = true then (s, 0, 6) else ({ s with had := s.had.set op true, pos := s.pos + 1 }, op, 0))
  else (s, 0, 4)
def markP (l : List Tk) (m : ByteArray) (s : St) : St × Nat := if (tok l s.pos).text = m then ({ s with pos := s.pos + 1 }, 0) else (s, 4)
def partP (l : List Tk) (op j : Nat) (s : St) : St × Nat :=
  if (Rl.from_ l s.pos (decide (j ≠ 0))).2.2 = 0 then
    markP l mSemi { s with pos := (Rl.from_ l s.pos (decide (j ≠ 0))).2.1, rows := s.rows.set op ((s.rows.getD op PR.none).put j (Rl.from_ l s.pos (decide (j ≠ 0))).1) }
  else ({ s with pos := (Rl.from_ l s.pos (decide (j ≠ 0))).2.1 }, (Rl.from_ l s.pos (decide (j ≠ 0))).2.2)
/-- Rules j to 2 of a row. -/
def partsP (l : List Tk) (op : Nat) : Nat → Nat → St → St × Nat
  | 0, _, s => (s, 0)
  | n + 1, j, s => if (partP l op j s).2 = 0 then partsP l op n (j + 1) (partP l op j s).1 else partP l op j s
def endP (op i : Nat) (r : St × Nat) : St × Nat :=
  if r.2 = 0 then (if labE op (r.1.rows.getD op PR.none) = 0 then r else ({ r.1 with pos := i }, 7)) else r
def rowP (l : List Tk) (s : St) : St × Nat :=
  if (wordP l s).2.2 = 0 then
    (if (markP l mColon (wordP l s).1).2 = 0 then endP (wordP l s).2.1 s.pos (partsP l (wordP l s).2.1 3 0 (markP l mColon (wordP l s).1).1)
     else markP l mColon (wordP l s).1)
  else ((wordP l s).1, (wordP l s).2.2)
def tableP (l : List Tk) : Nat → St → St × Nat
  | 0, s => (s, 0)
  | n + 1, s => if (tok l s.pos).kind = 0 then (if s.had.contains false = true then (s, 9) else (s, 0))
    else if (rowP l s).2 = 0 then tableP l n (rowP l s).1 else rowP l s
def start : St := ⟨0, List.replicate 13 PR.none, List.replicate 13 false⟩
def parseL (x : List Tk × Nat × Nat) : List PR × Int × Nat :=
  if x.2.2 = 0 then (if (tableP x.1 x.1.length start).2 = 0 then ((tableP x.1 x.1.length start).1.rows, 0, 0) else ([], (tok x.1 (tableP x.1 x.1.length start).1.pos).pos, (tableP x.1 x.1.length start).2))
  else ([], x.2.1, x.2.2)
def parse (s : List UInt8) : List PR × Int × Nat := parseL (Lx.lex s)

/-! What is written is read. -/
/-- The last token is the end. -/
def Fine (l : List Tk) : Prop := ∃ p, l[l.length - 1]? = some ⟨0, ByteArray.empty, p⟩
theorem Fine.may {l : List Tk} (h : Fine l) {i : Nat} (hi : i < l.length) : Rl.may l i = true := by
  obtain ⟨p, hp⟩ := h
  exact decide_eq_true ⟨by omega, by omega, _, hp, rfl⟩
theorem Fine.from_ {l : List Tk} (h : Fine l) {i : Nat} (hi : i < l.length) (b : Bool) : Rl.from_ l i b = Rl.told (Rl.read l b i) := by
  rw [Rl.from_, if_pos (h.may hi), Int.toNat_natCast]
theorem find_word {op : Nat} (h : op < 13) : find (word op) = some op := by
  have h1 : ∀ op < 13, find (word op) = some op := by decide +kernel
  exact h1 op h
theorem find_some {s : ByteArray} {op : Nat} (h : find s = some op) : op < 13 ∧ word op = s := by
  have h1 := List.find?_some h
  have h2 := List.mem_of_find?_eq_some h
  exact ⟨List.mem_range.1 h2, of_decide_eq_true h1⟩
end Tb
end Go.Proofs.YtipbilmnknmhmaaGreatDoor

/- Tables over plain data: where a reading stands; what is read may be. -/
namespace Go.Proofs.YtipbilmnknmhmaaGreatDoor
set_option maxRecDepth 100000
namespace Tb
open Lx (Tk kt pack)

theorem lex_fine {s : List UInt8} {l : List Tk} {a : Nat} (h : Lx.lex s = (l, a, 0)) : Fine l ∧ 0 < l.length ∧ l.length ≤ 200 ∧ a = 0 := by
  obtain ⟨ts, rfl, h2, _⟩ := Lx.lex_ok h
  refine ⟨⟨(s.length : Nat), by simp⟩, by simp, by simp; omega, ?_⟩
  unfold Lx.lex at h
  by_cases h1 : 2000 < s.length
  · rw [if_pos h1] at h
    exact absurd (show (8 : Nat) = 0 from congrArg (fun x => x.2.2) h) (by decide)
  · rw [if_neg h1] at h
    by_cases h3 : (Lx.toks s.length s 0).2 < s.length
    · rw [if_pos h3] at h
      exact absurd (show (4 : Nat) = 0 from congrArg (fun x => x.2.2) h) (by decide)
    · rw [if_neg h3] at h
      by_cases h4 : 200 < (Lx.toks s.length s 0).1.length + 1
      · rw [if_pos h4] at h
        exact absurd (show (8 : Nat) = 0 from congrArg (fun x => x.2.2) h) (by decide)
      · rw [if_neg h4] at h
        exact (congrArg (fun x => x.2.1) h).symm
section
variable {l : List Tk}
theorem tok_some {k : Nat} (h : k < l.length) : l[k]? = some (tok l k) := by
  unfold tok
  rw [List.getD_eq_getElem?_getD, List.getElem?_eq_getElem h]
  rfl
theorem tok_not_last (hf : Fine l) {k : Nat} (h : k < l.length) (hk : (tok l k).kind ≠ 0 ∨ (tok l k).text ≠ ByteArray.empty) : k + 1 < l.length := by
  obtain ⟨p, hp⟩ := hf
  by_cases e : k = l.length - 1
  · subst e
    rw [tok_some h] at hp
    injection hp with hp
    rw [hp] at hk
    rcases hk with h1 | h1 <;> exact absurd rfl h1
  · omega
end
theorem parse_none {s : List UInt8} (h : (parse s).2.2 ≠ 0) : (parse s).1 = [] := by
  unfold parse parseL at h ⊢
  split
  · split
    · rename_i h1 h2
      rw [if_pos h1, if_pos h2] at h
      exact absurd rfl h
    · rfl
  · rfl
end Tb
end Go.Proofs.YtipbilmnknmhmaaGreatDoor

/- The walk of From. -/
namespace Go.Proofs.YtipbilmnknmhmaaGreatDoor
set_option maxRecDepth 100000
open Go.RowKit Go.Shelf
attribute [local go_sem] Oper.semAt_some

theorem FromNew.bad {w w' : World} (a n : Nat) (hb : Below w.heap.size w w') : FromNew w ([], a, n) (.returned (.tuple #[.slice none 0 0, .int .i64 (a : Int), .int .i64 (n : Int)])) w' := ⟨_, rfl, IsInts.nil _ _, hb, fun _ _ _ e => by cases e⟩
end Go.Proofs.YtipbilmnknmhmaaGreatDoor

/- Walks of the reference: two, Made, Right, Has, Uses, Same. -/
namespace Go.Proofs.YtipbilmnknmhmaaGreatDoor
set_option maxRecDepth 100000
open Go.RowKit Go.Shelf

end Go.Proofs.YtipbilmnknmhmaaGreatDoor

/- The walk of the reference's Made. -/
namespace Go.Proofs.YtipbilmnknmhmaaGreatDoor
set_option maxRecDepth 100000
open Go.RowKit Go.Shelf

end Go.Proofs.YtipbilmnknmhmaaGreatDoor

/- Walks of the reference's Right, Has, Uses, Same. -/
namespace Go.Proofs.YtipbilmnknmhmaaGreatDoor
set_option maxRecDepth 100000
open Go.RowKit Go.Shelf

end Go.Proofs.YtipbilmnknmhmaaGreatDoor

/- Walks of the law's few and alive. -/
namespace Go.Proofs.YtipbilmnknmhmaaGreatDoor
set_option maxRecDepth 100000
open Go.RowKit Go.Shelf

def FewR (w : World) (v : Value) (l : List Lx.Tk) (wr : World) : Prop := wr.ownsRow w.heap.size 94 3 v l.length (tcells l) ∧ Below w.heap.size w wr
theorem FewR.step {w : World} {v v' : Value} {l : List Lx.Tk} {t : Lx.Tk} {wr w' : World} {o o2 : Obj} (h : FewR w v l wr) (hown : w'.ownsRow w.heap.size 94 3 v' (l.length + 1) (tcells l ++ [.int .i64 t.kind, .string t.text, .int .i64 t.pos]))
    (hg : ((wr.alloc o).alloc o2).grownBy w' v.ownBlock) : FewR w v' (l ++ [t]) w' := by
  obtain ⟨h1, h2⟩ := h
  refine ⟨?_, ?_⟩
  · rw [tcells_snoc, List.length_append]; exact hown
  · have := h2.size
    exact ((h2.alloc h2.size o).alloc (by simp; omega) o2).grown hg (by simp; omega) (fun k he => (h1.lt k he).1)
/- The law's alive. -/
end Go.Proofs.YtipbilmnknmhmaaGreatDoor
