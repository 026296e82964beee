/- The reader of tokens in memory (package notation), by gen_notg.py; walks of Next, takes, must, Word, Mark, TakesWord, TakesMark, digits. -/
import Derived.Test.YtjobifclmcdjcaaGreatDoorGCodA
import Derived.Test.YtjobifclmcdjcaaGreatDoorGOrd
import Derived.Test.YtjobifclmcdjcaaGreatDoorGTabE
import Derived.Test.YtjobifclmcdjcaaGreatDoorGOrdC
namespace Go.Proofs.YtjobifclmcdjcaaGreatDoor
set_option maxRecDepth 100000
open Go.RowKit Go.Shelf
attribute [local go_sem] Oper.semAt_some

/-- What lies below the reader while tokens are read. -/
structure NOld (R : Nat) (N U A : Option Addr) (c1 c2 ct : Nat) (names : List ByteArray) (up : List Nat) (l : List Lx.Tk) (W : World) : Prop where
  lat : IsLat W R (.agg #[.slice N names.length c1, .slice U up.length c2]) names up
  toks : Row W R A (tcells l)
  many : l.length ≤ 100000
theorem Kept.setNew {R Q : Nat} {a w : World} (h : Kept R Q a w) {p : Addr} (hp : a.heap.size ≤ p.block) (u : Value) : Kept R Q a (w.setCell p u) :=
  ⟨h.os, h.tape, h.output, by have := h.size; simpa [World.setCell] using this, fun k hk hR hQ => (Below.heap_setCell _ _ _ _ (by omega)).trans (h.block k hk hR hQ)⟩
section
variable {R c1 c2 ct p q : Nat} {N U A : Option Addr} {names : List ByteArray} {up : List Nat} {l : List Lx.Tk} {w w' : World}
theorem NOld.below (h : NOld R N U A c1 c2 ct names up l w) (hb : Below R w w') : NOld R N U A c1 c2 ct names up l w' :=
  ⟨h.lat.below hb, h.toks.below hb, h.many⟩
end
end Go.Proofs.YtjobifclmcdjcaaGreatDoor

/- The reference's Mark, Int (by gen_codb.py). -/
namespace Go.Proofs.YtjobifclmcdjcaaGreatDoor
set_option maxRecDepth 100000
open Go.RowKit Go.Shelf Go.Sort
attribute [local go_sem] Oper.semAt_some
/-- The reference's state: place, number, instruction, error. -/
structure RP where
  i : Nat
  n : Int
  x : Cd.In
  e : Nat
end Go.Proofs.YtjobifclmcdjcaaGreatDoor

/- Walks of the reader's Number and Label (package notation), by gen_noth.py. -/
namespace Go.Proofs.YtjobifclmcdjcaaGreatDoor
set_option maxRecDepth 100000
open Go.RowKit Go.Shelf Go.Sort
attribute [local go_sem] Oper.semAt_some
section
variable {R c1 c2 ct p q : Nat} {N U A : Option Addr} {names : List ByteArray} {up : List Nat} {l : List Lx.Tk} {w w' : World}
end
end Go.Proofs.YtjobifclmcdjcaaGreatDoor

/- Walk of the reader's rest (by gen_codi.py). -/
namespace Go.Proofs.YtjobifclmcdjcaaGreatDoor
set_option maxRecDepth 100000
open Go.RowKit Go.Shelf Go.Sort
attribute [local go_sem] Oper.semAt_some
section
variable {R Q M c1 c2 ct p q : Nat} {N U A : Option Addr} {names : List ByteArray} {up : List Nat} {l : List Lx.Tk} {rv : Value} {out : List Cd.In} {w w' W : World}
/-- rest's two instructions: what it answers, and what is read so far. -/
structure Loc (R : Nat) (w W : World) (y x : Cd.In) : Prop where
  res : Blk W w.heap.size 57 #[.int .i64 y.op, .int .i64 y.n, .int .i64 y.l]
  loc : Blk W (w.heap.size + 1) 57 #[.int .i64 x.op, .int .i64 x.n, .int .i64 x.l]
  kept : Kept R R w W
theorem Loc.keep {x y : Cd.In} (h : Loc R w W y x) (hR : R < w.heap.size) (hk : Kept R R W w') : Loc R w w' y x :=
  ⟨(hk.block _ h.res.lt (by omega) (by omega)).trans h.res, (hk.block _ h.loc.lt (by omega) (by omega)).trans h.loc, h.kept.trans hk⟩
/-- The answer is stored. -/
def ansd (w W : World) (x : Cd.In) : World := ((W.setCell ⟨w.heap.size, 0, none⟩ (.int .i64 x.op)).setCell ⟨w.heap.size, 1, none⟩ (.int .i64 x.n)).setCell ⟨w.heap.size, 2, none⟩ (.int .i64 x.l)
theorem Loc.setR {x y : Cd.In} (h : Loc R w W y x) : Loc R w (ansd w W x) x x :=
  ⟨((h.res.set_ 0 _).set_ 1 _).set_ 2 _, ((h.loc.other (by show w.heap.size ≠ _; omega) _).other (by show w.heap.size ≠ _; omega) _).other (by show w.heap.size ≠ _; omega) _,
    ((h.kept.setNew (Nat.le_refl _) _).setNew (Nat.le_refl _) _).setNew (Nat.le_refl _) _⟩
theorem Loc.drew {x y : Cd.In} (h : Loc R w W y x) : Loc R w W.drew y x := ⟨h.res, h.loc, h.kept.os, h.kept.tape, h.kept.output, h.kept.size, h.kept.block⟩
theorem Loc.cells {x y : Cd.In} (h : Loc R w W y x) : (W.cell? ⟨w.heap.size + 1, 0, none⟩ = some (.int .i64 x.op) ∧ W.cell? ⟨w.heap.size + 1, 1, none⟩ = some (.int .i64 x.n) ∧ W.cell? ⟨w.heap.size + 1, 2, none⟩ = some (.int .i64 x.l)) ∧
    (W.cell? ⟨w.heap.size, 0, none⟩ = some (.int .i64 y.op) ∧ W.cell? ⟨w.heap.size, 1, none⟩ = some (.int .i64 y.n) ∧ W.cell? ⟨w.heap.size, 2, none⟩ = some (.int .i64 y.l)) ∧
    (W.frozen? ⟨w.heap.size, 0, none⟩ = false ∧ W.frozen? ⟨w.heap.size, 1, none⟩ = false ∧ W.frozen? ⟨w.heap.size, 2, none⟩ = false) ∧ W.frozen? ⟨w.heap.size + 1, 1, none⟩ = false ∧ W.frozen? ⟨w.heap.size + 1, 2, none⟩ = false :=
  ⟨⟨h.loc.cell 0, h.loc.cell 1, h.loc.cell 2⟩, ⟨h.res.cell 0, h.res.cell 1, h.res.cell 2⟩, ⟨h.res.frozen 0, h.res.frozen 1, h.res.frozen 2⟩, h.loc.frozen 1, h.loc.frozen 2⟩
theorem Loc.start (op : Int) : Loc R w ((w.alloc (.cells #[.int .i64 0, .int .i64 0, .int .i64 0] 57)).alloc (.cells #[.int .i64 op, .int .i64 0, .int .i64 0] 57)) ⟨0, 0, 0⟩ ⟨op, 0, 0⟩ := by
  have h0 : (w.alloc (.cells #[.int .i64 0, .int .i64 0, .int .i64 0] 57)).heap.size = w.heap.size + 1 := by simp
  have h1 := Blk.new (w.alloc (.cells #[.int .i64 0, .int .i64 0, .int .i64 0] 57)) 57 #[.int .i64 op, .int .i64 0, .int .i64 0]
  rw [h0] at h1
  exact ⟨(Blk.new _ _ _).alloc _, h1, .of (((Below.refl _ w).alloc (Nat.le_refl _) _).alloc (by simp) _)⟩
end
end Go.Proofs.YtjobifclmcdjcaaGreatDoor

/- Walk of the reader's instruction. -/
namespace Go.Proofs.YtjobifclmcdjcaaGreatDoor
set_option maxRecDepth 100000
open Go.RowKit Go.Shelf Go.Sort
attribute [local go_sem] Oper.semAt_some
theorem Tryz.infoInstr : (Tryz.prog.info? 57).map (fun i => (i.zero, i.size, i.bytes)) = some (some (.agg #[.int .i64 0, .int .i64 0, .int .i64 0]), 3, 24) := by kernel_rfl
section
variable {R Q M c1 c2 ct p q : Nat} {N U A : Option Addr} {names : List ByteArray} {up : List Nat} {l : List Lx.Tk} {rv : Value} {out : List Cd.In} {w w' W : World}
end
end Go.Proofs.YtjobifclmcdjcaaGreatDoor

/- Rows of things of several cells; rows in new blocks. Over no program but what CodA names. -/
namespace Go.Proofs.YtjobifclmcdjcaaGreatDoor
set_option maxRecDepth 100000
open Go.RowKit Go.Shelf
/-! Rows of things of several cells. -/
def fcells {α : Type} (f : α → List Value) (l : List α) : List Value := l.flatMap f
theorem fcells_length {α : Type} {f : α → List Value} {n : Nat} (hf : ∀ x, (f x).length = n) (l : List α) : (fcells f l).length = l.length * n := by
  induction l with
  | nil => simp [fcells]
  | cons e r ih =>
    have : fcells f (e :: r) = f e ++ fcells f r := rfl
    rw [this, List.length_append, hf, ih, List.length_cons, Nat.succ_mul]
    omega
theorem fcells_snoc {α : Type} (f : α → List Value) (l : List α) (t : α) : fcells f (l ++ [t]) = fcells f l ++ f t := by simp [fcells]
theorem fcells_at {α : Type} {f : α → List Value} {n : Nat} (hf : ∀ x, (f x).length = n) : ∀ (l : List α) (k : Nat) (t : α), l[k]? = some t → ∀ j, j < n → (fcells f l)[k * n + j]? = (f t)[j]?
  | [], k, t, h, _, _ => by simp at h
  | e :: r, 0, t, h, j, hj => by
    simp only [List.getElem?_cons_zero, Option.some.injEq] at h
    subst h
    rw [show fcells f (e :: r) = f e ++ fcells f r from rfl, Nat.zero_mul, Nat.zero_add, List.getElem?_append_left (by rw [hf]; exact hj)]
  | e :: r, k + 1, t, h, j, hj => by
    have ih := fcells_at hf r k t (by simpa using h) j hj
    rw [show fcells f (e :: r) = f e ++ fcells f r from rfl, List.getElem?_append_right (by rw [hf, Nat.succ_mul]; omega), hf, ← ih]
    congr 1
    rw [Nat.succ_mul]
    omega
def ivs (x : Cd.In) : List Value := [.int .i64 x.op, .int .i64 x.n, .int .i64 x.l]
theorem icells_f (l : List Cd.In) : icells l = fcells ivs l := rfl
theorem ivs_len (x : Cd.In) : (ivs x).length = 3 := rfl
/-- A row in a block not older than B. -/
def NRow (B : Nat) (W : World) (A : Option Addr) (xs : List Value) : Prop := xs ≠ [] → ∃ ad, A = some ad ∧ (B ≤ ad.block ∧ ad.block < W.heap.size) ∧ ∀ j u, xs[j]? = some u → W.cell? (ad.add j) = some u
/-- A slice of such things, in a block not older than B. -/
def KN {α : Type} (f : α → List Value) (B : Nat) (w : World) (v : Value) (l : List α) : Prop := ∃ A c, v = .slice A l.length c ∧ NRow B w A (fcells f l) ∧ l.length ≤ c
section
variable {α : Type} {f : α → List Value} {w w' : World} {B B' R : Nat} {v : Value} {l : List α}
theorem KN.of_block (h : KN f B w v l) (hs : w.heap.size ≤ w'.heap.size) (hb : ∀ k, B ≤ k → k < w.heap.size → w'.heap[k]? = w.heap[k]?) : KN f B w' v l := by
  obtain ⟨A, c, e, hr, hc⟩ := h
  refine ⟨A, c, e, fun hn => ?_, hc⟩
  obtain ⟨ad, ea, ⟨h1, h2⟩, hcl⟩ := hr hn
  exact ⟨ad, ea, ⟨h1, Nat.lt_of_lt_of_le h2 hs⟩, fun j u hu => (World.cell?_of_block (w := w) (by rw [add_block]; exact hb _ h1 h2)).trans (hcl j u hu)⟩
theorem KN.kept (h : KN f B w v l) (hR : R < B) (hk : Kept R R w w') : KN f B w' v l := h.of_block hk.size fun k h1 h2 => hk.block k h2 (by omega) (by omega)
theorem KN.below (h : KN f B w v l) (hb : Below w.heap.size w w') : KN f B w' v l := h.of_block hb.size fun k _ h2 => hb.block k h2
theorem KN.set_ (h : KN f B w v l) {p : Addr} (hp : p.block < B) (u : Value) : KN f B (w.setCell p u) v l := h.of_block (by simp [World.setCell]) fun k h1 _ => Below.heap_setCell _ _ _ _ (by omega)
theorem KN.less (h : KN f B w v l) (hB : B' ≤ B) : KN f B' w v l := by
  obtain ⟨A, c, e, hr, hc⟩ := h
  refine ⟨A, c, e, fun hn => ?_, hc⟩
  obtain ⟨ad, ea, ⟨h1, h2⟩, hcl⟩ := hr hn
  exact ⟨ad, ea, ⟨Nat.le_trans hB h1, h2⟩, hcl⟩
theorem KN.row (h : KN f B w v l) : ∃ A c, v = .slice A l.length c ∧ Row w w.heap.size A (fcells f l) ∧ l.length ≤ c := by
  obtain ⟨A, c, e, hr, hc⟩ := h
  refine ⟨A, c, e, fun hn => ?_, hc⟩
  obtain ⟨ad, ea, ⟨h1, h2⟩, hcl⟩ := hr hn
  exact ⟨ad, ea, h2, hcl⟩
theorem KN.nil (f : α → List Value) (B : Nat) (w : World) : KN f B w (.slice none 0 0) [] := ⟨none, 0, rfl, fun h => absurd rfl h, Nat.le_refl _⟩
theorem KN.own {base sz : Nat} {e : TypeId} (h : w.ownsRow base e sz v l.length (fcells f l)) : KN f base w v l := by
  obtain ⟨A, c, rfl⟩ := ownT_slice h
  obtain ⟨hr, hc⟩ := ownT_row h
  refine ⟨A, c, rfl, fun hn => ?_, hc⟩
  obtain ⟨ad, e, hlt, hcl⟩ := hr hn
  have hob := h.lt ad.block (by rw [e]; rfl)
  exact ⟨ad, e, ⟨by omega, hlt⟩, hcl⟩
end
end Go.Proofs.YtjobifclmcdjcaaGreatDoor
