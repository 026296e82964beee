/- Walks of alone, within, between (by gen_sho.py). -/
import Derived.Handy
import Derived.StillTailTactics
import Derived.BigRegion
import Derived.BigQuiet
import Derived.Test.YtipbilmnknmhmaaGreatDoorGShoW
import Derived.Test.YtipbilmnknmhmaaGreatDoorGRulA
namespace Go.Proofs.YtipbilmnknmhmaaGreatDoor
set_option maxRecDepth 100000
open Go.RowKit Go.Shelf

end Go.Proofs.YtipbilmnknmhmaaGreatDoor

/- Walks of alone, within, between (by gen_sho.py). -/
namespace Go.Proofs.YtipbilmnknmhmaaGreatDoor
set_option maxRecDepth 100000
open Go.RowKit Go.Shelf

end Go.Proofs.YtipbilmnknmhmaaGreatDoor

/- The two piles in memory. -/
namespace Go.Proofs.YtipbilmnknmhmaaGreatDoor
set_option maxRecDepth 100000
open Go.RowKit Go.Shelf

section
variable {R : Nat} {vc vl : Value} {cs ls : List Sh.Th} {W w' : World}
end
end Go.Proofs.YtipbilmnknmhmaaGreatDoor

/- Walks of put, takeTwo, ofTwo (by gen_sho.py). -/
namespace Go.Proofs.YtipbilmnknmhmaaGreatDoor
set_option maxRecDepth 100000
open Go.RowKit Go.Shelf

end Go.Proofs.YtipbilmnknmhmaaGreatDoor

/- Walks of takeTwo (by gen_sho.py). -/
namespace Go.Proofs.YtipbilmnknmhmaaGreatDoor
set_option maxRecDepth 100000
open Go.RowKit Go.Shelf

end Go.Proofs.YtipbilmnknmhmaaGreatDoor

/- Walks of ofTwo (by gen_sho.py). -/
namespace Go.Proofs.YtipbilmnknmhmaaGreatDoor
set_option maxRecDepth 100000
open Go.RowKit Go.Shelf

/-- Two things, each in a block of its own, behind w1. -/
structure XY (w1 : World) (t : TypeId) (x y : Sh.Th) (W : World) : Prop where
  bx : Blk W w1.heap.size t #[.string x.s, .int .i64 x.b, .int .i64 x.d]
  bY : Blk W (w1.heap.size + 1) t #[.string y.s, .int .i64 y.b, .int .i64 y.d]
  below : Below w1.heap.size w1 W
section
variable {w1 W W' : World} {t : TypeId} {x y : Sh.Th}
theorem XY.start (w1 : World) (t : TypeId) (x y : Sh.Th) (n : Nat) : XY w1 t x y (((w1.alloc (.cells #[.string x.s, .int .i64 x.b, .int .i64 x.d] t)).alloc (.cells #[.string y.s, .int .i64 y.b, .int .i64 y.d] t)).drewN n) := by
  have hs : (w1.alloc (.cells #[.string x.s, .int .i64 x.b, .int .i64 x.d] t)).heap.size = w1.heap.size + 1 := by simp
  have h2 := Blk.new (w1.alloc (.cells #[.string x.s, .int .i64 x.b, .int .i64 x.d] t)) t #[.string y.s, .int .i64 y.b, .int .i64 y.d]
  rw [hs] at h2
  have hb := ((Below.refl w1.heap.size w1).alloc (Nat.le_refl _) (.cells #[.string x.s, .int .i64 x.b, .int .i64 x.d] t)).alloc (by simp) (.cells #[.string y.s, .int .i64 y.b, .int .i64 y.d] t)
  exact ⟨((Blk.new w1 t _).alloc _).drewN n, h2.drewN n, ⟨hb.os, hb.tape, hb.output, hb.size, hb.block⟩⟩
theorem XY.call (h : XY w1 t x y W) (hb : Below W.heap.size W W') : XY w1 t x y W' := ⟨h.bx.below hb h.bx.lt, h.bY.below hb h.bY.lt, h.below.trans (hb.mono h.below.size)⟩
theorem XY.drewN (h : XY w1 t x y W) (n : Nat) : XY w1 t x y (W.drewN n) := ⟨h.bx.drewN n, h.bY.drewN n, ⟨h.below.os, h.below.tape, h.below.output, h.below.size, h.below.block⟩⟩
theorem XY.setX (h : XY w1 t x y W) (z : Sh.Th) : XY w1 t z y (((W.setCell ⟨w1.heap.size, 0, none⟩ (.string z.s)).setCell ⟨w1.heap.size, 1, none⟩ (.int .i64 z.b)).setCell ⟨w1.heap.size, 2, none⟩ (.int .i64 z.d)) :=
  ⟨((h.bx.set_ 0 _).set_ 1 _).set_ 2 _, ((h.bY.other (by simp) _).other (by simp) _).other (by simp) _,
    ((h.below.setCell (p := ⟨w1.heap.size, 0, none⟩) (Nat.le_refl _) _).setCell (p := ⟨w1.heap.size, 1, none⟩) (Nat.le_refl _) _).setCell (p := ⟨w1.heap.size, 2, none⟩) (Nat.le_refl _) _⟩
theorem XY.setY (h : XY w1 t x y W) (z : Sh.Th) : XY w1 t x z (((W.setCell ⟨w1.heap.size + 1, 0, none⟩ (.string z.s)).setCell ⟨w1.heap.size + 1, 1, none⟩ (.int .i64 z.b)).setCell ⟨w1.heap.size + 1, 2, none⟩ (.int .i64 z.d)) :=
  ⟨((h.bx.other (by simp) _).other (by simp) _).other (by simp) _, ((h.bY.set_ 0 _).set_ 1 _).set_ 2 _,
    ((h.below.setCell (p := ⟨w1.heap.size + 1, 0, none⟩) (Nat.le_succ _) _).setCell (p := ⟨w1.heap.size + 1, 1, none⟩) (Nat.le_succ _) _).setCell (p := ⟨w1.heap.size + 1, 2, none⟩) (Nat.le_succ _) _⟩
theorem XY.facts (h : XY w1 t x y W) : W.cell? ⟨w1.heap.size, 0, none⟩ = some (.string x.s) ∧ W.cell? ⟨w1.heap.size, 1, none⟩ = some (.int .i64 x.b) ∧ W.cell? ⟨w1.heap.size, 2, none⟩ = some (.int .i64 x.d) ∧
    W.cell? ⟨w1.heap.size + 1, 0, none⟩ = some (.string y.s) ∧ W.cell? ⟨w1.heap.size + 1, 1, none⟩ = some (.int .i64 y.b) ∧ W.cell? ⟨w1.heap.size + 1, 2, none⟩ = some (.int .i64 y.d) ∧
    W.frozen? ⟨w1.heap.size, 0, none⟩ = false ∧ W.frozen? ⟨w1.heap.size, 1, none⟩ = false ∧ W.frozen? ⟨w1.heap.size, 2, none⟩ = false ∧ W.frozen? ⟨w1.heap.size + 1, 0, none⟩ = false ∧ W.frozen? ⟨w1.heap.size + 1, 1, none⟩ = false ∧ W.frozen? ⟨w1.heap.size + 1, 2, none⟩ = false :=
  ⟨by rw [h.bx.cell]; rfl, by rw [h.bx.cell]; rfl, by rw [h.bx.cell]; rfl, by rw [h.bY.cell]; rfl, by rw [h.bY.cell]; rfl, by rw [h.bY.cell]; rfl, h.bx.frozen _, h.bx.frozen _, h.bx.frozen _, h.bY.frozen _, h.bY.frozen _, h.bY.frozen _⟩
end

end Go.Proofs.YtipbilmnknmhmaaGreatDoor

/- The walk of take: one number of a rule. -/
namespace Go.Proofs.YtipbilmnknmhmaaGreatDoor
set_option maxRecDepth 100000
open Go.RowKit Go.Shelf

section
variable {R : Nat} {vc vl : Value} {cs ls : List Sh.Th}
end
end Go.Proofs.YtipbilmnknmhmaaGreatDoor

/- Walks of take (any number), whole, sorts, and Text. -/
namespace Go.Proofs.YtipbilmnknmhmaaGreatDoor
set_option maxRecDepth 100000
open Go.RowKit Go.Shelf

def Wrote (w : World) (r : ByteArray × Nat) (e : Ending) (w' : World) : Prop := e = .returned (.tuple #[.string r.1, .int .i64 r.2]) ∧ Below w.heap.size w w'
end Go.Proofs.YtipbilmnknmhmaaGreatDoor

/- The instructions' words and labels in memory; Name, Arity; a row's parts. -/
namespace Go.Proofs.YtipbilmnknmhmaaGreatDoor
set_option maxRecDepth 100000
open Go.RowKit Go.Shelf
attribute [local go_sem] Oper.semAt_some

/-- The instructions' words and labels lie in their variable. -/
def Ins (w : World) : Prop := ∀ k : Nat, k < 13 → w.cell? ⟨0, k * 2, none⟩ = some (.string (Tb.word k)) ∧ w.cell? ⟨0, k * 2 + 1, none⟩ = some (.int .i64 (Tb.arity k : Nat))
theorem Ins.lt {w : World} (h : Ins w) : 0 < w.heap.size := World.block_lt_of_cell? w ⟨0, 0, none⟩ (h 0 (by decide)).1
theorem Ins.below {w w' : World} {B : Nat} (h : Ins w) (hb : Below B w w') (hB : 0 < B) : Ins w' := fun k hk => ⟨(hb.cell hB).trans (h k hk).1, (hb.cell hB).trans (h k hk).2⟩
theorem isInstr_any (n : Int) (w : World) : Calls Tryz.prog 101 #[.int .i64 n] w fun e w' => e = .returned (.bool (decide (0 ≤ n ∧ n < 13))) ∧ w = w' := by
  by_cases h0 : 0 ≤ n
  · by_cases h1 : n < 13
    · have hd : decide (0 ≤ n ∧ n < 13) = true := decide_eq_true ⟨h0, h1⟩
      rw [hd]
      go_enter Tryz.func101, Tryz.ntmps101
      go_wp2
      go_ret
      exact ⟨rfl, rfl⟩
    · have hd : decide (0 ≤ n ∧ n < 13) = false := decide_eq_false fun h => h1 h.2
      rw [hd]
      go_enter Tryz.func101, Tryz.ntmps101
      go_wp2
      go_ret
      exact ⟨rfl, rfl⟩
  · have hd : decide (0 ≤ n ∧ n < 13) = false := decide_eq_false fun h => h0 h.1
    rw [hd]
    go_enter Tryz.func101, Tryz.ntmps101
    go_wp2
    go_ret
    exact ⟨rfl, rfl⟩
theorem name_yes (k : Nat) (h : k < 13) (w : World) (hi : Ins w) : Calls Tryz.prog 67 #[.int .i64 k] w (Wrote w (Tb.word k, 0)) := by
  have hc := (hi k h).1
  have h2 := fun W => isInstr_any k W
  rw [decide_eq_true (show (0 : Int) ≤ k ∧ (k : Int) < 13 by omega)] at h2
  have HI := Lib.hid h2
  clear h2 hi
  generalize Tb.word k = s at *
  go_enter Tryz.func67, Tryz.ntmps67
  go_wp2_with (go_at_call 101; refine (HI.out _).mono ?_; rintro e w1 ⟨rfl, rfl⟩)
  go_ret2
  exact ⟨rfl, Below.refl _ _⟩
end Go.Proofs.YtipbilmnknmhmaaGreatDoor

/- Walks of checkLabels, checkRow, Check. -/
namespace Go.Proofs.YtipbilmnknmhmaaGreatDoor
set_option maxRecDepth 100000
open Go.RowKit Go.Shelf
attribute [local go_sem] Oper.semAt_some

namespace Tb
def PR.nth (x : PR) (k : Nat) : List Int := if k = 0 then x.m else if k = 1 then x.r else x.p
end Tb
def Small (x : Tb.PR) : Prop := ∀ k, (x.nth k).length ≤ 1000000
end Go.Proofs.YtipbilmnknmhmaaGreatDoor

/- Walks of checkRow and Check. -/
namespace Go.Proofs.YtipbilmnknmhmaaGreatDoor
set_option maxRecDepth 100000
open Go.RowKit Go.Shelf
attribute [local go_sem] Oper.semAt_some

end Go.Proofs.YtipbilmnknmhmaaGreatDoor

/- The walk of Check; tables in memory. -/
namespace Go.Proofs.YtipbilmnknmhmaaGreatDoor
set_option maxRecDepth 100000
open Go.RowKit Go.Shelf
attribute [local go_sem] Oper.semAt_some

/-- A table's rows at A, below B. -/
def RowsIn (w : World) (B : Nat) (A : Option Addr) (l : List Tb.PR) : Prop :=
  ∃ vs : List Value, vs.length = l.length * 3 ∧ Row w B A vs ∧ ∀ k x, l[k]? = some x → ∃ a0 a1 a2, vs[k * 3]? = some a0 ∧ vs[k * 3 + 1]? = some a1 ∧ vs[k * 3 + 2]? = some a2 ∧ IsInts w B a0 x.m ∧ IsInts w B a1 x.r ∧ IsInts w B a2 x.p
theorem RowsIn.below {w w' : World} {B : Nat} {A : Option Addr} {l : List Tb.PR} (h : RowsIn w B A l) (hb : Below B w w') : RowsIn w' B A l := by
  obtain ⟨vs, h1, h2, h3⟩ := h
  refine ⟨vs, h1, h2.below hb, fun k x hk => ?_⟩
  obtain ⟨a0, a1, a2, e0, e1, e2, i0, i1, i2⟩ := h3 k x hk
  exact ⟨a0, a1, a2, e0, e1, e2, i0.below hb, i1.below hb, i2.below hb⟩
theorem RowsIn.more {w : World} {B B' : Nat} {A : Option Addr} {l : List Tb.PR} (h : RowsIn w B A l) (hB : B ≤ B') : RowsIn w B' A l := by
  obtain ⟨vs, h1, h2, h3⟩ := h
  refine ⟨vs, h1, h2.more hB, fun k x hk => ?_⟩
  obtain ⟨a0, a1, a2, e0, e1, e2, i0, i1, i2⟩ := h3 k x hk
  exact ⟨a0, a1, a2, e0, e1, e2, i0.more hB, i1.more hB, i2.more hB⟩
theorem RowsIn.nil (w : World) (B : Nat) (A : Option Addr) : RowsIn w B A [] := ⟨[], rfl, Row.nil, fun k x hk => by simp at hk⟩
theorem RowsIn.at_ {w : World} {B k : Nat} {A : Option Addr} {l : List Tb.PR} (h : RowsIn w B A l) (hk : k < l.length) : ∃ ad a0 a1 a2, A = some ad ∧ ad.block < B ∧ w.cell? (ad.add (k * 3)) = some a0 ∧
    w.cell? ⟨(ad.add (k * 3)).block, (ad.add (k * 3)).off + 1, none⟩ = some a1 ∧ w.cell? ⟨(ad.add (k * 3)).block, (ad.add (k * 3)).off + 2, none⟩ = some a2 ∧ IsInts w B a0 l[k].m ∧ IsInts w B a1 l[k].r ∧ IsInts w B a2 l[k].p := by
  obtain ⟨vs, h1, h2, h3⟩ := h
  obtain ⟨a0, a1, a2, e0, e1, e2, i0, i1, i2⟩ := h3 k _ (List.getElem?_eq_getElem hk)
  obtain ⟨ad, e, hb, hc⟩ := h2 (by rintro rfl; simp at h1; omega)
  exact ⟨ad, a0, a1, a2, e, hb, hc _ _ e0, by rw [← addr_next _ _ _ (by decide)]; exact hc _ _ e1, by rw [← addr_next _ _ _ (by decide)]; exact hc _ _ e2, i0, i1, i2⟩
/-- A table that is handed over. -/
def IsTab (w : World) (B : Nat) (v : Value) (l : List Tb.PR) : Prop := ∃ A c, v = .slice A l.length c ∧ RowsIn w B A l ∧ l.length ≤ c
theorem IsTab.below {w w' : World} {B : Nat} {v : Value} {l : List Tb.PR} (h : IsTab w B v l) (hb : Below B w w') : IsTab w' B v l := by
  obtain ⟨A, c, e, hr, hc⟩ := h
  exact ⟨A, c, e, hr.below hb, hc⟩
theorem IsTab.more {w : World} {B B' : Nat} {v : Value} {l : List Tb.PR} (h : IsTab w B v l) (hB : B ≤ B') : IsTab w B' v l := by
  obtain ⟨A, c, e, hr, hc⟩ := h
  exact ⟨A, c, e, hr.more hB, hc⟩
theorem IsTab.nil (w : World) (B : Nat) : IsTab w B (.slice none 0 0) [] := ⟨none, 0, rfl, RowsIn.nil _ _ _, Nat.le_refl _⟩

end Go.Proofs.YtipbilmnknmhmaaGreatDoor

/- The walks of the reference's Word, Arity, has, Row (by gen_tabw.py). -/
namespace Go.Proofs.YtipbilmnknmhmaaGreatDoor
set_option maxRecDepth 100000
open Go.RowKit Go.Shelf
attribute [local go_sem] Oper.semAt_some

def TellsStr (w : World) (s : ByteArray) (e : Ending) (w' : World) : Prop := e = .returned (.string s) ∧ Below w.heap.size w w'
set_option maxHeartbeats 4000000 in
theorem rIWord_any (op : Nat) (hop : op < 13) (w : World) : Calls Tryz.prog 38 #[.int .i64 op] w (TellsStr w (Tb.word op)) := by
  rcases Tb.op_cases hop with rfl | rfl | rfl | rfl | rfl | rfl | rfl | rfl | rfl | rfl | rfl | rfl | rfl
  all_goals
    go_enter Tryz.func38, Tryz.ntmps38
    go_wp2
    go_ret
    exact ⟨rfl, (Below.refl _ w).alloc (Nat.le_refl _) _⟩
def rowR (q0 q1 q2 p0 p1 p2 : Bool) : Nat := if q0 && (q1 && q2) then (if p0 && (p1 && p2) then 0 else 7) else 1
end Go.Proofs.YtipbilmnknmhmaaGreatDoor
