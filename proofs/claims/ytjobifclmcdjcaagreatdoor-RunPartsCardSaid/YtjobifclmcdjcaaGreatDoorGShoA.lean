/- Walks of alone, within, between (by gen_sho.py). -/
import Derived.Handy
import Derived.StillTailTactics
import Derived.BigRegion
import Derived.BigQuiet
import Derived.Test.YtjobifclmcdjcaaGreatDoorGShoW
import Derived.Test.YtjobifclmcdjcaaGreatDoorGRulA
namespace Go.Proofs.YtjobifclmcdjcaaGreatDoor
set_option maxRecDepth 100000
open Go.RowKit Go.Shelf

end Go.Proofs.YtjobifclmcdjcaaGreatDoor

/- Walks of alone, within, between (by gen_sho.py). -/
namespace Go.Proofs.YtjobifclmcdjcaaGreatDoor
set_option maxRecDepth 100000
open Go.RowKit Go.Shelf

end Go.Proofs.YtjobifclmcdjcaaGreatDoor

/- The two piles in memory. -/
namespace Go.Proofs.YtjobifclmcdjcaaGreatDoor
set_option maxRecDepth 100000
open Go.RowKit Go.Shelf

section
variable {R : Nat} {vc vl : Value} {cs ls : List Sh.Th} {W w' : World}
end
end Go.Proofs.YtjobifclmcdjcaaGreatDoor

/- Walks of put, takeTwo, ofTwo (by gen_sho.py). -/
namespace Go.Proofs.YtjobifclmcdjcaaGreatDoor
set_option maxRecDepth 100000
open Go.RowKit Go.Shelf

end Go.Proofs.YtjobifclmcdjcaaGreatDoor

/- Walks of takeTwo (by gen_sho.py). -/
namespace Go.Proofs.YtjobifclmcdjcaaGreatDoor
set_option maxRecDepth 100000
open Go.RowKit Go.Shelf

end Go.Proofs.YtjobifclmcdjcaaGreatDoor

/- Walks of ofTwo (by gen_sho.py). -/
namespace Go.Proofs.YtjobifclmcdjcaaGreatDoor
set_option maxRecDepth 100000
open Go.RowKit Go.Shelf

/-- Two things, each in a block of its own, behind w1. -/
structure XY (w1 : World) (t : TypeId) (x y : Sh.Th) (W : World) : Prop where
  bx : Blk W w1.heap.size t #[.string x.s, .int .i64 x.b, .int .i64 x.d]
  bY : Blk W (w1.heap.size + 1) t #[.string y.s, .int .i64 y.b, .int .i64 y.d]
  below : Below w1.heap.size w1 W
section
variable {w1 W W' : World} {t : TypeId} {x y : Sh.Th}
theorem XY.start (w1 : World) (t : TypeId) (x y : Sh.Th) (n : Nat) : XY w1 t x y (((w1.alloc (.cells #[.string x.s, .int .i64 x.b, .int .i64 x.d] t)).alloc (.cells #[.string y.s, .int .i64 y.b, .int .i64 y.d] t)).drewN n) := by
  have hs : (w1.alloc (.cells #[.string x.s, .int .i64 x.b, .int .i64 x.d] t)).heap.size = w1.heap.size + 1 := by simp
  have h2 := Blk.new (w1.alloc (.cells #[.string x.s, .int .i64 x.b, .int .i64 x.d] t)) t #[.string y.s, .int .i64 y.b, .int .i64 y.d]
  rw [hs] at h2
  have hb := ((Below.refl w1.heap.size w1).alloc (Nat.le_refl _) (.cells #[.string x.s, .int .i64 x.b, .int .i64 x.d] t)).alloc (by simp) (.cells #[.string y.s, .int .i64 y.b, .int .i64 y.d] t)
  exact ⟨((Blk.new w1 t _).alloc _).drewN n, h2.drewN n, ⟨hb.os, hb.tape, hb.output, hb.size, hb.block⟩⟩
theorem XY.call (h : XY w1 t x y W) (hb : Below W.heap.size W W') : XY w1 t x y W' := ⟨h.bx.below hb h.bx.lt, h.bY.below hb h.bY.lt, h.below.trans (hb.mono h.below.size)⟩
theorem XY.drewN (h : XY w1 t x y W) (n : Nat) : XY w1 t x y (W.drewN n) := ⟨h.bx.drewN n, h.bY.drewN n, ⟨h.below.os, h.below.tape, h.below.output, h.below.size, h.below.block⟩⟩
theorem XY.facts (h : XY w1 t x y W) : W.cell? ⟨w1.heap.size, 0, none⟩ = some (.string x.s) ∧ W.cell? ⟨w1.heap.size, 1, none⟩ = some (.int .i64 x.b) ∧ W.cell? ⟨w1.heap.size, 2, none⟩ = some (.int .i64 x.d) ∧
    W.cell? ⟨w1.heap.size + 1, 0, none⟩ = some (.string y.s) ∧ W.cell? ⟨w1.heap.size + 1, 1, none⟩ = some (.int .i64 y.b) ∧ W.cell? ⟨w1.heap.size + 1, 2, none⟩ = some (.int .i64 y.d) ∧
    W.frozen? ⟨w1.heap.size, 0, none⟩ = false ∧ W.frozen? ⟨w1.heap.size, 1, none⟩ = false ∧ W.frozen? ⟨w1.heap.size, 2, none⟩ = false ∧ W.frozen? ⟨w1.heap.size + 1, 0, none⟩ = false ∧ W.frozen? ⟨w1.heap.size + 1, 1, none⟩ = false ∧ W.frozen? ⟨w1.heap.size + 1, 2, none⟩ = false :=
  ⟨by rw [h.bx.cell]; rfl, by rw [h.bx.cell]; rfl, by rw [h.bx.cell]; rfl, by rw [h.bY.cell]; rfl, by rw [h.bY.cell]; rfl, by rw [h.bY.cell]; rfl, h.bx.frozen _, h.bx.frozen _, h.bx.frozen _, h.bY.frozen _, h.bY.frozen _, h.bY.frozen _⟩
end

end Go.Proofs.YtjobifclmcdjcaaGreatDoor

/- The walk of take: one number of a rule. -/
namespace Go.Proofs.YtjobifclmcdjcaaGreatDoor
set_option maxRecDepth 100000
open Go.RowKit Go.Shelf

section
variable {R : Nat} {vc vl : Value} {cs ls : List Sh.Th}
end
end Go.Proofs.YtjobifclmcdjcaaGreatDoor

/- Walks of take (any number), whole, sorts, and Text. -/
namespace Go.Proofs.YtjobifclmcdjcaaGreatDoor
set_option maxRecDepth 100000
open Go.RowKit Go.Shelf

end Go.Proofs.YtjobifclmcdjcaaGreatDoor

/- The instructions' words and labels in memory; Name, Arity; a row's parts. -/
namespace Go.Proofs.YtjobifclmcdjcaaGreatDoor
set_option maxRecDepth 100000
open Go.RowKit Go.Shelf
attribute [local go_sem] Oper.semAt_some

/-- The instructions' words and labels lie in their variable. -/
def Ins (w : World) : Prop := ∀ k : Nat, k < 13 → w.cell? ⟨0, k * 2, none⟩ = some (.string (Tb.word k)) ∧ w.cell? ⟨0, k * 2 + 1, none⟩ = some (.int .i64 (Tb.arity k : Nat))
theorem Ins.lt {w : World} (h : Ins w) : 0 < w.heap.size := World.block_lt_of_cell? w ⟨0, 0, none⟩ (h 0 (by decide)).1
theorem Ins.below {w w' : World} {B : Nat} (h : Ins w) (hb : Below B w w') (hB : 0 < B) : Ins w' := fun k hk => ⟨(hb.cell hB).trans (h k hk).1, (hb.cell hB).trans (h k hk).2⟩
/-- A number, and an error. -/
def TellsE (w : World) (a n : Nat) (e : Ending) (w' : World) : Prop := e = .returned (.tuple #[.int .i64 (a : Int), .int .i64 (n : Int)]) ∧ Below w.heap.size w w'
/-- A part's three functions. -/
def pfun (b : Nat) (g : FuncId) : List Value := [.func (.func 141) #[] #[.pointer (some ⟨b, 0, none⟩)], .func (.func 143) #[] #[.pointer (some ⟨b, 0, none⟩)], .func (.func g) #[] #[]]
theorem partOf_any (lab : Bool) (g : FuncId) (w : World) : Calls Tryz.prog 105 #[.bool lab, .func (.func g) #[] #[]] w fun e w' => e = .returned (.agg (pfun w.heap.size g).toArray) ∧ Below w.heap.size w w' ∧ Blk w' w.heap.size 4 #[.bool lab] := by
  have hmf : ∀ (fn : Fn) (first cap : Array Value) (w : World), (Instr.makeFunc fn first cap).run Tryz.prog w = .ok (.func fn first cap) w := fun _ _ _ _ => rfl
  have hb := Blk.new w 4 #[.bool lab]
  have hlt := hb.lt
  go_enter Tryz.func105, Tryz.ntmps105
  go_wp2
  go_returns
  refine ⟨rfl, ?_, ?_⟩
  · exact ((Below.refl _ w).alloc (Nat.le_refl _) _).alloc (by simp) _
  · exact hb.alloc _

/-- The parts: where they lie, and their variables. -/
structure Parts (P b0 b1 b2 : Nat) (W : World) : Prop where
  blk : Blk W P 167 (pfun b0 106 ++ (pfun b1 107 ++ pfun b2 108)).toArray
  v0 : Blk W b0 4 #[.bool false]
  v1 : Blk W b1 4 #[.bool true]
  v2 : Blk W b2 4 #[.bool true]
theorem Parts.below {P b0 b1 b2 B : Nat} {w w' : World} (h : Parts P b0 b1 b2 w) (hb : Below B w w') (hP : P < B) (h0 : b0 < B) (h1 : b1 < B) (h2 : b2 < B) : Parts P b0 b1 b2 w' :=
  ⟨h.blk.below hb hP, h.v0.below hb h0, h.v1.below hb h1, h.v2.below hb h2⟩
theorem Parts.keep {P b0 b1 b2 : Nat} {w w' : World} (h : Parts P b0 b1 b2 w) (hb : Below w.heap.size w w') : Parts P b0 b1 b2 w' :=
  h.below hb h.blk.lt h.v0.lt h.v1.lt h.v2.lt
set_option maxHeartbeats 1000000 in
theorem parts_any (w : World) : Calls Tryz.prog 81 #[] w fun e w' => ∃ P b0 b1 b2, e = .returned (.slice (some ⟨P, 0, none⟩) 3 3) ∧ Parts P b0 b1 b2 w' ∧ Below w.heap.size w w' ∧ w.heap.size ≤ P ∧ w.heap.size ≤ b0 ∧ w.heap.size ≤ b1 ∧ w.heap.size ≤ b2 := by
  have hp := fun (lab : Bool) (g : FuncId) W => partOf_any lab g W
  unfold pfun at hp
  have HP := Lib.hid hp
  clear hp
  go_enter Tryz.func81, Tryz.ntmps81
  go_wp2_with (fail)
  refine (HP.out _ _ _).mono ?_
  rintro e w1 ⟨rfl, hb1, hk1⟩
  have HB1 := Lib.hid hb1
  have HK1 := Lib.hid hk1
  clear hb1 hk1
  go_wp2_with (fail)
  refine (HP.out _ _ _).mono ?_
  rintro e w2 ⟨rfl, hb2, hk2⟩
  have HB2 := Lib.hid hb2
  have HK2 := Lib.hid hk2
  clear hb2 hk2
  go_wp2_with (fail)
  refine (HP.out _ _ _).mono ?_
  rintro e w3 ⟨rfl, hb3, hk3⟩
  have hz1 := HB1.out.size
  have hz2 := HB2.out.size
  have hz3 := hb3.size
  have hall : Below w.heap.size w (w3.alloc (.cells (pfun w.heap.size 106 ++ (pfun w1.heap.size 107 ++ pfun w2.heap.size 108)).toArray 167)) :=
    ((HB1.out.trans (HB2.out.mono hz1)).trans (hb3.mono (by omega))).alloc (by omega) _
  have hfin : Parts w3.heap.size w.heap.size w1.heap.size w2.heap.size (w3.alloc (.cells (pfun w.heap.size 106 ++ (pfun w1.heap.size 107 ++ pfun w2.heap.size 108)).toArray 167)) :=
    ⟨Blk.new _ _ _, ((((HK1.out.below HB2.out HK1.out.lt)).below hb3 (by have := HK1.out.lt; omega))).alloc _, (HK2.out.below hb3 HK2.out.lt).alloc _, hk3.alloc _⟩
  have HA := Lib.hid hall
  have HF := Lib.hid hfin
  have HZ := Lib.hid (show w.heap.size ≤ w3.heap.size ∧ w.heap.size ≤ w1.heap.size ∧ w.heap.size ≤ w2.heap.size by omega)
  clear hb3 hk3 hz1 hz2 hz3 hall hfin
  go_wp2
  go_ret
  exact ⟨w3.heap.size, w.heap.size, w1.heap.size, w2.heap.size, rfl, HF.out, HA.out, HZ.out.1, Nat.le_refl _, HZ.out.2.1, HZ.out.2.2⟩
/-- The functions in a part. -/
theorem ofM_any (b o : Nat) (w : World) : Calls Tryz.prog 106 #[.pointer (some ⟨b, o, none⟩)] w fun e w' => e = .returned (.pointer (some ⟨b, o, none⟩)) ∧ w = w' := by
  go_enter Tryz.func106, Tryz.ntmps106
  go_wp2
  go_ret
  exact ⟨rfl, rfl⟩
theorem ofR_any (b o : Nat) (w : World) : Calls Tryz.prog 107 #[.pointer (some ⟨b, o, none⟩)] w fun e w' => e = .returned (.pointer (some ⟨b, o + 1, none⟩)) ∧ w = w' := by
  go_enter Tryz.func107, Tryz.ntmps107
  go_wp2
  go_ret
  exact ⟨rfl, rfl⟩
theorem ofP_any (b o : Nat) (w : World) : Calls Tryz.prog 108 #[.pointer (some ⟨b, o, none⟩)] w fun e w' => e = .returned (.pointer (some ⟨b, o + 2, none⟩)) ∧ w = w' := by
  go_enter Tryz.func108, Tryz.ntmps108
  go_wp2
  go_ret
  exact ⟨rfl, rfl⟩
theorem rightP_any {A : Option Addr} {rule : List Int} (c b : Nat) (lab : Bool) (w : World) (hb : Blk w b 4 #[.bool lab]) (h : Row w w.heap.size A (ints rule)) (hl : rule.length ≤ 1000000) :
    Calls Tryz.prog 143 #[.slice A rule.length c, .pointer (some ⟨b, 0, none⟩)] w (Tells w (Rl.right rule lab)) := by
  have hc : w.cell? ⟨b, 0, none⟩ = some (.bool lab) := hb.cell 0
  have hr := right_any c lab w h hl
  generalize Rl.right rule lab = x at *
  have HR := Lib.hid hr
  clear hr h hb
  generalize rule.length = n at *
  go_enter Tryz.func143, Tryz.ntmps143
  go_wp2_with (fail)
  refine HR.out.mono ?_
  rintro e w1 ⟨rfl, hb1⟩
  have HB1 := Lib.hid hb1
  clear hb1
  go_wp2
  go_ret
  exact ⟨rfl, HB1.out⟩
theorem readP_any {A : Option Addr} {l : List Lx.Tk} (c b : Nat) (i : Int) (lab : Bool) (w : World) (hb : Blk w b 4 #[.bool lab]) (hr : Row w w.heap.size A (tcells l)) (hl : l.length ≤ 1000000) :
    Calls Tryz.prog 141 #[.slice A l.length c, .int .i64 i, .pointer (some ⟨b, 0, none⟩)] w (FromNew w (Rl.from_ l i lab)) := by
  have hc : w.cell? ⟨b, 0, none⟩ = some (.bool lab) := hb.cell 0
  have hf := from_anyN c i lab w hr hl
  generalize Rl.from_ l i lab = x at *
  have HF := Lib.hid hf
  clear hf hr hb
  generalize l.length = n at *
  go_enter Tryz.func141, Tryz.ntmps141
  go_wp2_with (fail)
  refine HF.out.mono ?_
  rintro e w1 ⟨v, rfl, hv, hb1, hn1⟩
  have HV := Lib.hid hv
  have HN := Lib.hid hn1
  have HB1 := Lib.hid hb1
  clear hb1 hv hn1
  go_wp2
  go_ret3
  exact ⟨v, rfl, HV.out, HB1.out, HN.out⟩
end Go.Proofs.YtjobifclmcdjcaaGreatDoor

/- Walks of checkLabels, checkRow, Check. -/
namespace Go.Proofs.YtjobifclmcdjcaaGreatDoor
set_option maxRecDepth 100000
open Go.RowKit Go.Shelf
attribute [local go_sem] Oper.semAt_some

/-- What holds of a part. -/
structure PartAt (P b0 b1 b2 k : Nat) (W : World) (g : FuncId) (bk : Nat) : Prop where
  c0 : W.cell? ⟨P, k * 3, none⟩ = some (.func (.func 141) #[] #[.pointer (some ⟨bk, 0, none⟩)])
  c1 : W.cell? ⟨P, k * 3 + 1, none⟩ = some (.func (.func 143) #[] #[.pointer (some ⟨bk, 0, none⟩)])
  c2 : W.cell? ⟨P, k * 3 + 2, none⟩ = some (.func (.func g) #[] #[])
  v : Blk W bk 4 #[.bool (decide (k ≠ 0))]
  which : bk = b0 ∨ bk = b1 ∨ bk = b2
  en : ∀ args W, (callFunc g args).run Tryz.prog W = .ok (.enter g args) W
  of : ∀ b W, Calls Tryz.prog g #[.pointer (some ⟨b, 0, none⟩)] W fun e w' => e = .returned (.pointer (some ⟨b, k, none⟩)) ∧ W = w'
  of2 : ∀ b o W, Calls Tryz.prog g #[.pointer (some ⟨b, o, none⟩)] W fun e w' => e = .returned (.pointer (some ⟨b, o + k, none⟩)) ∧ W = w'
theorem Parts.at_ {P b0 b1 b2 k : Nat} {W : World} (h : Parts P b0 b1 b2 W) (hk : k < 3) : ∃ g bk, PartAt P b0 b1 b2 k W g bk := by
  rcases (by omega : k = 0 ∨ k = 1 ∨ k = 2) with rfl | rfl | rfl
  · exact ⟨_, b0, h.blk.cell 0, h.blk.cell 1, h.blk.cell 2, h.v0, .inl rfl, Tryz.call106, fun b W => ofM_any b 0 W, fun b o W => ofM_any b o W⟩
  · exact ⟨_, b1, h.blk.cell 3, h.blk.cell 4, h.blk.cell 5, h.v1, .inr (.inl rfl), Tryz.call107, fun b W => ofR_any b 0 W, fun b o W => ofR_any b o W⟩
  · exact ⟨_, b2, h.blk.cell 6, h.blk.cell 7, h.blk.cell 8, h.v2, .inr (.inr rfl), Tryz.call108, fun b W => ofP_any b 0 W, fun b o W => ofP_any b o W⟩
namespace Tb
def PR.nth (x : PR) (k : Nat) : List Int := if k = 0 then x.m else if k = 1 then x.r else x.p
theorem arity_le (op : Nat) : arity op ≤ 3 := by
  by_cases h : op < 13
  · rcases op_cases h with rfl | rfl | rfl | rfl | rfl | rfl | rfl | rfl | rfl | rfl | rfl | rfl | rfl <;> decide
  · unfold arity
    rw [List.getD_eq_getElem?_getD, List.getElem?_eq_none (by simp; omega)]
    decide
theorem useOf_lt (l : List Int) : useOf l < 16 := by
  unfold useOf
  split
  · exact Rl.usesOf_lt l
  · decide
end Tb
theorem uses_any6 {A : Option Addr} {rule : List Int} (c : Nat) (w : World) (h : Row w w.heap.size A (ints rule)) (hl : rule.length ≤ 1000000) : Calls Tryz.prog 145 #[.slice A rule.length c] w fun e w' => ∃ n : Nat, e = .returned (.tuple #[.int .u32 (Tb.useOf rule : Nat), .int .i64 (n : Int)]) ∧ Below w.heap.size w w' := by
  cases hm : Rl.made rule
  · refine (uses_no c w h hl hm).mono ?_
    rintro e w' ⟨rfl, hb⟩
    refine ⟨1, ?_, hb⟩
    unfold Tb.useOf
    rw [hm]
    rfl
  · refine (uses_yes c w h hl hm).mono ?_
    rintro e w' ⟨rfl, hb⟩
    refine ⟨0, ?_, hb⟩
    unfold Tb.useOf
    rw [hm]
    rfl
/-- Three rules' slices, in a block of their own. -/
structure RowAt (b : Nat) (a0 a1 a2 : Value) (x : Tb.PR) (B : Nat) (W : World) : Prop where
  blk : Blk W b 55 #[a0, a1, a2]
  i0 : IsInts W B a0 x.m
  i1 : IsInts W B a1 x.r
  i2 : IsInts W B a2 x.p
theorem RowAt.below {b B : Nat} {a0 a1 a2 : Value} {x : Tb.PR} {w w' : World} (h : RowAt b a0 a1 a2 x B w) (hb : Below w.heap.size w w') (hB : B ≤ w.heap.size) : RowAt b a0 a1 a2 x B w' :=
  ⟨h.blk.below hb h.blk.lt, h.i0.below (hb.mono hB), h.i1.below (hb.mono hB), h.i2.below (hb.mono hB)⟩
theorem RowAt.at_ {b B k : Nat} {a0 a1 a2 : Value} {x : Tb.PR} {W : World} (h : RowAt b a0 a1 a2 x B W) (hk : k < 3) : ∃ A c, W.cell? ⟨b, k, none⟩ = some (.slice A (x.nth k).length c) ∧ Row W B A (ints (x.nth k)) := by
  rcases (by omega : k = 0 ∨ k = 1 ∨ k = 2) with rfl | rfl | rfl
  · obtain ⟨A, c, e, hr, _⟩ := h.i0
    exact ⟨A, c, by rw [h.blk.cell]; exact congrArg some e, hr⟩
  · obtain ⟨A, c, e, hr, _⟩ := h.i1
    exact ⟨A, c, by rw [h.blk.cell]; exact congrArg some e, hr⟩
  · obtain ⟨A, c, e, hr, _⟩ := h.i2
    exact ⟨A, c, by rw [h.blk.cell]; exact congrArg some e, hr⟩
def Small (x : Tb.PR) : Prop := ∀ k, (x.nth k).length ≤ 1000000
/-- What holds at the head of a round over the parts. -/
structure PartsAt (w0 : World) (P b0 b1 b2 b : Nat) (a0 a1 a2 : Value) (x : Tb.PR) (W : World) : Prop where
  below : Below w0.heap.size w0 W
  parts : Parts P b0 b1 b2 W
  row : RowAt b a0 a1 a2 x W.heap.size W
theorem PartsAt.step {w0 : World} {P b0 b1 b2 b : Nat} {a0 a1 a2 : Value} {x : Tb.PR} {W W' : World} (h : PartsAt w0 P b0 b1 b2 b a0 a1 a2 x W) (hb : Below W.heap.size W W') : PartsAt w0 P b0 b1 b2 b a0 a1 a2 x W' :=
  ⟨h.below.trans (hb.mono h.below.size), h.parts.keep hb, by
    have := h.row.below hb (Nat.le_refl _)
    exact ⟨this.blk, this.i0.more hb.size, this.i1.more hb.size, this.i2.more hb.size⟩⟩
theorem labE_no {op : Nat} {x : Tb.PR} (h : ∀ k, k < 3 → Tb.over op (x.nth k) = false) : Tb.labE op x = 0 := by
  have h0 : Tb.over op x.m = false := h 0 (by decide)
  have h1 : Tb.over op x.r = false := h 1 (by decide)
  have h2 : Tb.over op x.p = false := h 2 (by decide)
  unfold Tb.labE
  rw [h0, h1, h2]
  rfl
theorem labE_yes {op k : Nat} {x : Tb.PR} (hk : k < 3) (h : Tb.over op (x.nth k) = true) : Tb.labE op x = 7 := by
  unfold Tb.labE
  rw [if_pos]
  rcases (by omega : k = 0 ∨ k = 1 ∨ k = 2) with rfl | rfl | rfl
  · rw [show Tb.over op x.m = true from h]; rfl
  · rw [show Tb.over op x.r = true from h]; simp
  · rw [show Tb.over op x.p = true from h]; simp
set_option maxHeartbeats 4000000 in
theorem labels_any {P b0 b1 b2 op : Nat} {a0 a1 a2 : Value} {x : Tb.PR} (hop : op < 13) (w : World) (hi : Ins w) (hp : Parts P b0 b1 b2 w) (h0 : IsInts w w.heap.size a0 x.m) (h1 : IsInts w w.heap.size a1 x.r) (h2 : IsInts w w.heap.size a2 x.p) (hs : Small x) :
    Calls Tryz.prog 109 #[.slice (some ⟨P, 0, none⟩) 3 3, .int .i64 (op : Int), .agg #[a0, a1, a2]] w (TellsN w (Tb.labE op x : Nat)) := by
  have hst : PartsAt w P b0 b1 b2 w.heap.size a0 a1 a2 x (w.alloc (.cells #[a0, a1, a2] 55)) := by
    have hb : Below w.heap.size w (w.alloc (.cells #[a0, a1, a2] 55)) := (Below.refl _ w).alloc (Nat.le_refl _) _
    exact ⟨hb, hp.keep hb, Blk.new _ _ _, (h0.below hb).more hb.size, (h1.below hb).more hb.size, (h2.below hb).more hb.size⟩
  have HST := Lib.hid hst
  have HI := Lib.hid hi
  have HS := Lib.hid hs
  have hg0 := hi.lt
  clear hp h0 h1 h2 hst hi hs
  go_enter Tryz.func109, Tryz.ntmps109
  go_wp2
  go_loopw [13] (fun i wr => ∃ (k : Nat), k ≤ 3 ∧ i = .int .i64 k ∧ Hid (PartsAt w P b0 b1 b2 w.heap.size a0 a1 a2 x wr) ∧ Hid (∀ j, j < k → Tb.over op (x.nth j) = false)) (fun i _ => 3 - (intOf i).toNat)
  case atStart => exact ⟨0, by decide, rfl, HST, Lib.hid fun j hj => absurd hj (by omega)⟩
  case round =>
    obtain ⟨k, hk, rfl, HP, HO⟩ := hrel
    by_cases hlt : k < 3
    · obtain ⟨g, bk, hpa⟩ := HP.out.parts.at_ hlt
      obtain ⟨A, c, hsl, hrow⟩ := HP.out.row.at_ hlt
      obtain ⟨c0, c1, c2, -, -, hen, hof, -⟩ := hpa
      have hus : ∀ W, Below wr.heap.size wr W → Calls Tryz.prog 145 #[.slice A (x.nth k).length c] W fun e w' => ∃ n : Nat, e = .returned (.tuple #[.int .u32 (Tb.useOf (x.nth k) : Nat), .int .i64 (n : Int)]) ∧ Below W.heap.size W w' :=
        fun W hb => uses_any6 c W ((hrow.below hb).more hb.size) (HS.out k)
      have hal := (Below.refl wr.heap.size wr).alloc (Nat.le_refl _) (.cells #[.func (.func 141) #[] #[.pointer (some ⟨bk, 0, none⟩)], .func (.func 143) #[] #[.pointer (some ⟨bk, 0, none⟩)], .func (.func g) #[] #[]] 167)
      have hur := Tb.useOf_lt (x.nth k)
      obtain ⟨q, hq⟩ : ∃ q, Tb.useOf (x.nth k) / 2 ^ (1 + Tb.arity op) = q := ⟨_, rfl⟩
      have hov : Tb.over op (x.nth k) = decide (q ≠ 0) := by unfold Tb.over; rw [hq]
      generalize (x.nth k).length = n at *
      generalize Tb.useOf (x.nth k) = u at *
      have har := Tb.arity_le op
      have hic : ∀ W, Below w.heap.size w W → W.cell? ⟨0, op * 2 + 1, none⟩ = some (.int .i64 (Tb.arity op : Nat)) := fun W hb => (HI.out.below hb hg0 op hop).2
      generalize Tb.arity op = ar at *
      have hsh : (u : Int) / 2 ^ (1 + (ar : Int)).toNat = (q : Int) := by
        rw [← hq, show (1 + (ar : Int)).toNat = 1 + ar by omega]
        norm_cast
      have hblk := HP.out.row.blk.lt
      have HOV := Lib.hid hov
      have HUS := Lib.hid hus
      have HAL := Lib.hid hal
      have HIC := Lib.hid hic
      clear hus hal hq hov hrow hic
      go_wp2_with (fail)
      refine (hof _ _).mono ?_
      rintro e w1 ⟨rfl, rfl⟩
      go_wp2_with (fail)
      refine (HUS.out _ HAL.out).mono ?_
      rintro e w2 ⟨m, rfl, hb2⟩
      have HP2 := Lib.hid (HP.out.step (HAL.out.trans (hb2.mono HAL.out.size)))
      have hic2 := HIC.out w2 HP2.out.below
      clear hb2 c0 c1 c2 hsl hof hen
      by_cases hq0 : q = 0
      · subst hq0
        have HO2 : Hid (∀ j, j < k + 1 → Tb.over op (x.nth j) = false) := Lib.hid fun j hj => by
          by_cases e : j = k
          · subst e; rw [HOV.out]; rfl
          · exact HO.out j (by omega)
        go_wp2
        go_roundw
        case rel => exact ⟨k + 1, by omega, by go_num, HP2, HO2⟩
        case measure => simp [intOf]; omega
      · have hq1 : ((q : Int) != 0) = true := by rw [bne_iff_ne]; omega
        have HL := Lib.hid (labE_yes (op := op) hlt (by rw [HOV.out]; exact decide_eq_true hq0))
        go_wp2
        go_ret
        rw [HL.out]
        exact ⟨rfl, HP2.out.below⟩
    · obtain rfl : k = 3 := by omega
      have HL := Lib.hid (labE_no HO.out)
      go_wp2
      go_ret
      rw [HL.out]
      exact ⟨rfl, HP.out.below⟩
end Go.Proofs.YtjobifclmcdjcaaGreatDoor

/- Walks of checkRow and Check. -/
namespace Go.Proofs.YtjobifclmcdjcaaGreatDoor
set_option maxRecDepth 100000
open Go.RowKit Go.Shelf
attribute [local go_sem] Oper.semAt_some

def Tb.PR.rightAt (x : Tb.PR) (k : Nat) : Bool := Rl.right (x.nth k) (decide (k ≠ 0))
theorem okRules_no {x : Tb.PR} {k : Nat} (hk : k < 3) (h : x.rightAt k = false) : Tb.okRules x = false := by
  unfold Tb.okRules
  rcases (by omega : k = 0 ∨ k = 1 ∨ k = 2) with rfl | rfl | rfl
  · rw [show Rl.right x.m false = false from h]; rfl
  · rw [show Rl.right x.r true = false from h]; simp
  · rw [show Rl.right x.p true = false from h]; simp
theorem okRules_yes {x : Tb.PR} (h : ∀ k, k < 3 → x.rightAt k = true) : Tb.okRules x = true := by
  unfold Tb.okRules
  rw [show Rl.right x.m false = true from h 0 (by decide), show Rl.right x.r true = true from h 1 (by decide), show Rl.right x.p true = true from h 2 (by decide)]
  rfl
theorem rowE_no {op : Nat} {x : Tb.PR} {k : Nat} (hk : k < 3) (h : x.rightAt k = false) : Tb.rowE op x = 1 := by
  unfold Tb.rowE
  rw [okRules_no hk h]
  rfl
theorem rowE_yes {op : Nat} {x : Tb.PR} (h : ∀ k, k < 3 → x.rightAt k = true) : Tb.rowE op x = Tb.labE op x := by
  unfold Tb.rowE
  rw [okRules_yes h]
  rfl
set_option maxHeartbeats 4000000 in
theorem checkRow_any {P b0 b1 b2 op : Nat} {a0 a1 a2 : Value} {x : Tb.PR} (hop : op < 13) (w : World) (hi : Ins w) (hp : Parts P b0 b1 b2 w) (h0 : IsInts w w.heap.size a0 x.m) (h1 : IsInts w w.heap.size a1 x.r) (h2 : IsInts w w.heap.size a2 x.p) (hs : Small x) :
    Calls Tryz.prog 82 #[.slice (some ⟨P, 0, none⟩) 3 3, .int .i64 (op : Int), .agg #[a0, a1, a2]] w (TellsN w (Tb.rowE op x : Nat)) := by
  have hst : PartsAt w P b0 b1 b2 w.heap.size a0 a1 a2 x (w.alloc (.cells #[a0, a1, a2] 55)) := by
    have hb : Below w.heap.size w (w.alloc (.cells #[a0, a1, a2] 55)) := (Below.refl _ w).alloc (Nat.le_refl _) _
    exact ⟨hb, hp.keep hb, Blk.new _ _ _, (h0.below hb).more hb.size, (h1.below hb).more hb.size, (h2.below hb).more hb.size⟩
  have hlab := fun W (H : PartsAt w P b0 b1 b2 w.heap.size a0 a1 a2 x W) => labels_any (a0 := a0) (a1 := a1) (a2 := a2) (x := x) hop W (hi.below H.below hi.lt) H.parts (H.row.i0) (H.row.i1) (H.row.i2) hs
  have HLB := Lib.hid hlab
  have HST := Lib.hid hst
  have HS := Lib.hid hs
  clear hp h0 h1 h2 hst hi hs hlab
  go_enter Tryz.func82, Tryz.ntmps82
  go_wp2
  go_loopw [11] (fun i wr => ∃ (k : Nat), k ≤ 3 ∧ i = .int .i64 k ∧ Hid (PartsAt w P b0 b1 b2 w.heap.size a0 a1 a2 x wr) ∧ Hid (∀ j, j < k → x.rightAt j = true)) (fun i _ => 3 - (intOf i).toNat)
  case atStart => exact ⟨0, by decide, rfl, HST, Lib.hid fun j hj => absurd hj (by omega)⟩
  case round =>
    obtain ⟨k, hk, rfl, HP, HO⟩ := hrel
    by_cases hlt : k < 3
    · obtain ⟨g, bk, hpa⟩ := HP.out.parts.at_ hlt
      obtain ⟨A, c, hsl, hrow⟩ := HP.out.row.at_ hlt
      obtain ⟨c0, c1, c2, hv, -, hen, hof, -⟩ := hpa
      have hus : ∀ W, Below wr.heap.size wr W → Calls Tryz.prog 143 #[.slice A (x.nth k).length c, .pointer (some ⟨bk, 0, none⟩)] W (Tells W (x.rightAt k)) :=
        fun W hb => rightP_any c bk _ W (hv.below hb hv.lt) ((hrow.below hb).more hb.size) (HS.out k)
      have hal : Below wr.heap.size wr (wr.alloc (.cells #[.func (.func 141) #[] #[.pointer (some ⟨bk, 0, none⟩)], .func (.func 143) #[] #[.pointer (some ⟨bk, 0, none⟩)], .func (.func g) #[] #[]] 167)).drew := ((Below.refl wr.heap.size wr).alloc (Nat.le_refl _) _).drew
      obtain ⟨q, hq⟩ : ∃ q, x.rightAt k = q := ⟨_, rfl⟩
      rw [hq] at hus
      generalize (x.nth k).length = n at *
      have hblk := HP.out.row.blk.lt
      have HQ := Lib.hid hq
      have HUS := Lib.hid hus
      have HAL := Lib.hid hal
      have hof2 := fun b W => (hof b W).mono (R' := fun e w' => e = .returned (.pointer (some ⟨b, k, none⟩)) ∧ w' = W) (fun e w' h => ⟨h.1, h.2.symm⟩)
      have HOF := Lib.hid hof2
      clear hus hal hq hrow hof hof2
      go_wp2
      refine still_tail_drew 7 (by kernel_rfl) (by kernel_rfl) ?_
      simp only [List.take_succ_cons, List.take_zero, List.drop_succ_cons, List.drop_zero]
      repeat still_step
      still_call (HOF.out _ _)
      repeat still_step
      refine wpStill_nil ?_
      go_wp2_with (fail)
      refine (HUS.out _ HAL.out).mono ?_
      rintro e w2 ⟨rfl, hb2⟩
      have HP2 := Lib.hid (HP.out.step (HAL.out.trans (hb2.mono HAL.out.size)))
      clear hb2 c0 c1 c2 hsl hen hv
      cases q
      · have HL := Lib.hid (rowE_no (op := op) hlt HQ.out)
        go_wp2
        go_ret
        rw [HL.out]
        exact ⟨rfl, HP2.out.below⟩
      · have HO2 : Hid (∀ j, j < k + 1 → x.rightAt j = true) := Lib.hid fun j hj => by
          by_cases e : j = k
          · subst e; exact HQ.out
          · exact HO.out j (by omega)
        go_wp2
        go_roundw
        case rel => exact ⟨k + 1, by omega, by go_num, HP2, HO2⟩
        case measure => simp [intOf]; omega
    · obtain rfl : k = 3 := by omega
      have HL := Lib.hid (rowE_yes (op := op) HO.out)
      have r0 : wr.cell? ⟨w.heap.size, 0, none⟩ = some a0 := HP.out.row.blk.cell 0
      have r1 : wr.cell? ⟨w.heap.size, 1, none⟩ = some a1 := HP.out.row.blk.cell 1
      have r2 : wr.cell? ⟨w.heap.size, 2, none⟩ = some a2 := HP.out.row.blk.cell 2
      go_wp2_with (fail)
      refine (HLB.out _ HP.out).mono ?_
      rintro e w1 ⟨rfl, hb1⟩
      have HB := Lib.hid (HP.out.below.trans (hb1.mono HP.out.below.size))
      clear hb1
      go_wp2
      go_ret
      rw [HL.out]
      exact ⟨rfl, HB.out⟩
end Go.Proofs.YtjobifclmcdjcaaGreatDoor

/- The walk of Check; tables in memory. -/
namespace Go.Proofs.YtjobifclmcdjcaaGreatDoor
set_option maxRecDepth 100000
open Go.RowKit Go.Shelf
attribute [local go_sem] Oper.semAt_some

/-- A table's rows at A, below B. -/
def RowsIn (w : World) (B : Nat) (A : Option Addr) (l : List Tb.PR) : Prop :=
  ∃ vs : List Value, vs.length = l.length * 3 ∧ Row w B A vs ∧ ∀ k x, l[k]? = some x → ∃ a0 a1 a2, vs[k * 3]? = some a0 ∧ vs[k * 3 + 1]? = some a1 ∧ vs[k * 3 + 2]? = some a2 ∧ IsInts w B a0 x.m ∧ IsInts w B a1 x.r ∧ IsInts w B a2 x.p
theorem RowsIn.below {w w' : World} {B : Nat} {A : Option Addr} {l : List Tb.PR} (h : RowsIn w B A l) (hb : Below B w w') : RowsIn w' B A l := by
  obtain ⟨vs, h1, h2, h3⟩ := h
  refine ⟨vs, h1, h2.below hb, fun k x hk => ?_⟩
  obtain ⟨a0, a1, a2, e0, e1, e2, i0, i1, i2⟩ := h3 k x hk
  exact ⟨a0, a1, a2, e0, e1, e2, i0.below hb, i1.below hb, i2.below hb⟩
theorem RowsIn.more {w : World} {B B' : Nat} {A : Option Addr} {l : List Tb.PR} (h : RowsIn w B A l) (hB : B ≤ B') : RowsIn w B' A l := by
  obtain ⟨vs, h1, h2, h3⟩ := h
  refine ⟨vs, h1, h2.more hB, fun k x hk => ?_⟩
  obtain ⟨a0, a1, a2, e0, e1, e2, i0, i1, i2⟩ := h3 k x hk
  exact ⟨a0, a1, a2, e0, e1, e2, i0.more hB, i1.more hB, i2.more hB⟩
theorem RowsIn.nil (w : World) (B : Nat) (A : Option Addr) : RowsIn w B A [] := ⟨[], rfl, Row.nil, fun k x hk => by simp at hk⟩
theorem RowsIn.at_ {w : World} {B k : Nat} {A : Option Addr} {l : List Tb.PR} (h : RowsIn w B A l) (hk : k < l.length) : ∃ ad a0 a1 a2, A = some ad ∧ ad.block < B ∧ w.cell? (ad.add (k * 3)) = some a0 ∧
    w.cell? ⟨(ad.add (k * 3)).block, (ad.add (k * 3)).off + 1, none⟩ = some a1 ∧ w.cell? ⟨(ad.add (k * 3)).block, (ad.add (k * 3)).off + 2, none⟩ = some a2 ∧ IsInts w B a0 l[k].m ∧ IsInts w B a1 l[k].r ∧ IsInts w B a2 l[k].p := by
  obtain ⟨vs, h1, h2, h3⟩ := h
  obtain ⟨a0, a1, a2, e0, e1, e2, i0, i1, i2⟩ := h3 k _ (List.getElem?_eq_getElem hk)
  obtain ⟨ad, e, hb, hc⟩ := h2 (by rintro rfl; simp at h1; omega)
  exact ⟨ad, a0, a1, a2, e, hb, hc _ _ e0, by rw [← addr_next _ _ _ (by decide)]; exact hc _ _ e1, by rw [← addr_next _ _ _ (by decide)]; exact hc _ _ e2, i0, i1, i2⟩
/-- A table that is handed over. -/
def IsTab (w : World) (B : Nat) (v : Value) (l : List Tb.PR) : Prop := ∃ A c, v = .slice A l.length c ∧ RowsIn w B A l ∧ l.length ≤ c
theorem IsTab.below {w w' : World} {B : Nat} {v : Value} {l : List Tb.PR} (h : IsTab w B v l) (hb : Below B w w') : IsTab w' B v l := by
  obtain ⟨A, c, e, hr, hc⟩ := h
  exact ⟨A, c, e, hr.below hb, hc⟩
theorem IsTab.more {w : World} {B B' : Nat} {v : Value} {l : List Tb.PR} (h : IsTab w B v l) (hB : B ≤ B') : IsTab w B' v l := by
  obtain ⟨A, c, e, hr, hc⟩ := h
  exact ⟨A, c, e, hr.more hB, hc⟩
theorem IsTab.nil (w : World) (B : Nat) : IsTab w B (.slice none 0 0) [] := ⟨none, 0, rfl, RowsIn.nil _ _ _, Nat.le_refl _⟩

theorem check_no {A : Option Addr} {l : List Tb.PR} (c : Nat) (w : World) (h : l.length ≠ 13) : Calls Tryz.prog 51 #[.agg #[.slice A l.length c]] w (TellsE w (Tb.check l).1 (Tb.check l).2) := by
  have e : Tb.check l = (0, 1) := by unfold Tb.check; rw [if_neg h]
  rw [e]
  have h1 : (((l.length : Nat) : Int) != 13) = true := by rw [bne_iff_ne]; omega
  generalize l.length = n at *
  go_enter Tryz.func51, Tryz.ntmps51
  go_wp2
  go_ret2
  exact ⟨rfl, (Below.refl _ _).alloc (Nat.le_refl _) _⟩
/-- What holds at the head of a round over the rows. -/
structure RowsAt (w0 : World) (P b0 b1 b2 : Nat) (W : World) : Prop where
  below : Below w0.heap.size w0 W
  parts : Parts P b0 b1 b2 W
theorem RowsAt.step {w0 : World} {P b0 b1 b2 : Nat} {W W' : World} (h : RowsAt w0 P b0 b1 b2 W) (hb : Below W.heap.size W W') : RowsAt w0 P b0 b1 b2 W' :=
  ⟨h.below.trans (hb.mono h.below.size), h.parts.keep hb⟩
theorem firstBad_on {l : List Tb.PR} {k : Nat} (hk : k < l.length) : Tb.firstBad k (l.drop k) = if Tb.rowE k l[k] = 0 then Tb.firstBad (k + 1) (l.drop (k + 1)) else (k, Tb.rowE k l[k]) := by
  rw [List.drop_eq_getElem_cons hk]
  rfl
set_option maxHeartbeats 4000000 in
theorem check_13 {A : Option Addr} {l : List Tb.PR} (c : Nat) (w : World) (hi : Ins w) (h : RowsIn w w.heap.size A l) (hl : l.length = 13) (hs : ∀ x ∈ l, Small x) : Calls Tryz.prog 51 #[.agg #[.slice A 13 c]] w (TellsE w (Tb.check l).1 (Tb.check l).2) := by
  have e : Tb.check l = Tb.firstBad 0 l := by unfold Tb.check; rw [if_pos hl]
  rw [e]
  have HI := Lib.hid hi
  have H := Lib.hid h
  have HS := Lib.hid hs
  have HL := Lib.hid hl
  have hg0 := hi.lt
  clear e hi h hs hl
  have hpa := fun W => parts_any W
  have HPA := Lib.hid hpa
  clear hpa
  go_enter Tryz.func51, Tryz.ntmps51
  go_wp2_with (fail)
  refine (HPA.out _).mono ?_
  rintro e w1 ⟨P, b0, b1, b2, rfl, hp, hb1, -, -, -, -⟩
  have hal : Below w.heap.size w (w.alloc (.cells #[.slice A 13 c] 28)) := (Below.refl _ w).alloc (Nat.le_refl _) _
  have hc0 : w1.cell? ⟨w.heap.size, 0, none⟩ = some (.slice A 13 c) := by
    have hk := Blk.new w 28 #[.slice A 13 c]
    rw [(hk.below hb1 hk.lt).cell]
    rfl
  have HR := Lib.hid (show RowsAt w P b0 b1 b2 w1 from ⟨hal.trans (hb1.mono hal.size), hp⟩)
  clear hp hb1 hal
  go_wp2
  go_loopw [16] (fun i wr => ∃ (k : Nat), k ≤ 13 ∧ i = .int .i64 k ∧ Hid (RowsAt w P b0 b1 b2 wr) ∧ Hid (Tb.firstBad 0 l = Tb.firstBad k (l.drop k))) (fun i _ => 13 - (intOf i).toNat)
  case atStart => exact ⟨0, by decide, rfl, HR, Lib.hid rfl⟩
  case round =>
    obtain ⟨k, hk, rfl, HP, HF⟩ := hrel
    by_cases hlt : k < 13
    · have hkl : k < l.length := by rw [HL.out]; exact hlt
      obtain ⟨ad, a0, a1, a2, rfl, hb, c0, c1, c2, i0, i1, i2⟩ := (H.out.below HP.out.below).at_ hkl
      have hz := HP.out.below.size
      have hal : Below wr.heap.size wr (wr.alloc (.cells #[a0, a1, a2] 55)) := (Below.refl _ wr).alloc (Nat.le_refl _) _
      have hcr := checkRow_any (a0 := a0) (a1 := a1) (a2 := a2) (x := l[k]) hlt (wr.alloc (.cells #[a0, a1, a2] 55)) ((HI.out.below HP.out.below hg0).below hal (by omega)) (HP.out.parts.keep hal)
        ((i0.below (hal.mono hz)).more (by simp; omega)) ((i1.below (hal.mono hz)).more (by simp; omega)) ((i2.below (hal.mono hz)).more (by simp; omega)) (HS.out _ (List.getElem_mem hkl))
      have hon := HF.out.trans (firstBad_on hkl)
      obtain ⟨A0, d0, rfl, -, -⟩ := i0
      obtain ⟨A1, d1, rfl, -, -⟩ := i1
      obtain ⟨A2, d2, rfl, -, -⟩ := i2
      generalize Tb.rowE k l[k] = q at *
      have HCR := Lib.hid hcr
      have HON := Lib.hid hon
      have HAL := Lib.hid hal
      clear hcr hon hal
      go_wp2_with (fail)
      refine HCR.out.mono ?_
      rintro e w2 ⟨rfl, hb2⟩
      have HP2 := Lib.hid (HP.out.step (HAL.out.trans (hb2.mono HAL.out.size)))
      clear hb2 c0 c1 c2
      by_cases hq0 : q = 0
      · subst hq0
        have HF2 := Lib.hid (HON.out.trans (if_pos rfl))
        go_wp2
        go_roundw
        case rel => exact ⟨k + 1, by omega, by go_num, HP2, HF2⟩
        case measure => simp [intOf]; omega
      · have hq1 : ((q : Int) != 0) = true := by rw [bne_iff_ne]; omega
        have HF2 := Lib.hid (HON.out.trans (if_neg hq0))
        go_wp2
        go_ret2
        rw [HF2.out]
        exact ⟨rfl, HP2.out.below⟩
    · obtain rfl : k = 13 := by omega
      have HF2 := Lib.hid (HF.out.trans (by rw [List.drop_eq_nil_of_le (by rw [HL.out]; omega)]; rfl : _ = ((0, 0) : Nat × Nat)))
      go_wp2
      go_ret2
      rw [HF2.out]
      exact ⟨rfl, HP.out.below⟩
theorem check_any6 {A : Option Addr} {l : List Tb.PR} (c : Nat) (w : World) (hi : Ins w) (h : RowsIn w w.heap.size A l) (hs : ∀ x ∈ l, Small x) : Calls Tryz.prog 51 #[.agg #[.slice A l.length c]] w (TellsE w (Tb.check l).1 (Tb.check l).2) := by
  by_cases hl : l.length = 13
  · rw [hl]
    exact check_13 c w hi h hl hs
  · exact check_no c w hl
end Go.Proofs.YtjobifclmcdjcaaGreatDoor

/- The walks of the reference's Word, Arity, has, Row (by gen_tabw.py). -/
namespace Go.Proofs.YtjobifclmcdjcaaGreatDoor
set_option maxRecDepth 100000
open Go.RowKit Go.Shelf
attribute [local go_sem] Oper.semAt_some

theorem arity_le {op : Nat} (h : op < 13) : Tb.arity op ≤ 3 := by
  rcases Tb.op_cases h with rfl | rfl | rfl | rfl | rfl | rfl | rfl | rfl | rfl | rfl | rfl | rfl | rfl <;> decide
end Go.Proofs.YtjobifclmcdjcaaGreatDoor
