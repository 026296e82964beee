/- The instructions' words and labels in memory; Name, Arity; a row's parts. -/
import Derived.Test.YtggcmkpafpjnoaaGreatDoorGRulD
import Derived.Test.YtggcmkpafpjnoaaGreatDoorGShoG
namespace Go.Proofs.YtggcmkpafpjnoaaGreatDoor
set_option maxRecDepth 100000
open Go.RowKit Go.Shelf
attribute [local go_sem] Oper.semAt_some

/-- The instructions' words and labels lie in their variable. -/
def Ins (w : World) : Prop := ∀ k : Nat, k < 13 → w.cell? ⟨0, k * 2, none⟩ = some (.string (Tb.word k)) ∧ w.cell? ⟨0, k * 2 + 1, none⟩ = some (.int .i64 (Tb.arity k : Nat))
theorem Ins.lt {w : World} (h : Ins w) : 0 < w.heap.size := World.block_lt_of_cell? w ⟨0, 0, none⟩ (h 0 (by decide)).1
theorem Ins.below {w w' : World} {B : Nat} (h : Ins w) (hb : Below B w w') (hB : 0 < B) : Ins w' := fun k hk => ⟨(hb.cell hB).trans (h k hk).1, (hb.cell hB).trans (h k hk).2⟩
theorem isInstr_any (n : Int) (w : World) : Calls Tryz.prog 15 #[.int .i64 n] w fun e w' => e = .returned (.bool (decide (0 ≤ n ∧ n < 13))) ∧ w = w' := by
  by_cases h0 : 0 ≤ n
  · by_cases h1 : n < 13
    · have hd : decide (0 ≤ n ∧ n < 13) = true := decide_eq_true ⟨h0, h1⟩
      rw [hd]
      go_enter Tryz.func15, Tryz.ntmps15
      go_wp2
      go_ret
      exact ⟨rfl, rfl⟩
    · have hd : decide (0 ≤ n ∧ n < 13) = false := decide_eq_false fun h => h1 h.2
      rw [hd]
      go_enter Tryz.func15, Tryz.ntmps15
      go_wp2
      go_ret
      exact ⟨rfl, rfl⟩
  · have hd : decide (0 ≤ n ∧ n < 13) = false := decide_eq_false fun h => h0 h.1
    rw [hd]
    go_enter Tryz.func15, Tryz.ntmps15
    go_wp2
    go_ret
    exact ⟨rfl, rfl⟩
theorem name_no (n : Int) (h : ¬ (0 ≤ n ∧ n < 13)) (w : World) : Calls Tryz.prog 5 #[.int .i64 n] w (Wrote w (ByteArray.empty, 9)) := by
  have hi := fun W => isInstr_any n W
  rw [decide_eq_false h] at hi
  have HI := Lib.hid hi
  clear hi h
  go_enter Tryz.func5, Tryz.ntmps5
  go_wp2_with (go_at_call 15; refine (HI.out _).mono ?_; rintro e w1 ⟨rfl, rfl⟩)
  go_ret2
  exact ⟨rfl, Below.refl _ _⟩
theorem name_yes (k : Nat) (h : k < 13) (w : World) (hi : Ins w) : Calls Tryz.prog 5 #[.int .i64 k] w (Wrote w (Tb.word k, 0)) := by
  have hc := (hi k h).1
  have h2 := fun W => isInstr_any k W
  rw [decide_eq_true (show (0 : Int) ≤ k ∧ (k : Int) < 13 by omega)] at h2
  have HI := Lib.hid h2
  clear h2 hi
  generalize Tb.word k = s at *
  go_enter Tryz.func5, Tryz.ntmps5
  go_wp2_with (go_at_call 15; refine (HI.out _).mono ?_; rintro e w1 ⟨rfl, rfl⟩)
  go_ret2
  exact ⟨rfl, Below.refl _ _⟩
/-- A number, and an error. -/
def TellsE (w : World) (a n : Nat) (e : Ending) (w' : World) : Prop := e = .returned (.tuple #[.int .i64 (a : Int), .int .i64 (n : Int)]) ∧ Below w.heap.size w w'
theorem arity_no (n : Int) (h : ¬ (0 ≤ n ∧ n < 13)) (w : World) : Calls Tryz.prog 6 #[.int .i64 n] w (TellsE w 0 9) := by
  have hi := fun W => isInstr_any n W
  rw [decide_eq_false h] at hi
  have HI := Lib.hid hi
  clear hi h
  go_enter Tryz.func6, Tryz.ntmps6
  go_wp2_with (go_at_call 15; refine (HI.out _).mono ?_; rintro e w1 ⟨rfl, rfl⟩)
  go_ret2
  exact ⟨rfl, Below.refl _ _⟩
theorem arity_yes (k : Nat) (h : k < 13) (w : World) (hi : Ins w) : Calls Tryz.prog 6 #[.int .i64 k] w (TellsE w (Tb.arity k) 0) := by
  have hc := (hi k h).2
  have h2 := fun W => isInstr_any k W
  rw [decide_eq_true (show (0 : Int) ≤ k ∧ (k : Int) < 13 by omega)] at h2
  have HI := Lib.hid h2
  clear h2 hi
  generalize Tb.arity k = s at *
  go_enter Tryz.func6, Tryz.ntmps6
  go_wp2_with (go_at_call 15; refine (HI.out _).mono ?_; rintro e w1 ⟨rfl, rfl⟩)
  go_ret2
  exact ⟨rfl, Below.refl _ _⟩

/-- A part's three functions. -/
def pfun (b : Nat) (g : FuncId) : List Value := [.func (.func 62) #[] #[.pointer (some ⟨b, 0, none⟩)], .func (.func 64) #[] #[.pointer (some ⟨b, 0, none⟩)], .func (.func g) #[] #[]]
theorem partOf_any (lab : Bool) (g : FuncId) (w : World) : Calls Tryz.prog 43 #[.bool lab, .func (.func g) #[] #[]] w fun e w' => e = .returned (.agg (pfun w.heap.size g).toArray) ∧ Below w.heap.size w w' ∧ Blk w' w.heap.size 4 #[.bool lab] := by
  have hmf : ∀ (fn : Fn) (first cap : Array Value) (w : World), (Instr.makeFunc fn first cap).run Tryz.prog w = .ok (.func fn first cap) w := fun _ _ _ _ => rfl
  have hb := Blk.new w 4 #[.bool lab]
  have hlt := hb.lt
  go_enter Tryz.func43, Tryz.ntmps43
  go_wp2
  go_returns
  refine ⟨rfl, ?_, ?_⟩
  · exact ((Below.refl _ w).alloc (Nat.le_refl _) _).alloc (by simp) _
  · exact hb.alloc _

/-- The parts: where they lie, and their variables. -/
structure Parts (P b0 b1 b2 : Nat) (W : World) : Prop where
  blk : Blk W P 100 (pfun b0 44 ++ (pfun b1 45 ++ pfun b2 46)).toArray
  v0 : Blk W b0 4 #[.bool false]
  v1 : Blk W b1 4 #[.bool true]
  v2 : Blk W b2 4 #[.bool true]
theorem Parts.below {P b0 b1 b2 B : Nat} {w w' : World} (h : Parts P b0 b1 b2 w) (hb : Below B w w') (hP : P < B) (h0 : b0 < B) (h1 : b1 < B) (h2 : b2 < B) : Parts P b0 b1 b2 w' :=
  ⟨h.blk.below hb hP, h.v0.below hb h0, h.v1.below hb h1, h.v2.below hb h2⟩
theorem Parts.keep {P b0 b1 b2 : Nat} {w w' : World} (h : Parts P b0 b1 b2 w) (hb : Below w.heap.size w w') : Parts P b0 b1 b2 w' :=
  h.below hb h.blk.lt h.v0.lt h.v1.lt h.v2.lt
set_option maxHeartbeats 1000000 in
theorem parts_any (w : World) : Calls Tryz.prog 28 #[] w fun e w' => ∃ P b0 b1 b2, e = .returned (.slice (some ⟨P, 0, none⟩) 3 3) ∧ Parts P b0 b1 b2 w' ∧ Below w.heap.size w w' ∧ w.heap.size ≤ P ∧ w.heap.size ≤ b0 ∧ w.heap.size ≤ b1 ∧ w.heap.size ≤ b2 := by
  have hp := fun (lab : Bool) (g : FuncId) W => partOf_any lab g W
  unfold pfun at hp
  have HP := Lib.hid hp
  clear hp
  go_enter Tryz.func28, Tryz.ntmps28
  go_wp2_with (fail)
  refine (HP.out _ _ _).mono ?_
  rintro e w1 ⟨rfl, hb1, hk1⟩
  have HB1 := Lib.hid hb1
  have HK1 := Lib.hid hk1
  clear hb1 hk1
  go_wp2_with (fail)
  refine (HP.out _ _ _).mono ?_
  rintro e w2 ⟨rfl, hb2, hk2⟩
  have HB2 := Lib.hid hb2
  have HK2 := Lib.hid hk2
  clear hb2 hk2
  go_wp2_with (fail)
  refine (HP.out _ _ _).mono ?_
  rintro e w3 ⟨rfl, hb3, hk3⟩
  have hz1 := HB1.out.size
  have hz2 := HB2.out.size
  have hz3 := hb3.size
  have hall : Below w.heap.size w (w3.alloc (.cells (pfun w.heap.size 44 ++ (pfun w1.heap.size 45 ++ pfun w2.heap.size 46)).toArray 100)) :=
    ((HB1.out.trans (HB2.out.mono hz1)).trans (hb3.mono (by omega))).alloc (by omega) _
  have hfin : Parts w3.heap.size w.heap.size w1.heap.size w2.heap.size (w3.alloc (.cells (pfun w.heap.size 44 ++ (pfun w1.heap.size 45 ++ pfun w2.heap.size 46)).toArray 100)) :=
    ⟨Blk.new _ _ _, ((((HK1.out.below HB2.out HK1.out.lt)).below hb3 (by have := HK1.out.lt; omega))).alloc _, (HK2.out.below hb3 HK2.out.lt).alloc _, hk3.alloc _⟩
  have HA := Lib.hid hall
  have HF := Lib.hid hfin
  have HZ := Lib.hid (show w.heap.size ≤ w3.heap.size ∧ w.heap.size ≤ w1.heap.size ∧ w.heap.size ≤ w2.heap.size by omega)
  clear hb3 hk3 hz1 hz2 hz3 hall hfin
  go_wp2
  go_ret
  exact ⟨w3.heap.size, w.heap.size, w1.heap.size, w2.heap.size, rfl, HF.out, HA.out, HZ.out.1, Nat.le_refl _, HZ.out.2.1, HZ.out.2.2⟩
/-- The functions in a part. -/
theorem ofM_any (b o : Nat) (w : World) : Calls Tryz.prog 44 #[.pointer (some ⟨b, o, none⟩)] w fun e w' => e = .returned (.pointer (some ⟨b, o, none⟩)) ∧ w = w' := by
  go_enter Tryz.func44, Tryz.ntmps44
  go_wp2
  go_ret
  exact ⟨rfl, rfl⟩
theorem ofR_any (b o : Nat) (w : World) : Calls Tryz.prog 45 #[.pointer (some ⟨b, o, none⟩)] w fun e w' => e = .returned (.pointer (some ⟨b, o + 1, none⟩)) ∧ w = w' := by
  go_enter Tryz.func45, Tryz.ntmps45
  go_wp2
  go_ret
  exact ⟨rfl, rfl⟩
theorem ofP_any (b o : Nat) (w : World) : Calls Tryz.prog 46 #[.pointer (some ⟨b, o, none⟩)] w fun e w' => e = .returned (.pointer (some ⟨b, o + 2, none⟩)) ∧ w = w' := by
  go_enter Tryz.func46, Tryz.ntmps46
  go_wp2
  go_ret
  exact ⟨rfl, rfl⟩
theorem rightP_any {A : Option Addr} {rule : List Int} (c b : Nat) (lab : Bool) (w : World) (hb : Blk w b 4 #[.bool lab]) (h : Row w w.heap.size A (ints rule)) (hl : rule.length ≤ 1000000) :
    Calls Tryz.prog 64 #[.slice A rule.length c, .pointer (some ⟨b, 0, none⟩)] w (Tells w (Rl.right rule lab)) := by
  have hc : w.cell? ⟨b, 0, none⟩ = some (.bool lab) := hb.cell 0
  have hr := right_any c lab w h hl
  generalize Rl.right rule lab = x at *
  have HR := Lib.hid hr
  clear hr h hb
  generalize rule.length = n at *
  go_enter Tryz.func64, Tryz.ntmps64
  go_wp2_with (fail)
  refine HR.out.mono ?_
  rintro e w1 ⟨rfl, hb1⟩
  have HB1 := Lib.hid hb1
  clear hb1
  go_wp2
  go_ret
  exact ⟨rfl, HB1.out⟩
theorem readP_any {A : Option Addr} {l : List Lx.Tk} (c b : Nat) (i : Int) (lab : Bool) (w : World) (hb : Blk w b 4 #[.bool lab]) (hr : Row w w.heap.size A (tcells l)) (hl : l.length ≤ 1000000) :
    Calls Tryz.prog 62 #[.slice A l.length c, .int .i64 i, .pointer (some ⟨b, 0, none⟩)] w (FromNew w (Rl.from_ l i lab)) := by
  have hc : w.cell? ⟨b, 0, none⟩ = some (.bool lab) := hb.cell 0
  have hf := from_anyN c i lab w hr hl
  generalize Rl.from_ l i lab = x at *
  have HF := Lib.hid hf
  clear hf hr hb
  generalize l.length = n at *
  go_enter Tryz.func62, Tryz.ntmps62
  go_wp2_with (fail)
  refine HF.out.mono ?_
  rintro e w1 ⟨v, rfl, hv, hb1, hn1⟩
  have HV := Lib.hid hv
  have HN := Lib.hid hn1
  have HB1 := Lib.hid hb1
  clear hb1 hv hn1
  go_wp2
  go_ret3
  exact ⟨v, rfl, HV.out, HB1.out, HN.out⟩
end Go.Proofs.YtggcmkpafpjnoaaGreatDoor

/- Walks of checkLabels, checkRow, Check. -/
namespace Go.Proofs.YtggcmkpafpjnoaaGreatDoor
set_option maxRecDepth 100000
open Go.RowKit Go.Shelf
attribute [local go_sem] Oper.semAt_some

/-- What holds of a part. -/
structure PartAt (P b0 b1 b2 k : Nat) (W : World) (g : FuncId) (bk : Nat) : Prop where
  c0 : W.cell? ⟨P, k * 3, none⟩ = some (.func (.func 62) #[] #[.pointer (some ⟨bk, 0, none⟩)])
  c1 : W.cell? ⟨P, k * 3 + 1, none⟩ = some (.func (.func 64) #[] #[.pointer (some ⟨bk, 0, none⟩)])
  c2 : W.cell? ⟨P, k * 3 + 2, none⟩ = some (.func (.func g) #[] #[])
  v : Blk W bk 4 #[.bool (decide (k ≠ 0))]
  which : bk = b0 ∨ bk = b1 ∨ bk = b2
  en : ∀ args W, (callFunc g args).run Tryz.prog W = .ok (.enter g args) W
  of : ∀ b W, Calls Tryz.prog g #[.pointer (some ⟨b, 0, none⟩)] W fun e w' => e = .returned (.pointer (some ⟨b, k, none⟩)) ∧ W = w'
  of2 : ∀ b o W, Calls Tryz.prog g #[.pointer (some ⟨b, o, none⟩)] W fun e w' => e = .returned (.pointer (some ⟨b, o + k, none⟩)) ∧ W = w'
theorem Parts.at_ {P b0 b1 b2 k : Nat} {W : World} (h : Parts P b0 b1 b2 W) (hk : k < 3) : ∃ g bk, PartAt P b0 b1 b2 k W g bk := by
  rcases (by omega : k = 0 ∨ k = 1 ∨ k = 2) with rfl | rfl | rfl
  · exact ⟨_, b0, h.blk.cell 0, h.blk.cell 1, h.blk.cell 2, h.v0, .inl rfl, Tryz.call44, fun b W => ofM_any b 0 W, fun b o W => ofM_any b o W⟩
  · exact ⟨_, b1, h.blk.cell 3, h.blk.cell 4, h.blk.cell 5, h.v1, .inr (.inl rfl), Tryz.call45, fun b W => ofR_any b 0 W, fun b o W => ofR_any b o W⟩
  · exact ⟨_, b2, h.blk.cell 6, h.blk.cell 7, h.blk.cell 8, h.v2, .inr (.inr rfl), Tryz.call46, fun b W => ofP_any b 0 W, fun b o W => ofP_any b o W⟩
namespace Tb
def PR.nth (x : PR) (k : Nat) : List Int := if k = 0 then x.m else if k = 1 then x.r else x.p
theorem arity_le (op : Nat) : arity op ≤ 3 := by
  by_cases h : op < 13
  · rcases op_cases h with rfl | rfl | rfl | rfl | rfl | rfl | rfl | rfl | rfl | rfl | rfl | rfl | rfl <;> decide
  · unfold arity
    rw [List.getD_eq_getElem?_getD, List.getElem?_eq_none (by simp; omega)]
    decide
theorem useOf_lt (l : List Int) : useOf l < 16 := by
  unfold useOf
  split
  · exact Rl.usesOf_lt l
  · decide
end Tb
theorem uses_any6 {A : Option Addr} {rule : List Int} (c : Nat) (w : World) (h : Row w w.heap.size A (ints rule)) (hl : rule.length ≤ 1000000) : Calls Tryz.prog 95 #[.slice A rule.length c] w fun e w' => ∃ n : Nat, e = .returned (.tuple #[.int .u32 (Tb.useOf rule : Nat), .int .i64 (n : Int)]) ∧ Below w.heap.size w w' := by
  cases hm : Rl.made rule
  · refine (uses_no c w h hl hm).mono ?_
    rintro e w' ⟨rfl, hb⟩
    refine ⟨1, ?_, hb⟩
    unfold Tb.useOf
    rw [hm]
    rfl
  · refine (uses_yes c w h hl hm).mono ?_
    rintro e w' ⟨rfl, hb⟩
    refine ⟨0, ?_, hb⟩
    unfold Tb.useOf
    rw [hm]
    rfl
/-- Three rules' slices, in a block of their own. -/
structure RowAt (b : Nat) (a0 a1 a2 : Value) (x : Tb.PR) (B : Nat) (W : World) : Prop where
  blk : Blk W b 43 #[a0, a1, a2]
  i0 : IsInts W B a0 x.m
  i1 : IsInts W B a1 x.r
  i2 : IsInts W B a2 x.p
theorem RowAt.below {b B : Nat} {a0 a1 a2 : Value} {x : Tb.PR} {w w' : World} (h : RowAt b a0 a1 a2 x B w) (hb : Below w.heap.size w w') (hB : B ≤ w.heap.size) : RowAt b a0 a1 a2 x B w' :=
  ⟨h.blk.below hb h.blk.lt, h.i0.below (hb.mono hB), h.i1.below (hb.mono hB), h.i2.below (hb.mono hB)⟩
theorem RowAt.at_ {b B k : Nat} {a0 a1 a2 : Value} {x : Tb.PR} {W : World} (h : RowAt b a0 a1 a2 x B W) (hk : k < 3) : ∃ A c, W.cell? ⟨b, k, none⟩ = some (.slice A (x.nth k).length c) ∧ Row W B A (ints (x.nth k)) := by
  rcases (by omega : k = 0 ∨ k = 1 ∨ k = 2) with rfl | rfl | rfl
  · obtain ⟨A, c, e, hr, _⟩ := h.i0
    exact ⟨A, c, by rw [h.blk.cell]; exact congrArg some e, hr⟩
  · obtain ⟨A, c, e, hr, _⟩ := h.i1
    exact ⟨A, c, by rw [h.blk.cell]; exact congrArg some e, hr⟩
  · obtain ⟨A, c, e, hr, _⟩ := h.i2
    exact ⟨A, c, by rw [h.blk.cell]; exact congrArg some e, hr⟩
def Small (x : Tb.PR) : Prop := ∀ k, (x.nth k).length ≤ 1000000
/-- What holds at the head of a round over the parts. -/
structure PartsAt (w0 : World) (P b0 b1 b2 b : Nat) (a0 a1 a2 : Value) (x : Tb.PR) (W : World) : Prop where
  below : Below w0.heap.size w0 W
  parts : Parts P b0 b1 b2 W
  row : RowAt b a0 a1 a2 x W.heap.size W
theorem PartsAt.step {w0 : World} {P b0 b1 b2 b : Nat} {a0 a1 a2 : Value} {x : Tb.PR} {W W' : World} (h : PartsAt w0 P b0 b1 b2 b a0 a1 a2 x W) (hb : Below W.heap.size W W') : PartsAt w0 P b0 b1 b2 b a0 a1 a2 x W' :=
  ⟨h.below.trans (hb.mono h.below.size), h.parts.keep hb, by
    have := h.row.below hb (Nat.le_refl _)
    exact ⟨this.blk, this.i0.more hb.size, this.i1.more hb.size, this.i2.more hb.size⟩⟩
theorem labE_no {op : Nat} {x : Tb.PR} (h : ∀ k, k < 3 → Tb.over op (x.nth k) = false) : Tb.labE op x = 0 := by
  have h0 : Tb.over op x.m = false := h 0 (by decide)
  have h1 : Tb.over op x.r = false := h 1 (by decide)
  have h2 : Tb.over op x.p = false := h 2 (by decide)
  unfold Tb.labE
  rw [h0, h1, h2]
  rfl
theorem labE_yes {op k : Nat} {x : Tb.PR} (hk : k < 3) (h : Tb.over op (x.nth k) = true) : Tb.labE op x = 7 := by
  unfold Tb.labE
  rw [if_pos]
  rcases (by omega : k = 0 ∨ k = 1 ∨ k = 2) with rfl | rfl | rfl
  · rw [show Tb.over op x.m = true from h]; rfl
  · rw [show Tb.over op x.r = true from h]; simp
  · rw [show Tb.over op x.p = true from h]; simp
set_option maxHeartbeats 4000000 in
theorem labels_any {P b0 b1 b2 op : Nat} {a0 a1 a2 : Value} {x : Tb.PR} (hop : op < 13) (w : World) (hi : Ins w) (hp : Parts P b0 b1 b2 w) (h0 : IsInts w w.heap.size a0 x.m) (h1 : IsInts w w.heap.size a1 x.r) (h2 : IsInts w w.heap.size a2 x.p) (hs : Small x) :
    Calls Tryz.prog 69 #[.slice (some ⟨P, 0, none⟩) 3 3, .int .i64 (op : Int), .agg #[a0, a1, a2]] w (TellsN w (Tb.labE op x : Nat)) := by
  have hst : PartsAt w P b0 b1 b2 w.heap.size a0 a1 a2 x (w.alloc (.cells #[a0, a1, a2] 43)) := by
    have hb : Below w.heap.size w (w.alloc (.cells #[a0, a1, a2] 43)) := (Below.refl _ w).alloc (Nat.le_refl _) _
    exact ⟨hb, hp.keep hb, Blk.new _ _ _, (h0.below hb).more hb.size, (h1.below hb).more hb.size, (h2.below hb).more hb.size⟩
  have HST := Lib.hid hst
  have HI := Lib.hid hi
  have HS := Lib.hid hs
  have hg0 := hi.lt
  clear hp h0 h1 h2 hst hi hs
  go_enter Tryz.func69, Tryz.ntmps69
  go_wp2
  go_loopw [13] (fun i wr => ∃ (k : Nat), k ≤ 3 ∧ i = .int .i64 k ∧ Hid (PartsAt w P b0 b1 b2 w.heap.size a0 a1 a2 x wr) ∧ Hid (∀ j, j < k → Tb.over op (x.nth j) = false)) (fun i _ => 3 - (intOf i).toNat)
  case atStart => exact ⟨0, by decide, rfl, HST, Lib.hid fun j hj => absurd hj (by omega)⟩
  case round =>
    obtain ⟨k, hk, rfl, HP, HO⟩ := hrel
    by_cases hlt : k < 3
    · obtain ⟨g, bk, hpa⟩ := HP.out.parts.at_ hlt
      obtain ⟨A, c, hsl, hrow⟩ := HP.out.row.at_ hlt
      obtain ⟨c0, c1, c2, -, -, hen, hof, -⟩ := hpa
      have hus : ∀ W, Below wr.heap.size wr W → Calls Tryz.prog 95 #[.slice A (x.nth k).length c] W fun e w' => ∃ n : Nat, e = .returned (.tuple #[.int .u32 (Tb.useOf (x.nth k) : Nat), .int .i64 (n : Int)]) ∧ Below W.heap.size W w' :=
        fun W hb => uses_any6 c W ((hrow.below hb).more hb.size) (HS.out k)
      have hal := (Below.refl wr.heap.size wr).alloc (Nat.le_refl _) (.cells #[.func (.func 62) #[] #[.pointer (some ⟨bk, 0, none⟩)], .func (.func 64) #[] #[.pointer (some ⟨bk, 0, none⟩)], .func (.func g) #[] #[]] 100)
      have hur := Tb.useOf_lt (x.nth k)
      obtain ⟨q, hq⟩ : ∃ q, Tb.useOf (x.nth k) / 2 ^ (1 + Tb.arity op) = q := ⟨_, rfl⟩
      have hov : Tb.over op (x.nth k) = decide (q ≠ 0) := by unfold Tb.over; rw [hq]
      generalize (x.nth k).length = n at *
      generalize Tb.useOf (x.nth k) = u at *
      have har := Tb.arity_le op
      have hic : ∀ W, Below w.heap.size w W → W.cell? ⟨0, op * 2 + 1, none⟩ = some (.int .i64 (Tb.arity op : Nat)) := fun W hb => (HI.out.below hb hg0 op hop).2
      generalize Tb.arity op = ar at *
      have hsh : (u : Int) / 2 ^ (1 + (ar : Int)).toNat = (q : Int) := by
        rw [← hq, show (1 + (ar : Int)).toNat = 1 + ar by omega]
        norm_cast
      have hblk := HP.out.row.blk.lt
      have HOV := Lib.hid hov
      have HUS := Lib.hid hus
      have HAL := Lib.hid hal
      have HIC := Lib.hid hic
      clear hus hal hq hov hrow hic
      go_wp2_with (fail)
      refine (hof _ _).mono ?_
      rintro e w1 ⟨rfl, rfl⟩
      go_wp2_with (fail)
      refine (HUS.out _ HAL.out).mono ?_
      rintro e w2 ⟨m, rfl, hb2⟩
      have HP2 := Lib.hid (HP.out.step (HAL.out.trans (hb2.mono HAL.out.size)))
      have hic2 := HIC.out w2 HP2.out.below
      clear hb2 c0 c1 c2 hsl hof hen
      by_cases hq0 : q = 0
      · subst hq0
        have HO2 : Hid (∀ j, j < k + 1 → Tb.over op (x.nth j) = false) := Lib.hid fun j hj => by
          by_cases e : j = k
          · subst e; rw [HOV.out]; rfl
          · exact HO.out j (by omega)
        go_wp2
        go_roundw
        case rel => exact ⟨k + 1, by omega, by go_num, HP2, HO2⟩
        case measure => simp [intOf]; omega
      · have hq1 : ((q : Int) != 0) = true := by rw [bne_iff_ne]; omega
        have HL := Lib.hid (labE_yes (op := op) hlt (by rw [HOV.out]; exact decide_eq_true hq0))
        go_wp2
        go_ret
        rw [HL.out]
        exact ⟨rfl, HP2.out.below⟩
    · obtain rfl : k = 3 := by omega
      have HL := Lib.hid (labE_no HO.out)
      go_wp2
      go_ret
      rw [HL.out]
      exact ⟨rfl, HP.out.below⟩
end Go.Proofs.YtggcmkpafpjnoaaGreatDoor
