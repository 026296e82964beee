/- Walks of ofTwo (by gen_sho.py). -/
import Derived.BigQuiet
import Derived.Test.YtggcmkpafpjnoaaGreatDoorGShoF
import Derived.Test.YtggcmkpafpjnoaaGreatDoorGRulB
namespace Go.Proofs.YtggcmkpafpjnoaaGreatDoor
set_option maxRecDepth 100000
open Go.RowKit Go.Shelf

/-- Two things, each in a block of its own, behind w1. -/
structure XY (w1 : World) (t : TypeId) (x y : Sh.Th) (W : World) : Prop where
  bx : Blk W w1.heap.size t #[.string x.s, .int .i64 x.b, .int .i64 x.d]
  bY : Blk W (w1.heap.size + 1) t #[.string y.s, .int .i64 y.b, .int .i64 y.d]
  below : Below w1.heap.size w1 W
section
variable {w1 W W' : World} {t : TypeId} {x y : Sh.Th}
theorem XY.start (w1 : World) (t : TypeId) (x y : Sh.Th) (n : Nat) : XY w1 t x y (((w1.alloc (.cells #[.string x.s, .int .i64 x.b, .int .i64 x.d] t)).alloc (.cells #[.string y.s, .int .i64 y.b, .int .i64 y.d] t)).drewN n) := by
  have hs : (w1.alloc (.cells #[.string x.s, .int .i64 x.b, .int .i64 x.d] t)).heap.size = w1.heap.size + 1 := by simp
  have h2 := Blk.new (w1.alloc (.cells #[.string x.s, .int .i64 x.b, .int .i64 x.d] t)) t #[.string y.s, .int .i64 y.b, .int .i64 y.d]
  rw [hs] at h2
  have hb := ((Below.refl w1.heap.size w1).alloc (Nat.le_refl _) (.cells #[.string x.s, .int .i64 x.b, .int .i64 x.d] t)).alloc (by simp) (.cells #[.string y.s, .int .i64 y.b, .int .i64 y.d] t)
  exact ⟨((Blk.new w1 t _).alloc _).drewN n, h2.drewN n, ⟨hb.os, hb.tape, hb.output, hb.size, hb.block⟩⟩
theorem XY.call (h : XY w1 t x y W) (hb : Below W.heap.size W W') : XY w1 t x y W' := ⟨h.bx.below hb h.bx.lt, h.bY.below hb h.bY.lt, h.below.trans (hb.mono h.below.size)⟩
theorem XY.drewN (h : XY w1 t x y W) (n : Nat) : XY w1 t x y (W.drewN n) := ⟨h.bx.drewN n, h.bY.drewN n, ⟨h.below.os, h.below.tape, h.below.output, h.below.size, h.below.block⟩⟩
theorem XY.setX (h : XY w1 t x y W) (z : Sh.Th) : XY w1 t z y (((W.setCell ⟨w1.heap.size, 0, none⟩ (.string z.s)).setCell ⟨w1.heap.size, 1, none⟩ (.int .i64 z.b)).setCell ⟨w1.heap.size, 2, none⟩ (.int .i64 z.d)) :=
  ⟨((h.bx.set_ 0 _).set_ 1 _).set_ 2 _, ((h.bY.other (by simp) _).other (by simp) _).other (by simp) _,
    ((h.below.setCell (p := ⟨w1.heap.size, 0, none⟩) (Nat.le_refl _) _).setCell (p := ⟨w1.heap.size, 1, none⟩) (Nat.le_refl _) _).setCell (p := ⟨w1.heap.size, 2, none⟩) (Nat.le_refl _) _⟩
theorem XY.setY (h : XY w1 t x y W) (z : Sh.Th) : XY w1 t x z (((W.setCell ⟨w1.heap.size + 1, 0, none⟩ (.string z.s)).setCell ⟨w1.heap.size + 1, 1, none⟩ (.int .i64 z.b)).setCell ⟨w1.heap.size + 1, 2, none⟩ (.int .i64 z.d)) :=
  ⟨((h.bx.other (by simp) _).other (by simp) _).other (by simp) _, ((h.bY.set_ 0 _).set_ 1 _).set_ 2 _,
    ((h.below.setCell (p := ⟨w1.heap.size + 1, 0, none⟩) (Nat.le_succ _) _).setCell (p := ⟨w1.heap.size + 1, 1, none⟩) (Nat.le_succ _) _).setCell (p := ⟨w1.heap.size + 1, 2, none⟩) (Nat.le_succ _) _⟩
theorem XY.facts (h : XY w1 t x y W) : W.cell? ⟨w1.heap.size, 0, none⟩ = some (.string x.s) ∧ W.cell? ⟨w1.heap.size, 1, none⟩ = some (.int .i64 x.b) ∧ W.cell? ⟨w1.heap.size, 2, none⟩ = some (.int .i64 x.d) ∧
    W.cell? ⟨w1.heap.size + 1, 0, none⟩ = some (.string y.s) ∧ W.cell? ⟨w1.heap.size + 1, 1, none⟩ = some (.int .i64 y.b) ∧ W.cell? ⟨w1.heap.size + 1, 2, none⟩ = some (.int .i64 y.d) ∧
    W.frozen? ⟨w1.heap.size, 0, none⟩ = false ∧ W.frozen? ⟨w1.heap.size, 1, none⟩ = false ∧ W.frozen? ⟨w1.heap.size, 2, none⟩ = false ∧ W.frozen? ⟨w1.heap.size + 1, 0, none⟩ = false ∧ W.frozen? ⟨w1.heap.size + 1, 1, none⟩ = false ∧ W.frozen? ⟨w1.heap.size + 1, 2, none⟩ = false :=
  ⟨by rw [h.bx.cell]; rfl, by rw [h.bx.cell]; rfl, by rw [h.bx.cell]; rfl, by rw [h.bY.cell]; rfl, by rw [h.bY.cell]; rfl, by rw [h.bY.cell]; rfl, h.bx.frozen _, h.bx.frozen _, h.bx.frozen _, h.bY.frozen _, h.bY.frozen _, h.bY.frozen _⟩
end

set_option maxHeartbeats 4000000 in
theorem ofC_any {R : Nat} {vc vl : Value} {cs ls : List Sh.Th} (x y : Sh.Th) (n : Nat) (o c : ByteArray) (h1 : 1 ≤ n) (h2 : n ≤ 13) (ho : o.size ≤ 10) (hc : c.size ≤ 10) (hx : Sh.wt x ≤ 100000) (hy : Sh.wt y ≤ 100000) (w : World) (hw : Wds w) (hR0 : 2 < R) (h : PP R vc vl (cs ++ [x] ++ [y]) ls w) (hl : cs.length ≤ 100000) :
    Calls Tryz.prog 102 #[.pointer (some ⟨R, 0, none⟩), .int .i64 n, .string o, .string c] w (PutC R vl cs ls (Sh.btw (Sh.brL n o c x) n (Sh.brR n o c y)) w) := by
  have htk := takeC_any x y w h (by omega)
  have hwi : ∀ (t : Sh.Th) W, Sh.wt t ≤ 100000 → Calls Tryz.prog 125 #[thv t, .string o, .string c] W (Gives W (Sh.inBr o c t)) := fun t W ht => withinC_any t o c (by omega) ho hc W
  have hbt : ∀ (t u : Sh.Th) W, Sh.wt t ≤ 1000000 → Sh.wt u ≤ 1000000 → Wds W → Calls Tryz.prog 126 #[thv t, .int .i64 n, thv u] W (Gives W (Sh.btw t n u)) := fun t u W ht hu hW => btwC_any t u n h1 h2 ht hu W hW
  have hp : ∀ (t : Sh.Th) (vc vl : Value) (cs ls : List Sh.Th) W, PP R vc vl cs ls W → cs.length ≤ 100000 → Calls Tryz.prog 100 #[.pointer (some ⟨R, 0, none⟩), thv t] W (PutC R vl cs ls t W) := fun t vc vl cs ls W h hl => putC_any t W h (by omega)
  have hwt : ∀ t : Sh.Th, Sh.wt t ≤ 100000 → Sh.wt (Sh.inBr o c t) ≤ 1000000 := fun t ht => by unfold Sh.inBr Sh.wt at *; simp only [ByteArray.size_append]; omega
  have hbd := fun W => binds_any (n : Int) W
  have HB := Lib.hid hbd
  have HTK := Lib.hid htk
  have HWI := Lib.hid hwi
  have HBT := Lib.hid hbt
  have HP := Lib.hid hp
  have HW := Lib.hid hw
  have HL := Lib.hid hl
  have HX := Lib.hid hx
  have HY := Lib.hid hy
  have HWT := Lib.hid hwt
  have hlt := h.lt
  clear htk hwi hbt hp hbd hw h hl hwt ho hc h1 h2
  unfold Sh.brL Sh.brR
  generalize hbn : Sh.binds (n : Int) = bn at *
  by_cases hL : x.b < bn <;> by_cases hRt : y.b ≤ bn
  · rw [if_pos hL, if_pos hRt]
    go_enter Tryz.func102, Tryz.ntmps102
    go_wp2_with (fail)
    refine HTK.out.mono ?_
    rintro e w1 ⟨rfl, ⟨v1, hp1⟩, hb1⟩
    have HP1 := Lib.hid hp1
    have HB1 := Lib.hid hb1
    clear hp1 hb1
    unfold thv
    go_wp2
    go_quiet ((go_at_call 123; exact quiet_eq (HB.out _)))
    have hs : XY w1 164 x y (((w1.alloc (.cells #[.string x.s, .int .i64 x.b, .int .i64 x.d] 164)).alloc (.cells #[.string y.s, .int .i64 y.b, .int .i64 y.d] 164)).drewN nq) := XY.start w1 164 x y nq
    obtain ⟨W, hW⟩ : ∃ W, (((w1.alloc (.cells #[.string x.s, .int .i64 x.b, .int .i64 x.d] 164)).alloc (.cells #[.string y.s, .int .i64 y.b, .int .i64 y.d] 164)).drewN nq) = W := ⟨_, rfl⟩
    rw [hW] at hs ⊢
    clear hW
    obtain ⟨q0, q1, q2, q3, q4, q5, q6, q7, q8, q9, qa, qb⟩ := hs.facts
    have HS := Lib.hid hs
    clear hs
    go_wp2_with (fail)
    refine (HWI.out x W HX.out).mono ?_
    rintro e w2 ⟨rfl, hb2⟩
    have hs2 := HS.out.call hb2
    clear q0 q1 q2 q3 q4 q5 q6 q7 q8 q9 qa qb
    obtain ⟨q0, q1, q2, q3, q4, q5, q6, q7, q8, q9, qa, qb⟩ := hs2.facts
    have HS2 := Lib.hid hs2
    clear hs2 hb2 HS
    obtain ⟨x', hx'⟩ : ∃ x', Sh.inBr o c x = x' := ⟨_, rfl⟩
    have HWX := Lib.hid (show Sh.wt x' ≤ 1000000 from hx' ▸ HWT.out x HX.out)
    rw [hx']
    have HXE := Lib.hid hx'
    clear hx'
    go_wp2
    go_quiet ((go_at_call 123; exact quiet_eq (HB.out _)))
    have hs3 : XY w1 164 x' y ((((w2.setCell ⟨w1.heap.size, 0, none⟩ (.string x'.s)).setCell ⟨w1.heap.size, 1, none⟩ (.int .i64 x'.b)).setCell ⟨w1.heap.size, 2, none⟩ (.int .i64 x'.d)).drewN nq) := (HS2.out.setX x').drewN nq
    obtain ⟨W3, hW⟩ : ∃ W3, (((w2.setCell ⟨w1.heap.size, 0, none⟩ (.string x'.s)).setCell ⟨w1.heap.size, 1, none⟩ (.int .i64 x'.b)).setCell ⟨w1.heap.size, 2, none⟩ (.int .i64 x'.d)).drewN nq = W3 := ⟨_, rfl⟩
    rw [hW] at hs3 ⊢
    clear hW
    clear q0 q1 q2 q3 q4 q5 q6 q7 q8 q9 qa qb
    obtain ⟨q0, q1, q2, q3, q4, q5, q6, q7, q8, q9, qa, qb⟩ := hs3.facts
    have HS3 := Lib.hid hs3
    clear hs3
    go_wp2_with (fail)
    refine (HWI.out y W3 HY.out).mono ?_
    rintro e w4 ⟨rfl, hb4⟩
    have hs4 := HS3.out.call hb4
    clear q0 q1 q2 q3 q4 q5 q6 q7 q8 q9 qa qb
    obtain ⟨q0, q1, q2, q3, q4, q5, q6, q7, q8, q9, qa, qb⟩ := hs4.facts
    have HS4 := Lib.hid hs4
    clear hs4 hb4 HS3
    obtain ⟨y', hy'⟩ : ∃ y', Sh.inBr o c y = y' := ⟨_, rfl⟩
    have HWY := Lib.hid (show Sh.wt y' ≤ 1000000 from hy' ▸ HWT.out y HY.out)
    rw [hy']
    have HYE := Lib.hid hy'
    clear hy'
    go_wp2_with (fail)
    have hs5 : XY w1 164 x' y' (((w4.setCell ⟨(w1.heap.size + 1), 0, none⟩ (.string y'.s)).setCell ⟨(w1.heap.size + 1), 1, none⟩ (.int .i64 y'.b)).setCell ⟨(w1.heap.size + 1), 2, none⟩ (.int .i64 y'.d)) := HS4.out.setY y'
    obtain ⟨W5, hW⟩ : ∃ W5, (((w4.setCell ⟨(w1.heap.size + 1), 0, none⟩ (.string y'.s)).setCell ⟨(w1.heap.size + 1), 1, none⟩ (.int .i64 y'.b)).setCell ⟨(w1.heap.size + 1), 2, none⟩ (.int .i64 y'.d)) = W5 := ⟨_, rfl⟩
    rw [hW] at hs5 ⊢
    clear hW
    refine (HBT.out x' y' W5 HWX.out HWY.out (HW.out.below (HB1.out.trans (hs5.below.mono (Nat.le_of_lt HP1.out.lt))) hR0)).mono ?_
    rintro e w6 ⟨rfl, hb6⟩
    have hbl : Below w1.heap.size w1 w6 := hs5.below.trans (hb6.mono hs5.below.size)
    have HB6 := Lib.hid hbl
    clear q0 q1 q2 q3 q4 q5 q6 q7 q8 q9 qa qb
    clear hs5 hb6 hbl
    obtain ⟨t, ht⟩ : ∃ t, Sh.btw x' (n : Int) y' = t := ⟨_, rfl⟩
    rw [ht]
    have HTE := Lib.hid ht
    clear ht
    go_wp2_with (fail)
    refine (HP.out t _ _ _ _ w6 (HP1.out.kept HB6.out) HL.out).mono ?_
    rintro e w7 ⟨⟨u, rfl⟩, hr7, hb7⟩
    have HR7 := Lib.hid hr7
    have HB7 := Lib.hid (HB1.out.trans ((HB6.out.mono (Nat.le_of_lt HP1.out.lt)).trans hb7))
    clear hr7 hb7
    go_wp2
    go_returns
    rw [HXE.out]
    rw [HYE.out]
    rw [HTE.out]
    exact ⟨⟨_, rfl⟩, HR7.out, HB7.out⟩
  · rw [if_pos hL, if_neg hRt]
    go_enter Tryz.func102, Tryz.ntmps102
    go_wp2_with (fail)
    refine HTK.out.mono ?_
    rintro e w1 ⟨rfl, ⟨v1, hp1⟩, hb1⟩
    have HP1 := Lib.hid hp1
    have HB1 := Lib.hid hb1
    clear hp1 hb1
    unfold thv
    go_wp2
    go_quiet ((go_at_call 123; exact quiet_eq (HB.out _)))
    have hs : XY w1 164 x y (((w1.alloc (.cells #[.string x.s, .int .i64 x.b, .int .i64 x.d] 164)).alloc (.cells #[.string y.s, .int .i64 y.b, .int .i64 y.d] 164)).drewN nq) := XY.start w1 164 x y nq
    obtain ⟨W, hW⟩ : ∃ W, (((w1.alloc (.cells #[.string x.s, .int .i64 x.b, .int .i64 x.d] 164)).alloc (.cells #[.string y.s, .int .i64 y.b, .int .i64 y.d] 164)).drewN nq) = W := ⟨_, rfl⟩
    rw [hW] at hs ⊢
    clear hW
    obtain ⟨q0, q1, q2, q3, q4, q5, q6, q7, q8, q9, qa, qb⟩ := hs.facts
    have HS := Lib.hid hs
    clear hs
    go_wp2_with (fail)
    refine (HWI.out x W HX.out).mono ?_
    rintro e w2 ⟨rfl, hb2⟩
    have hs2 := HS.out.call hb2
    clear q0 q1 q2 q3 q4 q5 q6 q7 q8 q9 qa qb
    obtain ⟨q0, q1, q2, q3, q4, q5, q6, q7, q8, q9, qa, qb⟩ := hs2.facts
    have HS2 := Lib.hid hs2
    clear hs2 hb2 HS
    obtain ⟨x', hx'⟩ : ∃ x', Sh.inBr o c x = x' := ⟨_, rfl⟩
    have HWX := Lib.hid (show Sh.wt x' ≤ 1000000 from hx' ▸ HWT.out x HX.out)
    rw [hx']
    have HXE := Lib.hid hx'
    clear hx'
    go_wp2
    go_quiet ((go_at_call 123; exact quiet_eq (HB.out _)))
    have hs3 : XY w1 164 x' y ((((w2.setCell ⟨w1.heap.size, 0, none⟩ (.string x'.s)).setCell ⟨w1.heap.size, 1, none⟩ (.int .i64 x'.b)).setCell ⟨w1.heap.size, 2, none⟩ (.int .i64 x'.d)).drewN nq) := (HS2.out.setX x').drewN nq
    obtain ⟨W3, hW⟩ : ∃ W3, (((w2.setCell ⟨w1.heap.size, 0, none⟩ (.string x'.s)).setCell ⟨w1.heap.size, 1, none⟩ (.int .i64 x'.b)).setCell ⟨w1.heap.size, 2, none⟩ (.int .i64 x'.d)).drewN nq = W3 := ⟨_, rfl⟩
    rw [hW] at hs3 ⊢
    clear hW
    clear q0 q1 q2 q3 q4 q5 q6 q7 q8 q9 qa qb
    obtain ⟨q0, q1, q2, q3, q4, q5, q6, q7, q8, q9, qa, qb⟩ := hs3.facts
    have HS3 := Lib.hid hs3
    clear hs3
    go_wp2_with (fail)
    have hs5 : XY w1 164 x' y W3 := HS3.out
    obtain ⟨W5, hW⟩ : ∃ W5, W3 = W5 := ⟨_, rfl⟩
    rw [hW] at hs5 ⊢
    clear hW
    refine (HBT.out x' y W5 HWX.out (Nat.le_trans HY.out (by decide)) (HW.out.below (HB1.out.trans (hs5.below.mono (Nat.le_of_lt HP1.out.lt))) hR0)).mono ?_
    rintro e w6 ⟨rfl, hb6⟩
    have hbl : Below w1.heap.size w1 w6 := hs5.below.trans (hb6.mono hs5.below.size)
    have HB6 := Lib.hid hbl
    clear q0 q1 q2 q3 q4 q5 q6 q7 q8 q9 qa qb
    clear hs5 hb6 hbl
    obtain ⟨t, ht⟩ : ∃ t, Sh.btw x' (n : Int) y = t := ⟨_, rfl⟩
    rw [ht]
    have HTE := Lib.hid ht
    clear ht
    go_wp2_with (fail)
    refine (HP.out t _ _ _ _ w6 (HP1.out.kept HB6.out) HL.out).mono ?_
    rintro e w7 ⟨⟨u, rfl⟩, hr7, hb7⟩
    have HR7 := Lib.hid hr7
    have HB7 := Lib.hid (HB1.out.trans ((HB6.out.mono (Nat.le_of_lt HP1.out.lt)).trans hb7))
    clear hr7 hb7
    go_wp2
    go_returns
    rw [HXE.out]
    rw [HTE.out]
    exact ⟨⟨_, rfl⟩, HR7.out, HB7.out⟩
  · rw [if_neg hL, if_pos hRt]
    go_enter Tryz.func102, Tryz.ntmps102
    go_wp2_with (fail)
    refine HTK.out.mono ?_
    rintro e w1 ⟨rfl, ⟨v1, hp1⟩, hb1⟩
    have HP1 := Lib.hid hp1
    have HB1 := Lib.hid hb1
    clear hp1 hb1
    unfold thv
    go_wp2
    go_quiet ((go_at_call 123; exact quiet_eq (HB.out _)))
    have hs : XY w1 164 x y (((w1.alloc (.cells #[.string x.s, .int .i64 x.b, .int .i64 x.d] 164)).alloc (.cells #[.string y.s, .int .i64 y.b, .int .i64 y.d] 164)).drewN nq) := XY.start w1 164 x y nq
    obtain ⟨W, hW⟩ : ∃ W, (((w1.alloc (.cells #[.string x.s, .int .i64 x.b, .int .i64 x.d] 164)).alloc (.cells #[.string y.s, .int .i64 y.b, .int .i64 y.d] 164)).drewN nq) = W := ⟨_, rfl⟩
    rw [hW] at hs ⊢
    clear hW
    obtain ⟨q0, q1, q2, q3, q4, q5, q6, q7, q8, q9, qa, qb⟩ := hs.facts
    have HS := Lib.hid hs
    clear hs
    go_wp2
    go_quiet ((go_at_call 123; exact quiet_eq (HB.out _)))
    have hs3 : XY w1 164 x y (W.drewN nq) := (HS.out).drewN nq
    obtain ⟨W3, hW⟩ : ∃ W3, W.drewN nq = W3 := ⟨_, rfl⟩
    rw [hW] at hs3 ⊢
    clear hW
    clear q0 q1 q2 q3 q4 q5 q6 q7 q8 q9 qa qb
    obtain ⟨q0, q1, q2, q3, q4, q5, q6, q7, q8, q9, qa, qb⟩ := hs3.facts
    have HS3 := Lib.hid hs3
    clear hs3
    go_wp2_with (fail)
    refine (HWI.out y W3 HY.out).mono ?_
    rintro e w4 ⟨rfl, hb4⟩
    have hs4 := HS3.out.call hb4
    clear q0 q1 q2 q3 q4 q5 q6 q7 q8 q9 qa qb
    obtain ⟨q0, q1, q2, q3, q4, q5, q6, q7, q8, q9, qa, qb⟩ := hs4.facts
    have HS4 := Lib.hid hs4
    clear hs4 hb4 HS3
    obtain ⟨y', hy'⟩ : ∃ y', Sh.inBr o c y = y' := ⟨_, rfl⟩
    have HWY := Lib.hid (show Sh.wt y' ≤ 1000000 from hy' ▸ HWT.out y HY.out)
    rw [hy']
    have HYE := Lib.hid hy'
    clear hy'
    go_wp2_with (fail)
    have hs5 : XY w1 164 x y' (((w4.setCell ⟨(w1.heap.size + 1), 0, none⟩ (.string y'.s)).setCell ⟨(w1.heap.size + 1), 1, none⟩ (.int .i64 y'.b)).setCell ⟨(w1.heap.size + 1), 2, none⟩ (.int .i64 y'.d)) := HS4.out.setY y'
    obtain ⟨W5, hW⟩ : ∃ W5, (((w4.setCell ⟨(w1.heap.size + 1), 0, none⟩ (.string y'.s)).setCell ⟨(w1.heap.size + 1), 1, none⟩ (.int .i64 y'.b)).setCell ⟨(w1.heap.size + 1), 2, none⟩ (.int .i64 y'.d)) = W5 := ⟨_, rfl⟩
    rw [hW] at hs5 ⊢
    clear hW
    refine (HBT.out x y' W5 (Nat.le_trans HX.out (by decide)) HWY.out (HW.out.below (HB1.out.trans (hs5.below.mono (Nat.le_of_lt HP1.out.lt))) hR0)).mono ?_
    rintro e w6 ⟨rfl, hb6⟩
    have hbl : Below w1.heap.size w1 w6 := hs5.below.trans (hb6.mono hs5.below.size)
    have HB6 := Lib.hid hbl
    clear q0 q1 q2 q3 q4 q5 q6 q7 q8 q9 qa qb
    clear hs5 hb6 hbl
    obtain ⟨t, ht⟩ : ∃ t, Sh.btw x (n : Int) y' = t := ⟨_, rfl⟩
    rw [ht]
    have HTE := Lib.hid ht
    clear ht
    go_wp2_with (fail)
    refine (HP.out t _ _ _ _ w6 (HP1.out.kept HB6.out) HL.out).mono ?_
    rintro e w7 ⟨⟨u, rfl⟩, hr7, hb7⟩
    have HR7 := Lib.hid hr7
    have HB7 := Lib.hid (HB1.out.trans ((HB6.out.mono (Nat.le_of_lt HP1.out.lt)).trans hb7))
    clear hr7 hb7
    go_wp2
    go_returns
    rw [HYE.out]
    rw [HTE.out]
    exact ⟨⟨_, rfl⟩, HR7.out, HB7.out⟩
  · rw [if_neg hL, if_neg hRt]
    go_enter Tryz.func102, Tryz.ntmps102
    go_wp2_with (fail)
    refine HTK.out.mono ?_
    rintro e w1 ⟨rfl, ⟨v1, hp1⟩, hb1⟩
    have HP1 := Lib.hid hp1
    have HB1 := Lib.hid hb1
    clear hp1 hb1
    unfold thv
    go_wp2
    go_quiet ((go_at_call 123; exact quiet_eq (HB.out _)))
    have hs : XY w1 164 x y (((w1.alloc (.cells #[.string x.s, .int .i64 x.b, .int .i64 x.d] 164)).alloc (.cells #[.string y.s, .int .i64 y.b, .int .i64 y.d] 164)).drewN nq) := XY.start w1 164 x y nq
    obtain ⟨W, hW⟩ : ∃ W, (((w1.alloc (.cells #[.string x.s, .int .i64 x.b, .int .i64 x.d] 164)).alloc (.cells #[.string y.s, .int .i64 y.b, .int .i64 y.d] 164)).drewN nq) = W := ⟨_, rfl⟩
    rw [hW] at hs ⊢
    clear hW
    obtain ⟨q0, q1, q2, q3, q4, q5, q6, q7, q8, q9, qa, qb⟩ := hs.facts
    have HS := Lib.hid hs
    clear hs
    go_wp2
    go_quiet ((go_at_call 123; exact quiet_eq (HB.out _)))
    have hs3 : XY w1 164 x y (W.drewN nq) := (HS.out).drewN nq
    obtain ⟨W3, hW⟩ : ∃ W3, W.drewN nq = W3 := ⟨_, rfl⟩
    rw [hW] at hs3 ⊢
    clear hW
    clear q0 q1 q2 q3 q4 q5 q6 q7 q8 q9 qa qb
    obtain ⟨q0, q1, q2, q3, q4, q5, q6, q7, q8, q9, qa, qb⟩ := hs3.facts
    have HS3 := Lib.hid hs3
    clear hs3
    go_wp2_with (fail)
    have hs5 : XY w1 164 x y W3 := HS3.out
    obtain ⟨W5, hW⟩ : ∃ W5, W3 = W5 := ⟨_, rfl⟩
    rw [hW] at hs5 ⊢
    clear hW
    refine (HBT.out x y W5 (Nat.le_trans HX.out (by decide)) (Nat.le_trans HY.out (by decide)) (HW.out.below (HB1.out.trans (hs5.below.mono (Nat.le_of_lt HP1.out.lt))) hR0)).mono ?_
    rintro e w6 ⟨rfl, hb6⟩
    have hbl : Below w1.heap.size w1 w6 := hs5.below.trans (hb6.mono hs5.below.size)
    have HB6 := Lib.hid hbl
    clear q0 q1 q2 q3 q4 q5 q6 q7 q8 q9 qa qb
    clear hs5 hb6 hbl
    obtain ⟨t, ht⟩ : ∃ t, Sh.btw x (n : Int) y = t := ⟨_, rfl⟩
    rw [ht]
    have HTE := Lib.hid ht
    clear ht
    go_wp2_with (fail)
    refine (HP.out t _ _ _ _ w6 (HP1.out.kept HB6.out) HL.out).mono ?_
    rintro e w7 ⟨⟨u, rfl⟩, hr7, hb7⟩
    have HR7 := Lib.hid hr7
    have HB7 := Lib.hid (HB1.out.trans ((HB6.out.mono (Nat.le_of_lt HP1.out.lt)).trans hb7))
    clear hr7 hb7
    go_wp2
    go_returns
    rw [HTE.out]
    exact ⟨⟨_, rfl⟩, HR7.out, HB7.out⟩

set_option maxHeartbeats 4000000 in
theorem ofL_any {R : Nat} {vc vl : Value} {cs ls : List Sh.Th} (x y : Sh.Th) (n : Nat) (o c : ByteArray) (h1 : 1 ≤ n) (h2 : n ≤ 13) (ho : o.size ≤ 10) (hc : c.size ≤ 10) (hx : Sh.wt x ≤ 100000) (hy : Sh.wt y ≤ 100000) (w : World) (hw : Wds w) (hR0 : 2 < R) (h : PP R vc vl cs (ls ++ [x] ++ [y]) w) (hl : ls.length ≤ 100000) :
    Calls Tryz.prog 105 #[.pointer (some ⟨R, 1, none⟩), .int .i64 n, .string o, .string c] w (PutL R vc cs ls (Sh.btw (Sh.brL n o c x) n (Sh.brR n o c y)) w) := by
  have htk := takeL_any x y w h (by omega)
  have hwi : ∀ (t : Sh.Th) W, Sh.wt t ≤ 100000 → Calls Tryz.prog 127 #[thv t, .string o, .string c] W (Gives W (Sh.inBr o c t)) := fun t W ht => withinL_any t o c (by omega) ho hc W
  have hbt : ∀ (t u : Sh.Th) W, Sh.wt t ≤ 1000000 → Sh.wt u ≤ 1000000 → Wds W → Calls Tryz.prog 128 #[thv t, .int .i64 n, thv u] W (Gives W (Sh.btw t n u)) := fun t u W ht hu hW => btwL_any t u n h1 h2 ht hu W hW
  have hp : ∀ (t : Sh.Th) (vc vl : Value) (cs ls : List Sh.Th) W, PP R vc vl cs ls W → ls.length ≤ 100000 → Calls Tryz.prog 106 #[.pointer (some ⟨R, 1, none⟩), thv t] W (PutL R vc cs ls t W) := fun t vc vl cs ls W h hl => putL_any t W h (by omega)
  have hwt : ∀ t : Sh.Th, Sh.wt t ≤ 100000 → Sh.wt (Sh.inBr o c t) ≤ 1000000 := fun t ht => by unfold Sh.inBr Sh.wt at *; simp only [ByteArray.size_append]; omega
  have hbd := fun W => binds_any (n : Int) W
  have HB := Lib.hid hbd
  have HTK := Lib.hid htk
  have HWI := Lib.hid hwi
  have HBT := Lib.hid hbt
  have HP := Lib.hid hp
  have HW := Lib.hid hw
  have HL := Lib.hid hl
  have HX := Lib.hid hx
  have HY := Lib.hid hy
  have HWT := Lib.hid hwt
  have hlt := h.lt
  clear htk hwi hbt hp hbd hw h hl hwt ho hc h1 h2
  unfold Sh.brL Sh.brR
  generalize hbn : Sh.binds (n : Int) = bn at *
  by_cases hL : x.b < bn <;> by_cases hRt : y.b ≤ bn
  · rw [if_pos hL, if_pos hRt]
    go_enter Tryz.func105, Tryz.ntmps105
    go_wp2_with (fail)
    refine HTK.out.mono ?_
    rintro e w1 ⟨rfl, ⟨v1, hp1⟩, hb1⟩
    have HP1 := Lib.hid hp1
    have HB1 := Lib.hid hb1
    clear hp1 hb1
    unfold thv
    go_wp2
    go_quiet ((go_at_call 123; exact quiet_eq (HB.out _)))
    have hs : XY w1 168 x y (((w1.alloc (.cells #[.string x.s, .int .i64 x.b, .int .i64 x.d] 168)).alloc (.cells #[.string y.s, .int .i64 y.b, .int .i64 y.d] 168)).drewN nq) := XY.start w1 168 x y nq
    obtain ⟨W, hW⟩ : ∃ W, (((w1.alloc (.cells #[.string x.s, .int .i64 x.b, .int .i64 x.d] 168)).alloc (.cells #[.string y.s, .int .i64 y.b, .int .i64 y.d] 168)).drewN nq) = W := ⟨_, rfl⟩
    rw [hW] at hs ⊢
    clear hW
    obtain ⟨q0, q1, q2, q3, q4, q5, q6, q7, q8, q9, qa, qb⟩ := hs.facts
    have HS := Lib.hid hs
    clear hs
    go_wp2_with (fail)
    refine (HWI.out x W HX.out).mono ?_
    rintro e w2 ⟨rfl, hb2⟩
    have hs2 := HS.out.call hb2
    clear q0 q1 q2 q3 q4 q5 q6 q7 q8 q9 qa qb
    obtain ⟨q0, q1, q2, q3, q4, q5, q6, q7, q8, q9, qa, qb⟩ := hs2.facts
    have HS2 := Lib.hid hs2
    clear hs2 hb2 HS
    obtain ⟨x', hx'⟩ : ∃ x', Sh.inBr o c x = x' := ⟨_, rfl⟩
    have HWX := Lib.hid (show Sh.wt x' ≤ 1000000 from hx' ▸ HWT.out x HX.out)
    rw [hx']
    have HXE := Lib.hid hx'
    clear hx'
    go_wp2
    go_quiet ((go_at_call 123; exact quiet_eq (HB.out _)))
    have hs3 : XY w1 168 x' y ((((w2.setCell ⟨w1.heap.size, 0, none⟩ (.string x'.s)).setCell ⟨w1.heap.size, 1, none⟩ (.int .i64 x'.b)).setCell ⟨w1.heap.size, 2, none⟩ (.int .i64 x'.d)).drewN nq) := (HS2.out.setX x').drewN nq
    obtain ⟨W3, hW⟩ : ∃ W3, (((w2.setCell ⟨w1.heap.size, 0, none⟩ (.string x'.s)).setCell ⟨w1.heap.size, 1, none⟩ (.int .i64 x'.b)).setCell ⟨w1.heap.size, 2, none⟩ (.int .i64 x'.d)).drewN nq = W3 := ⟨_, rfl⟩
    rw [hW] at hs3 ⊢
    clear hW
    clear q0 q1 q2 q3 q4 q5 q6 q7 q8 q9 qa qb
    obtain ⟨q0, q1, q2, q3, q4, q5, q6, q7, q8, q9, qa, qb⟩ := hs3.facts
    have HS3 := Lib.hid hs3
    clear hs3
    go_wp2_with (fail)
    refine (HWI.out y W3 HY.out).mono ?_
    rintro e w4 ⟨rfl, hb4⟩
    have hs4 := HS3.out.call hb4
    clear q0 q1 q2 q3 q4 q5 q6 q7 q8 q9 qa qb
    obtain ⟨q0, q1, q2, q3, q4, q5, q6, q7, q8, q9, qa, qb⟩ := hs4.facts
    have HS4 := Lib.hid hs4
    clear hs4 hb4 HS3
    obtain ⟨y', hy'⟩ : ∃ y', Sh.inBr o c y = y' := ⟨_, rfl⟩
    have HWY := Lib.hid (show Sh.wt y' ≤ 1000000 from hy' ▸ HWT.out y HY.out)
    rw [hy']
    have HYE := Lib.hid hy'
    clear hy'
    go_wp2_with (fail)
    have hs5 : XY w1 168 x' y' (((w4.setCell ⟨(w1.heap.size + 1), 0, none⟩ (.string y'.s)).setCell ⟨(w1.heap.size + 1), 1, none⟩ (.int .i64 y'.b)).setCell ⟨(w1.heap.size + 1), 2, none⟩ (.int .i64 y'.d)) := HS4.out.setY y'
    obtain ⟨W5, hW⟩ : ∃ W5, (((w4.setCell ⟨(w1.heap.size + 1), 0, none⟩ (.string y'.s)).setCell ⟨(w1.heap.size + 1), 1, none⟩ (.int .i64 y'.b)).setCell ⟨(w1.heap.size + 1), 2, none⟩ (.int .i64 y'.d)) = W5 := ⟨_, rfl⟩
    rw [hW] at hs5 ⊢
    clear hW
    refine (HBT.out x' y' W5 HWX.out HWY.out (HW.out.below (HB1.out.trans (hs5.below.mono (Nat.le_of_lt HP1.out.lt))) hR0)).mono ?_
    rintro e w6 ⟨rfl, hb6⟩
    have hbl : Below w1.heap.size w1 w6 := hs5.below.trans (hb6.mono hs5.below.size)
    have HB6 := Lib.hid hbl
    clear q0 q1 q2 q3 q4 q5 q6 q7 q8 q9 qa qb
    clear hs5 hb6 hbl
    obtain ⟨t, ht⟩ : ∃ t, Sh.btw x' (n : Int) y' = t := ⟨_, rfl⟩
    rw [ht]
    have HTE := Lib.hid ht
    clear ht
    go_wp2_with (fail)
    refine (HP.out t _ _ _ _ w6 (HP1.out.kept HB6.out) HL.out).mono ?_
    rintro e w7 ⟨⟨u, rfl⟩, hr7, hb7⟩
    have HR7 := Lib.hid hr7
    have HB7 := Lib.hid (HB1.out.trans ((HB6.out.mono (Nat.le_of_lt HP1.out.lt)).trans hb7))
    clear hr7 hb7
    go_wp2
    go_returns
    rw [HXE.out]
    rw [HYE.out]
    rw [HTE.out]
    exact ⟨⟨_, rfl⟩, HR7.out, HB7.out⟩
  · rw [if_pos hL, if_neg hRt]
    go_enter Tryz.func105, Tryz.ntmps105
    go_wp2_with (fail)
    refine HTK.out.mono ?_
    rintro e w1 ⟨rfl, ⟨v1, hp1⟩, hb1⟩
    have HP1 := Lib.hid hp1
    have HB1 := Lib.hid hb1
    clear hp1 hb1
    unfold thv
    go_wp2
    go_quiet ((go_at_call 123; exact quiet_eq (HB.out _)))
    have hs : XY w1 168 x y (((w1.alloc (.cells #[.string x.s, .int .i64 x.b, .int .i64 x.d] 168)).alloc (.cells #[.string y.s, .int .i64 y.b, .int .i64 y.d] 168)).drewN nq) := XY.start w1 168 x y nq
    obtain ⟨W, hW⟩ : ∃ W, (((w1.alloc (.cells #[.string x.s, .int .i64 x.b, .int .i64 x.d] 168)).alloc (.cells #[.string y.s, .int .i64 y.b, .int .i64 y.d] 168)).drewN nq) = W := ⟨_, rfl⟩
    rw [hW] at hs ⊢
    clear hW
    obtain ⟨q0, q1, q2, q3, q4, q5, q6, q7, q8, q9, qa, qb⟩ := hs.facts
    have HS := Lib.hid hs
    clear hs
    go_wp2_with (fail)
    refine (HWI.out x W HX.out).mono ?_
    rintro e w2 ⟨rfl, hb2⟩
    have hs2 := HS.out.call hb2
    clear q0 q1 q2 q3 q4 q5 q6 q7 q8 q9 qa qb
    obtain ⟨q0, q1, q2, q3, q4, q5, q6, q7, q8, q9, qa, qb⟩ := hs2.facts
    have HS2 := Lib.hid hs2
    clear hs2 hb2 HS
    obtain ⟨x', hx'⟩ : ∃ x', Sh.inBr o c x = x' := ⟨_, rfl⟩
    have HWX := Lib.hid (show Sh.wt x' ≤ 1000000 from hx' ▸ HWT.out x HX.out)
    rw [hx']
    have HXE := Lib.hid hx'
    clear hx'
    go_wp2
    go_quiet ((go_at_call 123; exact quiet_eq (HB.out _)))
    have hs3 : XY w1 168 x' y ((((w2.setCell ⟨w1.heap.size, 0, none⟩ (.string x'.s)).setCell ⟨w1.heap.size, 1, none⟩ (.int .i64 x'.b)).setCell ⟨w1.heap.size, 2, none⟩ (.int .i64 x'.d)).drewN nq) := (HS2.out.setX x').drewN nq
    obtain ⟨W3, hW⟩ : ∃ W3, (((w2.setCell ⟨w1.heap.size, 0, none⟩ (.string x'.s)).setCell ⟨w1.heap.size, 1, none⟩ (.int .i64 x'.b)).setCell ⟨w1.heap.size, 2, none⟩ (.int .i64 x'.d)).drewN nq = W3 := ⟨_, rfl⟩
    rw [hW] at hs3 ⊢
    clear hW
    clear q0 q1 q2 q3 q4 q5 q6 q7 q8 q9 qa qb
    obtain ⟨q0, q1, q2, q3, q4, q5, q6, q7, q8, q9, qa, qb⟩ := hs3.facts
    have HS3 := Lib.hid hs3
    clear hs3
    go_wp2_with (fail)
    have hs5 : XY w1 168 x' y W3 := HS3.out
    obtain ⟨W5, hW⟩ : ∃ W5, W3 = W5 := ⟨_, rfl⟩
    rw [hW] at hs5 ⊢
    clear hW
    refine (HBT.out x' y W5 HWX.out (Nat.le_trans HY.out (by decide)) (HW.out.below (HB1.out.trans (hs5.below.mono (Nat.le_of_lt HP1.out.lt))) hR0)).mono ?_
    rintro e w6 ⟨rfl, hb6⟩
    have hbl : Below w1.heap.size w1 w6 := hs5.below.trans (hb6.mono hs5.below.size)
    have HB6 := Lib.hid hbl
    clear q0 q1 q2 q3 q4 q5 q6 q7 q8 q9 qa qb
    clear hs5 hb6 hbl
    obtain ⟨t, ht⟩ : ∃ t, Sh.btw x' (n : Int) y = t := ⟨_, rfl⟩
    rw [ht]
    have HTE := Lib.hid ht
    clear ht
    go_wp2_with (fail)
    refine (HP.out t _ _ _ _ w6 (HP1.out.kept HB6.out) HL.out).mono ?_
    rintro e w7 ⟨⟨u, rfl⟩, hr7, hb7⟩
    have HR7 := Lib.hid hr7
    have HB7 := Lib.hid (HB1.out.trans ((HB6.out.mono (Nat.le_of_lt HP1.out.lt)).trans hb7))
    clear hr7 hb7
    go_wp2
    go_returns
    rw [HXE.out]
    rw [HTE.out]
    exact ⟨⟨_, rfl⟩, HR7.out, HB7.out⟩
  · rw [if_neg hL, if_pos hRt]
    go_enter Tryz.func105, Tryz.ntmps105
    go_wp2_with (fail)
    refine HTK.out.mono ?_
    rintro e w1 ⟨rfl, ⟨v1, hp1⟩, hb1⟩
    have HP1 := Lib.hid hp1
    have HB1 := Lib.hid hb1
    clear hp1 hb1
    unfold thv
    go_wp2
    go_quiet ((go_at_call 123; exact quiet_eq (HB.out _)))
    have hs : XY w1 168 x y (((w1.alloc (.cells #[.string x.s, .int .i64 x.b, .int .i64 x.d] 168)).alloc (.cells #[.string y.s, .int .i64 y.b, .int .i64 y.d] 168)).drewN nq) := XY.start w1 168 x y nq
    obtain ⟨W, hW⟩ : ∃ W, (((w1.alloc (.cells #[.string x.s, .int .i64 x.b, .int .i64 x.d] 168)).alloc (.cells #[.string y.s, .int .i64 y.b, .int .i64 y.d] 168)).drewN nq) = W := ⟨_, rfl⟩
    rw [hW] at hs ⊢
    clear hW
    obtain ⟨q0, q1, q2, q3, q4, q5, q6, q7, q8, q9, qa, qb⟩ := hs.facts
    have HS := Lib.hid hs
    clear hs
    go_wp2
    go_quiet ((go_at_call 123; exact quiet_eq (HB.out _)))
    have hs3 : XY w1 168 x y (W.drewN nq) := (HS.out).drewN nq
    obtain ⟨W3, hW⟩ : ∃ W3, W.drewN nq = W3 := ⟨_, rfl⟩
    rw [hW] at hs3 ⊢
    clear hW
    clear q0 q1 q2 q3 q4 q5 q6 q7 q8 q9 qa qb
    obtain ⟨q0, q1, q2, q3, q4, q5, q6, q7, q8, q9, qa, qb⟩ := hs3.facts
    have HS3 := Lib.hid hs3
    clear hs3
    go_wp2_with (fail)
    refine (HWI.out y W3 HY.out).mono ?_
    rintro e w4 ⟨rfl, hb4⟩
    have hs4 := HS3.out.call hb4
    clear q0 q1 q2 q3 q4 q5 q6 q7 q8 q9 qa qb
    obtain ⟨q0, q1, q2, q3, q4, q5, q6, q7, q8, q9, qa, qb⟩ := hs4.facts
    have HS4 := Lib.hid hs4
    clear hs4 hb4 HS3
    obtain ⟨y', hy'⟩ : ∃ y', Sh.inBr o c y = y' := ⟨_, rfl⟩
    have HWY := Lib.hid (show Sh.wt y' ≤ 1000000 from hy' ▸ HWT.out y HY.out)
    rw [hy']
    have HYE := Lib.hid hy'
    clear hy'
    go_wp2_with (fail)
    have hs5 : XY w1 168 x y' (((w4.setCell ⟨(w1.heap.size + 1), 0, none⟩ (.string y'.s)).setCell ⟨(w1.heap.size + 1), 1, none⟩ (.int .i64 y'.b)).setCell ⟨(w1.heap.size + 1), 2, none⟩ (.int .i64 y'.d)) := HS4.out.setY y'
    obtain ⟨W5, hW⟩ : ∃ W5, (((w4.setCell ⟨(w1.heap.size + 1), 0, none⟩ (.string y'.s)).setCell ⟨(w1.heap.size + 1), 1, none⟩ (.int .i64 y'.b)).setCell ⟨(w1.heap.size + 1), 2, none⟩ (.int .i64 y'.d)) = W5 := ⟨_, rfl⟩
    rw [hW] at hs5 ⊢
    clear hW
    refine (HBT.out x y' W5 (Nat.le_trans HX.out (by decide)) HWY.out (HW.out.below (HB1.out.trans (hs5.below.mono (Nat.le_of_lt HP1.out.lt))) hR0)).mono ?_
    rintro e w6 ⟨rfl, hb6⟩
    have hbl : Below w1.heap.size w1 w6 := hs5.below.trans (hb6.mono hs5.below.size)
    have HB6 := Lib.hid hbl
    clear q0 q1 q2 q3 q4 q5 q6 q7 q8 q9 qa qb
    clear hs5 hb6 hbl
    obtain ⟨t, ht⟩ : ∃ t, Sh.btw x (n : Int) y' = t := ⟨_, rfl⟩
    rw [ht]
    have HTE := Lib.hid ht
    clear ht
    go_wp2_with (fail)
    refine (HP.out t _ _ _ _ w6 (HP1.out.kept HB6.out) HL.out).mono ?_
    rintro e w7 ⟨⟨u, rfl⟩, hr7, hb7⟩
    have HR7 := Lib.hid hr7
    have HB7 := Lib.hid (HB1.out.trans ((HB6.out.mono (Nat.le_of_lt HP1.out.lt)).trans hb7))
    clear hr7 hb7
    go_wp2
    go_returns
    rw [HYE.out]
    rw [HTE.out]
    exact ⟨⟨_, rfl⟩, HR7.out, HB7.out⟩
  · rw [if_neg hL, if_neg hRt]
    go_enter Tryz.func105, Tryz.ntmps105
    go_wp2_with (fail)
    refine HTK.out.mono ?_
    rintro e w1 ⟨rfl, ⟨v1, hp1⟩, hb1⟩
    have HP1 := Lib.hid hp1
    have HB1 := Lib.hid hb1
    clear hp1 hb1
    unfold thv
    go_wp2
    go_quiet ((go_at_call 123; exact quiet_eq (HB.out _)))
    have hs : XY w1 168 x y (((w1.alloc (.cells #[.string x.s, .int .i64 x.b, .int .i64 x.d] 168)).alloc (.cells #[.string y.s, .int .i64 y.b, .int .i64 y.d] 168)).drewN nq) := XY.start w1 168 x y nq
    obtain ⟨W, hW⟩ : ∃ W, (((w1.alloc (.cells #[.string x.s, .int .i64 x.b, .int .i64 x.d] 168)).alloc (.cells #[.string y.s, .int .i64 y.b, .int .i64 y.d] 168)).drewN nq) = W := ⟨_, rfl⟩
    rw [hW] at hs ⊢
    clear hW
    obtain ⟨q0, q1, q2, q3, q4, q5, q6, q7, q8, q9, qa, qb⟩ := hs.facts
    have HS := Lib.hid hs
    clear hs
    go_wp2
    go_quiet ((go_at_call 123; exact quiet_eq (HB.out _)))
    have hs3 : XY w1 168 x y (W.drewN nq) := (HS.out).drewN nq
    obtain ⟨W3, hW⟩ : ∃ W3, W.drewN nq = W3 := ⟨_, rfl⟩
    rw [hW] at hs3 ⊢
    clear hW
    clear q0 q1 q2 q3 q4 q5 q6 q7 q8 q9 qa qb
    obtain ⟨q0, q1, q2, q3, q4, q5, q6, q7, q8, q9, qa, qb⟩ := hs3.facts
    have HS3 := Lib.hid hs3
    clear hs3
    go_wp2_with (fail)
    have hs5 : XY w1 168 x y W3 := HS3.out
    obtain ⟨W5, hW⟩ : ∃ W5, W3 = W5 := ⟨_, rfl⟩
    rw [hW] at hs5 ⊢
    clear hW
    refine (HBT.out x y W5 (Nat.le_trans HX.out (by decide)) (Nat.le_trans HY.out (by decide)) (HW.out.below (HB1.out.trans (hs5.below.mono (Nat.le_of_lt HP1.out.lt))) hR0)).mono ?_
    rintro e w6 ⟨rfl, hb6⟩
    have hbl : Below w1.heap.size w1 w6 := hs5.below.trans (hb6.mono hs5.below.size)
    have HB6 := Lib.hid hbl
    clear q0 q1 q2 q3 q4 q5 q6 q7 q8 q9 qa qb
    clear hs5 hb6 hbl
    obtain ⟨t, ht⟩ : ∃ t, Sh.btw x (n : Int) y = t := ⟨_, rfl⟩
    rw [ht]
    have HTE := Lib.hid ht
    clear ht
    go_wp2_with (fail)
    refine (HP.out t _ _ _ _ w6 (HP1.out.kept HB6.out) HL.out).mono ?_
    rintro e w7 ⟨⟨u, rfl⟩, hr7, hb7⟩
    have HR7 := Lib.hid hr7
    have HB7 := Lib.hid (HB1.out.trans ((HB6.out.mono (Nat.le_of_lt HP1.out.lt)).trans hb7))
    clear hr7 hb7
    go_wp2
    go_returns
    rw [HTE.out]
    exact ⟨⟨_, rfl⟩, HR7.out, HB7.out⟩
end Go.Proofs.YtggcmkpafpjnoaaGreatDoor

/- The walk of take: one number of a rule. -/
namespace Go.Proofs.YtggcmkpafpjnoaaGreatDoor
set_option maxRecDepth 100000
open Go.RowKit Go.Shelf

theorem Wds.drew {w : World} (h : Wds w) : Wds w.drew := h
/-- What take leaves. -/
def Taken (R : Nat) (p : Sh.Two) (w : World) (e : Ending) (w' : World) : Prop := (∃ u, e = .returned u) ∧ (∃ vc vl, PP R vc vl p.1 p.2 w') ∧ Below R w w'
section
variable {R : Nat} {vc vl : Value} {cs ls : List Sh.Th}
set_option maxHeartbeats 4000000 in
theorem take_leafC (n : Nat) (hn : n = 1 ∨ n = 2) (w : World) (hw : Wds w) (h : PP R vc vl cs ls w) (hl : cs.length ≤ 100000) : Calls Tryz.prog 74 #[.pointer (some ⟨R, 0, none⟩), .int .i64 n] w (Taken R (cs ++ [Sh.one n], ls) w) := by
  have ha : ∀ W, Wds W → Calls Tryz.prog 101 #[.int .i64 n] W (Gives W (Sh.one n)) := fun W hW => aloneC_any n (by omega) (by omega) W hW
  have hp := fun (t : Sh.Th) W (hW : PP R vc vl cs ls W) => putC_any t W hW (by omega)
  have HA := Lib.hid ha
  have HP := Lib.hid hp
  have HW := Lib.hid hw
  have H := Lib.hid h
  have hlt := h.lt
  clear ha hp hw h hl
  rcases hn with rfl | rfl
  all_goals
    go_enter Tryz.func74, Tryz.ntmps74
    go_wp2
    go_region_with (first | (go_at_call 101; refine (HA.out _ HW.out.drew).mono ?_; rintro e w1 ⟨rfl, hb1⟩) | (go_at_call 100; refine (HP.out _ _ (H.out.kept ((Below.refl _ _).drew.trans hb1))).mono ?_; rintro e w2 ⟨⟨u, rfl⟩, ⟨v2, hp2⟩, hb2⟩))
    all_goals go_wp2
    all_goals
      go_returns
      exact ⟨⟨_, rfl⟩, ⟨_, _, hp2⟩, ((Below.refl _ _).drew.trans (hb1.mono (Nat.le_of_lt hlt))).trans hb2⟩
set_option maxHeartbeats 4000000 in
theorem take_leafL (n : Nat) (hn : n = 6 ∨ n = 7 ∨ n = 8 ∨ n = 9 ∨ n = 10 ∨ n = 11) (w : World) (hw : Wds w) (h : PP R vc vl cs ls w) (hl : ls.length ≤ 100000) : Calls Tryz.prog 74 #[.pointer (some ⟨R, 0, none⟩), .int .i64 n] w (Taken R (cs, ls ++ [Sh.one n]) w) := by
  have ha : ∀ W, Wds W → Calls Tryz.prog 107 #[.int .i64 n] W (Gives W (Sh.one n)) := fun W hW => aloneL_any n (by omega) (by omega) W hW
  have hp := fun (t : Sh.Th) W (hW : PP R vc vl cs ls W) => putL_any t W hW (by omega)
  have HA := Lib.hid ha
  have HP := Lib.hid hp
  have HW := Lib.hid hw
  have H := Lib.hid h
  have hlt := h.lt
  clear ha hp hw h hl
  rcases hn with rfl | rfl | rfl | rfl | rfl | rfl
  all_goals
    go_enter Tryz.func74, Tryz.ntmps74
    go_wp2
    go_region_with (first | (go_at_call 107; refine (HA.out _ HW.out.drew).mono ?_; rintro e w1 ⟨rfl, hb1⟩) | (go_at_call 106; refine (HP.out _ _ (H.out.kept ((Below.refl _ _).drew.trans hb1))).mono ?_; rintro e w2 ⟨⟨u, rfl⟩, ⟨v2, hp2⟩, hb2⟩))
    all_goals go_wp2
    all_goals
      go_returns
      exact ⟨⟨_, rfl⟩, ⟨_, _, hp2⟩, ((Below.refl _ _).drew.trans (hb1.mono (Nat.le_of_lt hlt))).trans hb2⟩
set_option maxHeartbeats 4000000 in
theorem take_ofC (x y : Sh.Th) (n : Nat) (hn : n = 3 ∨ n = 4) (w : World) (hw : Wds w) (hR0 : 2 < R) (h : PP R vc vl (cs ++ [x] ++ [y]) ls w) (hx : Sh.wt x ≤ 100000) (hy : Sh.wt y ≤ 100000) (hl : cs.length ≤ 100000) :
    Calls Tryz.prog 74 #[.pointer (some ⟨R, 0, none⟩), .int .i64 n] w (Taken R (cs ++ [Sh.btw (Sh.brL n { data := #[40] } { data := #[41] } x) n (Sh.brR n { data := #[40] } { data := #[41] } y)], ls) w) := by
  have ho := ofC_any x y n { data := #[40] } { data := #[41] } (by omega) (by omega) (by decide) (by decide) hx hy w hw hR0 h hl
  have HO := Lib.hid ho
  clear ho hw h hx hy hl hR0
  rcases hn with rfl | rfl
  all_goals
    go_enter Tryz.func74, Tryz.ntmps74
    go_wp2_with (fail)
    refine HO.out.mono ?_
    rintro e w2 ⟨⟨u, rfl⟩, ⟨v2, hp2⟩, hb2⟩
    go_wp2
    go_returns
    exact ⟨⟨_, rfl⟩, ⟨_, _, hp2⟩, hb2⟩
set_option maxHeartbeats 4000000 in
theorem take_ofL (x y : Sh.Th) (n : Nat) (hn : n = 12 ∨ n = 13) (w : World) (hw : Wds w) (hR0 : 2 < R) (h : PP R vc vl cs (ls ++ [x] ++ [y]) w) (hx : Sh.wt x ≤ 100000) (hy : Sh.wt y ≤ 100000) (hl : ls.length ≤ 100000) :
    Calls Tryz.prog 74 #[.pointer (some ⟨R, 0, none⟩), .int .i64 n] w (Taken R (cs, ls ++ [Sh.btw (Sh.brL n { data := #[91] } { data := #[93] } x) n (Sh.brR n { data := #[91] } { data := #[93] } y)]) w) := by
  have ho := ofL_any x y n { data := #[91] } { data := #[93] } (by omega) (by omega) (by decide) (by decide) hx hy w hw hR0 h hl
  have HO := Lib.hid ho
  clear ho hw h hx hy hl hR0
  rcases hn with rfl | rfl
  all_goals
    go_enter Tryz.func74, Tryz.ntmps74
    go_wp2_with (fail)
    refine HO.out.mono ?_
    rintro e w2 ⟨⟨u, rfl⟩, ⟨v2, hp2⟩, hb2⟩
    go_wp2
    go_returns
    exact ⟨⟨_, rfl⟩, ⟨_, _, hp2⟩, hb2⟩
set_option maxHeartbeats 4000000 in
theorem take_flows (x y : Sh.Th) (w : World) (hw : Wds w) (hR0 : 2 < R) (h : PP R vc vl cs (ls ++ [x] ++ [y]) w) (hx : Sh.wt x ≤ 100000) (hy : Sh.wt y ≤ 100000) (hl : ls.length ≤ 100000) (hl2 : cs.length ≤ 100000) :
    Calls Tryz.prog 74 #[.pointer (some ⟨R, 0, none⟩), .int .i64 5] w (Taken R (cs ++ [Sh.btw x 5 y], ls) w) := by
  have htk := takeL_any x y w h (by omega)
  have hbt : ∀ W, Wds W → Calls Tryz.prog 104 #[thv x, .int .i64 5, thv y] W (Gives W (Sh.btw x 5 y)) := fun W hW => btwM_any x y 5 (by decide) (by decide) (by omega) (by omega) W hW
  have hp := fun (t : Sh.Th) vc vl W (hW : PP R vc vl cs ls W) => putC_any t W hW (by omega)
  have HTK := Lib.hid htk
  have HBT := Lib.hid hbt
  have HP := Lib.hid hp
  have HW := Lib.hid hw
  clear htk hbt hp hw h hl hl2 hx hy
  go_enter Tryz.func74, Tryz.ntmps74
  go_wp2_with (fail)
  refine HTK.out.mono ?_
  rintro e w1 ⟨rfl, ⟨v1, hp1⟩, hb1⟩
  have hs := XY.start w1 168 x y 1
  have HS := Lib.hid hs
  have HP1 := Lib.hid hp1
  have HWW := Lib.hid (HW.out.below (hb1.trans (hs.below.mono (Nat.le_of_lt hp1.lt))) hR0)
  have HB1 := Lib.hid hb1
  have hsz := hs.below.size
  clear hs hp1 hb1
  unfold thv at HBT ⊢
  go_wp2
  go_region_with (first | (go_at_call 104; refine (HBT.out _ HWW.out).mono ?_; rintro e w3 ⟨rfl, hb3⟩) | (go_at_call 100; refine (HP.out (Sh.btw x 5 y) _ _ w3 (HP1.out.kept (HS.out.below.trans (hb3.mono hsz)))).mono ?_; rintro e w2 ⟨⟨u, rfl⟩, ⟨v2, hp2⟩, hb2⟩))
  all_goals go_wp2
  all_goals
    go_returns
    exact ⟨⟨_, rfl⟩, ⟨_, _, hp2⟩, HB1.out.trans (((HS.out.below.trans (hb3.mono hsz)).mono (Nat.le_of_lt HP1.out.lt)).trans hb2)⟩
end
end Go.Proofs.YtggcmkpafpjnoaaGreatDoor

/- Walks of take (any number), whole, sorts, and Text. -/
namespace Go.Proofs.YtggcmkpafpjnoaaGreatDoor
set_option maxRecDepth 100000
open Go.RowKit Go.Shelf

theorem take_any {R : Nat} {vc vl : Value} {p q : Sh.Two} (n : Int) (w : World) (hw : Wds w) (hR0 : 2 < R) (h : PP R vc vl p.1 p.2 w) (hs : Sh.pstep p n = some q) (hz : Sh.size2 p ≤ 100000) : Calls Tryz.prog 74 #[.pointer (some ⟨R, 0, none⟩), .int .i64 n] w (Taken R q w) := by
  obtain ⟨cs, ls⟩ := p
  dsimp only at h
  have hz1 : Sh.wts cs + Sh.wts ls ≤ 100000 := hz
  have hc1 := Sh.wts_len cs
  have hl1 := Sh.wts_len ls
  unfold Sh.pstep at hs
  split at hs
  · rename_i hn
    injection hs with hs
    subst hs
    obtain ⟨m, rfl⟩ : ∃ m : Nat, n = m := ⟨n.toNat, by omega⟩
    exact take_leafC m (by omega) w hw h (show cs.length ≤ 100000 by omega)
  · split at hs
    · rename_i hn
      injection hs with hs
      subst hs
      obtain ⟨m, rfl⟩ : ∃ m : Nat, n = m := ⟨n.toNat, by omega⟩
      exact take_leafL m (by omega) w hw h (show ls.length ≤ 100000 by omega)
    · split at hs
      · rename_i hn
        obtain ⟨⟨l0, x, y⟩, h1, h2⟩ := Option.map_eq_some_iff.1 hs
        subst h2
        have e := Sh.two_some h1
        dsimp only at e h1 ⊢
        subst e
        simp only [Sh.wts_snoc] at hz1
        have := Sh.wts_len l0
        obtain ⟨m, rfl⟩ : ∃ m : Nat, n = m := ⟨n.toNat, by omega⟩
        exact take_ofC x y m (by omega) w hw hR0 h (by omega) (by omega) (by omega)
      · split at hs
        · rename_i hn
          subst hn
          obtain ⟨⟨l0, x, y⟩, h1, h2⟩ := Option.map_eq_some_iff.1 hs
          subst h2
          have e := Sh.two_some h1
          dsimp only at e h1 ⊢
          subst e
          simp only [Sh.wts_snoc] at hz1
          have := Sh.wts_len l0
          exact take_flows x y w hw hR0 h (by omega) (by omega) (by omega) (by omega)
        · split at hs
          · rename_i hn
            obtain ⟨⟨l0, x, y⟩, h1, h2⟩ := Option.map_eq_some_iff.1 hs
            subst h2
            have e := Sh.two_some h1
            dsimp only at e h1 ⊢
            subst e
            simp only [Sh.wts_snoc] at hz1
            have := Sh.wts_len l0
            obtain ⟨m, rfl⟩ : ∃ m : Nat, n = m := ⟨n.toNat, by omega⟩
            exact take_ofL x y m (by omega) w hw hR0 h (by omega) (by omega) (by omega)
          · cases hs
/-- What a thing that is left tells: its text, and an error. -/
def Sh.tells (t : Sh.Th) : ByteArray × Nat := if 12 < t.d then (ByteArray.empty, 5) else (t.s, 0)
def Wrote (w : World) (r : ByteArray × Nat) (e : Ending) (w' : World) : Prop := e = .returned (.tuple #[.string r.1, .int .i64 r.2]) ∧ Below w.heap.size w w'
theorem wholeC_any {base : Nat} {v : Value} (t : Sh.Th) (w : World) (h : w.ownsRow base 164 3 v 1 (thcells [t])) : Calls Tryz.prog 75 #[v] w (Wrote w (Sh.tells t)) := by
  obtain ⟨g, cap, rfl, -⟩ := own_addr3 h (by decide)
  have c0 := own_cell3 h (j := 0) (u := .string t.s) rfl
  have c2 := own_cell3 h (j := 2) (u := .int .i64 t.d) rfl
  obtain ⟨s, b, d⟩ := t
  dsimp only at c0 c2
  clear h
  unfold Sh.tells Wrote
  dsimp only
  by_cases hd : 12 < d
  · rw [if_pos hd]
    go_enter Tryz.func75, Tryz.ntmps75
    go_wp2
    go_ret2
    exact ⟨rfl, Below.refl _ _⟩
  · rw [if_neg hd]
    go_enter Tryz.func75, Tryz.ntmps75
    go_wp2
    go_ret2
    exact ⟨rfl, Below.refl _ _⟩
theorem wholeL_any {base : Nat} {v : Value} (t : Sh.Th) (w : World) (h : w.ownsRow base 168 3 v 1 (thcells [t])) : Calls Tryz.prog 76 #[v] w (Wrote w (Sh.tells t)) := by
  obtain ⟨g, cap, rfl, -⟩ := own_addr3 h (by decide)
  have c0 := own_cell3 h (j := 0) (u := .string t.s) rfl
  have c2 := own_cell3 h (j := 2) (u := .int .i64 t.d) rfl
  obtain ⟨s, b, d⟩ := t
  dsimp only at c0 c2
  clear h
  unfold Sh.tells Wrote
  dsimp only
  by_cases hd : 12 < d
  · rw [if_pos hd]
    go_enter Tryz.func76, Tryz.ntmps76
    go_wp2
    go_ret2
    exact ⟨rfl, Below.refl _ _⟩
  · rw [if_neg hd]
    go_enter Tryz.func76, Tryz.ntmps76
    go_wp2
    go_ret2
    exact ⟨rfl, Below.refl _ _⟩
theorem sorts_any {A : Option Addr} {rule : List Int} (c : Nat) (w : World) (h : Row w w.heap.size A (ints rule)) (hl : rule.length ≤ 1000000) : Calls Tryz.prog 73 #[.slice A rule.length c] w fun e w' => e = .returned (.tuple #[.bool (Rl.right rule false), .bool (Rl.right rule true)]) ∧ Below w.heap.size w w' := by
  have h1 := right_any c false w h hl
  have h2 : ∀ W, Below w.heap.size w W → Calls Tryz.prog 65 #[.slice A rule.length c, .bool true] W (Tells W (Rl.right rule true)) := fun W hb => right_any c true W ((h.below hb).more hb.size) hl
  have H1 := Lib.hid h1
  have H2 := Lib.hid h2
  clear h1 h2 h
  generalize Rl.right rule false = r1 at *
  generalize Rl.right rule true = r2 at *
  generalize rule.length = n at *
  go_enter Tryz.func73, Tryz.ntmps73
  go_wp2_with (fail)
  refine H1.out.mono ?_
  rintro e w1 ⟨rfl, hb1⟩
  have HB1 := Lib.hid hb1
  clear hb1
  go_wp2_with (fail)
  refine (H2.out _ HB1.out).mono ?_
  rintro e w2 ⟨rfl, hb2⟩
  have HB2 := Lib.hid (HB1.out.trans (hb2.mono HB1.out.size))
  clear hb2
  go_wp2
  go_ret2
  exact ⟨rfl, HB2.out⟩
theorem text_no {A : Option Addr} {rule : List Int} (c : Nat) (w : World) (h : Row w w.heap.size A (ints rule)) (hl : rule.length ≤ 1000000) (h1 : Rl.right rule false = false) (h2 : Rl.right rule true = false) : Calls Tryz.prog 56 #[.slice A rule.length c] w (Wrote w (ByteArray.empty, 1)) := by
  have hs := sorts_any c w h hl
  rw [h1, h2] at hs
  have HS := Lib.hid hs
  clear hs h h1 h2
  generalize rule.length = n at *
  go_enter Tryz.func56, Tryz.ntmps56
  go_wp2_with (fail)
  refine HS.out.mono ?_
  rintro e w1 ⟨rfl, hb1⟩
  have HB1 := Lib.hid hb1
  clear hb1
  go_wp2
  go_ret2
  exact ⟨rfl, HB1.out⟩
/-- What holds at the head of Text's rounds. -/
structure TextAt (w : World) (R : Nat) (rule : List Int) (k : Nat) (q : Sh.Two) (W : World) : Prop where
  own : ∃ vc vl, PP R vc vl q.1 q.2 W
  below : Below w.heap.size w W
  go : Sh.pmach ([], []) rule = Sh.pmach q (rule.drop k)
  size : Sh.size2 q ≤ 13 * k
theorem pmach_on {rule : List Int} {q f : Sh.Two} {k : Nat} (hk : k < rule.length) (h : Sh.pmach q (rule.drop k) = some f) : ∃ r, Sh.pstep q rule[k] = some r ∧ Sh.pmach q (rule.drop k) = Sh.pmach r (rule.drop (k + 1)) := by
  rw [List.drop_eq_getElem_cons hk] at h ⊢
  simp only [Sh.pmach] at h ⊢
  cases hs : Sh.pstep q rule[k] with
  | none => rw [hs] at h; cases h
  | some r => exact ⟨r, rfl, rfl⟩
set_option maxHeartbeats 4000000 in
theorem text_tree {A : Option Addr} (t : Sh.Tree) (b : Bool) (ht : Sh.Ok b t) (c : Nat) (w : World) (h : Row w w.heap.size A (ints (Sh.post t))) (hl : (Sh.post t).length ≤ 40) (hw : Wds w) : Calls Tryz.prog 56 #[.slice A (Sh.post t).length c] w (Wrote w (Sh.tells (Sh.thOf t))) := by
  have hs := sorts_any c w h (by omega)
  obtain ⟨hr1, hr2⟩ := Rl.right_of (Sh.tree_seg t b ht) hl
  have hmach := Sh.pmach_post t b ([], []) ht
  have HW := Lib.hid hw
  have H := Lib.hid h
  generalize Sh.post t = rule at *
  generalize Sh.thOf t = th at *
  have hw0 := hw.lt
  cases b
  · rw [hr1, show Rl.right rule true = false from hr2] at hs
    have hmach2 : Sh.pmach ([], []) rule = some ([th], []) := hmach
    have HM := Lib.hid hmach2
    have HS := Lib.hid hs
    clear hs hr1 hr2 hmach hmach2 hw h
    go_enter Tryz.func56, Tryz.ntmps56
    go_wp2_with (fail)
    refine HS.out.mono ?_
    rintro e w1 ⟨rfl, hb1⟩
    have HB1 := Lib.hid hb1
    have hsz1 := hb1.size
    clear hb1
    go_wp2
    go_loopw [22] (fun i wr => ∃ (k : Nat) (q : Sh.Two), k ≤ rule.length ∧ i = .int .i64 k ∧ Hid (TextAt w w1.heap.size rule k q wr)) (fun i _ => rule.length - (intOf i).toNat)
    case atStart =>
      refine ⟨0, ([], []), Nat.zero_le _, rfl, ⟨⟨.slice none 0 0, .slice none 0 0, ⟨Blk.new w1 133 #[.slice none 0 0, .slice none 0 0], World.ownsRow_nil _ _ _ _, World.ownsRow_nil _ _ _ _, fun k hk => by cases hk⟩⟩, HB1.out.alloc HB1.out.size _, rfl, Nat.zero_le _⟩⟩
    case round =>
      obtain ⟨k, q, hk, rfl, HK⟩ := hrel
      by_cases hlt : k < rule.length
      · obtain ⟨ad, hA, hb, c0⟩ := irow_at (H.out.below HK.out.below) hlt
        obtain ⟨vc, vl, hpp⟩ := HK.out.own
        obtain ⟨r, hst, hgo⟩ := pmach_on hlt (HK.out.go.symm.trans HM.out)
        have htk := take_any rule[k] wr (HW.out.below HK.out.below hw0) (show 2 < w1.heap.size by omega) hpp hst (by have := HK.out.size; omega)
        have hz := Sh.pstep_size hst
        have HTK := Lib.hid htk
        have HG := Lib.hid (HK.out.go.trans hgo)
        have HZ := Lib.hid (show Sh.size2 r ≤ 13 * (k + 1) by have := HK.out.size; omega)
        rw [hA]
        clear htk hpp hst hgo hz hA
        generalize rule[k] = x at *
        go_wp2_with (fail)
        refine HTK.out.mono ?_
        rintro e w2 ⟨⟨u, rfl⟩, hp2, hb2⟩
        have hnx : TextAt w w1.heap.size rule (k + 1) r w2 := ⟨hp2, HK.out.below.trans (hb2.mono hsz1), HG.out, HZ.out⟩
        have HNX := Lib.hid hnx
        clear hp2 hb2 hnx
        go_wp2
        go_roundw
        case rel => exact ⟨k + 1, r, by omega, by go_num, HNX⟩
        case measure => simp [intOf]; omega
      · obtain rfl : k = rule.length := by omega
        have hgo := HK.out.go
        rw [List.drop_length, HM.out] at hgo
        injection hgo with hgo
        subst hgo
        obtain ⟨vc, vl, hpp⟩ := HK.out.own
        have c0 : wr.cell? ⟨w1.heap.size, 0, none⟩ = some vc := by rw [hpp.blk.cell]; rfl
        have hwh := wholeC_any th wr hpp.oc
        have HWH := Lib.hid hwh
        have HBB := Lib.hid HK.out.below
        clear hpp hwh HK
        go_wp2_with (fail)
        refine HWH.out.mono ?_
        rintro e w2 ⟨rfl, hb2⟩
        have HB2 := Lib.hid (HBB.out.trans (hb2.mono HBB.out.size))
        clear hb2
        go_wp2
        go_ret2
        exact ⟨rfl, HB2.out⟩
  · rw [hr1, show Rl.right rule false = false from hr2] at hs
    have hmach2 : Sh.pmach ([], []) rule = some ([], [th]) := hmach
    have HM := Lib.hid hmach2
    have HS := Lib.hid hs
    clear hs hr1 hr2 hmach hmach2 hw h
    go_enter Tryz.func56, Tryz.ntmps56
    go_wp2_with (fail)
    refine HS.out.mono ?_
    rintro e w1 ⟨rfl, hb1⟩
    have HB1 := Lib.hid hb1
    have hsz1 := hb1.size
    clear hb1
    go_wp2
    go_loopw [22] (fun i wr => ∃ (k : Nat) (q : Sh.Two), k ≤ rule.length ∧ i = .int .i64 k ∧ Hid (TextAt w w1.heap.size rule k q wr)) (fun i _ => rule.length - (intOf i).toNat)
    case atStart =>
      refine ⟨0, ([], []), Nat.zero_le _, rfl, ⟨⟨.slice none 0 0, .slice none 0 0, ⟨Blk.new w1 133 #[.slice none 0 0, .slice none 0 0], World.ownsRow_nil _ _ _ _, World.ownsRow_nil _ _ _ _, fun k hk => by cases hk⟩⟩, HB1.out.alloc HB1.out.size _, rfl, Nat.zero_le _⟩⟩
    case round =>
      obtain ⟨k, q, hk, rfl, HK⟩ := hrel
      by_cases hlt : k < rule.length
      · obtain ⟨ad, hA, hb, c0⟩ := irow_at (H.out.below HK.out.below) hlt
        obtain ⟨vc, vl, hpp⟩ := HK.out.own
        obtain ⟨r, hst, hgo⟩ := pmach_on hlt (HK.out.go.symm.trans HM.out)
        have htk := take_any rule[k] wr (HW.out.below HK.out.below hw0) (show 2 < w1.heap.size by omega) hpp hst (by have := HK.out.size; omega)
        have hz := Sh.pstep_size hst
        have HTK := Lib.hid htk
        have HG := Lib.hid (HK.out.go.trans hgo)
        have HZ := Lib.hid (show Sh.size2 r ≤ 13 * (k + 1) by have := HK.out.size; omega)
        rw [hA]
        clear htk hpp hst hgo hz hA
        generalize rule[k] = x at *
        go_wp2_with (fail)
        refine HTK.out.mono ?_
        rintro e w2 ⟨⟨u, rfl⟩, hp2, hb2⟩
        have hnx : TextAt w w1.heap.size rule (k + 1) r w2 := ⟨hp2, HK.out.below.trans (hb2.mono hsz1), HG.out, HZ.out⟩
        have HNX := Lib.hid hnx
        clear hp2 hb2 hnx
        go_wp2
        go_roundw
        case rel => exact ⟨k + 1, r, by omega, by go_num, HNX⟩
        case measure => simp [intOf]; omega
      · obtain rfl : k = rule.length := by omega
        have hgo := HK.out.go
        rw [List.drop_length, HM.out] at hgo
        injection hgo with hgo
        subst hgo
        obtain ⟨vc, vl, hpp⟩ := HK.out.own
        have c0 : wr.cell? ⟨w1.heap.size, 1, none⟩ = some vl := by rw [hpp.blk.cell]; rfl
        have hwh := wholeL_any th wr hpp.ol
        have HWH := Lib.hid hwh
        have HBB := Lib.hid HK.out.below
        clear hpp hwh HK
        go_wp2_with (fail)
        refine HWH.out.mono ?_
        rintro e w2 ⟨rfl, hb2⟩
        have HB2 := Lib.hid (HBB.out.trans (hb2.mono HBB.out.size))
        clear hb2
        go_wp2
        go_ret2
        exact ⟨rfl, HB2.out⟩
end Go.Proofs.YtggcmkpafpjnoaaGreatDoor

/- Walks of the reference's word, binds, two, within. -/
namespace Go.Proofs.YtggcmkpafpjnoaaGreatDoor
set_option maxRecDepth 100000
open Go.RowKit Go.Shelf

/-- A string is answered, and old memory stays. -/
def TellsS (w : World) (s : ByteArray) (e : Ending) (w' : World) : Prop := e = .returned (.string s) ∧ Below w.heap.size w w'
theorem op_cases {n : Int} (h : 1 ≤ n ∧ n ≤ 13) : n = 1 ∨ n = 2 ∨ n = 3 ∨ n = 4 ∨ n = 5 ∨ n = 6 ∨ n = 7 ∨ n = 8 ∨ n = 9 ∨ n = 10 ∨ n = 11 ∨ n = 12 ∨ n = 13 := by omega
/-- The reference's thing. -/
def Things (w : World) (s : ByteArray) (d f : Nat) (e : Ending) (w' : World) : Prop := e = .returned (.agg #[.string s, .int .i64 d, .int .i64 f]) ∧ Below w.heap.size w w'
end Go.Proofs.YtggcmkpafpjnoaaGreatDoor
