/- Walks of ofTwo (by gen_sho.py). -/
import Derived.Test.YtflagbglbhmheaaDoorShoF
import Derived.BigQuiet
namespace Go.Proofs.YtflagbglbhmheaaDoor
set_option maxRecDepth 100000
open Go.RowKit Go.Shelf

/-- Two things, each in a block of its own, behind w1. -/
structure XY (w1 : World) (t : TypeId) (x y : Sh.Th) (W : World) : Prop where
  bx : Blk W w1.heap.size t #[.string x.s, .int .i64 x.b, .int .i64 x.d]
  bY : Blk W (w1.heap.size + 1) t #[.string y.s, .int .i64 y.b, .int .i64 y.d]
  below : Below w1.heap.size w1 W
section
variable {w1 W W' : World} {t : TypeId} {x y : Sh.Th}
theorem XY.start (w1 : World) (t : TypeId) (x y : Sh.Th) (n : Nat) : XY w1 t x y (((w1.alloc (.cells #[.string x.s, .int .i64 x.b, .int .i64 x.d] t)).alloc (.cells #[.string y.s, .int .i64 y.b, .int .i64 y.d] t)).drewN n) := by
  have hs : (w1.alloc (.cells #[.string x.s, .int .i64 x.b, .int .i64 x.d] t)).heap.size = w1.heap.size + 1 := by simp
  have h2 := Blk.new (w1.alloc (.cells #[.string x.s, .int .i64 x.b, .int .i64 x.d] t)) t #[.string y.s, .int .i64 y.b, .int .i64 y.d]
  rw [hs] at h2
  have hb := ((Below.refl w1.heap.size w1).alloc (Nat.le_refl _) (.cells #[.string x.s, .int .i64 x.b, .int .i64 x.d] t)).alloc (by simp) (.cells #[.string y.s, .int .i64 y.b, .int .i64 y.d] t)
  exact ⟨((Blk.new w1 t _).alloc _).drewN n, h2.drewN n, ⟨hb.os, hb.tape, hb.output, hb.size, hb.block⟩⟩
theorem XY.call (h : XY w1 t x y W) (hb : Below W.heap.size W W') : XY w1 t x y W' := ⟨h.bx.below hb h.bx.lt, h.bY.below hb h.bY.lt, h.below.trans (hb.mono h.below.size)⟩
theorem XY.drewN (h : XY w1 t x y W) (n : Nat) : XY w1 t x y (W.drewN n) := ⟨h.bx.drewN n, h.bY.drewN n, ⟨h.below.os, h.below.tape, h.below.output, h.below.size, h.below.block⟩⟩
theorem XY.setX (h : XY w1 t x y W) (z : Sh.Th) : XY w1 t z y (((W.setCell ⟨w1.heap.size, 0, none⟩ (.string z.s)).setCell ⟨w1.heap.size, 1, none⟩ (.int .i64 z.b)).setCell ⟨w1.heap.size, 2, none⟩ (.int .i64 z.d)) :=
  ⟨((h.bx.set_ 0 _).set_ 1 _).set_ 2 _, ((h.bY.other (by simp) _).other (by simp) _).other (by simp) _,
    ((h.below.setCell (p := ⟨w1.heap.size, 0, none⟩) (Nat.le_refl _) _).setCell (p := ⟨w1.heap.size, 1, none⟩) (Nat.le_refl _) _).setCell (p := ⟨w1.heap.size, 2, none⟩) (Nat.le_refl _) _⟩
theorem XY.setY (h : XY w1 t x y W) (z : Sh.Th) : XY w1 t x z (((W.setCell ⟨w1.heap.size + 1, 0, none⟩ (.string z.s)).setCell ⟨w1.heap.size + 1, 1, none⟩ (.int .i64 z.b)).setCell ⟨w1.heap.size + 1, 2, none⟩ (.int .i64 z.d)) :=
  ⟨((h.bx.other (by simp) _).other (by simp) _).other (by simp) _, ((h.bY.set_ 0 _).set_ 1 _).set_ 2 _,
    ((h.below.setCell (p := ⟨w1.heap.size + 1, 0, none⟩) (Nat.le_succ _) _).setCell (p := ⟨w1.heap.size + 1, 1, none⟩) (Nat.le_succ _) _).setCell (p := ⟨w1.heap.size + 1, 2, none⟩) (Nat.le_succ _) _⟩
theorem XY.facts (h : XY w1 t x y W) : W.cell? ⟨w1.heap.size, 0, none⟩ = some (.string x.s) ∧ W.cell? ⟨w1.heap.size, 1, none⟩ = some (.int .i64 x.b) ∧ W.cell? ⟨w1.heap.size, 2, none⟩ = some (.int .i64 x.d) ∧
    W.cell? ⟨w1.heap.size + 1, 0, none⟩ = some (.string y.s) ∧ W.cell? ⟨w1.heap.size + 1, 1, none⟩ = some (.int .i64 y.b) ∧ W.cell? ⟨w1.heap.size + 1, 2, none⟩ = some (.int .i64 y.d) ∧
    W.frozen? ⟨w1.heap.size, 0, none⟩ = false ∧ W.frozen? ⟨w1.heap.size, 1, none⟩ = false ∧ W.frozen? ⟨w1.heap.size, 2, none⟩ = false ∧ W.frozen? ⟨w1.heap.size + 1, 0, none⟩ = false ∧ W.frozen? ⟨w1.heap.size + 1, 1, none⟩ = false ∧ W.frozen? ⟨w1.heap.size + 1, 2, none⟩ = false :=
  ⟨by rw [h.bx.cell]; rfl, by rw [h.bx.cell]; rfl, by rw [h.bx.cell]; rfl, by rw [h.bY.cell]; rfl, by rw [h.bY.cell]; rfl, by rw [h.bY.cell]; rfl, h.bx.frozen _, h.bx.frozen _, h.bx.frozen _, h.bY.frozen _, h.bY.frozen _, h.bY.frozen _⟩
end

set_option maxHeartbeats 4000000 in
theorem ofC_any {R : Nat} {vc vl : Value} {cs ls : List Sh.Th} (x y : Sh.Th) (n : Nat) (o c : ByteArray) (h1 : 1 ≤ n) (h2 : n ≤ 13) (ho : o.size ≤ 10) (hc : c.size ≤ 10) (hx : Sh.wt x ≤ 100000) (hy : Sh.wt y ≤ 100000) (w : World) (hw : Wds w) (hR0 : 0 < R) (h : PP R vc vl (cs ++ [x] ++ [y]) ls w) (hl : cs.length ≤ 100000) :
    Calls Tryd.prog 29 #[.pointer (some ⟨R, 0, none⟩), .int .i64 n, .string o, .string c] w (PutC R vl cs ls (Sh.btw (Sh.brL n o c x) n (Sh.brR n o c y)) w) := by
  have htk := takeC_any x y w h (by omega)
  have hwi : ∀ (t : Sh.Th) W, Sh.wt t ≤ 100000 → Calls Tryd.prog 50 #[thv t, .string o, .string c] W (Gives W (Sh.inBr o c t)) := fun t W ht => withinC_any t o c (by omega) ho hc W
  have hbt : ∀ (t u : Sh.Th) W, Sh.wt t ≤ 1000000 → Sh.wt u ≤ 1000000 → Wds W → Calls Tryd.prog 51 #[thv t, .int .i64 n, thv u] W (Gives W (Sh.btw t n u)) := fun t u W ht hu hW => btwC_any t u n h1 h2 ht hu W hW
  have hp : ∀ (t : Sh.Th) (vc vl : Value) (cs ls : List Sh.Th) W, PP R vc vl cs ls W → cs.length ≤ 100000 → Calls Tryd.prog 27 #[.pointer (some ⟨R, 0, none⟩), thv t] W (PutC R vl cs ls t W) := fun t vc vl cs ls W h hl => putC_any t W h (by omega)
  have hwt : ∀ t : Sh.Th, Sh.wt t ≤ 100000 → Sh.wt (Sh.inBr o c t) ≤ 1000000 := fun t ht => by unfold Sh.inBr Sh.wt at *; simp only [ByteArray.size_append]; omega
  have hbd := fun W => binds_any (n : Int) W
  have HB := Lib.hid hbd
  have HTK := Lib.hid htk
  have HWI := Lib.hid hwi
  have HBT := Lib.hid hbt
  have HP := Lib.hid hp
  have HW := Lib.hid hw
  have HL := Lib.hid hl
  have HX := Lib.hid hx
  have HY := Lib.hid hy
  have HWT := Lib.hid hwt
  have hlt := h.lt
  clear htk hwi hbt hp hbd hw h hl hwt ho hc h1 h2
  unfold Sh.brL Sh.brR
  generalize hbn : Sh.binds (n : Int) = bn at *
  by_cases hL : x.b < bn <;> by_cases hRt : y.b ≤ bn
  · rw [if_pos hL, if_pos hRt]
    go_enter Tryd.func29, Tryd.ntmps29
    go_wp2_with (fail)
    refine HTK.out.mono ?_
    rintro e w1 ⟨rfl, ⟨v1, hp1⟩, hb1⟩
    have HP1 := Lib.hid hp1
    have HB1 := Lib.hid hb1
    clear hp1 hb1
    unfold thv
    go_wp2
    go_quiet ((go_at_call 48; exact quiet_eq (HB.out _)))
    have hs : XY w1 73 x y (((w1.alloc (.cells #[.string x.s, .int .i64 x.b, .int .i64 x.d] 73)).alloc (.cells #[.string y.s, .int .i64 y.b, .int .i64 y.d] 73)).drewN nq) := XY.start w1 73 x y nq
    obtain ⟨W, hW⟩ : ∃ W, (((w1.alloc (.cells #[.string x.s, .int .i64 x.b, .int .i64 x.d] 73)).alloc (.cells #[.string y.s, .int .i64 y.b, .int .i64 y.d] 73)).drewN nq) = W := ⟨_, rfl⟩
    rw [hW] at hs ⊢
    clear hW
    obtain ⟨q0, q1, q2, q3, q4, q5, q6, q7, q8, q9, qa, qb⟩ := hs.facts
    have HS := Lib.hid hs
    clear hs
    go_wp2_with (fail)
    refine (HWI.out x W HX.out).mono ?_
    rintro e w2 ⟨rfl, hb2⟩
    have hs2 := HS.out.call hb2
    clear q0 q1 q2 q3 q4 q5 q6 q7 q8 q9 qa qb
    obtain ⟨q0, q1, q2, q3, q4, q5, q6, q7, q8, q9, qa, qb⟩ := hs2.facts
    have HS2 := Lib.hid hs2
    clear hs2 hb2 HS
    obtain ⟨x', hx'⟩ : ∃ x', Sh.inBr o c x = x' := ⟨_, rfl⟩
    have HWX := Lib.hid (show Sh.wt x' ≤ 1000000 from hx' ▸ HWT.out x HX.out)
    rw [hx']
    have HXE := Lib.hid hx'
    clear hx'
    go_wp2
    go_quiet ((go_at_call 48; exact quiet_eq (HB.out _)))
    have hs3 : XY w1 73 x' y ((((w2.setCell ⟨w1.heap.size, 0, none⟩ (.string x'.s)).setCell ⟨w1.heap.size, 1, none⟩ (.int .i64 x'.b)).setCell ⟨w1.heap.size, 2, none⟩ (.int .i64 x'.d)).drewN nq) := (HS2.out.setX x').drewN nq
    obtain ⟨W3, hW⟩ : ∃ W3, (((w2.setCell ⟨w1.heap.size, 0, none⟩ (.string x'.s)).setCell ⟨w1.heap.size, 1, none⟩ (.int .i64 x'.b)).setCell ⟨w1.heap.size, 2, none⟩ (.int .i64 x'.d)).drewN nq = W3 := ⟨_, rfl⟩
    rw [hW] at hs3 ⊢
    clear hW
    clear q0 q1 q2 q3 q4 q5 q6 q7 q8 q9 qa qb
    obtain ⟨q0, q1, q2, q3, q4, q5, q6, q7, q8, q9, qa, qb⟩ := hs3.facts
    have HS3 := Lib.hid hs3
    clear hs3
    go_wp2_with (fail)
    refine (HWI.out y W3 HY.out).mono ?_
    rintro e w4 ⟨rfl, hb4⟩
    have hs4 := HS3.out.call hb4
    clear q0 q1 q2 q3 q4 q5 q6 q7 q8 q9 qa qb
    obtain ⟨q0, q1, q2, q3, q4, q5, q6, q7, q8, q9, qa, qb⟩ := hs4.facts
    have HS4 := Lib.hid hs4
    clear hs4 hb4 HS3
    obtain ⟨y', hy'⟩ : ∃ y', Sh.inBr o c y = y' := ⟨_, rfl⟩
    have HWY := Lib.hid (show Sh.wt y' ≤ 1000000 from hy' ▸ HWT.out y HY.out)
    rw [hy']
    have HYE := Lib.hid hy'
    clear hy'
    go_wp2_with (fail)
    have hs5 : XY w1 73 x' y' (((w4.setCell ⟨(w1.heap.size + 1), 0, none⟩ (.string y'.s)).setCell ⟨(w1.heap.size + 1), 1, none⟩ (.int .i64 y'.b)).setCell ⟨(w1.heap.size + 1), 2, none⟩ (.int .i64 y'.d)) := HS4.out.setY y'
    obtain ⟨W5, hW⟩ : ∃ W5, (((w4.setCell ⟨(w1.heap.size + 1), 0, none⟩ (.string y'.s)).setCell ⟨(w1.heap.size + 1), 1, none⟩ (.int .i64 y'.b)).setCell ⟨(w1.heap.size + 1), 2, none⟩ (.int .i64 y'.d)) = W5 := ⟨_, rfl⟩
    rw [hW] at hs5 ⊢
    clear hW
    refine (HBT.out x' y' W5 HWX.out HWY.out (HW.out.below (HB1.out.trans (hs5.below.mono (Nat.le_of_lt HP1.out.lt))) hR0)).mono ?_
    rintro e w6 ⟨rfl, hb6⟩
    have hbl : Below w1.heap.size w1 w6 := hs5.below.trans (hb6.mono hs5.below.size)
    have HB6 := Lib.hid hbl
    clear q0 q1 q2 q3 q4 q5 q6 q7 q8 q9 qa qb
    clear hs5 hb6 hbl
    obtain ⟨t, ht⟩ : ∃ t, Sh.btw x' (n : Int) y' = t := ⟨_, rfl⟩
    rw [ht]
    have HTE := Lib.hid ht
    clear ht
    go_wp2_with (fail)
    refine (HP.out t _ _ _ _ w6 (HP1.out.kept HB6.out) HL.out).mono ?_
    rintro e w7 ⟨⟨u, rfl⟩, hr7, hb7⟩
    have HR7 := Lib.hid hr7
    have HB7 := Lib.hid (HB1.out.trans ((HB6.out.mono (Nat.le_of_lt HP1.out.lt)).trans hb7))
    clear hr7 hb7
    go_wp2
    go_returns
    rw [HXE.out]
    rw [HYE.out]
    rw [HTE.out]
    exact ⟨⟨_, rfl⟩, HR7.out, HB7.out⟩
  · rw [if_pos hL, if_neg hRt]
    go_enter Tryd.func29, Tryd.ntmps29
    go_wp2_with (fail)
    refine HTK.out.mono ?_
    rintro e w1 ⟨rfl, ⟨v1, hp1⟩, hb1⟩
    have HP1 := Lib.hid hp1
    have HB1 := Lib.hid hb1
    clear hp1 hb1
    unfold thv
    go_wp2
    go_quiet ((go_at_call 48; exact quiet_eq (HB.out _)))
    have hs : XY w1 73 x y (((w1.alloc (.cells #[.string x.s, .int .i64 x.b, .int .i64 x.d] 73)).alloc (.cells #[.string y.s, .int .i64 y.b, .int .i64 y.d] 73)).drewN nq) := XY.start w1 73 x y nq
    obtain ⟨W, hW⟩ : ∃ W, (((w1.alloc (.cells #[.string x.s, .int .i64 x.b, .int .i64 x.d] 73)).alloc (.cells #[.string y.s, .int .i64 y.b, .int .i64 y.d] 73)).drewN nq) = W := ⟨_, rfl⟩
    rw [hW] at hs ⊢
    clear hW
    obtain ⟨q0, q1, q2, q3, q4, q5, q6, q7, q8, q9, qa, qb⟩ := hs.facts
    have HS := Lib.hid hs
    clear hs
    go_wp2_with (fail)
    refine (HWI.out x W HX.out).mono ?_
    rintro e w2 ⟨rfl, hb2⟩
    have hs2 := HS.out.call hb2
    clear q0 q1 q2 q3 q4 q5 q6 q7 q8 q9 qa qb
    obtain ⟨q0, q1, q2, q3, q4, q5, q6, q7, q8, q9, qa, qb⟩ := hs2.facts
    have HS2 := Lib.hid hs2
    clear hs2 hb2 HS
    obtain ⟨x', hx'⟩ : ∃ x', Sh.inBr o c x = x' := ⟨_, rfl⟩
    have HWX := Lib.hid (show Sh.wt x' ≤ 1000000 from hx' ▸ HWT.out x HX.out)
    rw [hx']
    have HXE := Lib.hid hx'
    clear hx'
    go_wp2
    go_quiet ((go_at_call 48; exact quiet_eq (HB.out _)))
    have hs3 : XY w1 73 x' y ((((w2.setCell ⟨w1.heap.size, 0, none⟩ (.string x'.s)).setCell ⟨w1.heap.size, 1, none⟩ (.int .i64 x'.b)).setCell ⟨w1.heap.size, 2, none⟩ (.int .i64 x'.d)).drewN nq) := (HS2.out.setX x').drewN nq
    obtain ⟨W3, hW⟩ : ∃ W3, (((w2.setCell ⟨w1.heap.size, 0, none⟩ (.string x'.s)).setCell ⟨w1.heap.size, 1, none⟩ (.int .i64 x'.b)).setCell ⟨w1.heap.size, 2, none⟩ (.int .i64 x'.d)).drewN nq = W3 := ⟨_, rfl⟩
    rw [hW] at hs3 ⊢
    clear hW
    clear q0 q1 q2 q3 q4 q5 q6 q7 q8 q9 qa qb
    obtain ⟨q0, q1, q2, q3, q4, q5, q6, q7, q8, q9, qa, qb⟩ := hs3.facts
    have HS3 := Lib.hid hs3
    clear hs3
    go_wp2_with (fail)
    have hs5 : XY w1 73 x' y W3 := HS3.out
    obtain ⟨W5, hW⟩ : ∃ W5, W3 = W5 := ⟨_, rfl⟩
    rw [hW] at hs5 ⊢
    clear hW
    refine (HBT.out x' y W5 HWX.out (Nat.le_trans HY.out (by decide)) (HW.out.below (HB1.out.trans (hs5.below.mono (Nat.le_of_lt HP1.out.lt))) hR0)).mono ?_
    rintro e w6 ⟨rfl, hb6⟩
    have hbl : Below w1.heap.size w1 w6 := hs5.below.trans (hb6.mono hs5.below.size)
    have HB6 := Lib.hid hbl
    clear q0 q1 q2 q3 q4 q5 q6 q7 q8 q9 qa qb
    clear hs5 hb6 hbl
    obtain ⟨t, ht⟩ : ∃ t, Sh.btw x' (n : Int) y = t := ⟨_, rfl⟩
    rw [ht]
    have HTE := Lib.hid ht
    clear ht
    go_wp2_with (fail)
    refine (HP.out t _ _ _ _ w6 (HP1.out.kept HB6.out) HL.out).mono ?_
    rintro e w7 ⟨⟨u, rfl⟩, hr7, hb7⟩
    have HR7 := Lib.hid hr7
    have HB7 := Lib.hid (HB1.out.trans ((HB6.out.mono (Nat.le_of_lt HP1.out.lt)).trans hb7))
    clear hr7 hb7
    go_wp2
    go_returns
    rw [HXE.out]
    rw [HTE.out]
    exact ⟨⟨_, rfl⟩, HR7.out, HB7.out⟩
  · rw [if_neg hL, if_pos hRt]
    go_enter Tryd.func29, Tryd.ntmps29
    go_wp2_with (fail)
    refine HTK.out.mono ?_
    rintro e w1 ⟨rfl, ⟨v1, hp1⟩, hb1⟩
    have HP1 := Lib.hid hp1
    have HB1 := Lib.hid hb1
    clear hp1 hb1
    unfold thv
    go_wp2
    go_quiet ((go_at_call 48; exact quiet_eq (HB.out _)))
    have hs : XY w1 73 x y (((w1.alloc (.cells #[.string x.s, .int .i64 x.b, .int .i64 x.d] 73)).alloc (.cells #[.string y.s, .int .i64 y.b, .int .i64 y.d] 73)).drewN nq) := XY.start w1 73 x y nq
    obtain ⟨W, hW⟩ : ∃ W, (((w1.alloc (.cells #[.string x.s, .int .i64 x.b, .int .i64 x.d] 73)).alloc (.cells #[.string y.s, .int .i64 y.b, .int .i64 y.d] 73)).drewN nq) = W := ⟨_, rfl⟩
    rw [hW] at hs ⊢
    clear hW
    obtain ⟨q0, q1, q2, q3, q4, q5, q6, q7, q8, q9, qa, qb⟩ := hs.facts
    have HS := Lib.hid hs
    clear hs
    go_wp2
    go_quiet ((go_at_call 48; exact quiet_eq (HB.out _)))
    have hs3 : XY w1 73 x y (W.drewN nq) := (HS.out).drewN nq
    obtain ⟨W3, hW⟩ : ∃ W3, W.drewN nq = W3 := ⟨_, rfl⟩
    rw [hW] at hs3 ⊢
    clear hW
    clear q0 q1 q2 q3 q4 q5 q6 q7 q8 q9 qa qb
    obtain ⟨q0, q1, q2, q3, q4, q5, q6, q7, q8, q9, qa, qb⟩ := hs3.facts
    have HS3 := Lib.hid hs3
    clear hs3
    go_wp2_with (fail)
    refine (HWI.out y W3 HY.out).mono ?_
    rintro e w4 ⟨rfl, hb4⟩
    have hs4 := HS3.out.call hb4
    clear q0 q1 q2 q3 q4 q5 q6 q7 q8 q9 qa qb
    obtain ⟨q0, q1, q2, q3, q4, q5, q6, q7, q8, q9, qa, qb⟩ := hs4.facts
    have HS4 := Lib.hid hs4
    clear hs4 hb4 HS3
    obtain ⟨y', hy'⟩ : ∃ y', Sh.inBr o c y = y' := ⟨_, rfl⟩
    have HWY := Lib.hid (show Sh.wt y' ≤ 1000000 from hy' ▸ HWT.out y HY.out)
    rw [hy']
    have HYE := Lib.hid hy'
    clear hy'
    go_wp2_with (fail)
    have hs5 : XY w1 73 x y' (((w4.setCell ⟨(w1.heap.size + 1), 0, none⟩ (.string y'.s)).setCell ⟨(w1.heap.size + 1), 1, none⟩ (.int .i64 y'.b)).setCell ⟨(w1.heap.size + 1), 2, none⟩ (.int .i64 y'.d)) := HS4.out.setY y'
    obtain ⟨W5, hW⟩ : ∃ W5, (((w4.setCell ⟨(w1.heap.size + 1), 0, none⟩ (.string y'.s)).setCell ⟨(w1.heap.size + 1), 1, none⟩ (.int .i64 y'.b)).setCell ⟨(w1.heap.size + 1), 2, none⟩ (.int .i64 y'.d)) = W5 := ⟨_, rfl⟩
    rw [hW] at hs5 ⊢
    clear hW
    refine (HBT.out x y' W5 (Nat.le_trans HX.out (by decide)) HWY.out (HW.out.below (HB1.out.trans (hs5.below.mono (Nat.le_of_lt HP1.out.lt))) hR0)).mono ?_
    rintro e w6 ⟨rfl, hb6⟩
    have hbl : Below w1.heap.size w1 w6 := hs5.below.trans (hb6.mono hs5.below.size)
    have HB6 := Lib.hid hbl
    clear q0 q1 q2 q3 q4 q5 q6 q7 q8 q9 qa qb
    clear hs5 hb6 hbl
    obtain ⟨t, ht⟩ : ∃ t, Sh.btw x (n : Int) y' = t := ⟨_, rfl⟩
    rw [ht]
    have HTE := Lib.hid ht
    clear ht
    go_wp2_with (fail)
    refine (HP.out t _ _ _ _ w6 (HP1.out.kept HB6.out) HL.out).mono ?_
    rintro e w7 ⟨⟨u, rfl⟩, hr7, hb7⟩
    have HR7 := Lib.hid hr7
    have HB7 := Lib.hid (HB1.out.trans ((HB6.out.mono (Nat.le_of_lt HP1.out.lt)).trans hb7))
    clear hr7 hb7
    go_wp2
    go_returns
    rw [HYE.out]
    rw [HTE.out]
    exact ⟨⟨_, rfl⟩, HR7.out, HB7.out⟩
  · rw [if_neg hL, if_neg hRt]
    go_enter Tryd.func29, Tryd.ntmps29
    go_wp2_with (fail)
    refine HTK.out.mono ?_
    rintro e w1 ⟨rfl, ⟨v1, hp1⟩, hb1⟩
    have HP1 := Lib.hid hp1
    have HB1 := Lib.hid hb1
    clear hp1 hb1
    unfold thv
    go_wp2
    go_quiet ((go_at_call 48; exact quiet_eq (HB.out _)))
    have hs : XY w1 73 x y (((w1.alloc (.cells #[.string x.s, .int .i64 x.b, .int .i64 x.d] 73)).alloc (.cells #[.string y.s, .int .i64 y.b, .int .i64 y.d] 73)).drewN nq) := XY.start w1 73 x y nq
    obtain ⟨W, hW⟩ : ∃ W, (((w1.alloc (.cells #[.string x.s, .int .i64 x.b, .int .i64 x.d] 73)).alloc (.cells #[.string y.s, .int .i64 y.b, .int .i64 y.d] 73)).drewN nq) = W := ⟨_, rfl⟩
    rw [hW] at hs ⊢
    clear hW
    obtain ⟨q0, q1, q2, q3, q4, q5, q6, q7, q8, q9, qa, qb⟩ := hs.facts
    have HS := Lib.hid hs
    clear hs
    go_wp2
    go_quiet ((go_at_call 48; exact quiet_eq (HB.out _)))
    have hs3 : XY w1 73 x y (W.drewN nq) := (HS.out).drewN nq
    obtain ⟨W3, hW⟩ : ∃ W3, W.drewN nq = W3 := ⟨_, rfl⟩
    rw [hW] at hs3 ⊢
    clear hW
    clear q0 q1 q2 q3 q4 q5 q6 q7 q8 q9 qa qb
    obtain ⟨q0, q1, q2, q3, q4, q5, q6, q7, q8, q9, qa, qb⟩ := hs3.facts
    have HS3 := Lib.hid hs3
    clear hs3
    go_wp2_with (fail)
    have hs5 : XY w1 73 x y W3 := HS3.out
    obtain ⟨W5, hW⟩ : ∃ W5, W3 = W5 := ⟨_, rfl⟩
    rw [hW] at hs5 ⊢
    clear hW
    refine (HBT.out x y W5 (Nat.le_trans HX.out (by decide)) (Nat.le_trans HY.out (by decide)) (HW.out.below (HB1.out.trans (hs5.below.mono (Nat.le_of_lt HP1.out.lt))) hR0)).mono ?_
    rintro e w6 ⟨rfl, hb6⟩
    have hbl : Below w1.heap.size w1 w6 := hs5.below.trans (hb6.mono hs5.below.size)
    have HB6 := Lib.hid hbl
    clear q0 q1 q2 q3 q4 q5 q6 q7 q8 q9 qa qb
    clear hs5 hb6 hbl
    obtain ⟨t, ht⟩ : ∃ t, Sh.btw x (n : Int) y = t := ⟨_, rfl⟩
    rw [ht]
    have HTE := Lib.hid ht
    clear ht
    go_wp2_with (fail)
    refine (HP.out t _ _ _ _ w6 (HP1.out.kept HB6.out) HL.out).mono ?_
    rintro e w7 ⟨⟨u, rfl⟩, hr7, hb7⟩
    have HR7 := Lib.hid hr7
    have HB7 := Lib.hid (HB1.out.trans ((HB6.out.mono (Nat.le_of_lt HP1.out.lt)).trans hb7))
    clear hr7 hb7
    go_wp2
    go_returns
    rw [HTE.out]
    exact ⟨⟨_, rfl⟩, HR7.out, HB7.out⟩

set_option maxHeartbeats 4000000 in
theorem ofL_any {R : Nat} {vc vl : Value} {cs ls : List Sh.Th} (x y : Sh.Th) (n : Nat) (o c : ByteArray) (h1 : 1 ≤ n) (h2 : n ≤ 13) (ho : o.size ≤ 10) (hc : c.size ≤ 10) (hx : Sh.wt x ≤ 100000) (hy : Sh.wt y ≤ 100000) (w : World) (hw : Wds w) (hR0 : 0 < R) (h : PP R vc vl cs (ls ++ [x] ++ [y]) w) (hl : ls.length ≤ 100000) :
    Calls Tryd.prog 32 #[.pointer (some ⟨R, 1, none⟩), .int .i64 n, .string o, .string c] w (PutL R vc cs ls (Sh.btw (Sh.brL n o c x) n (Sh.brR n o c y)) w) := by
  have htk := takeL_any x y w h (by omega)
  have hwi : ∀ (t : Sh.Th) W, Sh.wt t ≤ 100000 → Calls Tryd.prog 52 #[thv t, .string o, .string c] W (Gives W (Sh.inBr o c t)) := fun t W ht => withinL_any t o c (by omega) ho hc W
  have hbt : ∀ (t u : Sh.Th) W, Sh.wt t ≤ 1000000 → Sh.wt u ≤ 1000000 → Wds W → Calls Tryd.prog 53 #[thv t, .int .i64 n, thv u] W (Gives W (Sh.btw t n u)) := fun t u W ht hu hW => btwL_any t u n h1 h2 ht hu W hW
  have hp : ∀ (t : Sh.Th) (vc vl : Value) (cs ls : List Sh.Th) W, PP R vc vl cs ls W → ls.length ≤ 100000 → Calls Tryd.prog 33 #[.pointer (some ⟨R, 1, none⟩), thv t] W (PutL R vc cs ls t W) := fun t vc vl cs ls W h hl => putL_any t W h (by omega)
  have hwt : ∀ t : Sh.Th, Sh.wt t ≤ 100000 → Sh.wt (Sh.inBr o c t) ≤ 1000000 := fun t ht => by unfold Sh.inBr Sh.wt at *; simp only [ByteArray.size_append]; omega
  have hbd := fun W => binds_any (n : Int) W
  have HB := Lib.hid hbd
  have HTK := Lib.hid htk
  have HWI := Lib.hid hwi
  have HBT := Lib.hid hbt
  have HP := Lib.hid hp
  have HW := Lib.hid hw
  have HL := Lib.hid hl
  have HX := Lib.hid hx
  have HY := Lib.hid hy
  have HWT := Lib.hid hwt
  have hlt := h.lt
  clear htk hwi hbt hp hbd hw h hl hwt ho hc h1 h2
  unfold Sh.brL Sh.brR
  generalize hbn : Sh.binds (n : Int) = bn at *
  by_cases hL : x.b < bn <;> by_cases hRt : y.b ≤ bn
  · rw [if_pos hL, if_pos hRt]
    go_enter Tryd.func32, Tryd.ntmps32
    go_wp2_with (fail)
    refine HTK.out.mono ?_
    rintro e w1 ⟨rfl, ⟨v1, hp1⟩, hb1⟩
    have HP1 := Lib.hid hp1
    have HB1 := Lib.hid hb1
    clear hp1 hb1
    unfold thv
    go_wp2
    go_quiet ((go_at_call 48; exact quiet_eq (HB.out _)))
    have hs : XY w1 77 x y (((w1.alloc (.cells #[.string x.s, .int .i64 x.b, .int .i64 x.d] 77)).alloc (.cells #[.string y.s, .int .i64 y.b, .int .i64 y.d] 77)).drewN nq) := XY.start w1 77 x y nq
    obtain ⟨W, hW⟩ : ∃ W, (((w1.alloc (.cells #[.string x.s, .int .i64 x.b, .int .i64 x.d] 77)).alloc (.cells #[.string y.s, .int .i64 y.b, .int .i64 y.d] 77)).drewN nq) = W := ⟨_, rfl⟩
    rw [hW] at hs ⊢
    clear hW
    obtain ⟨q0, q1, q2, q3, q4, q5, q6, q7, q8, q9, qa, qb⟩ := hs.facts
    have HS := Lib.hid hs
    clear hs
    go_wp2_with (fail)
    refine (HWI.out x W HX.out).mono ?_
    rintro e w2 ⟨rfl, hb2⟩
    have hs2 := HS.out.call hb2
    clear q0 q1 q2 q3 q4 q5 q6 q7 q8 q9 qa qb
    obtain ⟨q0, q1, q2, q3, q4, q5, q6, q7, q8, q9, qa, qb⟩ := hs2.facts
    have HS2 := Lib.hid hs2
    clear hs2 hb2 HS
    obtain ⟨x', hx'⟩ : ∃ x', Sh.inBr o c x = x' := ⟨_, rfl⟩
    have HWX := Lib.hid (show Sh.wt x' ≤ 1000000 from hx' ▸ HWT.out x HX.out)
    rw [hx']
    have HXE := Lib.hid hx'
    clear hx'
    go_wp2
    go_quiet ((go_at_call 48; exact quiet_eq (HB.out _)))
    have hs3 : XY w1 77 x' y ((((w2.setCell ⟨w1.heap.size, 0, none⟩ (.string x'.s)).setCell ⟨w1.heap.size, 1, none⟩ (.int .i64 x'.b)).setCell ⟨w1.heap.size, 2, none⟩ (.int .i64 x'.d)).drewN nq) := (HS2.out.setX x').drewN nq
    obtain ⟨W3, hW⟩ : ∃ W3, (((w2.setCell ⟨w1.heap.size, 0, none⟩ (.string x'.s)).setCell ⟨w1.heap.size, 1, none⟩ (.int .i64 x'.b)).setCell ⟨w1.heap.size, 2, none⟩ (.int .i64 x'.d)).drewN nq = W3 := ⟨_, rfl⟩
    rw [hW] at hs3 ⊢
    clear hW
    clear q0 q1 q2 q3 q4 q5 q6 q7 q8 q9 qa qb
    obtain ⟨q0, q1, q2, q3, q4, q5, q6, q7, q8, q9, qa, qb⟩ := hs3.facts
    have HS3 := Lib.hid hs3
    clear hs3
    go_wp2_with (fail)
    refine (HWI.out y W3 HY.out).mono ?_
    rintro e w4 ⟨rfl, hb4⟩
    have hs4 := HS3.out.call hb4
    clear q0 q1 q2 q3 q4 q5 q6 q7 q8 q9 qa qb
    obtain ⟨q0, q1, q2, q3, q4, q5, q6, q7, q8, q9, qa, qb⟩ := hs4.facts
    have HS4 := Lib.hid hs4
    clear hs4 hb4 HS3
    obtain ⟨y', hy'⟩ : ∃ y', Sh.inBr o c y = y' := ⟨_, rfl⟩
    have HWY := Lib.hid (show Sh.wt y' ≤ 1000000 from hy' ▸ HWT.out y HY.out)
    rw [hy']
    have HYE := Lib.hid hy'
    clear hy'
    go_wp2_with (fail)
    have hs5 : XY w1 77 x' y' (((w4.setCell ⟨(w1.heap.size + 1), 0, none⟩ (.string y'.s)).setCell ⟨(w1.heap.size + 1), 1, none⟩ (.int .i64 y'.b)).setCell ⟨(w1.heap.size + 1), 2, none⟩ (.int .i64 y'.d)) := HS4.out.setY y'
    obtain ⟨W5, hW⟩ : ∃ W5, (((w4.setCell ⟨(w1.heap.size + 1), 0, none⟩ (.string y'.s)).setCell ⟨(w1.heap.size + 1), 1, none⟩ (.int .i64 y'.b)).setCell ⟨(w1.heap.size + 1), 2, none⟩ (.int .i64 y'.d)) = W5 := ⟨_, rfl⟩
    rw [hW] at hs5 ⊢
    clear hW
    refine (HBT.out x' y' W5 HWX.out HWY.out (HW.out.below (HB1.out.trans (hs5.below.mono (Nat.le_of_lt HP1.out.lt))) hR0)).mono ?_
    rintro e w6 ⟨rfl, hb6⟩
    have hbl : Below w1.heap.size w1 w6 := hs5.below.trans (hb6.mono hs5.below.size)
    have HB6 := Lib.hid hbl
    clear q0 q1 q2 q3 q4 q5 q6 q7 q8 q9 qa qb
    clear hs5 hb6 hbl
    obtain ⟨t, ht⟩ : ∃ t, Sh.btw x' (n : Int) y' = t := ⟨_, rfl⟩
    rw [ht]
    have HTE := Lib.hid ht
    clear ht
    go_wp2_with (fail)
    refine (HP.out t _ _ _ _ w6 (HP1.out.kept HB6.out) HL.out).mono ?_
    rintro e w7 ⟨⟨u, rfl⟩, hr7, hb7⟩
    have HR7 := Lib.hid hr7
    have HB7 := Lib.hid (HB1.out.trans ((HB6.out.mono (Nat.le_of_lt HP1.out.lt)).trans hb7))
    clear hr7 hb7
    go_wp2
    go_returns
    rw [HXE.out]
    rw [HYE.out]
    rw [HTE.out]
    exact ⟨⟨_, rfl⟩, HR7.out, HB7.out⟩
  · rw [if_pos hL, if_neg hRt]
    go_enter Tryd.func32, Tryd.ntmps32
    go_wp2_with (fail)
    refine HTK.out.mono ?_
    rintro e w1 ⟨rfl, ⟨v1, hp1⟩, hb1⟩
    have HP1 := Lib.hid hp1
    have HB1 := Lib.hid hb1
    clear hp1 hb1
    unfold thv
    go_wp2
    go_quiet ((go_at_call 48; exact quiet_eq (HB.out _)))
    have hs : XY w1 77 x y (((w1.alloc (.cells #[.string x.s, .int .i64 x.b, .int .i64 x.d] 77)).alloc (.cells #[.string y.s, .int .i64 y.b, .int .i64 y.d] 77)).drewN nq) := XY.start w1 77 x y nq
    obtain ⟨W, hW⟩ : ∃ W, (((w1.alloc (.cells #[.string x.s, .int .i64 x.b, .int .i64 x.d] 77)).alloc (.cells #[.string y.s, .int .i64 y.b, .int .i64 y.d] 77)).drewN nq) = W := ⟨_, rfl⟩
    rw [hW] at hs ⊢
    clear hW
    obtain ⟨q0, q1, q2, q3, q4, q5, q6, q7, q8, q9, qa, qb⟩ := hs.facts
    have HS := Lib.hid hs
    clear hs
    go_wp2_with (fail)
    refine (HWI.out x W HX.out).mono ?_
    rintro e w2 ⟨rfl, hb2⟩
    have hs2 := HS.out.call hb2
    clear q0 q1 q2 q3 q4 q5 q6 q7 q8 q9 qa qb
    obtain ⟨q0, q1, q2, q3, q4, q5, q6, q7, q8, q9, qa, qb⟩ := hs2.facts
    have HS2 := Lib.hid hs2
    clear hs2 hb2 HS
    obtain ⟨x', hx'⟩ : ∃ x', Sh.inBr o c x = x' := ⟨_, rfl⟩
    have HWX := Lib.hid (show Sh.wt x' ≤ 1000000 from hx' ▸ HWT.out x HX.out)
    rw [hx']
    have HXE := Lib.hid hx'
    clear hx'
    go_wp2
    go_quiet ((go_at_call 48; exact quiet_eq (HB.out _)))
    have hs3 : XY w1 77 x' y ((((w2.setCell ⟨w1.heap.size, 0, none⟩ (.string x'.s)).setCell ⟨w1.heap.size, 1, none⟩ (.int .i64 x'.b)).setCell ⟨w1.heap.size, 2, none⟩ (.int .i64 x'.d)).drewN nq) := (HS2.out.setX x').drewN nq
    obtain ⟨W3, hW⟩ : ∃ W3, (((w2.setCell ⟨w1.heap.size, 0, none⟩ (.string x'.s)).setCell ⟨w1.heap.size, 1, none⟩ (.int .i64 x'.b)).setCell ⟨w1.heap.size, 2, none⟩ (.int .i64 x'.d)).drewN nq = W3 := ⟨_, rfl⟩
    rw [hW] at hs3 ⊢
    clear hW
    clear q0 q1 q2 q3 q4 q5 q6 q7 q8 q9 qa qb
    obtain ⟨q0, q1, q2, q3, q4, q5, q6, q7, q8, q9, qa, qb⟩ := hs3.facts
    have HS3 := Lib.hid hs3
    clear hs3
    go_wp2_with (fail)
    have hs5 : XY w1 77 x' y W3 := HS3.out
    obtain ⟨W5, hW⟩ : ∃ W5, W3 = W5 := ⟨_, rfl⟩
    rw [hW] at hs5 ⊢
    clear hW
    refine (HBT.out x' y W5 HWX.out (Nat.le_trans HY.out (by decide)) (HW.out.below (HB1.out.trans (hs5.below.mono (Nat.le_of_lt HP1.out.lt))) hR0)).mono ?_
    rintro e w6 ⟨rfl, hb6⟩
    have hbl : Below w1.heap.size w1 w6 := hs5.below.trans (hb6.mono hs5.below.size)
    have HB6 := Lib.hid hbl
    clear q0 q1 q2 q3 q4 q5 q6 q7 q8 q9 qa qb
    clear hs5 hb6 hbl
    obtain ⟨t, ht⟩ : ∃ t, Sh.btw x' (n : Int) y = t := ⟨_, rfl⟩
    rw [ht]
    have HTE := Lib.hid ht
    clear ht
    go_wp2_with (fail)
    refine (HP.out t _ _ _ _ w6 (HP1.out.kept HB6.out) HL.out).mono ?_
    rintro e w7 ⟨⟨u, rfl⟩, hr7, hb7⟩
    have HR7 := Lib.hid hr7
    have HB7 := Lib.hid (HB1.out.trans ((HB6.out.mono (Nat.le_of_lt HP1.out.lt)).trans hb7))
    clear hr7 hb7
    go_wp2
    go_returns
    rw [HXE.out]
    rw [HTE.out]
    exact ⟨⟨_, rfl⟩, HR7.out, HB7.out⟩
  · rw [if_neg hL, if_pos hRt]
    go_enter Tryd.func32, Tryd.ntmps32
    go_wp2_with (fail)
    refine HTK.out.mono ?_
    rintro e w1 ⟨rfl, ⟨v1, hp1⟩, hb1⟩
    have HP1 := Lib.hid hp1
    have HB1 := Lib.hid hb1
    clear hp1 hb1
    unfold thv
    go_wp2
    go_quiet ((go_at_call 48; exact quiet_eq (HB.out _)))
    have hs : XY w1 77 x y (((w1.alloc (.cells #[.string x.s, .int .i64 x.b, .int .i64 x.d] 77)).alloc (.cells #[.string y.s, .int .i64 y.b, .int .i64 y.d] 77)).drewN nq) := XY.start w1 77 x y nq
    obtain ⟨W, hW⟩ : ∃ W, (((w1.alloc (.cells #[.string x.s, .int .i64 x.b, .int .i64 x.d] 77)).alloc (.cells #[.string y.s, .int .i64 y.b, .int .i64 y.d] 77)).drewN nq) = W := ⟨_, rfl⟩
    rw [hW] at hs ⊢
    clear hW
    obtain ⟨q0, q1, q2, q3, q4, q5, q6, q7, q8, q9, qa, qb⟩ := hs.facts
    have HS := Lib.hid hs
    clear hs
    go_wp2
    go_quiet ((go_at_call 48; exact quiet_eq (HB.out _)))
    have hs3 : XY w1 77 x y (W.drewN nq) := (HS.out).drewN nq
    obtain ⟨W3, hW⟩ : ∃ W3, W.drewN nq = W3 := ⟨_, rfl⟩
    rw [hW] at hs3 ⊢
    clear hW
    clear q0 q1 q2 q3 q4 q5 q6 q7 q8 q9 qa qb
    obtain ⟨q0, q1, q2, q3, q4, q5, q6, q7, q8, q9, qa, qb⟩ := hs3.facts
    have HS3 := Lib.hid hs3
    clear hs3
    go_wp2_with (fail)
    refine (HWI.out y W3 HY.out).mono ?_
    rintro e w4 ⟨rfl, hb4⟩
    have hs4 := HS3.out.call hb4
    clear q0 q1 q2 q3 q4 q5 q6 q7 q8 q9 qa qb
    obtain ⟨q0, q1, q2, q3, q4, q5, q6, q7, q8, q9, qa, qb⟩ := hs4.facts
    have HS4 := Lib.hid hs4
    clear hs4 hb4 HS3
    obtain ⟨y', hy'⟩ : ∃ y', Sh.inBr o c y = y' := ⟨_, rfl⟩
    have HWY := Lib.hid (show Sh.wt y' ≤ 1000000 from hy' ▸ HWT.out y HY.out)
    rw [hy']
    have HYE := Lib.hid hy'
    clear hy'
    go_wp2_with (fail)
    have hs5 : XY w1 77 x y' (((w4.setCell ⟨(w1.heap.size + 1), 0, none⟩ (.string y'.s)).setCell ⟨(w1.heap.size + 1), 1, none⟩ (.int .i64 y'.b)).setCell ⟨(w1.heap.size + 1), 2, none⟩ (.int .i64 y'.d)) := HS4.out.setY y'
    obtain ⟨W5, hW⟩ : ∃ W5, (((w4.setCell ⟨(w1.heap.size + 1), 0, none⟩ (.string y'.s)).setCell ⟨(w1.heap.size + 1), 1, none⟩ (.int .i64 y'.b)).setCell ⟨(w1.heap.size + 1), 2, none⟩ (.int .i64 y'.d)) = W5 := ⟨_, rfl⟩
    rw [hW] at hs5 ⊢
    clear hW
    refine (HBT.out x y' W5 (Nat.le_trans HX.out (by decide)) HWY.out (HW.out.below (HB1.out.trans (hs5.below.mono (Nat.le_of_lt HP1.out.lt))) hR0)).mono ?_
    rintro e w6 ⟨rfl, hb6⟩
    have hbl : Below w1.heap.size w1 w6 := hs5.below.trans (hb6.mono hs5.below.size)
    have HB6 := Lib.hid hbl
    clear q0 q1 q2 q3 q4 q5 q6 q7 q8 q9 qa qb
    clear hs5 hb6 hbl
    obtain ⟨t, ht⟩ : ∃ t, Sh.btw x (n : Int) y' = t := ⟨_, rfl⟩
    rw [ht]
    have HTE := Lib.hid ht
    clear ht
    go_wp2_with (fail)
    refine (HP.out t _ _ _ _ w6 (HP1.out.kept HB6.out) HL.out).mono ?_
    rintro e w7 ⟨⟨u, rfl⟩, hr7, hb7⟩
    have HR7 := Lib.hid hr7
    have HB7 := Lib.hid (HB1.out.trans ((HB6.out.mono (Nat.le_of_lt HP1.out.lt)).trans hb7))
    clear hr7 hb7
    go_wp2
    go_returns
    rw [HYE.out]
    rw [HTE.out]
    exact ⟨⟨_, rfl⟩, HR7.out, HB7.out⟩
  · rw [if_neg hL, if_neg hRt]
    go_enter Tryd.func32, Tryd.ntmps32
    go_wp2_with (fail)
    refine HTK.out.mono ?_
    rintro e w1 ⟨rfl, ⟨v1, hp1⟩, hb1⟩
    have HP1 := Lib.hid hp1
    have HB1 := Lib.hid hb1
    clear hp1 hb1
    unfold thv
    go_wp2
    go_quiet ((go_at_call 48; exact quiet_eq (HB.out _)))
    have hs : XY w1 77 x y (((w1.alloc (.cells #[.string x.s, .int .i64 x.b, .int .i64 x.d] 77)).alloc (.cells #[.string y.s, .int .i64 y.b, .int .i64 y.d] 77)).drewN nq) := XY.start w1 77 x y nq
    obtain ⟨W, hW⟩ : ∃ W, (((w1.alloc (.cells #[.string x.s, .int .i64 x.b, .int .i64 x.d] 77)).alloc (.cells #[.string y.s, .int .i64 y.b, .int .i64 y.d] 77)).drewN nq) = W := ⟨_, rfl⟩
    rw [hW] at hs ⊢
    clear hW
    obtain ⟨q0, q1, q2, q3, q4, q5, q6, q7, q8, q9, qa, qb⟩ := hs.facts
    have HS := Lib.hid hs
    clear hs
    go_wp2
    go_quiet ((go_at_call 48; exact quiet_eq (HB.out _)))
    have hs3 : XY w1 77 x y (W.drewN nq) := (HS.out).drewN nq
    obtain ⟨W3, hW⟩ : ∃ W3, W.drewN nq = W3 := ⟨_, rfl⟩
    rw [hW] at hs3 ⊢
    clear hW
    clear q0 q1 q2 q3 q4 q5 q6 q7 q8 q9 qa qb
    obtain ⟨q0, q1, q2, q3, q4, q5, q6, q7, q8, q9, qa, qb⟩ := hs3.facts
    have HS3 := Lib.hid hs3
    clear hs3
    go_wp2_with (fail)
    have hs5 : XY w1 77 x y W3 := HS3.out
    obtain ⟨W5, hW⟩ : ∃ W5, W3 = W5 := ⟨_, rfl⟩
    rw [hW] at hs5 ⊢
    clear hW
    refine (HBT.out x y W5 (Nat.le_trans HX.out (by decide)) (Nat.le_trans HY.out (by decide)) (HW.out.below (HB1.out.trans (hs5.below.mono (Nat.le_of_lt HP1.out.lt))) hR0)).mono ?_
    rintro e w6 ⟨rfl, hb6⟩
    have hbl : Below w1.heap.size w1 w6 := hs5.below.trans (hb6.mono hs5.below.size)
    have HB6 := Lib.hid hbl
    clear q0 q1 q2 q3 q4 q5 q6 q7 q8 q9 qa qb
    clear hs5 hb6 hbl
    obtain ⟨t, ht⟩ : ∃ t, Sh.btw x (n : Int) y = t := ⟨_, rfl⟩
    rw [ht]
    have HTE := Lib.hid ht
    clear ht
    go_wp2_with (fail)
    refine (HP.out t _ _ _ _ w6 (HP1.out.kept HB6.out) HL.out).mono ?_
    rintro e w7 ⟨⟨u, rfl⟩, hr7, hb7⟩
    have HR7 := Lib.hid hr7
    have HB7 := Lib.hid (HB1.out.trans ((HB6.out.mono (Nat.le_of_lt HP1.out.lt)).trans hb7))
    clear hr7 hb7
    go_wp2
    go_returns
    rw [HTE.out]
    exact ⟨⟨_, rfl⟩, HR7.out, HB7.out⟩
end Go.Proofs.YtflagbglbhmheaaDoor
