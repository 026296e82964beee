/- The walk of part (of a row). -/
import Derived.Deep.RegionHeld3
import Derived.Test.YtggcmkpafpjnoaaGreatDoorGTabJ
namespace Go.Proofs.YtggcmkpafpjnoaaGreatDoor
set_option maxRecDepth 100000
open Go.RowKit Go.Shelf
attribute [local go_sem] Oper.semAt_some

section
variable {R Q P b0 b1 b2 c : Nat} {A : Option Addr} {l : List Lx.Tk} {s : Tb.St}
def partV (bk : Nat) (g : FuncId) : Value := .agg #[.func (.func 62) #[] #[.pointer (some ⟨bk, 0, none⟩)], .func (.func 64) #[] #[.pointer (some ⟨bk, 0, none⟩)], .func (.func g) #[] #[]]
def partC (bk : Nat) (g : FuncId) : Array Value := #[.func (.func 62) #[] #[.pointer (some ⟨bk, 0, none⟩)], .func (.func 64) #[] #[.pointer (some ⟨bk, 0, none⟩)], .func (.func g) #[] #[]]
set_option maxHeartbeats 8000000 in
theorem tpart_any (hf : Fast R Q P b0 b1 b2) (hfi : Tb.Fine l) (hl : l.length ≤ 200) {op j : Nat} (hop : op < 13) (hj : j < 3) {g : FuncId} {bk : Nat} (w : World) (h : TRd R Q P b0 b1 b2 A c l s w) (hp : PartAt P b0 b1 b2 j w g bk) :
    Calls Tryz.prog 68 #[.pointer (some ⟨R, 0, none⟩), partV bk g, .int .i64 (op : Nat)] w (ToldT R Q P b0 b1 b2 A c l w (Tb.partP l op j s)) := by
  have hal : Below w.heap.size w (w.alloc (.cells (partC bk g) 100)).drew := ((Below.refl _ w).alloc (Nat.le_refl _) _).drew
  have hT1 := h.keep hf hal
  have hpos := h.st.pos
  have hR := h.lt
  have hQ := h.rows.lt
  have hbx := Blk.new w 100 (partC bk g)
  have hread := readP_any c bk s.pos (decide (j ≠ 0)) (w.alloc (.cells (partC bk g) 100)).drew (hp.v.below hal hp.v.lt) hT1.toks.row (by omega)
  have hlt := (Tb.from_lt hfi hpos (decide (j ≠ 0))).1
  have c0 := h.c0
  have c1 := h.c1
  unfold Tb.partP
  unfold partV
  unfold partC at hal hT1 hbx hread
  generalize Rl.from_ l s.pos (decide (j ≠ 0)) = r at *
  obtain ⟨out, at_, en⟩ := r
  dsimp only at hread hlt ⊢
  have hen := hp.en
  have hof2 := fun b o W => (hp.of2 b o W).mono (R' := fun e w' => e = .returned (.pointer (some ⟨b, o + j, none⟩)) ∧ w' = W) (fun e w' h => ⟨h.1, h.2.symm⟩)
  have HOF := Lib.hid hof2
  have HT1 := Lib.hid hT1
  have HBX := Lib.hid hbx
  have HRD := Lib.hid hread
  have HAL := Lib.hid hal
  have HPL := Lib.hid (show s.rows.length = 13 from h.st.rows)
  have HHL := Lib.hid (show s.had.length = 13 from h.st.had)
  have HN := Lib.hid hl
  clear hof2 hT1 hbx hread hal h hp
  generalize hnl : l.length = n at *
  by_cases he : en = 0
  · subst he
    rw [if_pos rfl]
    go_enter Tryz.func68, Tryz.ntmps68
    have q0 : (w.alloc (.cells #[.func (.func 62) #[] #[.pointer (some ⟨bk, 0, none⟩)], .func (.func 64) #[] #[.pointer (some ⟨bk, 0, none⟩)], .func (.func g) #[] #[]] 100)).cell? ⟨w.heap.size, 0, none⟩ = some (.func (.func 62) #[] #[.pointer (some ⟨bk, 0, none⟩)]) := HBX.out.cell 0
    have q1 : (w.alloc (.cells #[.func (.func 62) #[] #[.pointer (some ⟨bk, 0, none⟩)], .func (.func 64) #[] #[.pointer (some ⟨bk, 0, none⟩)], .func (.func g) #[] #[]] 100)).cell? ⟨R, 0, none⟩ = some (.slice A n c) := by have := HT1.out.c0; rw [hnl] at this; exact this
    have q2 : (w.alloc (.cells #[.func (.func 62) #[] #[.pointer (some ⟨bk, 0, none⟩)], .func (.func 64) #[] #[.pointer (some ⟨bk, 0, none⟩)], .func (.func g) #[] #[]] 100)).cell? ⟨R, 1, none⟩ = some (.int .i64 (s.pos : Int)) := HT1.out.c1
    go_wp2
    go_region_held3 (fun W => W.cell? ⟨w.heap.size, 0, none⟩ = some (.func (.func 62) #[] #[.pointer (some ⟨bk, 0, none⟩)]) ∧ W.cell? ⟨R, 0, none⟩ = some (.slice A n c) ∧ W.cell? ⟨R, 1, none⟩ = some (.int .i64 (s.pos : Int)))
      (first | exact ⟨q0, q1, q2⟩ | exact ⟨p0, p1, p2⟩)
      (first | (go_at_call 62; refine HRD.out.mono ?_; rintro e w2 ⟨v, rfl, hv, hb2, hnw⟩; obtain ⟨A1, d1, rfl, hr1, hd1⟩ := hv; have p0 := (HBX.out.drew.below hb2 HBX.out.lt).cell 0; have hT2 := HT1.out.keep hf hb2; have p1 := hT2.c0; rw [hnl] at p1; have p2 := hT2.c1; have HB2 := Lib.hid hb2; have HV := Lib.hid (AInts.of_new ⟨A1, d1, rfl, hr1, hd1⟩ hnw (show R < _ by simp; omega) (show Q < _ by simp; omega)); have HT2 := Lib.hid hT2; clear hb2 hT2 hr1 hd1 hnw))
    have hb3 := HAL.out.trans (HB2.out.mono HAL.out.size)
    have hfz : w2.frozen? ⟨R, 1, none⟩ = false := HT2.out.blk.frozen _
    have hT3 := HT2.out.set_ hf (rcells_pos _ at_) rfl ⟨by rw [hnl]; exact hlt, HPL.out, HHL.out⟩
    have hK3 := (Kept.of (R := R) (Q := Q) hb3).set_ (p := ⟨R, 1, none⟩) (.inl rfl) (.int .i64 (at_ : Int))
    have hK23 := (Kept.refl R Q w2).set_ (p := ⟨R, 1, none⟩) (.inl rfl) (.int .i64 (at_ : Int))
    have hBX3 := (HBX.out.drew.below HB2.out HBX.out.lt).other (p := ⟨R, 1, none⟩) (show R ≠ w.heap.size by omega) (.int .i64 (at_ : Int))
    clear hb3 q0 q1 q2 p0
    go_wp2
    obtain ⟨W3, hW3⟩ : ∃ W, w2.setCell ⟨R, 1, none⟩ (.int .i64 (at_ : Int)) = W := ⟨_, rfl⟩
    rw [hW3] at hT3 hK3 hK23 hBX3 ⊢
    have hV3 := HV.out.kept hK23
    have g2 : W3.cell? ⟨w.heap.size, 2, none⟩ = some (.func (.func g) #[] #[]) := hBX3.cell 2
    have g3 := hT3.c3
    obtain ⟨u, hu, hfu⟩ := hT3.rows.cell (show op * 3 + j < 39 by omega)
    have hop2 : (op : Int) < 13 := by omega
    have hT4 := hT3.row_ hf hop hj hV3
    have hmk := tmark_any hf hfi Tb.mSemi Tb.semi_ne _ (hT4.keep hf ((Below.refl _ (W3.setCell ⟨Q, op * 3 + j, none⟩ (.slice A1 out.length d1))).drew)) (by rw [hnl]; exact HN.out)
    have HMK := Lib.hid hmk
    have HK4 := Lib.hid (hK3.set_ (p := ⟨Q, op * 3 + j, none⟩) (.inr rfl) (.slice A1 out.length d1))
    clear hT3 hT4 hK3 hK23 hBX3 hW3 hV3 hmk
    refine still_tail_drew 11 (by kernel_rfl) (by kernel_rfl) ?_
    simp only [List.take_succ_cons, List.take_zero, List.drop_succ_cons, List.drop_zero]
    repeat still_step
    still_call (HOF.out _ _ _)
    repeat still_step
    refine wpStill_nil ?_
    go_wp2_with (fail)
    refine HMK.out.mono ?_
    rintro e w5 ⟨rfl, hT5, hK5⟩
    have HT5 := Lib.hid hT5
    have HK5 := Lib.hid (HK4.out.trans ⟨hK5.os, hK5.tape, hK5.output, hK5.size, hK5.block⟩)
    clear hT5 hK5
    go_wp2
    go_ret
    exact ⟨rfl, HT5.out, HK5.out⟩
  · rw [if_neg he]
    have he1 : ((en : Int) != 0) = true := by rw [bne_iff_ne]; omega
    go_enter Tryz.func68, Tryz.ntmps68
    have q0 : (w.alloc (.cells #[.func (.func 62) #[] #[.pointer (some ⟨bk, 0, none⟩)], .func (.func 64) #[] #[.pointer (some ⟨bk, 0, none⟩)], .func (.func g) #[] #[]] 100)).cell? ⟨w.heap.size, 0, none⟩ = some (.func (.func 62) #[] #[.pointer (some ⟨bk, 0, none⟩)]) := HBX.out.cell 0
    have q1 : (w.alloc (.cells #[.func (.func 62) #[] #[.pointer (some ⟨bk, 0, none⟩)], .func (.func 64) #[] #[.pointer (some ⟨bk, 0, none⟩)], .func (.func g) #[] #[]] 100)).cell? ⟨R, 0, none⟩ = some (.slice A n c) := by have := HT1.out.c0; rw [hnl] at this; exact this
    have q2 : (w.alloc (.cells #[.func (.func 62) #[] #[.pointer (some ⟨bk, 0, none⟩)], .func (.func 64) #[] #[.pointer (some ⟨bk, 0, none⟩)], .func (.func g) #[] #[]] 100)).cell? ⟨R, 1, none⟩ = some (.int .i64 (s.pos : Int)) := HT1.out.c1
    go_wp2
    go_region_held3 (fun W => W.cell? ⟨w.heap.size, 0, none⟩ = some (.func (.func 62) #[] #[.pointer (some ⟨bk, 0, none⟩)]) ∧ W.cell? ⟨R, 0, none⟩ = some (.slice A n c) ∧ W.cell? ⟨R, 1, none⟩ = some (.int .i64 (s.pos : Int)))
      (first | exact ⟨q0, q1, q2⟩ | exact ⟨p0, p1, p2⟩)
      (first | (go_at_call 62; refine HRD.out.mono ?_; rintro e w2 ⟨v, rfl, -, hb2, -⟩; have p0 := (HBX.out.drew.below hb2 HBX.out.lt).cell 0; have hT2 := HT1.out.keep hf hb2; have p1 := hT2.c0; rw [hnl] at p1; have p2 := hT2.c1; have HB2 := Lib.hid hb2; have HT2 := Lib.hid hT2; clear hb2 hT2))
    have hb3 := HAL.out.trans (HB2.out.mono HAL.out.size)
    have hfz : w2.frozen? ⟨R, 1, none⟩ = false := HT2.out.blk.frozen _
    have hT3 := HT2.out.set_ hf (rcells_pos _ at_) rfl ⟨by rw [hnl]; exact hlt, HPL.out, HHL.out⟩
    have HT := Lib.hid hT3
    have HK := Lib.hid ((Kept.of (R := R) (Q := Q) hb3).set_ (p := ⟨R, 1, none⟩) (.inl rfl) (.int .i64 (at_ : Int)))
    clear hb3 hT3 q0 q1 q2
    go_wp2
    go_ret
    exact ⟨rfl, HT.out, HK.out⟩
end
end Go.Proofs.YtggcmkpafpjnoaaGreatDoor
