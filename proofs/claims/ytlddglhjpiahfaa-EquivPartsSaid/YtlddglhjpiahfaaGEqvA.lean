/- What package equiv tells of a kind of things (a label, what is left), as function values, and a thing as an observer sees it (by gen_eqva.py). -/
import Derived.Handy
import Derived.BigQuiet
import Derived.BigRegion
import Derived.Laws.EntriesVeiled
import Derived.Test.YtlddglhjpiahfaaGCodP
import Derived.Test.YtlddglhjpiahfaaGPub
import Derived.Test.YtlddglhjpiahfaaGFree
namespace Go.Proofs.Ytlddglhjpiahfaa
set_option maxRecDepth 100000
open Go.RowKit Go.Shelf
attribute [local go_sem] Oper.semAt_some
def vbs (v : List Bool) : List Value := v.map Value.bool
theorem vbs_at {w : World} {B : Nat} {A : Option Addr} {v : List Bool} {l : Int} (h : Row w B A (vbs v)) (hl : 0 ≤ l ∧ l < v.length) : ∃ ad k, A = some ad ∧ ad.block < B ∧ l = (k : Nat) ∧ k < v.length ∧ w.cell? (ad.add k) = some (.bool (Ev.at_ v l)) := by
  obtain ⟨k, rfl⟩ : ∃ k : Nat, l = k := ⟨l.toNat, by omega⟩
  have hk : k < v.length := by omega
  obtain ⟨ad, e, hb, hc⟩ := h.at_ (k := k) (by unfold vbs; simpa using hk)
  refine ⟨ad, k, e, hb, rfl, hk, hc.trans ?_⟩
  unfold Ev.at_ vbs
  rw [List.getElem_map, List.getD_eq_getElem?_getD, Int.toNat_natCast, List.getElem?_eq_getElem hk]
  rfl

/-! atoms -/
theorem labA_any (a l : Int) (w : World) : Calls Try.prog 52 #[.agg #[.int .i64 a, .int .i64 l]] w fun e w' => e = .returned (.int .i64 l) ∧ Below w.heap.size w w' := by
  have hb := (Below.refl w.heap.size w).alloc (Nat.le_refl _) (.cells #[.int .i64 a, .int .i64 l] 27)
  have HB := Lib.hid hb
  clear hb
  go_enter Try.func52, Try.ntmps52
  go_wp2
  go_ret
  exact ⟨rfl, HB.out⟩
theorem leftA_any (a l : Int) (w : World) : Calls Try.prog 53 #[.agg #[.int .i64 a, .int .i64 l]] w fun e w' => e = .returned (.agg #[.int .i64 0, .int .i64 l]) ∧ Below w.heap.size w w' := by
  have hb := ((Below.refl w.heap.size w).alloc (Nat.le_refl _) (.cells #[.int .i64 a, .int .i64 l] 27)).alloc (by simp) (.cells #[.int .i64 0, .int .i64 l] 27)
  have HB := Lib.hid hb
  clear hb
  go_enter Try.func53, Try.ntmps53
  go_wp2
  exact bodyPost_ret (v := .agg #[.int .i64 0, .int .i64 l]) (by simp [results, Try.results53, go_sem]) rfl ⟨rfl, HB.out⟩
def howA : Value := .agg #[.func (.func 52) #[] #[], .func (.func 53) #[] #[]]
theorem howA_any (w : World) : Calls Try.prog 26 #[] w fun e w' => e = .returned howA ∧ Below w.heap.size w w' := by
  have hb := (Below.refl w.heap.size w).alloc (Nat.le_refl _) (.cells #[.func (.func 52) #[] #[], .func (.func 53) #[] #[]] 63)
  have HB := Lib.hid hb
  clear hb
  go_enter Try.func26, Try.ntmps26
  go_wp2
  exact bodyPost_ret (v := howA) (by simp [results, Try.results26, go_sem, howA]) rfl ⟨rfl, HB.out⟩
set_option maxHeartbeats 4000000 in
theorem seenA_any {A : Option Addr} {v : List Bool} (a l : Int) (c : Nat) (w : World) (h : Row w w.heap.size A (vbs v)) (hl : 0 ≤ l ∧ l < v.length) :
    Calls Try.prog 79 #[.slice A v.length c, .agg #[.int .i64 a, .int .i64 l], howA] w fun e w' => e = .returned (.agg #[.int .i64 (if Ev.at_ v l = true then a else 0), .int .i64 l]) ∧ Below w.heap.size w w' := by
  have hen1 : ∀ args W, (callFunc 52 args).run Try.prog W = .ok (.enter 52 args) W := Try.call52
  have hen2 : ∀ args W, (callFunc 53 args).run Try.prog W = .ok (.enter 53 args) W := Try.call53
  obtain ⟨ad, k, rfl, hadb, rfl, hk, hcell⟩ := vbs_at h hl
  obtain ⟨s, hs⟩ : ∃ s, Ev.at_ v ((k : Nat) : Int) = s := ⟨_, rfl⟩
  rw [hs] at hcell ⊢
  have h1 := labA_any a (k : Int)
  have h2 := leftA_any a (k : Int)
  skip
  have H1 := Lib.hid h1
  have H2 := Lib.hid h2
  obtain ⟨W0, hW0⟩ : ∃ W0, ((w.alloc (.cells #[.int .i64 a, .int .i64 k] 27)).alloc (.cells #[.func (.func 52) #[] #[], .func (.func 53) #[] #[]] 63)).alloc (.cells #[.int .i64 0, .int .i64 0] 27) = W0 := ⟨_, rfl⟩
  have hb0 : Below w.heap.size w W0 := hW0 ▸ (((Below.refl _ w).alloc (Nat.le_refl _) _).alloc (by simp) _).alloc (by simp; omega) _
  have hp0 : Blk W0 w.heap.size 27 #[.int .i64 a, .int .i64 k] := hW0 ▸ ((Blk.new _ _ _).alloc _).alloc _
  have hq0 : Blk W0 (w.heap.size + 1) 63 #[.func (.func 52) #[] #[], .func (.func 53) #[] #[]] := by
    have h1 := (Blk.new (w.alloc (.cells #[.int .i64 a, .int .i64 k] 27)) 63 #[.func (.func 52) #[] #[], .func (.func 53) #[] #[]]).alloc (.cells #[.int .i64 0, .int .i64 0] 27)
    rw [show (w.alloc (.cells #[.int .i64 a, .int .i64 k] 27)).heap.size = w.heap.size + 1 by simp] at h1
    rw [← hW0]; exact h1
  have hr0 : Blk W0 (w.heap.size + 1 + 1) 27 #[.int .i64 0, .int .i64 0] := by
    have h1 := Blk.new ((w.alloc (.cells #[.int .i64 a, .int .i64 k] 27)).alloc (.cells #[.func (.func 52) #[] #[], .func (.func 53) #[] #[]] 63)) 27 #[.int .i64 0, .int .i64 0]
    rw [show ((w.alloc (.cells #[.int .i64 a, .int .i64 k] 27)).alloc (.cells #[.func (.func 52) #[] #[], .func (.func 53) #[] #[]] 63)).heap.size = w.heap.size + 1 + 1 by simp] at h1
    rw [← hW0]; exact h1
  have HW0 := Lib.hid hW0
  have HB0 := Lib.hid hb0
  have HP0 := Lib.hid hp0
  have HQ0 := Lib.hid hq0
  have HR0 := Lib.hid hr0
  have hce := hb0.cell (p := ad.add k) (by rw [add_block]; exact hadb)
  rw [hcell] at hce
  have p0 : W0.cell? ⟨w.heap.size, 0, none⟩ = some (.int .i64 a) := hp0.cell 0
  have p1 : W0.cell? ⟨w.heap.size, 1, none⟩ = some (.int .i64 (k : Nat)) := hp0.cell 1
  have q0 : W0.cell? ⟨w.heap.size + 1, 0, none⟩ = some (.func (.func 52) #[] #[]) := hq0.cell 0
  have HCE := Lib.hid hce
  clear h h1 h2 hl hs hcell hb0 hp0 hq0 hr0 hce
  unfold howA
  go_enter Try.func79, Try.ntmps79
  cases s
  all_goals
    go_wp2_with (fail)
    refine (H1.out _).mono ?_
    rintro e w1 ⟨rfl, hb1⟩
    have hp1 := HP0.out.below hb1 HP0.out.lt
    have hq1 := HQ0.out.below hb1 HQ0.out.lt
    have hr1 := HR0.out.below hb1 HR0.out.lt
    have HB1 := Lib.hid (HB0.out.trans (hb1.mono HB0.out.size))
    have hc1 := (hb1.cell (p := ad.add k) (by rw [add_block]; exact Nat.lt_of_lt_of_le hadb HB0.out.size)).trans HCE.out
    have HR1 := Lib.hid hr1
    clear p0 p1 q0 hb1
    have p0 : w1.cell? ⟨w.heap.size, 0, none⟩ = some (.int .i64 a) := hp1.cell 0
    have p1 : w1.cell? ⟨w.heap.size, 1, none⟩ = some (.int .i64 (k : Nat)) := hp1.cell 1
    have q1 : w1.cell? ⟨w.heap.size + 1, 1, none⟩ = some (.func (.func 53) #[] #[]) := hq1.cell 1
  · have HP1 := Lib.hid hp1
    clear p0 p1 hp1 hq1 hr1
    have p0 : w1.cell? ⟨w.heap.size, 0, none⟩ = some (.int .i64 a) := HP1.out.cell 0
    have p1 : w1.cell? ⟨w.heap.size, 1, none⟩ = some (.int .i64 (k : Nat)) := HP1.out.cell 1
    go_wp2_with (fail)
    refine (H2.out _).mono ?_
    rintro e w2 ⟨rfl, hb2⟩
    have hr2 := HR1.out.below hb2 HR1.out.lt
    have HB2 := Lib.hid (HB1.out.trans (hb2.mono HB1.out.size))
    clear p0 p1 q1 hb2 hc1
    have r0 : w2.cell? ⟨w.heap.size + 1 + 1, 0, none⟩ = some (.int .i64 0) := hr2.cell 0
    have r1 : w2.cell? ⟨w.heap.size + 1 + 1, 1, none⟩ = some (.int .i64 0) := hr2.cell 1
    have f0 : w2.frozen? ⟨w.heap.size + 1 + 1, 0, none⟩ = false := hr2.frozen 0
    have f1 : w2.frozen? ⟨w.heap.size + 1 + 1, 1, none⟩ = false := hr2.frozen 1
    obtain ⟨W9, hW9⟩ : ∃ W9, ((w2.setCell ⟨w.heap.size + 1 + 1, 0, none⟩ (.int .i64 0)).setCell ⟨w.heap.size + 1 + 1, 1, none⟩ (.int .i64 (k : Nat))) = W9 := ⟨_, rfl⟩
    have hk9 := ((hr2.set_ 0 (.int .i64 0)).set_ 1 (.int .i64 (k : Nat)))
    have hb9 := ((HB2.out.setCell (p := ⟨w.heap.size + 1 + 1, 0, none⟩) (by show w.heap.size ≤ w.heap.size + 1 + 1; omega) (.int .i64 0)).setCell (p := ⟨w.heap.size + 1 + 1, 1, none⟩) (by show w.heap.size ≤ w.heap.size + 1 + 1; omega) (.int .i64 (k : Nat)))
    rw [hW9] at hk9 hb9
    have HB9 := Lib.hid hb9
    have v0 : W9.cell? ⟨w.heap.size + 1 + 1, 0, none⟩ = some (.int .i64 0) := hk9.cell 0
    have v1 : W9.cell? ⟨w.heap.size + 1 + 1, 1, none⟩ = some (.int .i64 (k : Nat)) := hk9.cell 1
    clear hk9 hb9 hr2
    go_wp2
    exact bodyPost_ret (v := .agg #[.int .i64 0, .int .i64 (k : Nat)]) (by simp [results, Try.results79, go_sem, v0, v1]) rfl ⟨by simp, HB9.out⟩
  · clear hp1 hq1 q1
    have r0 : w1.cell? ⟨w.heap.size + 1 + 1, 0, none⟩ = some (.int .i64 0) := hr1.cell 0
    have r1 : w1.cell? ⟨w.heap.size + 1 + 1, 1, none⟩ = some (.int .i64 0) := hr1.cell 1
    have f0 : w1.frozen? ⟨w.heap.size + 1 + 1, 0, none⟩ = false := hr1.frozen 0
    have f1 : w1.frozen? ⟨w.heap.size + 1 + 1, 1, none⟩ = false := hr1.frozen 1
    obtain ⟨W9, hW9⟩ : ∃ W9, ((w1.setCell ⟨w.heap.size + 1 + 1, 0, none⟩ (.int .i64 a)).setCell ⟨w.heap.size + 1 + 1, 1, none⟩ (.int .i64 (k : Nat))) = W9 := ⟨_, rfl⟩
    have hk9 := ((hr1.set_ 0 (.int .i64 a)).set_ 1 (.int .i64 (k : Nat)))
    have hb9 := ((HB1.out.setCell (p := ⟨w.heap.size + 1 + 1, 0, none⟩) (by show w.heap.size ≤ w.heap.size + 1 + 1; omega) (.int .i64 a)).setCell (p := ⟨w.heap.size + 1 + 1, 1, none⟩) (by show w.heap.size ≤ w.heap.size + 1 + 1; omega) (.int .i64 (k : Nat)))
    rw [hW9] at hk9 hb9
    have HB9 := Lib.hid hb9
    have v0 : W9.cell? ⟨w.heap.size + 1 + 1, 0, none⟩ = some (.int .i64 a) := hk9.cell 0
    have v1 : W9.cell? ⟨w.heap.size + 1 + 1, 1, none⟩ = some (.int .i64 (k : Nat)) := hk9.cell 1
    clear hk9 hb9 hr1
    go_wp2
    exact bodyPost_ret (v := .agg #[.int .i64 a, .int .i64 (k : Nat)]) (by simp [results, Try.results79, go_sem, v0, v1]) rfl ⟨by simp, HB9.out⟩


/-! slots -/
theorem labS_any (r : Bool) (a l : Int) (w : World) : Calls Try.prog 59 #[.agg #[.bool r, .int .i64 a, .int .i64 l]] w fun e w' => e = .returned (.int .i64 l) ∧ Below w.heap.size w w' := by
  have hb := (Below.refl w.heap.size w).alloc (Nat.le_refl _) (.cells #[.bool r, .int .i64 a, .int .i64 l] 53)
  have HB := Lib.hid hb
  clear hb
  go_enter Try.func59, Try.ntmps59
  go_wp2
  go_ret
  exact ⟨rfl, HB.out⟩
theorem leftS_any (r : Bool) (a l : Int) (w : World) : Calls Try.prog 60 #[.agg #[.bool r, .int .i64 a, .int .i64 l]] w fun e w' => e = .returned (.agg #[.bool r, .int .i64 0, .int .i64 l]) ∧ Below w.heap.size w w' := by
  have hb := ((Below.refl w.heap.size w).alloc (Nat.le_refl _) (.cells #[.bool r, .int .i64 a, .int .i64 l] 53)).alloc (by simp) (.cells #[.bool r, .int .i64 0, .int .i64 l] 53)
  have HB := Lib.hid hb
  clear hb
  go_enter Try.func60, Try.ntmps60
  go_wp2
  exact bodyPost_ret (v := .agg #[.bool r, .int .i64 0, .int .i64 l]) (by simp [results, Try.results60, go_sem]) rfl ⟨rfl, HB.out⟩
def howS : Value := .agg #[.func (.func 59) #[] #[], .func (.func 60) #[] #[]]
theorem howS_any (w : World) : Calls Try.prog 30 #[] w fun e w' => e = .returned howS ∧ Below w.heap.size w w' := by
  have hb := (Below.refl w.heap.size w).alloc (Nat.le_refl _) (.cells #[.func (.func 59) #[] #[], .func (.func 60) #[] #[]] 77)
  have HB := Lib.hid hb
  clear hb
  go_enter Try.func30, Try.ntmps30
  go_wp2
  exact bodyPost_ret (v := howS) (by simp [results, Try.results30, go_sem, howS]) rfl ⟨rfl, HB.out⟩
set_option maxHeartbeats 4000000 in
theorem seenS_any {A : Option Addr} {v : List Bool} (r : Bool) (a l : Int) (c : Nat) (w : World) (h : Row w w.heap.size A (vbs v)) (hl : 0 ≤ l ∧ l < v.length) :
    Calls Try.prog 85 #[.slice A v.length c, .agg #[.bool r, .int .i64 a, .int .i64 l], howS] w fun e w' => e = .returned (.agg #[.bool r, .int .i64 (if Ev.at_ v l = true then a else 0), .int .i64 l]) ∧ Below w.heap.size w w' := by
  have hen1 : ∀ args W, (callFunc 59 args).run Try.prog W = .ok (.enter 59 args) W := Try.call59
  have hen2 : ∀ args W, (callFunc 60 args).run Try.prog W = .ok (.enter 60 args) W := Try.call60
  obtain ⟨ad, k, rfl, hadb, rfl, hk, hcell⟩ := vbs_at h hl
  obtain ⟨s, hs⟩ : ∃ s, Ev.at_ v ((k : Nat) : Int) = s := ⟨_, rfl⟩
  rw [hs] at hcell ⊢
  have h1 := labS_any r a (k : Int)
  have h2 := leftS_any r a (k : Int)
  skip
  have H1 := Lib.hid h1
  have H2 := Lib.hid h2
  obtain ⟨W0, hW0⟩ : ∃ W0, ((w.alloc (.cells #[.bool r, .int .i64 a, .int .i64 k] 53)).alloc (.cells #[.func (.func 59) #[] #[], .func (.func 60) #[] #[]] 77)).alloc (.cells #[.bool false, .int .i64 0, .int .i64 0] 53) = W0 := ⟨_, rfl⟩
  have hb0 : Below w.heap.size w W0 := hW0 ▸ (((Below.refl _ w).alloc (Nat.le_refl _) _).alloc (by simp) _).alloc (by simp; omega) _
  have hp0 : Blk W0 w.heap.size 53 #[.bool r, .int .i64 a, .int .i64 k] := hW0 ▸ ((Blk.new _ _ _).alloc _).alloc _
  have hq0 : Blk W0 (w.heap.size + 1) 77 #[.func (.func 59) #[] #[], .func (.func 60) #[] #[]] := by
    have h1 := (Blk.new (w.alloc (.cells #[.bool r, .int .i64 a, .int .i64 k] 53)) 77 #[.func (.func 59) #[] #[], .func (.func 60) #[] #[]]).alloc (.cells #[.bool false, .int .i64 0, .int .i64 0] 53)
    rw [show (w.alloc (.cells #[.bool r, .int .i64 a, .int .i64 k] 53)).heap.size = w.heap.size + 1 by simp] at h1
    rw [← hW0]; exact h1
  have hr0 : Blk W0 (w.heap.size + 1 + 1) 53 #[.bool false, .int .i64 0, .int .i64 0] := by
    have h1 := Blk.new ((w.alloc (.cells #[.bool r, .int .i64 a, .int .i64 k] 53)).alloc (.cells #[.func (.func 59) #[] #[], .func (.func 60) #[] #[]] 77)) 53 #[.bool false, .int .i64 0, .int .i64 0]
    rw [show ((w.alloc (.cells #[.bool r, .int .i64 a, .int .i64 k] 53)).alloc (.cells #[.func (.func 59) #[] #[], .func (.func 60) #[] #[]] 77)).heap.size = w.heap.size + 1 + 1 by simp] at h1
    rw [← hW0]; exact h1
  have HW0 := Lib.hid hW0
  have HB0 := Lib.hid hb0
  have HP0 := Lib.hid hp0
  have HQ0 := Lib.hid hq0
  have HR0 := Lib.hid hr0
  have hce := hb0.cell (p := ad.add k) (by rw [add_block]; exact hadb)
  rw [hcell] at hce
  have p0 : W0.cell? ⟨w.heap.size, 0, none⟩ = some (.bool r) := hp0.cell 0
  have p1 : W0.cell? ⟨w.heap.size, 1, none⟩ = some (.int .i64 a) := hp0.cell 1
  have p2 : W0.cell? ⟨w.heap.size, 2, none⟩ = some (.int .i64 (k : Nat)) := hp0.cell 2
  have q0 : W0.cell? ⟨w.heap.size + 1, 0, none⟩ = some (.func (.func 59) #[] #[]) := hq0.cell 0
  have HCE := Lib.hid hce
  clear h h1 h2 hl hs hcell hb0 hp0 hq0 hr0 hce
  unfold howS
  go_enter Try.func85, Try.ntmps85
  cases s
  all_goals
    go_wp2_with (fail)
    refine (H1.out _).mono ?_
    rintro e w1 ⟨rfl, hb1⟩
    have hp1 := HP0.out.below hb1 HP0.out.lt
    have hq1 := HQ0.out.below hb1 HQ0.out.lt
    have hr1 := HR0.out.below hb1 HR0.out.lt
    have HB1 := Lib.hid (HB0.out.trans (hb1.mono HB0.out.size))
    have hc1 := (hb1.cell (p := ad.add k) (by rw [add_block]; exact Nat.lt_of_lt_of_le hadb HB0.out.size)).trans HCE.out
    have HR1 := Lib.hid hr1
    clear p0 p1 p2 q0 hb1
    have p0 : w1.cell? ⟨w.heap.size, 0, none⟩ = some (.bool r) := hp1.cell 0
    have p1 : w1.cell? ⟨w.heap.size, 1, none⟩ = some (.int .i64 a) := hp1.cell 1
    have p2 : w1.cell? ⟨w.heap.size, 2, none⟩ = some (.int .i64 (k : Nat)) := hp1.cell 2
    have q1 : w1.cell? ⟨w.heap.size + 1, 1, none⟩ = some (.func (.func 60) #[] #[]) := hq1.cell 1
  · have HP1 := Lib.hid hp1
    clear p0 p1 p2 hp1 hq1 hr1
    have p0 : w1.cell? ⟨w.heap.size, 0, none⟩ = some (.bool r) := HP1.out.cell 0
    have p1 : w1.cell? ⟨w.heap.size, 1, none⟩ = some (.int .i64 a) := HP1.out.cell 1
    have p2 : w1.cell? ⟨w.heap.size, 2, none⟩ = some (.int .i64 (k : Nat)) := HP1.out.cell 2
    go_wp2_with (fail)
    refine (H2.out _).mono ?_
    rintro e w2 ⟨rfl, hb2⟩
    have hr2 := HR1.out.below hb2 HR1.out.lt
    have HB2 := Lib.hid (HB1.out.trans (hb2.mono HB1.out.size))
    clear p0 p1 p2 q1 hb2 hc1
    have r0 : w2.cell? ⟨w.heap.size + 1 + 1, 0, none⟩ = some (.bool false) := hr2.cell 0
    have r1 : w2.cell? ⟨w.heap.size + 1 + 1, 1, none⟩ = some (.int .i64 0) := hr2.cell 1
    have r2 : w2.cell? ⟨w.heap.size + 1 + 1, 2, none⟩ = some (.int .i64 0) := hr2.cell 2
    have f0 : w2.frozen? ⟨w.heap.size + 1 + 1, 0, none⟩ = false := hr2.frozen 0
    have f1 : w2.frozen? ⟨w.heap.size + 1 + 1, 1, none⟩ = false := hr2.frozen 1
    have f2 : w2.frozen? ⟨w.heap.size + 1 + 1, 2, none⟩ = false := hr2.frozen 2
    obtain ⟨W9, hW9⟩ : ∃ W9, (((w2.setCell ⟨w.heap.size + 1 + 1, 0, none⟩ (.bool r)).setCell ⟨w.heap.size + 1 + 1, 1, none⟩ (.int .i64 0)).setCell ⟨w.heap.size + 1 + 1, 2, none⟩ (.int .i64 (k : Nat))) = W9 := ⟨_, rfl⟩
    have hk9 := (((hr2.set_ 0 (.bool r)).set_ 1 (.int .i64 0)).set_ 2 (.int .i64 (k : Nat)))
    have hb9 := (((HB2.out.setCell (p := ⟨w.heap.size + 1 + 1, 0, none⟩) (by show w.heap.size ≤ w.heap.size + 1 + 1; omega) (.bool r)).setCell (p := ⟨w.heap.size + 1 + 1, 1, none⟩) (by show w.heap.size ≤ w.heap.size + 1 + 1; omega) (.int .i64 0)).setCell (p := ⟨w.heap.size + 1 + 1, 2, none⟩) (by show w.heap.size ≤ w.heap.size + 1 + 1; omega) (.int .i64 (k : Nat)))
    rw [hW9] at hk9 hb9
    have HB9 := Lib.hid hb9
    have v0 : W9.cell? ⟨w.heap.size + 1 + 1, 0, none⟩ = some (.bool r) := hk9.cell 0
    have v1 : W9.cell? ⟨w.heap.size + 1 + 1, 1, none⟩ = some (.int .i64 0) := hk9.cell 1
    have v2 : W9.cell? ⟨w.heap.size + 1 + 1, 2, none⟩ = some (.int .i64 (k : Nat)) := hk9.cell 2
    clear hk9 hb9 hr2
    go_wp2
    exact bodyPost_ret (v := .agg #[.bool r, .int .i64 0, .int .i64 (k : Nat)]) (by simp [results, Try.results85, go_sem, v0, v1, v2]) rfl ⟨by simp, HB9.out⟩
  · clear hp1 hq1 q1
    have r0 : w1.cell? ⟨w.heap.size + 1 + 1, 0, none⟩ = some (.bool false) := hr1.cell 0
    have r1 : w1.cell? ⟨w.heap.size + 1 + 1, 1, none⟩ = some (.int .i64 0) := hr1.cell 1
    have r2 : w1.cell? ⟨w.heap.size + 1 + 1, 2, none⟩ = some (.int .i64 0) := hr1.cell 2
    have f0 : w1.frozen? ⟨w.heap.size + 1 + 1, 0, none⟩ = false := hr1.frozen 0
    have f1 : w1.frozen? ⟨w.heap.size + 1 + 1, 1, none⟩ = false := hr1.frozen 1
    have f2 : w1.frozen? ⟨w.heap.size + 1 + 1, 2, none⟩ = false := hr1.frozen 2
    obtain ⟨W9, hW9⟩ : ∃ W9, (((w1.setCell ⟨w.heap.size + 1 + 1, 0, none⟩ (.bool r)).setCell ⟨w.heap.size + 1 + 1, 1, none⟩ (.int .i64 a)).setCell ⟨w.heap.size + 1 + 1, 2, none⟩ (.int .i64 (k : Nat))) = W9 := ⟨_, rfl⟩
    have hk9 := (((hr1.set_ 0 (.bool r)).set_ 1 (.int .i64 a)).set_ 2 (.int .i64 (k : Nat)))
    have hb9 := (((HB1.out.setCell (p := ⟨w.heap.size + 1 + 1, 0, none⟩) (by show w.heap.size ≤ w.heap.size + 1 + 1; omega) (.bool r)).setCell (p := ⟨w.heap.size + 1 + 1, 1, none⟩) (by show w.heap.size ≤ w.heap.size + 1 + 1; omega) (.int .i64 a)).setCell (p := ⟨w.heap.size + 1 + 1, 2, none⟩) (by show w.heap.size ≤ w.heap.size + 1 + 1; omega) (.int .i64 (k : Nat)))
    rw [hW9] at hk9 hb9
    have HB9 := Lib.hid hb9
    have v0 : W9.cell? ⟨w.heap.size + 1 + 1, 0, none⟩ = some (.bool r) := hk9.cell 0
    have v1 : W9.cell? ⟨w.heap.size + 1 + 1, 1, none⟩ = some (.int .i64 a) := hk9.cell 1
    have v2 : W9.cell? ⟨w.heap.size + 1 + 1, 2, none⟩ = some (.int .i64 (k : Nat)) := hk9.cell 2
    clear hk9 hb9 hr1
    go_wp2
    exact bodyPost_ret (v := .agg #[.bool r, .int .i64 a, .int .i64 (k : Nat)]) (by simp [results, Try.results85, go_sem, v0, v1, v2]) rfl ⟨by simp, HB9.out⟩


/-! instructions -/
theorem labI_any (p a l : Int) (w : World) : Calls Try.prog 56 #[.agg #[.int .i64 p, .int .i64 a, .int .i64 l]] w fun e w' => e = .returned (.int .i64 l) ∧ Below w.heap.size w w' := by
  have hb := (Below.refl w.heap.size w).alloc (Nat.le_refl _) (.cells #[.int .i64 p, .int .i64 a, .int .i64 l] 67)
  have HB := Lib.hid hb
  clear hb
  go_enter Try.func56, Try.ntmps56
  go_wp2
  go_ret
  exact ⟨rfl, HB.out⟩
theorem leftI_any (p a l : Int) (w : World) : Calls Try.prog 57 #[.agg #[.int .i64 p, .int .i64 a, .int .i64 l]] w fun e w' => e = .returned (.agg #[.int .i64 p, .int .i64 (if p = 1 then 0 else a), .int .i64 l]) ∧ Below w.heap.size w w' := by
  by_cases hp : p = 1
  · subst hp
    rw [if_pos rfl]
    have hb := ((Below.refl w.heap.size w).alloc (Nat.le_refl _) (.cells #[.int .i64 1, .int .i64 0, .int .i64 l] 67)).alloc (by simp) (.cells #[.int .i64 1, .int .i64 0, .int .i64 l] 67)
    have hb2 := (((Below.refl w.heap.size w).alloc (Nat.le_refl _) (.cells #[.int .i64 1, .int .i64 a, .int .i64 l] 67)).alloc (by simp) (.cells #[.int .i64 0, .int .i64 0, .int .i64 0] 67)).setCell (p := ⟨w.heap.size, 1, none⟩) (Nat.le_refl _) (.int .i64 0)
    have HB := Lib.hid hb
    have HB2 := Lib.hid hb2
    clear hb hb2
    go_enter Try.func57, Try.ntmps57
    go_wp2
    exact bodyPost_ret (v := .agg #[.int .i64 1, .int .i64 0, .int .i64 l]) (by simp [results, Try.results57, go_sem]) rfl ⟨rfl, HB.out⟩
  · rw [if_neg hp]
    have hb := ((Below.refl w.heap.size w).alloc (Nat.le_refl _) (.cells #[.int .i64 p, .int .i64 a, .int .i64 l] 67)).alloc (by simp) (.cells #[.int .i64 p, .int .i64 a, .int .i64 l] 67)
    have HB := Lib.hid hb
    have hpf : (p == 1) = false := by rw [beq_eq_false_iff_ne]; exact hp
    clear hb hp
    go_enter Try.func57, Try.ntmps57
    go_wp2
    exact bodyPost_ret (v := .agg #[.int .i64 p, .int .i64 a, .int .i64 l]) (by simp [results, Try.results57, go_sem]) rfl ⟨rfl, HB.out⟩
def howI : Value := .agg #[.func (.func 56) #[] #[], .func (.func 57) #[] #[]]
theorem howI_any (w : World) : Calls Try.prog 28 #[] w fun e w' => e = .returned howI ∧ Below w.heap.size w w' := by
  have hb := (Below.refl w.heap.size w).alloc (Nat.le_refl _) (.cells #[.func (.func 56) #[] #[], .func (.func 57) #[] #[]] 71)
  have HB := Lib.hid hb
  clear hb
  go_enter Try.func28, Try.ntmps28
  go_wp2
  exact bodyPost_ret (v := howI) (by simp [results, Try.results28, go_sem, howI]) rfl ⟨rfl, HB.out⟩
set_option maxHeartbeats 4000000 in
theorem seenI_any {A : Option Addr} {v : List Bool} (p a l : Int) (c : Nat) (w : World) (h : Row w w.heap.size A (vbs v)) (hl : 0 ≤ l ∧ l < v.length) :
    Calls Try.prog 82 #[.slice A v.length c, .agg #[.int .i64 p, .int .i64 a, .int .i64 l], howI] w fun e w' => e = .returned (.agg #[.int .i64 p, .int .i64 (if Ev.at_ v l = true then a else if p = 1 then 0 else a), .int .i64 l]) ∧ Below w.heap.size w w' := by
  have hen1 : ∀ args W, (callFunc 56 args).run Try.prog W = .ok (.enter 56 args) W := Try.call56
  have hen2 : ∀ args W, (callFunc 57 args).run Try.prog W = .ok (.enter 57 args) W := Try.call57
  obtain ⟨ad, k, rfl, hadb, rfl, hk, hcell⟩ := vbs_at h hl
  obtain ⟨s, hs⟩ : ∃ s, Ev.at_ v ((k : Nat) : Int) = s := ⟨_, rfl⟩
  rw [hs] at hcell ⊢
  have h1 := labI_any p a (k : Int)
  have h2 := leftI_any p a (k : Int)
  generalize (if p = 1 then 0 else a) = q at *
  have H1 := Lib.hid h1
  have H2 := Lib.hid h2
  obtain ⟨W0, hW0⟩ : ∃ W0, ((w.alloc (.cells #[.int .i64 p, .int .i64 a, .int .i64 k] 67)).alloc (.cells #[.func (.func 56) #[] #[], .func (.func 57) #[] #[]] 71)).alloc (.cells #[.int .i64 0, .int .i64 0, .int .i64 0] 67) = W0 := ⟨_, rfl⟩
  have hb0 : Below w.heap.size w W0 := hW0 ▸ (((Below.refl _ w).alloc (Nat.le_refl _) _).alloc (by simp) _).alloc (by simp; omega) _
  have hp0 : Blk W0 w.heap.size 67 #[.int .i64 p, .int .i64 a, .int .i64 k] := hW0 ▸ ((Blk.new _ _ _).alloc _).alloc _
  have hq0 : Blk W0 (w.heap.size + 1) 71 #[.func (.func 56) #[] #[], .func (.func 57) #[] #[]] := by
    have h1 := (Blk.new (w.alloc (.cells #[.int .i64 p, .int .i64 a, .int .i64 k] 67)) 71 #[.func (.func 56) #[] #[], .func (.func 57) #[] #[]]).alloc (.cells #[.int .i64 0, .int .i64 0, .int .i64 0] 67)
    rw [show (w.alloc (.cells #[.int .i64 p, .int .i64 a, .int .i64 k] 67)).heap.size = w.heap.size + 1 by simp] at h1
    rw [← hW0]; exact h1
  have hr0 : Blk W0 (w.heap.size + 1 + 1) 67 #[.int .i64 0, .int .i64 0, .int .i64 0] := by
    have h1 := Blk.new ((w.alloc (.cells #[.int .i64 p, .int .i64 a, .int .i64 k] 67)).alloc (.cells #[.func (.func 56) #[] #[], .func (.func 57) #[] #[]] 71)) 67 #[.int .i64 0, .int .i64 0, .int .i64 0]
    rw [show ((w.alloc (.cells #[.int .i64 p, .int .i64 a, .int .i64 k] 67)).alloc (.cells #[.func (.func 56) #[] #[], .func (.func 57) #[] #[]] 71)).heap.size = w.heap.size + 1 + 1 by simp] at h1
    rw [← hW0]; exact h1
  have HW0 := Lib.hid hW0
  have HB0 := Lib.hid hb0
  have HP0 := Lib.hid hp0
  have HQ0 := Lib.hid hq0
  have HR0 := Lib.hid hr0
  have hce := hb0.cell (p := ad.add k) (by rw [add_block]; exact hadb)
  rw [hcell] at hce
  have p0 : W0.cell? ⟨w.heap.size, 0, none⟩ = some (.int .i64 p) := hp0.cell 0
  have p1 : W0.cell? ⟨w.heap.size, 1, none⟩ = some (.int .i64 a) := hp0.cell 1
  have p2 : W0.cell? ⟨w.heap.size, 2, none⟩ = some (.int .i64 (k : Nat)) := hp0.cell 2
  have q0 : W0.cell? ⟨w.heap.size + 1, 0, none⟩ = some (.func (.func 56) #[] #[]) := hq0.cell 0
  have HCE := Lib.hid hce
  clear h h1 h2 hl hs hcell hb0 hp0 hq0 hr0 hce
  unfold howI
  go_enter Try.func82, Try.ntmps82
  cases s
  all_goals
    go_wp2_with (fail)
    refine (H1.out _).mono ?_
    rintro e w1 ⟨rfl, hb1⟩
    have hp1 := HP0.out.below hb1 HP0.out.lt
    have hq1 := HQ0.out.below hb1 HQ0.out.lt
    have hr1 := HR0.out.below hb1 HR0.out.lt
    have HB1 := Lib.hid (HB0.out.trans (hb1.mono HB0.out.size))
    have hc1 := (hb1.cell (p := ad.add k) (by rw [add_block]; exact Nat.lt_of_lt_of_le hadb HB0.out.size)).trans HCE.out
    have HR1 := Lib.hid hr1
    clear p0 p1 p2 q0 hb1
    have p0 : w1.cell? ⟨w.heap.size, 0, none⟩ = some (.int .i64 p) := hp1.cell 0
    have p1 : w1.cell? ⟨w.heap.size, 1, none⟩ = some (.int .i64 a) := hp1.cell 1
    have p2 : w1.cell? ⟨w.heap.size, 2, none⟩ = some (.int .i64 (k : Nat)) := hp1.cell 2
    have q1 : w1.cell? ⟨w.heap.size + 1, 1, none⟩ = some (.func (.func 57) #[] #[]) := hq1.cell 1
  · have HP1 := Lib.hid hp1
    clear p0 p1 p2 hp1 hq1 hr1
    have p0 : w1.cell? ⟨w.heap.size, 0, none⟩ = some (.int .i64 p) := HP1.out.cell 0
    have p1 : w1.cell? ⟨w.heap.size, 1, none⟩ = some (.int .i64 a) := HP1.out.cell 1
    have p2 : w1.cell? ⟨w.heap.size, 2, none⟩ = some (.int .i64 (k : Nat)) := HP1.out.cell 2
    go_wp2_with (fail)
    refine (H2.out _).mono ?_
    rintro e w2 ⟨rfl, hb2⟩
    have hr2 := HR1.out.below hb2 HR1.out.lt
    have HB2 := Lib.hid (HB1.out.trans (hb2.mono HB1.out.size))
    clear p0 p1 p2 q1 hb2 hc1
    have r0 : w2.cell? ⟨w.heap.size + 1 + 1, 0, none⟩ = some (.int .i64 0) := hr2.cell 0
    have r1 : w2.cell? ⟨w.heap.size + 1 + 1, 1, none⟩ = some (.int .i64 0) := hr2.cell 1
    have r2 : w2.cell? ⟨w.heap.size + 1 + 1, 2, none⟩ = some (.int .i64 0) := hr2.cell 2
    have f0 : w2.frozen? ⟨w.heap.size + 1 + 1, 0, none⟩ = false := hr2.frozen 0
    have f1 : w2.frozen? ⟨w.heap.size + 1 + 1, 1, none⟩ = false := hr2.frozen 1
    have f2 : w2.frozen? ⟨w.heap.size + 1 + 1, 2, none⟩ = false := hr2.frozen 2
    obtain ⟨W9, hW9⟩ : ∃ W9, (((w2.setCell ⟨w.heap.size + 1 + 1, 0, none⟩ (.int .i64 p)).setCell ⟨w.heap.size + 1 + 1, 1, none⟩ (.int .i64 q)).setCell ⟨w.heap.size + 1 + 1, 2, none⟩ (.int .i64 (k : Nat))) = W9 := ⟨_, rfl⟩
    have hk9 := (((hr2.set_ 0 (.int .i64 p)).set_ 1 (.int .i64 q)).set_ 2 (.int .i64 (k : Nat)))
    have hb9 := (((HB2.out.setCell (p := ⟨w.heap.size + 1 + 1, 0, none⟩) (by show w.heap.size ≤ w.heap.size + 1 + 1; omega) (.int .i64 p)).setCell (p := ⟨w.heap.size + 1 + 1, 1, none⟩) (by show w.heap.size ≤ w.heap.size + 1 + 1; omega) (.int .i64 q)).setCell (p := ⟨w.heap.size + 1 + 1, 2, none⟩) (by show w.heap.size ≤ w.heap.size + 1 + 1; omega) (.int .i64 (k : Nat)))
    rw [hW9] at hk9 hb9
    have HB9 := Lib.hid hb9
    have v0 : W9.cell? ⟨w.heap.size + 1 + 1, 0, none⟩ = some (.int .i64 p) := hk9.cell 0
    have v1 : W9.cell? ⟨w.heap.size + 1 + 1, 1, none⟩ = some (.int .i64 q) := hk9.cell 1
    have v2 : W9.cell? ⟨w.heap.size + 1 + 1, 2, none⟩ = some (.int .i64 (k : Nat)) := hk9.cell 2
    clear hk9 hb9 hr2
    go_wp2
    exact bodyPost_ret (v := .agg #[.int .i64 p, .int .i64 q, .int .i64 (k : Nat)]) (by simp [results, Try.results82, go_sem, v0, v1, v2]) rfl ⟨by simp, HB9.out⟩
  · clear hp1 hq1 q1
    have r0 : w1.cell? ⟨w.heap.size + 1 + 1, 0, none⟩ = some (.int .i64 0) := hr1.cell 0
    have r1 : w1.cell? ⟨w.heap.size + 1 + 1, 1, none⟩ = some (.int .i64 0) := hr1.cell 1
    have r2 : w1.cell? ⟨w.heap.size + 1 + 1, 2, none⟩ = some (.int .i64 0) := hr1.cell 2
    have f0 : w1.frozen? ⟨w.heap.size + 1 + 1, 0, none⟩ = false := hr1.frozen 0
    have f1 : w1.frozen? ⟨w.heap.size + 1 + 1, 1, none⟩ = false := hr1.frozen 1
    have f2 : w1.frozen? ⟨w.heap.size + 1 + 1, 2, none⟩ = false := hr1.frozen 2
    obtain ⟨W9, hW9⟩ : ∃ W9, (((w1.setCell ⟨w.heap.size + 1 + 1, 0, none⟩ (.int .i64 p)).setCell ⟨w.heap.size + 1 + 1, 1, none⟩ (.int .i64 a)).setCell ⟨w.heap.size + 1 + 1, 2, none⟩ (.int .i64 (k : Nat))) = W9 := ⟨_, rfl⟩
    have hk9 := (((hr1.set_ 0 (.int .i64 p)).set_ 1 (.int .i64 a)).set_ 2 (.int .i64 (k : Nat)))
    have hb9 := (((HB1.out.setCell (p := ⟨w.heap.size + 1 + 1, 0, none⟩) (by show w.heap.size ≤ w.heap.size + 1 + 1; omega) (.int .i64 p)).setCell (p := ⟨w.heap.size + 1 + 1, 1, none⟩) (by show w.heap.size ≤ w.heap.size + 1 + 1; omega) (.int .i64 a)).setCell (p := ⟨w.heap.size + 1 + 1, 2, none⟩) (by show w.heap.size ≤ w.heap.size + 1 + 1; omega) (.int .i64 (k : Nat)))
    rw [hW9] at hk9 hb9
    have HB9 := Lib.hid hb9
    have v0 : W9.cell? ⟨w.heap.size + 1 + 1, 0, none⟩ = some (.int .i64 p) := hk9.cell 0
    have v1 : W9.cell? ⟨w.heap.size + 1 + 1, 1, none⟩ = some (.int .i64 a) := hk9.cell 1
    have v2 : W9.cell? ⟨w.heap.size + 1 + 1, 2, none⟩ = some (.int .i64 (k : Nat)) := hk9.cell 2
    clear hk9 hb9 hr1
    go_wp2
    exact bodyPost_ret (v := .agg #[.int .i64 p, .int .i64 a, .int .i64 (k : Nat)]) (by simp [results, Try.results82, go_sem, v0, v1, v2]) rfl ⟨by simp, HB9.out⟩

end Go.Proofs.Ytlddglhjpiahfaa
