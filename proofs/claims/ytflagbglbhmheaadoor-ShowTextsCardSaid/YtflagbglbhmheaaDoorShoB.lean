/- Walks of alone, within, between (by gen_sho.py). -/
import Derived.Test.YtflagbglbhmheaaDoorShoA
import Derived.Handy
import Derived.StillTailTactics
namespace Go.Proofs.YtflagbglbhmheaaDoor
set_option maxRecDepth 100000
open Go.RowKit Go.Shelf

set_option maxHeartbeats 4000000 in
theorem btwC_any (x y : Sh.Th) (n : Nat) (h1 : 1 ≤ n) (h2 : n ≤ 13) (hx : Sh.wt x ≤ 1000000) (hy : Sh.wt y ≤ 1000000) (w : World) (h : Wds w) : Calls Tryd.prog 51 #[thv x, .int .i64 n, thv y] w (Gives w (Sh.btw x n y)) := by
  have hc := h.2 n h1 h2
  have h0 := h.lt
  have hsz := Sh.name_size n
  have hbd := fun W => binds_any (n : Int) W
  have HB := Lib.hid hbd
  obtain ⟨s, b, d⟩ := x
  obtain ⟨s2, b2, d2⟩ := y
  unfold Sh.wt at hx hy
  dsimp only at hx hy
  unfold thv Gives Sh.btw
  dsimp only
  generalize Sh.nameOf (n : Int) = t at *
  generalize Sh.binds (n : Int) = bb at *
  have hno : ¬ 9223372036854775807 < 1 + t.size := by omega
  have hno2 : ¬ 9223372036854775807 < 1 + t.size + 1 := by omega
  have hno3 : ¬ 9223372036854775807 < s.size + (1 + t.size + 1) := by omega
  have hno4 : ¬ 9223372036854775807 < s.size + (1 + t.size + 1) + s2.size := by omega
  obtain ⟨dm, hdm⟩ : ∃ m, max d d2 = m := ⟨_, rfl⟩
  have hmax : max (d : Int) (d2 : Int) = (dm : Int) := by omega
  have HD := Lib.hid hdm
  have h14 : (n : Int) < 14 := by omega
  have hst := fun W => (HB.out W).mono (R' := fun e w' => e = .returned (.int .i64 (bb : Nat)) ∧ w' = W) (fun e w' h => ⟨h.1, h.2.symm⟩)
  have HS := Lib.hid hst
  clear h hbd hx hy hdm hsz hst
  go_enter Tryd.func51, Tryd.ntmps51
  go_wp2
  refine still_tail_drew 19 (by kernel_rfl) (by kernel_rfl) ?_
  simp only [List.take_succ_cons, List.take_zero, List.drop_succ_cons, List.drop_zero]
  repeat still_step
  still_call (HS.out _)
  repeat still_step
  refine wpStill_nil ?_
  all_goals go_wp2
  all_goals
    go_returns
    rw [HD.out]
    exact ⟨rfl, ((((Below.refl _ w).alloc (Nat.le_refl _) _).alloc (by simp) _).alloc (by simp; omega) _).drew⟩

set_option maxHeartbeats 4000000 in
theorem btwM_any (x y : Sh.Th) (n : Nat) (h1 : 1 ≤ n) (h2 : n ≤ 13) (hx : Sh.wt x ≤ 1000000) (hy : Sh.wt y ≤ 1000000) (w : World) (h : Wds w) : Calls Tryd.prog 31 #[thv x, .int .i64 n, thv y] w (Gives w (Sh.btw x n y)) := by
  have hc := h.2 n h1 h2
  have h0 := h.lt
  have hsz := Sh.name_size n
  have hbd := fun W => binds_any (n : Int) W
  have HB := Lib.hid hbd
  obtain ⟨s, b, d⟩ := x
  obtain ⟨s2, b2, d2⟩ := y
  unfold Sh.wt at hx hy
  dsimp only at hx hy
  unfold thv Gives Sh.btw
  dsimp only
  generalize Sh.nameOf (n : Int) = t at *
  generalize Sh.binds (n : Int) = bb at *
  have hno : ¬ 9223372036854775807 < 1 + t.size := by omega
  have hno2 : ¬ 9223372036854775807 < 1 + t.size + 1 := by omega
  have hno3 : ¬ 9223372036854775807 < s.size + (1 + t.size + 1) := by omega
  have hno4 : ¬ 9223372036854775807 < s.size + (1 + t.size + 1) + s2.size := by omega
  obtain ⟨dm, hdm⟩ : ∃ m, max d d2 = m := ⟨_, rfl⟩
  have hmax : max (d : Int) (d2 : Int) = (dm : Int) := by omega
  have HD := Lib.hid hdm
  have h14 : (n : Int) < 14 := by omega
  have hst := fun W => (HB.out W).mono (R' := fun e w' => e = .returned (.int .i64 (bb : Nat)) ∧ w' = W) (fun e w' h => ⟨h.1, h.2.symm⟩)
  have HS := Lib.hid hst
  clear h hbd hx hy hdm hsz hst
  go_enter Tryd.func31, Tryd.ntmps31
  go_wp2
  refine still_tail_drew 19 (by kernel_rfl) (by kernel_rfl) ?_
  simp only [List.take_succ_cons, List.take_zero, List.drop_succ_cons, List.drop_zero]
  repeat still_step
  still_call (HS.out _)
  repeat still_step
  refine wpStill_nil ?_
  all_goals go_wp2
  all_goals
    go_returns
    rw [HD.out]
    exact ⟨rfl, ((((Below.refl _ w).alloc (Nat.le_refl _) _).alloc (by simp) _).alloc (by simp; omega) _).drew⟩

set_option maxHeartbeats 4000000 in
theorem btwL_any (x y : Sh.Th) (n : Nat) (h1 : 1 ≤ n) (h2 : n ≤ 13) (hx : Sh.wt x ≤ 1000000) (hy : Sh.wt y ≤ 1000000) (w : World) (h : Wds w) : Calls Tryd.prog 53 #[thv x, .int .i64 n, thv y] w (Gives w (Sh.btw x n y)) := by
  have hc := h.2 n h1 h2
  have h0 := h.lt
  have hsz := Sh.name_size n
  have hbd := fun W => binds_any (n : Int) W
  have HB := Lib.hid hbd
  obtain ⟨s, b, d⟩ := x
  obtain ⟨s2, b2, d2⟩ := y
  unfold Sh.wt at hx hy
  dsimp only at hx hy
  unfold thv Gives Sh.btw
  dsimp only
  generalize Sh.nameOf (n : Int) = t at *
  generalize Sh.binds (n : Int) = bb at *
  have hno : ¬ 9223372036854775807 < 1 + t.size := by omega
  have hno2 : ¬ 9223372036854775807 < 1 + t.size + 1 := by omega
  have hno3 : ¬ 9223372036854775807 < s.size + (1 + t.size + 1) := by omega
  have hno4 : ¬ 9223372036854775807 < s.size + (1 + t.size + 1) + s2.size := by omega
  obtain ⟨dm, hdm⟩ : ∃ m, max d d2 = m := ⟨_, rfl⟩
  have hmax : max (d : Int) (d2 : Int) = (dm : Int) := by omega
  have HD := Lib.hid hdm
  have h14 : (n : Int) < 14 := by omega
  have hst := fun W => (HB.out W).mono (R' := fun e w' => e = .returned (.int .i64 (bb : Nat)) ∧ w' = W) (fun e w' h => ⟨h.1, h.2.symm⟩)
  have HS := Lib.hid hst
  clear h hbd hx hy hdm hsz hst
  go_enter Tryd.func53, Tryd.ntmps53
  go_wp2
  refine still_tail_drew 19 (by kernel_rfl) (by kernel_rfl) ?_
  simp only [List.take_succ_cons, List.take_zero, List.drop_succ_cons, List.drop_zero]
  repeat still_step
  still_call (HS.out _)
  repeat still_step
  refine wpStill_nil ?_
  all_goals go_wp2
  all_goals
    go_returns
    rw [HD.out]
    exact ⟨rfl, ((((Below.refl _ w).alloc (Nat.le_refl _) _).alloc (by simp) _).alloc (by simp; omega) _).drew⟩
end Go.Proofs.YtflagbglbhmheaaDoor
