/- Walks of alone, within, between (by gen_sho.py). -/
import Derived.Handy
import Derived.StillTailTactics
import Derived.Test.YtggcmkpafpjnoaaGreatDoorGShoA
namespace Go.Proofs.YtggcmkpafpjnoaaGreatDoor
set_option maxRecDepth 100000
open Go.RowKit Go.Shelf

set_option maxHeartbeats 4000000 in
theorem btwC_any (x y : Sh.Th) (n : Nat) (h1 : 1 ≤ n) (h2 : n ≤ 13) (hx : Sh.wt x ≤ 1000000) (hy : Sh.wt y ≤ 1000000) (w : World) (h : Wds w) : Calls Tryz.prog 126 #[thv x, .int .i64 n, thv y] w (Gives w (Sh.btw x n y)) := by
  have hc := h.2 n h1 h2
  have h0 := h.lt
  have hsz := Sh.name_size n
  have hbd := fun W => binds_any (n : Int) W
  have HB := Lib.hid hbd
  obtain ⟨s, b, d⟩ := x
  obtain ⟨s2, b2, d2⟩ := y
  unfold Sh.wt at hx hy
  dsimp only at hx hy
  unfold thv Gives Sh.btw
  dsimp only
  generalize Sh.nameOf (n : Int) = t at *
  generalize Sh.binds (n : Int) = bb at *
  have hno : ¬ 9223372036854775807 < 1 + t.size := by omega
  have hno2 : ¬ 9223372036854775807 < 1 + t.size + 1 := by omega
  have hno3 : ¬ 9223372036854775807 < s.size + (1 + t.size + 1) := by omega
  have hno4 : ¬ 9223372036854775807 < s.size + (1 + t.size + 1) + s2.size := by omega
  obtain ⟨dm, hdm⟩ : ∃ m, max d d2 = m := ⟨_, rfl⟩
  have hmax : max (d : Int) (d2 : Int) = (dm : Int) := by omega
  have HD := Lib.hid hdm
  have h14 : (n : Int) < 14 := by omega
  have h01 : 2 < w.heap.size + 1 := by omega
  have h02 : 2 < w.heap.size + 1 + 1 := by omega
  have hst := fun W => (HB.out W).mono (R' := fun e w' => e = .returned (.int .i64 (bb : Nat)) ∧ w' = W) (fun e w' h => ⟨h.1, h.2.symm⟩)
  have HS := Lib.hid hst
  clear h hbd hx hy hdm hsz hst
  go_enter Tryz.func126, Tryz.ntmps126
  go_wp2
  refine still_tail_drew 19 (by kernel_rfl) (by kernel_rfl) ?_
  simp only [List.take_succ_cons, List.take_zero, List.drop_succ_cons, List.drop_zero]
  repeat still_step
  still_call (HS.out _)
  repeat still_step
  refine wpStill_nil ?_
  all_goals go_wp2
  all_goals
    go_returns
    rw [HD.out]
    exact ⟨rfl, ((((Below.refl _ w).alloc (Nat.le_refl _) _).alloc (by simp) _).alloc (by simp; omega) _).drew⟩

set_option maxHeartbeats 4000000 in
theorem btwM_any (x y : Sh.Th) (n : Nat) (h1 : 1 ≤ n) (h2 : n ≤ 13) (hx : Sh.wt x ≤ 1000000) (hy : Sh.wt y ≤ 1000000) (w : World) (h : Wds w) : Calls Tryz.prog 104 #[thv x, .int .i64 n, thv y] w (Gives w (Sh.btw x n y)) := by
  have hc := h.2 n h1 h2
  have h0 := h.lt
  have hsz := Sh.name_size n
  have hbd := fun W => binds_any (n : Int) W
  have HB := Lib.hid hbd
  obtain ⟨s, b, d⟩ := x
  obtain ⟨s2, b2, d2⟩ := y
  unfold Sh.wt at hx hy
  dsimp only at hx hy
  unfold thv Gives Sh.btw
  dsimp only
  generalize Sh.nameOf (n : Int) = t at *
  generalize Sh.binds (n : Int) = bb at *
  have hno : ¬ 9223372036854775807 < 1 + t.size := by omega
  have hno2 : ¬ 9223372036854775807 < 1 + t.size + 1 := by omega
  have hno3 : ¬ 9223372036854775807 < s.size + (1 + t.size + 1) := by omega
  have hno4 : ¬ 9223372036854775807 < s.size + (1 + t.size + 1) + s2.size := by omega
  obtain ⟨dm, hdm⟩ : ∃ m, max d d2 = m := ⟨_, rfl⟩
  have hmax : max (d : Int) (d2 : Int) = (dm : Int) := by omega
  have HD := Lib.hid hdm
  have h14 : (n : Int) < 14 := by omega
  have h01 : 2 < w.heap.size + 1 := by omega
  have h02 : 2 < w.heap.size + 1 + 1 := by omega
  have hst := fun W => (HB.out W).mono (R' := fun e w' => e = .returned (.int .i64 (bb : Nat)) ∧ w' = W) (fun e w' h => ⟨h.1, h.2.symm⟩)
  have HS := Lib.hid hst
  clear h hbd hx hy hdm hsz hst
  go_enter Tryz.func104, Tryz.ntmps104
  go_wp2
  refine still_tail_drew 19 (by kernel_rfl) (by kernel_rfl) ?_
  simp only [List.take_succ_cons, List.take_zero, List.drop_succ_cons, List.drop_zero]
  repeat still_step
  still_call (HS.out _)
  repeat still_step
  refine wpStill_nil ?_
  all_goals go_wp2
  all_goals
    go_returns
    rw [HD.out]
    exact ⟨rfl, ((((Below.refl _ w).alloc (Nat.le_refl _) _).alloc (by simp) _).alloc (by simp; omega) _).drew⟩

set_option maxHeartbeats 4000000 in
theorem btwL_any (x y : Sh.Th) (n : Nat) (h1 : 1 ≤ n) (h2 : n ≤ 13) (hx : Sh.wt x ≤ 1000000) (hy : Sh.wt y ≤ 1000000) (w : World) (h : Wds w) : Calls Tryz.prog 128 #[thv x, .int .i64 n, thv y] w (Gives w (Sh.btw x n y)) := by
  have hc := h.2 n h1 h2
  have h0 := h.lt
  have hsz := Sh.name_size n
  have hbd := fun W => binds_any (n : Int) W
  have HB := Lib.hid hbd
  obtain ⟨s, b, d⟩ := x
  obtain ⟨s2, b2, d2⟩ := y
  unfold Sh.wt at hx hy
  dsimp only at hx hy
  unfold thv Gives Sh.btw
  dsimp only
  generalize Sh.nameOf (n : Int) = t at *
  generalize Sh.binds (n : Int) = bb at *
  have hno : ¬ 9223372036854775807 < 1 + t.size := by omega
  have hno2 : ¬ 9223372036854775807 < 1 + t.size + 1 := by omega
  have hno3 : ¬ 9223372036854775807 < s.size + (1 + t.size + 1) := by omega
  have hno4 : ¬ 9223372036854775807 < s.size + (1 + t.size + 1) + s2.size := by omega
  obtain ⟨dm, hdm⟩ : ∃ m, max d d2 = m := ⟨_, rfl⟩
  have hmax : max (d : Int) (d2 : Int) = (dm : Int) := by omega
  have HD := Lib.hid hdm
  have h14 : (n : Int) < 14 := by omega
  have h01 : 2 < w.heap.size + 1 := by omega
  have h02 : 2 < w.heap.size + 1 + 1 := by omega
  have hst := fun W => (HB.out W).mono (R' := fun e w' => e = .returned (.int .i64 (bb : Nat)) ∧ w' = W) (fun e w' h => ⟨h.1, h.2.symm⟩)
  have HS := Lib.hid hst
  clear h hbd hx hy hdm hsz hst
  go_enter Tryz.func128, Tryz.ntmps128
  go_wp2
  refine still_tail_drew 19 (by kernel_rfl) (by kernel_rfl) ?_
  simp only [List.take_succ_cons, List.take_zero, List.drop_succ_cons, List.drop_zero]
  repeat still_step
  still_call (HS.out _)
  repeat still_step
  refine wpStill_nil ?_
  all_goals go_wp2
  all_goals
    go_returns
    rw [HD.out]
    exact ⟨rfl, ((((Below.refl _ w).alloc (Nat.le_refl _) _).alloc (by simp) _).alloc (by simp; omega) _).drew⟩
end Go.Proofs.YtggcmkpafpjnoaaGreatDoor

/- The two piles in memory. -/
namespace Go.Proofs.YtggcmkpafpjnoaaGreatDoor
set_option maxRecDepth 100000
open Go.RowKit Go.Shelf

theorem own_keep {W w' : World} {base sz k : Nat} {e : TypeId} {v : Value} {xs : List Value} (h : W.ownsRow base e sz v k xs) (hb : ∀ g, v.ownBlock = some g → w'.heap[g]? = W.heap[g]?) : w'.ownsRow base e sz v k xs := by
  refine ⟨h.1, h.2.imp id ?_⟩
  rintro ⟨g, cap, cur, he, hb', hh, r⟩
  exact ⟨g, cap, cur, he, hb', (hb g (by rw [he]; rfl)).trans hh, r⟩
/-- The piles at R: conditions, labels. -/
structure PP (R : Nat) (vc vl : Value) (cs ls : List Sh.Th) (W : World) : Prop where
  blk : Blk W R 133 #[vc, vl]
  oc : W.ownsRow (R + 1) 164 3 vc cs.length (thcells cs)
  ol : W.ownsRow (R + 1) 168 3 vl ls.length (thcells ls)
  apart : ∀ k, vc.ownBlock = some k → vl.ownBlock ≠ some k
section
variable {R : Nat} {vc vl : Value} {cs ls : List Sh.Th} {W w' : World}
theorem PP.lt (h : PP R vc vl cs ls W) : R < W.heap.size := h.blk.lt
theorem PP.kept (h : PP R vc vl cs ls W) (hb : Below W.heap.size W w') : PP R vc vl cs ls w' :=
  ⟨h.blk.below hb h.blk.lt, ownT_below h.oc hb, ownT_below h.ol hb, h.apart⟩
/-- The conditions' row has grown. -/
theorem PP.growC (h : PP R vc vl cs ls W) {W1 : World} {vc' : Value} {cs' : List Sh.Th} (h1 : Below W.heap.size W W1) (hg : W1.grownBy w' vc.ownBlock)
    (ho : w'.ownsRow (R + 1) 164 3 vc' cs'.length (thcells cs')) (hob : vc'.ownBlock = vc.ownBlock ∨ vc'.ownBlock = some W1.heap.size) :
    PP R vc' vl cs' ls (w'.setCell ⟨R, 0, none⟩ vc') ∧ Below R W (w'.setCell ⟨R, 0, none⟩ vc') := by
  have hlt := h.lt
  have hsz := h1.size
  have hR1 : ∀ k, vc.ownBlock = some k → R + 1 ≤ k ∧ k < W.heap.size := fun k hk => h.oc.lt k hk
  have hR2 : ∀ k, vl.ownBlock = some k → R + 1 ≤ k ∧ k < W.heap.size := fun k hk => h.ol.lt k hk
  have hk0 : w'.heap[R]? = W.heap[R]? := (hg.block R (by omega) (fun e => by have := (hR1 R e.symm).1; omega)).trans (h1.block R hlt)
  have hbl : Blk w' R 133 #[vc, vl] := hk0.trans h.blk
  refine ⟨⟨hbl.set_ 0 _, ownsRow_setCell_below ho (by simp) _, ?_, ?_⟩, ?_⟩
  · refine ownsRow_setCell_below (own_keep h.ol fun g hg2 => ?_) (by simp) _
    have := hR2 g hg2
    exact (hg.block g (by omega) (fun e => h.apart g e.symm hg2)).trans (h1.block g this.2)
  · intro k hk hk2
    rcases hob with e | e
    · rw [e] at hk; exact h.apart k hk hk2
    · rw [e] at hk
      injection hk with hk
      have := (hR2 k hk2).2
      omega
  · have hB : Below R W w' := (h1.mono (Nat.le_of_lt hlt)).grown hg (by omega) (fun k hk => by have := (hR1 k hk).1; omega)
    exact hB.setCell (p := ⟨R, 0, none⟩) (Nat.le_refl R) _
/-- The labels' row has grown. -/
theorem PP.growL (h : PP R vc vl cs ls W) {W1 : World} {vl' : Value} {ls' : List Sh.Th} (h1 : Below W.heap.size W W1) (hg : W1.grownBy w' vl.ownBlock)
    (ho : w'.ownsRow (R + 1) 168 3 vl' ls'.length (thcells ls')) (hob : vl'.ownBlock = vl.ownBlock ∨ vl'.ownBlock = some W1.heap.size) :
    PP R vc vl' cs ls' (w'.setCell ⟨R, 1, none⟩ vl') ∧ Below R W (w'.setCell ⟨R, 1, none⟩ vl') := by
  have hlt := h.lt
  have hsz := h1.size
  have hR1 : ∀ k, vl.ownBlock = some k → R + 1 ≤ k ∧ k < W.heap.size := fun k hk => h.ol.lt k hk
  have hR2 : ∀ k, vc.ownBlock = some k → R + 1 ≤ k ∧ k < W.heap.size := fun k hk => h.oc.lt k hk
  have hk0 : w'.heap[R]? = W.heap[R]? := (hg.block R (by omega) (fun e => by have := (hR1 R e.symm).1; omega)).trans (h1.block R hlt)
  have hbl : Blk w' R 133 #[vc, vl] := hk0.trans h.blk
  refine ⟨⟨hbl.set_ 1 _, ?_, ownsRow_setCell_below ho (by simp) _, ?_⟩, ?_⟩
  · refine ownsRow_setCell_below (own_keep h.oc fun g hg2 => ?_) (by simp) _
    have := hR2 g hg2
    exact (hg.block g (by omega) (fun e => h.apart g hg2 e.symm)).trans (h1.block g this.2)
  · intro k hk hk2
    rcases hob with e | e
    · rw [e] at hk2; exact h.apart k hk hk2
    · rw [e] at hk2
      injection hk2 with hk2
      have := (hR2 k hk).2
      omega
  · have hB : Below R W w' := (h1.mono (Nat.le_of_lt hlt)).grown hg (by omega) (fun k hk => by have := (hR1 k hk).1; omega)
    exact hB.setCell (p := ⟨R, 1, none⟩) (Nat.le_refl R) _
end
theorem Tryz.infoThC : (Tryz.prog.info? 164).map (fun i => (i.zero, i.size, i.bytes)) = some (some (.agg #[.string ByteArray.empty, .int .i64 0, .int .i64 0]), 3, 32) := by kernel_rfl
theorem Tryz.infoThL : (Tryz.prog.info? 168).map (fun i => (i.zero, i.size, i.bytes)) = some (some (.agg #[.string ByteArray.empty, .int .i64 0, .int .i64 0]), 3, 32) := by kernel_rfl
end Go.Proofs.YtggcmkpafpjnoaaGreatDoor

/- Walks of put, takeTwo, ofTwo (by gen_sho.py). -/
namespace Go.Proofs.YtggcmkpafpjnoaaGreatDoor
set_option maxRecDepth 100000
open Go.RowKit Go.Shelf

theorem cell_new2 (w : World) (o : Obj) (t : TypeId) (xs : List Value) : ∀ j v, xs[j]? = some v → ((w.alloc o).alloc (.cells xs.toArray t)).drew.cell? ((⟨w.heap.size + 1, 0, none⟩ : Addr).add j) = some v := fun j v hv => by
  have := cells_new (w.alloc o) xs t j v hv
  rwa [show (w.alloc o).heap.size = w.heap.size + 1 by simp] at this
theorem blk_grow2 {W W' : World} {o o2 : Obj} {g : Nat} {t : TypeId} {cs : Array Value} {row : Option Nat} (hb : Blk W g t cs) (hne : some g ≠ row) (hgr : (((W.alloc o).alloc o2).drew).grownBy W' row) : Blk W' g t cs :=
  (hgr.block g ((hb.alloc o).alloc o2).lt hne).trans ((hb.alloc o).alloc o2)

def PutC (R : Nat) (vl : Value) (cs ls : List Sh.Th) (t : Sh.Th) (w : World) (e : Ending) (w' : World) : Prop := (∃ u, e = .returned u) ∧ (∃ vc', PP R vc' vl (cs ++ [t]) ls w') ∧ Below R w w'
set_option maxHeartbeats 2000000 in
theorem putC_any {R : Nat} {vc vl : Value} {cs ls : List Sh.Th} (t : Sh.Th) (w : World) (h : PP R vc vl cs ls w) (hl : cs.length ≤ 1000000) : Calls Tryz.prog 100 #[.pointer (some ⟨R, 0, none⟩), thv t] w (PutC R vl cs ls t w) := by
  have hown := h.oc
  have hblk := h.blk
  have hR := h.lt
  have c0 : w.cell? ⟨R, 0, none⟩ = some vc := by rw [h.blk.cell]; rfl
  have f0 : w.frozen? ⟨R, 0, none⟩ = false := h.blk.frozen _
  obtain ⟨i0, hi, hz0, hz1, hz2⟩ := info_parts Tryz.infoThC
  have hno : some R ≠ vc.ownBlock := fun he => by have := (hown.lt R he.symm).1; omega
  have H := Lib.hid h
  obtain ⟨A1, cap, rfl⟩ := ownT_slice h.oc
  obtain ⟨s, b, d⟩ := t
  unfold thv
  dsimp only
  clear h
  go_enter Tryz.func100, Tryz.ntmps100
  go_wp2
  go_region_law (refine step_append_own2 rfl (.tmp 7) (.tmp 9) 129 rfl (R + 1) 164 i0 (.agg #[.string ByteArray.empty, .int .i64 0, .int .i64 0]) 3 32 Tryz.underlying129 hi hz0 hz1 hz2 rfl (by decide) (.slice A1 cs.length cap) cs.length (thcells cs) (by simp [Act.eval]) (by exact (hown.alloc _).alloc _) ⟨w.heap.size + 1, 0, none⟩ 1 1 [.string s, .int .i64 b, .int .i64 d] (by simp [Act.eval]) rfl (by exact cell_new2 _ _ _ _) (by simp [Value.oneCell']) (by unfold maxLen; omega) (by omega) (by simp; omega) ?_; intro v' w' hown' hgrow hob; obtain ⟨g', cap', rfl⟩ := ownsRow_succ hown'; have hb2 := blk_grow2 hblk hno hgrow; have hcz : w'.cell? ⟨R, 0, none⟩ = some (.slice A1 cs.length cap) := (by rw [hb2.cell]; rfl); have hfz := hb2.frozen 0)
  all_goals go_wp2
  all_goals
    go_returns
    have hown2 : w'.ownsRow (R + 1) 164 3 (.slice (some ⟨g', 0, none⟩) (cs.length + 1) cap') (cs ++ [Sh.Th.mk s b d]).length (thcells (cs ++ [Sh.Th.mk s b d])) := by
      rw [thcells_snoc, List.length_append]
      exact hown'
    have hg2 := H.out.growC (((Below.refl _ w).alloc (Nat.le_refl _) _).alloc (by simp) _).drew hgrow hown2 hob
    exact ⟨⟨_, rfl⟩, ⟨_, hg2.1⟩, hg2.2⟩

def PutL (R : Nat) (vc : Value) (cs ls : List Sh.Th) (t : Sh.Th) (w : World) (e : Ending) (w' : World) : Prop := (∃ u, e = .returned u) ∧ (∃ vl', PP R vc vl' cs (ls ++ [t]) w') ∧ Below R w w'
set_option maxHeartbeats 2000000 in
theorem putL_any {R : Nat} {vc vl : Value} {cs ls : List Sh.Th} (t : Sh.Th) (w : World) (h : PP R vc vl cs ls w) (hl : ls.length ≤ 1000000) : Calls Tryz.prog 106 #[.pointer (some ⟨R, 1, none⟩), thv t] w (PutL R vc cs ls t w) := by
  have hown := h.ol
  have hblk := h.blk
  have hR := h.lt
  have c0 : w.cell? ⟨R, 1, none⟩ = some vl := by rw [h.blk.cell]; rfl
  have f0 : w.frozen? ⟨R, 1, none⟩ = false := h.blk.frozen _
  obtain ⟨i0, hi, hz0, hz1, hz2⟩ := info_parts Tryz.infoThL
  have hno : some R ≠ vl.ownBlock := fun he => by have := (hown.lt R he.symm).1; omega
  have H := Lib.hid h
  obtain ⟨A1, cap, rfl⟩ := ownT_slice h.ol
  obtain ⟨s, b, d⟩ := t
  unfold thv
  dsimp only
  clear h
  go_enter Tryz.func106, Tryz.ntmps106
  go_wp2
  go_region_law (refine step_append_own2 rfl (.tmp 7) (.tmp 9) 131 rfl (R + 1) 168 i0 (.agg #[.string ByteArray.empty, .int .i64 0, .int .i64 0]) 3 32 Tryz.underlying131 hi hz0 hz1 hz2 rfl (by decide) (.slice A1 ls.length cap) ls.length (thcells ls) (by simp [Act.eval]) (by exact (hown.alloc _).alloc _) ⟨w.heap.size + 1, 0, none⟩ 1 1 [.string s, .int .i64 b, .int .i64 d] (by simp [Act.eval]) rfl (by exact cell_new2 _ _ _ _) (by simp [Value.oneCell']) (by unfold maxLen; omega) (by omega) (by simp; omega) ?_; intro v' w' hown' hgrow hob; obtain ⟨g', cap', rfl⟩ := ownsRow_succ hown'; have hb2 := blk_grow2 hblk hno hgrow; have hcz : w'.cell? ⟨R, 1, none⟩ = some (.slice A1 ls.length cap) := (by rw [hb2.cell]; rfl); have hfz := hb2.frozen 1)
  all_goals go_wp2
  all_goals
    go_returns
    have hown2 : w'.ownsRow (R + 1) 168 3 (.slice (some ⟨g', 0, none⟩) (ls.length + 1) cap') (ls ++ [Sh.Th.mk s b d]).length (thcells (ls ++ [Sh.Th.mk s b d])) := by
      rw [thcells_snoc, List.length_append]
      exact hown'
    have hg2 := H.out.growL (((Below.refl _ w).alloc (Nat.le_refl _) _).alloc (by simp) _).drew hgrow hown2 hob
    exact ⟨⟨_, rfl⟩, ⟨_, hg2.1⟩, hg2.2⟩
end Go.Proofs.YtggcmkpafpjnoaaGreatDoor
