/- Walks of put, takeTwo, ofTwo (by gen_sho.py). -/
import Derived.Test.YtflagbglbhmheaaDoorShoD
namespace Go.Proofs.YtflagbglbhmheaaDoor
set_option maxRecDepth 100000
open Go.RowKit Go.Shelf

theorem cell_new2 (w : World) (o : Obj) (t : TypeId) (xs : List Value) : ∀ j v, xs[j]? = some v → ((w.alloc o).alloc (.cells xs.toArray t)).drew.cell? ((⟨w.heap.size + 1, 0, none⟩ : Addr).add j) = some v := fun j v hv => by
  have := cells_new (w.alloc o) xs t j v hv
  rwa [show (w.alloc o).heap.size = w.heap.size + 1 by simp] at this
theorem blk_grow2 {W W' : World} {o o2 : Obj} {g : Nat} {t : TypeId} {cs : Array Value} {row : Option Nat} (hb : Blk W g t cs) (hne : some g ≠ row) (hgr : (((W.alloc o).alloc o2).drew).grownBy W' row) : Blk W' g t cs :=
  (hgr.block g ((hb.alloc o).alloc o2).lt hne).trans ((hb.alloc o).alloc o2)

def PutC (R : Nat) (vl : Value) (cs ls : List Sh.Th) (t : Sh.Th) (w : World) (e : Ending) (w' : World) : Prop := (∃ u, e = .returned u) ∧ (∃ vc', PP R vc' vl (cs ++ [t]) ls w') ∧ Below R w w'
set_option maxHeartbeats 2000000 in
theorem putC_any {R : Nat} {vc vl : Value} {cs ls : List Sh.Th} (t : Sh.Th) (w : World) (h : PP R vc vl cs ls w) (hl : cs.length ≤ 1000000) : Calls Tryd.prog 27 #[.pointer (some ⟨R, 0, none⟩), thv t] w (PutC R vl cs ls t w) := by
  have hown := h.oc
  have hblk := h.blk
  have hR := h.lt
  have c0 : w.cell? ⟨R, 0, none⟩ = some vc := by rw [h.blk.cell]; rfl
  have f0 : w.frozen? ⟨R, 0, none⟩ = false := h.blk.frozen _
  obtain ⟨i0, hi, hz0, hz1, hz2⟩ := info_parts Tryd.infoThC
  have hno : some R ≠ vc.ownBlock := fun he => by have := (hown.lt R he.symm).1; omega
  have H := Lib.hid h
  obtain ⟨A1, cap, rfl⟩ := ownT_slice h.oc
  obtain ⟨s, b, d⟩ := t
  unfold thv
  dsimp only
  clear h
  go_enter Tryd.func27, Tryd.ntmps27
  go_wp2
  go_region_law (refine step_append_own2 rfl (.tmp 7) (.tmp 9) 41 rfl (R + 1) 73 i0 (.agg #[.string ByteArray.empty, .int .i64 0, .int .i64 0]) 3 32 Tryd.underlying41 hi hz0 hz1 hz2 rfl (by decide) (.slice A1 cs.length cap) cs.length (thcells cs) (by simp [Act.eval]) (by exact (hown.alloc _).alloc _) ⟨w.heap.size + 1, 0, none⟩ 1 1 [.string s, .int .i64 b, .int .i64 d] (by simp [Act.eval]) rfl (by exact cell_new2 _ _ _ _) (by simp [Value.oneCell']) (by unfold maxLen; omega) (by omega) (by simp; omega) ?_; intro v' w' hown' hgrow hob; obtain ⟨g', cap', rfl⟩ := ownsRow_succ hown'; have hb2 := blk_grow2 hblk hno hgrow; have hcz : w'.cell? ⟨R, 0, none⟩ = some (.slice A1 cs.length cap) := (by rw [hb2.cell]; rfl); have hfz := hb2.frozen 0)
  all_goals go_wp2
  all_goals
    go_returns
    have hown2 : w'.ownsRow (R + 1) 73 3 (.slice (some ⟨g', 0, none⟩) (cs.length + 1) cap') (cs ++ [Sh.Th.mk s b d]).length (thcells (cs ++ [Sh.Th.mk s b d])) := by
      rw [thcells_snoc, List.length_append]
      exact hown'
    have hg2 := H.out.growC (((Below.refl _ w).alloc (Nat.le_refl _) _).alloc (by simp) _).drew hgrow hown2 hob
    exact ⟨⟨_, rfl⟩, ⟨_, hg2.1⟩, hg2.2⟩

def PutL (R : Nat) (vc : Value) (cs ls : List Sh.Th) (t : Sh.Th) (w : World) (e : Ending) (w' : World) : Prop := (∃ u, e = .returned u) ∧ (∃ vl', PP R vc vl' cs (ls ++ [t]) w') ∧ Below R w w'
set_option maxHeartbeats 2000000 in
theorem putL_any {R : Nat} {vc vl : Value} {cs ls : List Sh.Th} (t : Sh.Th) (w : World) (h : PP R vc vl cs ls w) (hl : ls.length ≤ 1000000) : Calls Tryd.prog 33 #[.pointer (some ⟨R, 1, none⟩), thv t] w (PutL R vc cs ls t w) := by
  have hown := h.ol
  have hblk := h.blk
  have hR := h.lt
  have c0 : w.cell? ⟨R, 1, none⟩ = some vl := by rw [h.blk.cell]; rfl
  have f0 : w.frozen? ⟨R, 1, none⟩ = false := h.blk.frozen _
  obtain ⟨i0, hi, hz0, hz1, hz2⟩ := info_parts Tryd.infoThL
  have hno : some R ≠ vl.ownBlock := fun he => by have := (hown.lt R he.symm).1; omega
  have H := Lib.hid h
  obtain ⟨A1, cap, rfl⟩ := ownT_slice h.ol
  obtain ⟨s, b, d⟩ := t
  unfold thv
  dsimp only
  clear h
  go_enter Tryd.func33, Tryd.ntmps33
  go_wp2
  go_region_law (refine step_append_own2 rfl (.tmp 7) (.tmp 9) 43 rfl (R + 1) 77 i0 (.agg #[.string ByteArray.empty, .int .i64 0, .int .i64 0]) 3 32 Tryd.underlying43 hi hz0 hz1 hz2 rfl (by decide) (.slice A1 ls.length cap) ls.length (thcells ls) (by simp [Act.eval]) (by exact (hown.alloc _).alloc _) ⟨w.heap.size + 1, 0, none⟩ 1 1 [.string s, .int .i64 b, .int .i64 d] (by simp [Act.eval]) rfl (by exact cell_new2 _ _ _ _) (by simp [Value.oneCell']) (by unfold maxLen; omega) (by omega) (by simp; omega) ?_; intro v' w' hown' hgrow hob; obtain ⟨g', cap', rfl⟩ := ownsRow_succ hown'; have hb2 := blk_grow2 hblk hno hgrow; have hcz : w'.cell? ⟨R, 1, none⟩ = some (.slice A1 ls.length cap) := (by rw [hb2.cell]; rfl); have hfz := hb2.frozen 1)
  all_goals go_wp2
  all_goals
    go_returns
    have hown2 : w'.ownsRow (R + 1) 77 3 (.slice (some ⟨g', 0, none⟩) (ls.length + 1) cap') (ls ++ [Sh.Th.mk s b d]).length (thcells (ls ++ [Sh.Th.mk s b d])) := by
      rw [thcells_snoc, List.length_append]
      exact hown'
    have hg2 := H.out.growL (((Below.refl _ w).alloc (Nat.le_refl _) _).alloc (by simp) _).drew hgrow hown2 hob
    exact ⟨⟨_, rfl⟩, ⟨_, hg2.1⟩, hg2.2⟩
end Go.Proofs.YtflagbglbhmheaaDoor
