/- The pile of package judge in memory; put. -/
import Derived.Test.YtggcmkpafpjnoaaGJudA
import Derived.Test.YtggcmkpafpjnoaaGShoB
import Derived.Test.YtggcmkpafpjnoaaGFree
namespace Go.Proofs.Ytggcmkpafpjnoaa
set_option maxRecDepth 100000
open Go.RowKit Go.Shelf

theorem Try.infoJTh : (Try.prog.info? 49).map (fun i => (i.zero, i.size, i.bytes)) = some (some .nilIface, 1, 16) := by kernel_rfl
def jvs (q : List Jg.Th) : List Value := q.map jv
theorem jvs_length (q : List Jg.Th) : (jvs q).length = q.length := by simp [jvs]
theorem jvs_snoc (q : List Jg.Th) (x : Jg.Th) : jvs (q ++ [x]) = jvs q ++ [jv x] := by simp [jvs]
theorem jv_iface (x : Jg.Th) : ∃ t y, jv x = .iface t y := by cases x <;> exact ⟨_, _, rfl⟩
theorem jv_one (x : Jg.Th) : (jv x).oneCell' = true := by cases x <;> rfl
/-- The pile at g: a lattice's two rows, the labels' row, and the things. -/
structure PJ (g : Nat) (x0 x1 x2 rv : Value) (q : List Jg.Th) (W : World) : Prop where
  blk : Blk W g 69 #[x0, x1, x2, rv]
  own : W.ownsRow (g + 1) 49 1 rv q.length (jvs q)
section
variable {g : Nat} {x0 x1 x2 rv : Value} {q : List Jg.Th} {W W' : World}
theorem PJ.lt (h : PJ g x0 x1 x2 rv q W) : g < W.heap.size := h.blk.lt
theorem PJ.kept (h : PJ g x0 x1 x2 rv q W) (hb : Below W.heap.size W W') : PJ g x0 x1 x2 rv q W' := ⟨h.blk.below hb h.blk.lt, ownT_below h.own hb⟩
end
theorem blk_grow0 {W W' : World} {o : Obj} {g : Nat} {t : TypeId} {cs : Array Value} {row : Option Nat} (hb : Blk W g t cs) (hne : some g ≠ row) (hgr : (W.alloc o).grownBy W' row) : Blk W' g t cs :=
  (hgr.block g (hb.alloc o).lt hne).trans (hb.alloc o)
def PutJ (g : Nat) (x0 x1 x2 : Value) (q : List Jg.Th) (w : World) (e : Ending) (w' : World) : Prop := (∃ u, e = .returned u) ∧ (∃ rv, PJ g x0 x1 x2 rv q w') ∧ Below g w w'
set_option maxHeartbeats 2000000 in
theorem putJ_any {g : Nat} {x0 x1 x2 rv : Value} {q : List Jg.Th} (x : Jg.Th) (w : World) (h : PJ g x0 x1 x2 rv q w) (hl : q.length ≤ 1000000) :
    Calls Try.prog 44 #[.pointer (some ⟨g, 0, none⟩), jv x] w (PutJ g x0 x1 x2 (q ++ [x]) w) := by
  have hown := h.own
  have hblk := h.blk
  have hR := h.lt
  have c0 : w.cell? ⟨g, 3, none⟩ = some rv := by rw [h.blk.cell]; rfl
  have f0 : w.frozen? ⟨g, 3, none⟩ = false := h.blk.frozen _
  obtain ⟨i0, hi, hz0, hz1, hz2⟩ := info_parts Try.infoJTh
  have hno : some g ≠ rv.ownBlock := fun he => by have := (hown.lt g he.symm).1; omega
  obtain ⟨A1, cap, rfl⟩ := ownT_slice h.own
  have hone := jv_one x
  have hsn := jvs_snoc q x
  obtain ⟨ty, y, hu⟩ := jv_iface x
  rw [hu] at hone hsn
  rw [hu]
  clear h hu
  go_enter Try.func44, Try.ntmps44
  go_wp2_with (at_builtin; refine wpList_append_own _ rfl _ _ 67 rfl (g + 1) 49 i0 .nilIface 1 16 Try.underlying67 hi hz0 hz1 hz2 rfl (by decide) _ _ _ rfl (hown.alloc _) ⟨w.heap.size, 0, none⟩ 1 1 [.iface ty y] rfl rfl (cells_new _ _ _) (by simp [hone]) (by unfold maxLen; omega) (by omega) (by simp; omega) ?_)
  intro v' w' hown' hgrow _
  obtain ⟨g', cap', rfl⟩ := ownsRow_succ hown'
  have hb2 : Blk w' g 69 #[x0, x1, x2, .slice A1 q.length cap] := (hgrow.block g (by simp; omega) hno).trans (hblk.alloc _)
  have hcz : w'.cell? ⟨g, 3, none⟩ = some (.slice A1 q.length cap) := by rw [hb2.cell]; rfl
  have hfz := hb2.frozen 3
  have hbg : Below g w w' := ((Below.refl g w).alloc (Nat.le_of_lt hR) _).grown hgrow (by simp; omega) (fun k he => by have := (hown.lt k he).1; omega)
  have HO := Lib.hid hown'
  have HB2 := Lib.hid hb2
  have HBG := Lib.hid hbg
  have HSN := Lib.hid hsn
  clear hown hown' hgrow hb2 hbg hsn hblk c0 f0
  go_wp2
  go_returns
  refine ⟨⟨_, rfl⟩, ⟨_, HB2.out.set_ 3 _, ?_⟩, HBG.out.setCell (p := ⟨g, 3, none⟩) (Nat.le_refl g) _⟩
  rw [HSN.out, List.length_append]
  exact ownsRow_setCell_below HO.out (by simp) _
end Go.Proofs.Ytggcmkpafpjnoaa
