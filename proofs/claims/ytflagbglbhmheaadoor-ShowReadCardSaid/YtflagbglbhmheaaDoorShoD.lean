/- The two piles in memory. -/
import Derived.Test.YtflagbglbhmheaaDoorShoB
namespace Go.Proofs.YtflagbglbhmheaaDoor
set_option maxRecDepth 100000
open Go.RowKit Go.Shelf

theorem own_keep {W w' : World} {base sz k : Nat} {e : TypeId} {v : Value} {xs : List Value} (h : W.ownsRow base e sz v k xs) (hb : ∀ g, v.ownBlock = some g → w'.heap[g]? = W.heap[g]?) : w'.ownsRow base e sz v k xs := by
  refine ⟨h.1, h.2.imp id ?_⟩
  rintro ⟨g, cap, cur, he, hb', hh, r⟩
  exact ⟨g, cap, cur, he, hb', (hb g (by rw [he]; rfl)).trans hh, r⟩
/-- The piles at R: conditions, labels. -/
structure PP (R : Nat) (vc vl : Value) (cs ls : List Sh.Th) (W : World) : Prop where
  blk : Blk W R 45 #[vc, vl]
  oc : W.ownsRow (R + 1) 73 3 vc cs.length (thcells cs)
  ol : W.ownsRow (R + 1) 77 3 vl ls.length (thcells ls)
  apart : ∀ k, vc.ownBlock = some k → vl.ownBlock ≠ some k
section
variable {R : Nat} {vc vl : Value} {cs ls : List Sh.Th} {W w' : World}
theorem PP.lt (h : PP R vc vl cs ls W) : R < W.heap.size := h.blk.lt
theorem PP.kept (h : PP R vc vl cs ls W) (hb : Below W.heap.size W w') : PP R vc vl cs ls w' :=
  ⟨h.blk.below hb h.blk.lt, ownT_below h.oc hb, ownT_below h.ol hb, h.apart⟩
/-- The conditions' row has grown. -/
theorem PP.growC (h : PP R vc vl cs ls W) {W1 : World} {vc' : Value} {cs' : List Sh.Th} (h1 : Below W.heap.size W W1) (hg : W1.grownBy w' vc.ownBlock)
    (ho : w'.ownsRow (R + 1) 73 3 vc' cs'.length (thcells cs')) (hob : vc'.ownBlock = vc.ownBlock ∨ vc'.ownBlock = some W1.heap.size) :
    PP R vc' vl cs' ls (w'.setCell ⟨R, 0, none⟩ vc') ∧ Below R W (w'.setCell ⟨R, 0, none⟩ vc') := by
  have hlt := h.lt
  have hsz := h1.size
  have hR1 : ∀ k, vc.ownBlock = some k → R + 1 ≤ k ∧ k < W.heap.size := fun k hk => h.oc.lt k hk
  have hR2 : ∀ k, vl.ownBlock = some k → R + 1 ≤ k ∧ k < W.heap.size := fun k hk => h.ol.lt k hk
  have hk0 : w'.heap[R]? = W.heap[R]? := (hg.block R (by omega) (fun e => by have := (hR1 R e.symm).1; omega)).trans (h1.block R hlt)
  have hbl : Blk w' R 45 #[vc, vl] := hk0.trans h.blk
  refine ⟨⟨hbl.set_ 0 _, ownsRow_setCell_below ho (by simp) _, ?_, ?_⟩, ?_⟩
  · refine ownsRow_setCell_below (own_keep h.ol fun g hg2 => ?_) (by simp) _
    have := hR2 g hg2
    exact (hg.block g (by omega) (fun e => h.apart g e.symm hg2)).trans (h1.block g this.2)
  · intro k hk hk2
    rcases hob with e | e
    · rw [e] at hk; exact h.apart k hk hk2
    · rw [e] at hk
      injection hk with hk
      have := (hR2 k hk2).2
      omega
  · have hB : Below R W w' := (h1.mono (Nat.le_of_lt hlt)).grown hg (by omega) (fun k hk => by have := (hR1 k hk).1; omega)
    exact hB.setCell (p := ⟨R, 0, none⟩) (Nat.le_refl R) _
/-- The labels' row has grown. -/
theorem PP.growL (h : PP R vc vl cs ls W) {W1 : World} {vl' : Value} {ls' : List Sh.Th} (h1 : Below W.heap.size W W1) (hg : W1.grownBy w' vl.ownBlock)
    (ho : w'.ownsRow (R + 1) 77 3 vl' ls'.length (thcells ls')) (hob : vl'.ownBlock = vl.ownBlock ∨ vl'.ownBlock = some W1.heap.size) :
    PP R vc vl' cs ls' (w'.setCell ⟨R, 1, none⟩ vl') ∧ Below R W (w'.setCell ⟨R, 1, none⟩ vl') := by
  have hlt := h.lt
  have hsz := h1.size
  have hR1 : ∀ k, vl.ownBlock = some k → R + 1 ≤ k ∧ k < W.heap.size := fun k hk => h.ol.lt k hk
  have hR2 : ∀ k, vc.ownBlock = some k → R + 1 ≤ k ∧ k < W.heap.size := fun k hk => h.oc.lt k hk
  have hk0 : w'.heap[R]? = W.heap[R]? := (hg.block R (by omega) (fun e => by have := (hR1 R e.symm).1; omega)).trans (h1.block R hlt)
  have hbl : Blk w' R 45 #[vc, vl] := hk0.trans h.blk
  refine ⟨⟨hbl.set_ 1 _, ?_, ownsRow_setCell_below ho (by simp) _, ?_⟩, ?_⟩
  · refine ownsRow_setCell_below (own_keep h.oc fun g hg2 => ?_) (by simp) _
    have := hR2 g hg2
    exact (hg.block g (by omega) (fun e => h.apart g hg2 e.symm)).trans (h1.block g this.2)
  · intro k hk hk2
    rcases hob with e | e
    · rw [e] at hk2; exact h.apart k hk hk2
    · rw [e] at hk2
      injection hk2 with hk2
      have := (hR2 k hk).2
      omega
  · have hB : Below R W w' := (h1.mono (Nat.le_of_lt hlt)).grown hg (by omega) (fun k hk => by have := (hR1 k hk).1; omega)
    exact hB.setCell (p := ⟨R, 1, none⟩) (Nat.le_refl R) _
end
theorem Tryd.infoThC : (Tryd.prog.info? 73).map (fun i => (i.zero, i.size, i.bytes)) = some (some (.agg #[.string ByteArray.empty, .int .i64 0, .int .i64 0]), 3, 32) := by kernel_rfl
theorem Tryd.infoThL : (Tryd.prog.info? 77).map (fun i => (i.zero, i.size, i.bytes)) = some (some (.agg #[.string ByteArray.empty, .int .i64 0, .int .i64 0]), 3, 32) := by kernel_rfl
end Go.Proofs.YtflagbglbhmheaaDoor
