/- The variables of the law TableTurns, out of the condition on what is laid. -/
import Derived.Lay
import Derived.Test.YtdgelfjnppjbgaaGreatDoorGTabV
namespace Go.Proofs.YtdgelfjnppjbgaaGreatDoor
set_option maxRecDepth 100000
open Go.ChangeShapes Go.WideShapes Go.ChangeAt Go.RowKit

abbrev laid6t : List (String × DataW Unit) := [("reticent/show.words", Rows.laid_reticent_show_words), ("unicode/utf8.acceptRanges", Rows.laid_unicode_utf8_acceptRanges), ("reticent/table.instructions", Rows.laid_reticent_table_instructions), ("unicode/utf8.first", Rows.laid_unicode_utf8_first)]
theorem laid6_of {W : World} (h : laidMetH Tryz.prog laid6t W) : laidMetH Tryz.prog laid6 W := by
  rw [MakeChecks.laidMetH_plain _ _ _ (by kernel_rfl)] at h ⊢
  obtain ⟨ps, ⟨g0, t0, cs0, f0, p0, q0, hg0, ht0, hv0, hd0, ⟨g1, t1, cs1, f1, p1, q1, hg1, ht1, hv1, hd1, ⟨g2, t2, cs2, f2, p2, q2, hg2, ht2, hv2, hd2, hn2, hq2⟩, hq1⟩, hps⟩, hnd, hall⟩ := h
  have hsub : (MemPlace.row ⟨g0, 0, none⟩ cs0.size ++ p0 ++ (MemPlace.row ⟨g2, 0, none⟩ cs2.size ++ p2 ++ [])).Sublist ps := by
    rw [hps, hq1, hq2]
    exact (List.Sublist.refl _).append (((List.Sublist.refl _).append (List.nil_sublist _)).trans (List.sublist_append_right _ _))
  exact ⟨_, ⟨g0, t0, cs0, f0, p0, _, hg0, ht0, hv0, hd0, ⟨g2, t2, cs2, f2, p2, [], hg2, ht2, hv2, hd2, rfl, rfl⟩, rfl⟩, hnd.sublist hsub, fun b off hm => hall b off (hsub.subset hm)⟩
/-- A heap that is laid out by them meets the condition. -/
theorem turns_met (os : Os) (args : Array Value) : laidMetH Tryz.prog laid6t ((World.laidAll Tryz.prog os laid6t).forCall (fun _ _ => 0) ⟨#[], args, []⟩).memory := by
  rw [MakeChecks.laidMetH_plain _ _ _ (by kernel_rfl)]
  exact laidMet_laidAll _ (by kernel_rfl) (by kernel_rfl)
end Go.Proofs.YtdgelfjnppjbgaaGreatDoor
