/- The words, out of the condition on the variable that is laid; the world in which it holds. -/
import Derived.Test.YtggcmkpafpjnoaaGreatDoorRows
import Derived.ProofKit
import Derived.LaidMore
import Derived.OpenShut
import Derived.Stop.Joined
import Derived.Lay
import Derived.Test.YtggcmkpafpjnoaaGreatDoorGShoW
namespace Go.Proofs.YtggcmkpafpjnoaaGreatDoor
set_option maxRecDepth 100000
open Go.ChangeShapes Go.WideShapes Go.ChangeAt Go.RowKit

theorem Tryz.gWords : Tryz.prog.globalNamed "reticent/show.words" = some 2 := by kernel_rfl
theorem Tryz.tWords : (Tryz.prog.globals[2]?).map (·.type) = some 183 := by kernel_rfl
abbrev laid5 : List (String × DataW Unit) := [("reticent/show.words", Rows.laid_reticent_show_words)]
theorem toList_inj {a b : ByteArray} (h : a.data.toList = b.data.toList) : a = b := by
  cases a; cases b
  congr 1
  exact Array.toList_inj.1 h
theorem words_of_laid {W : World} (h : laidMetH Tryz.prog laid5 W) : Wds W := by
  rw [MakeChecks.laidMetH_plain _ _ _ (by kernel_rfl)] at h
  obtain ⟨ps, ⟨g0, t0, cs0, f0, p0, q0, hg0, ht0, hv0, hd0, _⟩, _, _⟩ := h
  obtain rfl := Option.some.inj (Tryz.gWords.symm.trans hg0)
  obtain rfl := Option.some.inj (Tryz.tWords.symm.trans ht0)
  obtain ⟨xs, m1, rfl, hx1, hlen, hn3, hel⟩ := DataW.trod_array Tryz.underlying183 hd0
  have c9 : Tryz.prog.cellsOf 9 = 1 := by kernel_rfl
  have key : ∀ (i : Nat) (s : ByteArray), i < 14 → (xs.map (·.1))[i]? = some (.lit (.string s.data.toList)) → W.cell? ⟨2, i, none⟩ = some (.string s) := fun i s hi hs => by
    have h0 := hel i hi
    rw [List.getElem?_map] at hs
    obtain ⟨x, hx, hxs⟩ := Option.map_eq_some_iff.1 hs
    rw [hx, c9] at h0
    obtain ⟨s', e1, e2, _⟩ := DataW.trod_string Tryz.underlying9 h0
    rw [e2] at hxs
    injection hxs with hxs
    injection hxs with hxs
    have hss := toList_inj hxs
    subst hss
    have hc := World.var?_cell hg0 hv0 i
    rw [hc]
    have e3 : (cs0.toList.drop (i * 1)).take 1 = [.string s'] := e1
    have e4 : ((cs0.toList.drop (i * 1)).take 1)[0]? = some (.string s') := by rw [e3]; rfl
    rw [List.getElem?_take, if_pos (by decide), List.getElem?_drop] at e4
    simpa using e4
  have hw := (Prod.mk.inj hx1).1
  injection hw with hw
  rw [← hw] at key
  refine ⟨key 0 ByteArray.empty (by decide) rfl, fun k h1 h2 => ?_⟩
  rcases (by omega : k = 1 ∨ k = 2 ∨ k = 3 ∨ k = 4 ∨ k = 5 ∨ k = 6 ∨ k = 7 ∨ k = 8 ∨ k = 9 ∨ k = 10 ∨ k = 11 ∨ k = 12 ∨ k = 13) with rfl | rfl | rfl | rfl | rfl | rfl | rfl | rfl | rfl | rfl | rfl | rfl | rfl
  all_goals exact key _ _ (by decide) rfl
/-- The door's own heap meets the condition. -/
theorem words_met (os : Os) (args : Array Value) : laidMetH Tryz.prog laid5 ((World.doorLaid Tryz.prog 400 os).forCall (fun _ _ => 0) ⟨#[], args, []⟩).memory :=
  laidMetH_of_parts3 (fuel := 8) (laidMet_of_run' 8 (by kernel_rfl) (by kernel_rfl)) (by kernel_rfl) (by kernel_rfl)
end Go.Proofs.YtggcmkpafpjnoaaGreatDoor
