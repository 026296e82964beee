/- The variables of the laws of code, out of the condition on what is laid; the wrap that hands on both. -/
import Derived.Test.YtipbilmnknmhmaaGreatDoorRows
import Derived.ProofKit
import Derived.LaidMore
import Derived.OpenShut
import Derived.Stop.Joined
import Derived.Lay
import Derived.Handed
import Derived.Test.YtipbilmnknmhmaaGreatDoorGShoA
import Derived.Test.YtipbilmnknmhmaaGreatDoorGOpen
namespace Go.Proofs.YtipbilmnknmhmaaGreatDoor
set_option maxRecDepth 100000
open Go.ChangeShapes Go.WideShapes Go.ChangeAt Go.RowKit

theorem Tryz.gIns8 : Tryz.prog.globalNamed "reticent/table.instructions" = some 0 := by kernel_rfl
theorem Tryz.tIns8 : (Tryz.prog.globals[0]?).map (·.type) = some 149 := by kernel_rfl
abbrev laid8i : List (String × DataW Unit) := [("reticent/table.instructions", Rows.laid_reticent_table_instructions)]
theorem toList_inj8 {a b : ByteArray} (h : a.data.toList = b.data.toList) : a = b := by
  cases a; cases b
  congr 1
  exact Array.toList_inj.1 h
theorem ins_of_laid8i {W : World} (h : laidMetH Tryz.prog laid8i W) : Ins W := by
  rw [MakeChecks.laidMetH_plain _ _ _ (by kernel_rfl)] at h
  obtain ⟨ps, ⟨g1, t1, cs1, f1, p1, q1, hg1, ht1, hv1, hd1, hn1, hq1⟩, hnd, hall⟩ := h
  obtain rfl := Option.some.inj (Tryz.gIns8.symm.trans hg1)
  obtain rfl := Option.some.inj (Tryz.tIns8.symm.trans ht1)
  obtain ⟨xs, m1, rfl, hx1, hlen, hn3, hel⟩ := DataW.trod_array Tryz.underlying149 hd1
  have c9 : Tryz.prog.cellsOf 148 = 2 := by kernel_rfl
  have key : ∀ (i : Nat) (s : ByteArray) (n : Int), i < 13 → (xs.map (·.1))[i]? = some (.agg [.lit (.string s.data.toList), .lit (.int .i64 n)]) → W.cell? ⟨0, i * 2, none⟩ = some (.string s) ∧ W.cell? ⟨0, i * 2 + 1, none⟩ = some (.int .i64 n) := fun i s n hi hs => by
    have h0 := hel i hi
    rw [List.getElem?_map] at hs
    obtain ⟨x, hx, hxs⟩ := Option.map_eq_some_iff.1 hs
    rw [hx, c9] at h0
    obtain ⟨y0, y1, k, hxy, hcl, h1, h2⟩ := trod_struct2 Tryz.underlying148 h0
    rw [hxy] at hxs
    simp only [DataW.agg.injEq, List.cons.injEq, and_true] at hxs
    obtain ⟨hy0, hy1⟩ := hxs
    obtain ⟨s', e1, e2, _⟩ := DataW.trod_string Tryz.underlying9 h1
    obtain ⟨n', e3, e4, _⟩ := DataW.trod_int Tryz.underlying3 h2
    rw [e2] at hy0
    rw [e4] at hy1
    injection hy0 with hy0
    injection hy0 with hy0
    injection hy1 with hy1
    injection hy1 with _ hy1
    have hss := toList_inj8 hy0
    subst hss hy1
    have ha := World.var?_cell hg1 hv1 (i * 2)
    have hb := World.var?_cell hg1 hv1 (i * 2 + 1)
    rw [ha, hb]
    have c0 : Tryz.prog.cellsOf 9 = 1 := by kernel_rfl
    have c1 : Tryz.prog.cellsOf 3 = 1 := by kernel_rfl
    have e1' : (((cs1.toList.drop (i * 2)).take 2).drop 0).take 1 = [.string s'] := by rw [← e1]; simp only [c0]
    have e3' : (((cs1.toList.drop (i * 2)).take 2).drop 1).take 1 = [.int .i64 n'] := by rw [← e3]; simp only [c1]
    have f1 : ((((cs1.toList.drop (i * 2)).take 2).drop 0).take 1)[0]? = some (.string s') := by rw [e1']; rfl
    have f3 : ((((cs1.toList.drop (i * 2)).take 2).drop 1).take 1)[0]? = some (.int .i64 n') := by rw [e3']; rfl
    rw [List.getElem?_take, if_pos (by decide), List.getElem?_drop, List.getElem?_take, if_pos (by decide), List.getElem?_drop] at f1 f3
    exact ⟨by simpa using f1, by simpa using f3⟩
  have hw := (Prod.mk.inj hx1).1
  injection hw with hw
  rw [← hw] at key
  intro k hk
  rcases (by omega : k = 0 ∨ k = 1 ∨ k = 2 ∨ k = 3 ∨ k = 4 ∨ k = 5 ∨ k = 6 ∨ k = 7 ∨ k = 8 ∨ k = 9 ∨ k = 10 ∨ k = 11 ∨ k = 12) with rfl | rfl | rfl | rfl | rfl | rfl | rfl | rfl | rfl | rfl | rfl | rfl | rfl
  all_goals exact key _ _ _ (by decide) rfl
theorem laid8i_met (os : Os) (args : Array Value) : laidMetH Tryz.prog laid8i ((World.doorLaid Tryz.prog 400 os).forCall (fun _ _ => 0) ⟨#[], args, []⟩).memory :=
  laidMetH_of_parts3 (fuel := 8) (laidMet_of_run' 8 (by kernel_rfl) (by kernel_rfl)) (by kernel_rfl) (by kernel_rfl)
/-- A law's row over variables that are laid: the walk is handed what they hold, and the world's shape. -/
theorem returns_laid8 {H : Type} {enc : TypeId × Value → H} {C : Checked} {os : Os} {f : FuncId} {fn : Func} {s : ChangeSpec} {conds : List PathCond} {apart fresh handsOn again : Bool} {X : World → Array Value → Prop}
    (hX : ∀ (w w' : World) (args : Array Value), w.heap = w'.heap → X w args → X w' args) (own : ownKnob C.prog.godebug = none) (started : os.Started) (noInit : C.prog.inits.idxOf? f = none) (hfn : C.prog.funcs[f]? = some fn)
    (witness : ∃ (w : World) (tape : Tape) (i : Input), w.os = os ∧ (w.forCall tape i).Shaped C.prog ∧ i.vars = [] ∧ Input.okWide C.prog (w.forCall tape i) .any w.heap.size f i ∧
      ((s.pre enc C.prog fn conds apart (w.forCall tape i).memory i.args ∧ X (w.forCall tape i).memory i.args) ∧ sizedMet enc C.prog fn (OpenSpec.ofChange s) apart (w.forCall tape i).memory i.args) ∧ ({} : Assume).holds C.prog (lone (Frame.enter C.prog f i.args .normal) [] (w.forCall tape i)))
    (walk : ∀ (W : World) (base : Nat) (args : Array Value) (ds gs : List (DataW H)) (before : List MemPlace), (∀ (j : Nat) t v, fn.params[j]? = some t → args[j]? = some v → Value.okWide C.prog W .any base t v) →
      DataW.Whole enc C.prog fn.params.toList s.vars apart W args.toList ds gs before → X W args → W.ShapedOpen C.prog →
      Calls C.prog f args W fun e W' => ∃ v, e = .returned v ∧ s.post enc C.prog fn apart fresh handsOn again W args v W') :
    ReturnsInHanded {} C os f .any (fun w args => (s.pre enc C.prog fn conds apart w args ∧ X w args) ∧ sizedMet enc C.prog fn (OpenSpec.ofChange s) apart w args) (s.post enc C.prog fn apart fresh handsOn again) :=
  returnsInHanded_of_calls own started noInit witness fun w tape i _ hsh _ hok hpre _ => by
    obtain ⟨-, -, -, g, hg, -, -, -, -, hval⟩ := hok
    obtain rfl : g = fn := Option.some.inj (hg.symm.trans hfn)
    obtain ⟨⟨⟨ds, gs, before, hw, -⟩, hx⟩, -⟩ := hpre
    refine Calls.mono (walk (w.forCall tape i) w.heap.size i.args ds gs before hval (DataW.Whole.of_heap (by rfl) hw) (hX _ _ _ (by rfl) hx) hsh) ?_
    rintro e W' ⟨v, rfl, hp⟩
    exact ChangeSpec.post_blind hp
end Go.Proofs.YtipbilmnknmhmaaGreatDoor
