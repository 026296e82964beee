/- For every lattice, space and choices: the state that is made is in the space, the choices that were made make it again, and without any it is the empty one. No condition. -/
import Derived.ChangeMaps5
import Derived.Test.YtmbgndcahlopdaaGGmI
import Derived.Test.YtmbgndcahlopdaaGOpen
import Derived.Test.YtmbgndcahlopdaaGOpenP
import Derived.Test.YtmbgndcahlopdaaGOpenJ
namespace Go.Proofs.Ytmbgndcahlopdaa
set_option maxRecDepth 100000
open Go.ChangeShapes Go.WideShapes Go.ChangeAt Go.RowKit

set_option maxRecDepth 100000 in
theorem genStays_lifted (os : Os) (started : os.Started) (H : Type) (enc : TypeId × Value → H) :
    ReturnsInHanded {} Try.checked os 4 .any (Rows.genStaysSpec.pre6 enc Try.prog Try.f4 Rows.genStaysRow.domain false) (Rows.genStaysSpec.post enc Try.prog Try.f4 false true false false) := by
  refine returnsInHanded_of_change (C := Try.checked) Try.own started (by kernel_rfl) Try.func4
    (ChangeSpec.witness6 (enc := enc) (C := Try.checked) false ⟨#[], #[.agg #[.slice none 0 0, .slice none 0 0], .agg #[.int .i64 0, .int .i64 0, .int .i64 0, .int .i64 0, .slice none 0 0], .slice none 0 0], []⟩ 8 (by kernel_rfl) (by kernel_rfl) (by kernel_rfl) (by kernel_rfl)) ?_
  intro W base args ds gs before hval0 hW _ _
  have hval : ∀ (j : Nat) t v, Try.f4.params[j]? = some t → args[j]? = some v → Value.okWide Try.prog W .any base t v := hval0
  have hW' := hW
  obtain ⟨p, q, hA0, hV, rfl, _, _⟩ := hW
  have hA : DataW.TrodAll enc Try.prog W 0 (fun _ => true) true Try.f4.params.toList args.toList ds p := hA0
  rw [Try.params4] at hA hval
  have hAk := hA
  obtain ⟨rfl, rfl⟩ := trodVars_none hV
  simp only [List.append_nil] at hW'
  have hlt : ∀ x ∈ p, x.block < W.heap.size := fun x hx => by simpa using hW'.lt x (by simpa using hx)
  obtain ⟨v0, v1, v2, d0, d1, d2, p0, p1, p2, rfl, rfl, rfl, h0, h1, h2⟩ := trodAll_three hA
  clear hA0 hval0
  obtain ⟨A0, B0, names0, up0, c0, e0, rfl, hr0, hu0, hc0, hd0, hm0, hn0, hs0⟩ := lat_open (hval 0 25 v0 rfl rfl) h0
  obtain ⟨A1, c1, q1, rfl, hr1, hc1, hm1⟩ := space_open_arg (hval 1 28 v1 rfl rfl) h1
  obtain ⟨A2, l2, c2, rfl, hr2, hc2, hm2, hw2⟩ := intsw_open_arg (hval 2 26 v2 rfl rfl) h2
  refine (genStays_any c0 e0 c1 c2 q1 W hr0 hu0 hc0 hd0 hm0 hn0 hs0 hr1 hc1 hr2 hc2).mono fun e W' ⟨he, hb⟩ => ?_
  subst he
  refine ⟨_, rfl, _, _, _, [] ++ [], _, [], hW', ?_, trodAll_below hb (by decide +kernel) hAk hlt, rfl, hb.frame _, fun h => by cases h⟩
  exact trodAll_mk1 (shut_bool Try.underlying4 true)

theorem genStays_holds : Rows.GenStaysSaid :=
  OpenClaim.holds_of_wide 4 Try.f4 rfl rfl rfl rfl rfl rfl rfl ⟨rfl, rfl, rfl, rfl, rfl⟩ rfl rfl rfl rfl rfl (by kernel_rfl) Try.func4 (by kernel_rfl)
    (of_decide_eq_true (by kernel_rfl)) (by unfold Func.isWrapper; first | (rw [if_pos (by decide +kernel)]; kernel_rfl) | (rw [if_neg (by decide +kernel)]; exact ⟨rfl, rfl⟩))
    (fun os started H enc _ => genStays_lifted os started H enc)
end Go.Proofs.Ytmbgndcahlopdaa
