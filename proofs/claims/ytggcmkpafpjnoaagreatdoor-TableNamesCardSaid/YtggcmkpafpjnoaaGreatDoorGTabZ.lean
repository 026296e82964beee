/- The walks of the reference's Check and Text. -/
import Derived.Test.YtggcmkpafpjnoaaGreatDoorGTabC
import Derived.Test.YtggcmkpafpjnoaaGreatDoorGTabF
import Derived.Test.YtggcmkpafpjnoaaGreatDoorGShoK
namespace Go.Proofs.YtggcmkpafpjnoaaGreatDoor
set_option maxRecDepth 100000
open Go.RowKit Go.Shelf
attribute [local go_sem] Oper.semAt_some

theorem rowR_eq {op : Nat} (hop : op < 13) (x : Tb.PR) : rowR (Rl.right x.m false) (Rl.right x.r true) (Rl.right x.p true) (noOver op x.m) (noOver op x.r) (noOver op x.p) = Tb.rowE op x := by
  unfold rowR Tb.rowE
  by_cases ho : Tb.okRules x = true
  · have ho2 := ho
    unfold Tb.okRules at ho2
    rw [if_pos ho, if_pos ho2]
    simp only [Bool.and_eq_true] at ho2
    unfold Tb.labE
    rw [over_no hop (made_right ho2.1), over_no hop (made_right ho2.2.1), over_no hop (made_right ho2.2.2)]
    cases noOver op x.m <;> cases noOver op x.r <;> cases noOver op x.p <;> rfl
  · have ho2 := ho
    unfold Tb.okRules at ho2
    rw [if_neg ho, if_neg ho2]
/-- A row that is not too long. -/
def Fits (x : Tb.PR) : Prop := x.m.length ≤ 100000 ∧ x.r.length ≤ 100000 ∧ x.p.length ≤ 100000
theorem rRow_any {a0 a1 a2 : Value} {op : Nat} {x : Tb.PR} (hop : op < 13) (w : World) (h0 : IsInts w w.heap.size a0 x.m) (h1 : IsInts w w.heap.size a1 x.r) (h2 : IsInts w w.heap.size a2 x.p) (hf : Fits x) :
    Calls Tryz.prog 22 #[.int .i64 op, .agg #[a0, a1, a2]] w (TellsI w (Tb.rowE op x)) := by
  obtain ⟨A0, c0, rfl, r0, -⟩ := h0
  obtain ⟨A1, c1, rfl, r1, -⟩ := h1
  obtain ⟨A2, c2, rfl, r2, -⟩ := h2
  rw [← rowR_eq hop x]
  exact rRow_parts w (Lib.hid fun W hb => rRight_any c0 false W ((r0.below hb).more hb.size) hf.1) (Lib.hid fun W hb => rRight_any c1 true W ((r1.below hb).more hb.size) hf.2.1) (Lib.hid fun W hb => rRight_any c2 true W ((r2.below hb).more hb.size) hf.2.2)
    (Lib.hid fun W hb => rhas_any c0 op hop W ((r0.below hb).more hb.size) hf.1) (Lib.hid fun W hb => rhas_any c1 op hop W ((r1.below hb).more hb.size) hf.2.1) (Lib.hid fun W hb => rhas_any c2 op hop W ((r2.below hb).more hb.size) hf.2.2)
def TellsW (w : World) (a n : Nat) (e : Ending) (w' : World) : Prop := e = .returned (.agg #[.int .i64 (a : Int), .int .i64 (n : Int)]) ∧ Below w.heap.size w w'
end Go.Proofs.YtggcmkpafpjnoaaGreatDoor
