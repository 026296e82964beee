/- The instructions' words and labels in memory; Name, Arity; a row's parts. -/
import Derived.Test.YtipbilmnknmhmaaDoorGRulD
import Derived.Test.YtipbilmnknmhmaaDoorGShoG
namespace Go.Proofs.YtipbilmnknmhmaaDoor
set_option maxRecDepth 100000
open Go.RowKit Go.Shelf
attribute [local go_sem] Oper.semAt_some

/-- The instructions' words and labels lie in their variable. -/
def Ins (w : World) : Prop := ∀ k : Nat, k < 13 → w.cell? ⟨0, k * 2, none⟩ = some (.string (Tb.word k)) ∧ w.cell? ⟨0, k * 2 + 1, none⟩ = some (.int .i64 (Tb.arity k : Nat))
theorem Ins.lt {w : World} (h : Ins w) : 0 < w.heap.size := World.block_lt_of_cell? w ⟨0, 0, none⟩ (h 0 (by decide)).1
theorem Ins.below {w w' : World} {B : Nat} (h : Ins w) (hb : Below B w w') (hB : 0 < B) : Ins w' := fun k hk => ⟨(hb.cell hB).trans (h k hk).1, (hb.cell hB).trans (h k hk).2⟩
theorem isInstr_any (n : Int) (w : World) : Calls Tryd.prog 68 #[.int .i64 n] w fun e w' => e = .returned (.bool (decide (0 ≤ n ∧ n < 13))) ∧ w = w' := by
  by_cases h0 : 0 ≤ n
  · by_cases h1 : n < 13
    · have hd : decide (0 ≤ n ∧ n < 13) = true := decide_eq_true ⟨h0, h1⟩
      rw [hd]
      go_enter Tryd.func68, Tryd.ntmps68
      go_wp2
      go_ret
      exact ⟨rfl, rfl⟩
    · have hd : decide (0 ≤ n ∧ n < 13) = false := decide_eq_false fun h => h1 h.2
      rw [hd]
      go_enter Tryd.func68, Tryd.ntmps68
      go_wp2
      go_ret
      exact ⟨rfl, rfl⟩
  · have hd : decide (0 ≤ n ∧ n < 13) = false := decide_eq_false fun h => h0 h.1
    rw [hd]
    go_enter Tryd.func68, Tryd.ntmps68
    go_wp2
    go_ret
    exact ⟨rfl, rfl⟩
theorem name_yes (k : Nat) (h : k < 13) (w : World) (hi : Ins w) : Calls Tryd.prog 36 #[.int .i64 k] w (Wrote w (Tb.word k, 0)) := by
  have hc := (hi k h).1
  have h2 := fun W => isInstr_any k W
  rw [decide_eq_true (show (0 : Int) ≤ k ∧ (k : Int) < 13 by omega)] at h2
  have HI := Lib.hid h2
  clear h2 hi
  generalize Tb.word k = s at *
  go_enter Tryd.func36, Tryd.ntmps36
  go_wp2_with (go_at_call 68; refine (HI.out _).mono ?_; rintro e w1 ⟨rfl, rfl⟩)
  go_ret2
  exact ⟨rfl, Below.refl _ _⟩
end Go.Proofs.YtipbilmnknmhmaaDoor

/- Walks of checkLabels, checkRow, Check. -/
namespace Go.Proofs.YtipbilmnknmhmaaDoor
set_option maxRecDepth 100000
open Go.RowKit Go.Shelf
attribute [local go_sem] Oper.semAt_some

namespace Tb
def PR.nth (x : PR) (k : Nat) : List Int := if k = 0 then x.m else if k = 1 then x.r else x.p
end Tb
def Small (x : Tb.PR) : Prop := ∀ k, (x.nth k).length ≤ 1000000
end Go.Proofs.YtipbilmnknmhmaaDoor
