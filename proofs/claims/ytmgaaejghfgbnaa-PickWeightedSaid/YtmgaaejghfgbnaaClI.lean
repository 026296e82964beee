/- The walk of slices.Clone at []int. -/
import Derived.Test.YtmgaaejghfgbnaaRulJ
import Derived.Laws.IdiomCopy
import Derived.Lib.SlBuf
import Derived.Lib.SliceRun
namespace Go.Proofs.Ytmgaaejghfgbnaa
set_option maxRecDepth 100000
open Go.RowKit Go.Shelf

theorem own_empty1 (w : World) (e : TypeId) : (w.alloc (.cells #[] e)).ownsRow w.heap.size e 1 (.slice (some ⟨w.heap.size, 0, none⟩) 0 0) 0 [] :=
  ⟨by simp, .inr ⟨w.heap.size, 0, #[], rfl, Nat.le_refl _, World.alloc_heap_new w _, Nat.le_refl _, by unfold maxLen; omega, by simp, by simp⟩⟩
def Cloned (w : World) (l : List Int) (e : Ending) (w' : World) : Prop := ∃ v, e = .returned v ∧ w'.ownsRow w.heap.size 3 1 v l.length (ints l) ∧ Below w.heap.size w w'
set_option maxHeartbeats 1000000 in
theorem cloneI_any (A : Option Addr) (c : Nat) (l : List Int) (w : World) (h : Row w w.heap.size A (ints l)) (hl : l.length ≤ 1000000) :
    Calls Try.prog 31 #[.slice A l.length c] w (Cloned w l) := by
  have hnil := fun (W : World) => Lib.run_eql_slice_nil (P := Try.prog) W 22 3 A l.length c 0 0 Try.underlying22
  cases A with
  | none =>
    have hl0 : l = [] := by
      match l, h with
      | [], _ => rfl
      | x :: r, h =>
        obtain ⟨ad, e, _⟩ := h (by simp [ints])
        cases e
    subst hl0
    have hn0 := fun (W : World) => Lib.run_eql_slice_nil (P := Try.prog) W 22 3 none 0 c 0 0 Try.underlying22
    show Calls Try.prog 31 #[.slice none 0 c] w (Cloned w [])
    clear hnil h hl
    go_enter Try.func31, Try.ntmps31
    go_wp2
    go_ret
    exact ⟨_, rfl, World.ownsRow_nil _ _ _ _, Below.refl _ _⟩
  | some ad =>
    obtain ⟨i0, hi, hz0, hz1, hz2⟩ := info_parts Try.infoInt
    have H := Lib.hid h
    clear h
    go_enter Try.func31, Try.ntmps31
    go_wp2_with (at_builtin; refine wpList_append_own _ rfl _ _ 22 rfl w.heap.size 3 i0 (.int .i64 0) 1 8 Try.underlying22 hi hz0 hz1 hz2 rfl (by decide) (.slice (some ⟨w.heap.size, 0, none⟩) 0 0) 0 [] rfl ?c0 ad l.length c (ints l) rfl ?c1 ?c2 ?c3 ?c4 ?c5 ?c6 ?_)
    case c0 => exact own_empty1 w 3
    case c1 => rw [ints_length, Nat.mul_one]
    case c2 =>
      intro j u hu
      obtain ⟨ad', e, hb, hc⟩ := (Row.below H.out ((Below.refl _ w).alloc (Nat.le_refl _) _)) (by rintro e; rw [e] at hu; simp at hu)
      injection e with e
      subst e
      exact hc j u hu
    case c3 =>
      intro u hu
      obtain ⟨x, _, rfl⟩ := List.mem_map.1 hu
      rfl
    case c4 => unfold maxLen; omega
    case c5 => omega
    case c6 => simp
    intro v' w' hown hg _
    have HO := Lib.hid hown
    have HG := Lib.hid hg
    clear hown hg
    go_wp2
    go_ret
    exact ⟨v', rfl, HO.out, ((Below.refl _ w).alloc (Nat.le_refl _) _).grown HG.out (by simp) (fun k he => by cases he; exact Nat.le_refl _)⟩
end Go.Proofs.Ytmgaaejghfgbnaa
