/- Walks of slices.Clone at instructions, atoms and slots, and of package step's must and copied (by gen_stpa.py). -/
import Derived.Laws.IdiomCopy
import Derived.Lib.SlBuf
import Derived.Lib.SliceRun
import Derived.WalkSmall
import Derived.Test.YtlddglhjpiahfaaGCodE
import Derived.Test.YtlddglhjpiahfaaGNotG
namespace Go.Proofs.Ytlddglhjpiahfaa
set_option maxRecDepth 100000
open Go.RowKit Go.Shelf
attribute [local go_sem] Oper.semAt_some

theorem own_emptyK (w : World) (e : TypeId) (sz : Nat) : (w.alloc (.cells #[] e)).ownsRow w.heap.size e sz (.slice (some ⟨w.heap.size, 0, none⟩) 0 0) 0 [] :=
  ⟨by simp, .inr ⟨w.heap.size, 0, #[], rfl, Nat.le_refl _, World.alloc_heap_new w _, Nat.le_refl _, by unfold maxLen; omega, by simp, by simp⟩⟩
theorem fcells_one {α : Type} {f : α → List Value} (hf : ∀ x, ∀ u ∈ f x, u.oneCell' = true) (l : List α) : ∀ u ∈ fcells f l, u.oneCell' = true := by
  intro u hu
  unfold fcells at hu
  obtain ⟨e, _, he⟩ := List.mem_flatMap.1 hu
  exact hf e u he
theorem svs_one (x : St.Slot) : ∀ u ∈ svs x, u.oneCell' = true := by intro u hu; simp [svs] at hu; rcases hu with rfl | rfl | rfl <;> rfl
set_option maxHeartbeats 1000000 in
theorem cloneSl_any {A : Option Addr} (c : Nat) (l : List St.Slot) (w : World) (h : Row w w.heap.size A (fcells svs l)) (hl : l.length ≤ 1000000) :
    Calls Try.prog 44 #[.slice A l.length c] w fun e w' => ∃ v, e = .returned v ∧ w'.ownsRow w.heap.size 53 3 v l.length (fcells svs l) ∧ Below w.heap.size w w' := by
  cases A with
  | none =>
    have hl0 : l = [] := by
      match l, h with
      | [], _ => rfl
      | x :: r, h =>
        obtain ⟨ad, e, _⟩ := h (by simp [fcells, svs])
        cases e
    subst hl0
    have hn0 := fun (W : World) => Lib.run_eql_slice_nil (P := Try.prog) W 30 53 none 0 c 0 0 Try.underlying30
    show Calls Try.prog 44 #[.slice none 0 c] w _
    clear h hl
    go_enter Try.func44, Try.ntmps44
    go_wp2
    go_ret
    exact ⟨_, rfl, World.ownsRow_nil _ _ _ _, Below.refl _ _⟩
  | some ad =>
    have hnil := fun (W : World) => Lib.run_eql_slice_nil (P := Try.prog) W 30 53 (some ad) l.length c 0 0 Try.underlying30
    obtain ⟨i0, hi, hz0, hz1, hz2⟩ := info_parts Try.infoSlot
    have H := Lib.hid h
    clear h
    go_enter Try.func44, Try.ntmps44
    go_wp2_with (at_builtin; refine wpList_append_own _ rfl _ _ 30 rfl w.heap.size 53 i0 (.agg #[.bool false, .int .i64 0, .int .i64 0]) 3 24 Try.underlying30 hi hz0 hz1 hz2 rfl (by decide) (.slice (some ⟨w.heap.size, 0, none⟩) 0 0) 0 [] rfl ?c0 ad l.length c (fcells svs l) rfl ?c1 ?c2 ?c3 ?c4 ?c5 ?c6 ?_)
    case c0 => exact own_emptyK w 53 3
    case c1 => exact fcells_length svs_len l
    case c2 =>
      intro j u hu
      obtain ⟨ad', e, hb, hc⟩ := (Row.below H.out ((Below.refl _ w).alloc (Nat.le_refl _) _)) (by rintro e; rw [e] at hu; simp at hu)
      injection e with e
      subst e
      exact hc j u hu
    case c3 => exact fcells_one svs_one l
    case c4 => unfold maxLen; omega
    case c5 => omega
    case c6 => simp
    intro v' w' hown hg _
    have HO := Lib.hid hown
    have HG := Lib.hid hg
    clear hown hg
    go_wp2
    go_ret
    exact ⟨v', rfl, by simpa using HO.out, ((Below.refl _ w).alloc (Nat.le_refl _) _).grown HG.out (by simp) (fun k he => by cases he; exact Nat.le_refl _)⟩
end Go.Proofs.Ytlddglhjpiahfaa
