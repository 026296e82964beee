/- The walk of Right, and of Uses. -/
import Derived.Test.YtflagbglbhmheaaDoorRulI
namespace Go.Proofs.YtflagbglbhmheaaDoor
set_option maxRecDepth 100000
open Go.RowKit Go.Shelf

theorem irow_at {w : World} {B : Nat} {A : Option Addr} {l : List Int} {k : Nat} (h : Row w B A (ints l)) (hk : k < l.length) : ∃ ad, A = some ad ∧ ad.block < B ∧ w.cell? (ad.add k) = some (.int .i64 l[k]) := by
  obtain ⟨ad, e, hb, hc⟩ := h.at_ (k := k) (by rw [ints_length]; exact hk)
  exact ⟨ad, e, hb, by simpa [ints] using hc⟩
/-- What holds at the head of Right's rounds. -/
structure RightAt (w : World) (rule : List Int) (v : Value) (k : Nat) (q : List Bool) (W : World) : Prop where
  own : Pile w.heap.size W v q
  below : Below w.heap.size w W
  go : Rl.pileOf [] rule = Rl.pileOf q (rule.drop k)
  len : q.length ≤ k
theorem step_len {q r : List Bool} {n : Int} (h : Rl.step q n = some r) : r.length ≤ q.length + 1 := by
  have h2 : ∀ a b, Rl.two q a b = some r → r.length ≤ q.length + 1 := fun a b h => by
    unfold Rl.two at h
    split at h
    · injection h with h; subst h; simp
    · cases h
  unfold Rl.step at h
  repeat' split at h
  all_goals first
    | exact h2 _ _ h
    | (injection h with h; subst h; simp)
    | cases h
theorem pile_on {rule : List Int} {q r : List Bool} {k : Nat} (hk : k < rule.length) (hs : Rl.step q rule[k] = some r) : Rl.pileOf q (rule.drop k) = Rl.pileOf r (rule.drop (k + 1)) := by
  rw [List.drop_eq_getElem_cons hk, Rl.pileOf, hs]
  rfl
theorem pile_stop {rule : List Int} {q : List Bool} {k : Nat} (hk : k < rule.length) (hs : Rl.step q rule[k] = none) : Rl.pileOf q (rule.drop k) = none := by
  rw [List.drop_eq_getElem_cons hk, Rl.pileOf, hs]
  rfl
theorem right_long {rule : List Int} {lab : Bool} (h : 40 < rule.length) : Rl.right rule lab = false := decide_eq_false fun h1 => by omega
theorem right_none {rule : List Int} {lab : Bool} (h : Rl.pileOf [] rule = none) : Rl.right rule lab = false := decide_eq_false fun h1 => by rw [h] at h1; cases h1.2
theorem right_some {rule : List Int} {lab : Bool} {q : List Bool} (hl : rule.length ≤ 40) (h : Rl.pileOf [] rule = some q) : Rl.right rule lab = decide (q = [lab]) := by
  unfold Rl.right
  rw [h]
  by_cases e : q = [lab]
  · subst e
    rw [decide_eq_true ⟨hl, rfl⟩, decide_eq_true rfl]
  · rw [decide_eq_false e, decide_eq_false fun h1 => e (by injection h1.2)]

/-- A bool is answered, and old memory stays. -/
def Tells (w : World) (b : Bool) (e : Ending) (w' : World) : Prop := e = .returned (.bool b) ∧ Below w.heap.size w w'

set_option maxHeartbeats 2000000 in
theorem right_any {A : Option Addr} {rule : List Int} (c : Nat) (lab : Bool) (w : World) (h : Row w w.heap.size A (ints rule)) (hl : rule.length ≤ 1000000) : Calls Tryd.prog 12 #[.slice A rule.length c, .bool lab] w (Tells w (Rl.right rule lab)) := by
  by_cases h40 : 40 < rule.length
  · rw [right_long h40]
    have h41 : (40 : Int) < (rule.length : Int) := by omega
    clear h h40
    go_enter Tryd.func12, Tryd.ntmps12
    go_wp2
    go_ret
    exact ⟨rfl, Below.refl _ _⟩
  · have h41 : ¬ (40 : Int) < (rule.length : Int) := by omega
    have hle : rule.length ≤ 40 := by omega
    have hp41 : ((40 : Int) < (rule.length : Int)) = False := eq_false h41
    have H := Lib.hid h
    clear h h40 h41
    go_enter Tryd.func12, Tryd.ntmps12
    go_wp2
    go_loopw [5, 14] (fun v i wr => ∃ (k : Nat) (q : List Bool), k ≤ rule.length ∧ i = .int .i64 k ∧ Hid (RightAt w rule v k q wr)) (fun _ i _ => rule.length - (intOf i).toNat)
    case atStart => exact ⟨0, [], Nat.zero_le _, rfl, ⟨World.ownsRow_nil _ _ _ _, Below.refl _ _, rfl, Nat.le_refl _⟩⟩
    case round =>
      obtain ⟨k, q, hk, rfl, HK⟩ := hrel
      by_cases hlt : k < rule.length
      · obtain ⟨ad, hA, hb, c0⟩ := irow_at (H.out.below HK.out.below) hlt
        have HA := Lib.hid hA
        rw [hA]
        have hql : q.length ≤ 1000000 := by have := HK.out.len; omega
        have hsz := HK.out.below.size
        cases hs : Rl.step q rule[k] with
        | none =>
          have hd := done_no rule[k] _ HK.out.own hsz hql hs
          have HD := Lib.hid hd
          have HE := Lib.hid (HK.out.go.trans (pile_stop hlt hs))
          clear hd hs hA
          generalize rule[k] = x at *
          go_wp2_with (fail)
          refine HD.out.mono ?_
          rintro e w1 ⟨rfl, hb1⟩
          have HB1 := Lib.hid hb1
          clear hb1
          go_wp2
          go_ret
          exact ⟨retb (right_none HE.out).symm, HK.out.below.trans HB1.out⟩
        | some r =>
          have hd := done_ok rule[k] _ HK.out.own hsz hql hs
          have HD := Lib.hid hd
          have HE := Lib.hid (HK.out.go.trans (pile_on hlt hs))
          have hrl := step_len hs
          clear hd hs hA
          generalize rule[k] = x at *
          go_wp2_with (fail)
          refine HD.out.mono ?_
          rintro e w1 ⟨v1, rfl, ho1, hb1⟩
          have hnx : RightAt w rule v1 (k + 1) r w1 := ⟨ho1, HK.out.below.trans hb1, HE.out, by have := HK.out.len; omega⟩
          have HNX := Lib.hid hnx
          clear hb1 ho1 hnx
          go_wp2
          go_roundw
          case rel => exact ⟨k + 1, r, by omega, by go_num, HNX⟩
          case measure => simp [intOf]; omega
      · obtain rfl : k = rule.length := by omega
        have hgo := HK.out.go
        rw [List.drop_length] at hgo
        have hr : Rl.right rule lab = decide (q = [lab]) := right_some hle hgo
        have HR := Lib.hid hr
        have HB := Lib.hid HK.out.below
        have hown : wr.ownsRow w.heap.size 4 1 _ q.length (bools q) := HK.out.own
        clear hgo hr
        match q, HK, HR, hown with
        | [], HK, HR, hown =>
          obtain ⟨A1, cap, rfl⟩ := ownT_slice hown
          clear hown HK
          go_wp2
          go_ret
          refine ⟨retb ?_, HB.out⟩
          rw [HR.out]
          simp
        | [x], HK, HR, hown =>
          obtain ⟨g, cap, rfl, -⟩ := own_addr hown (by simp)
          have c0 := own_cell hown (j := 0) (u := .bool x) rfl
          clear hown HK
          go_wp2
          go_ret
          refine ⟨retb ?_, HB.out⟩
          rw [HR.out]
          cases x <;> cases lab <;> rfl
        | x :: y :: r, HK, HR, hown =>
          obtain ⟨A1, cap, rfl⟩ := ownT_slice hown
          have hne : (((x :: y :: r).length : Int) == 1) = false := by rw [beq_eq_false_iff_ne]; simp; omega
          generalize (x :: y :: r).length = n at *
          clear hown HK
          go_wp2
          go_ret
          refine ⟨retb ?_, HB.out⟩
          rw [HR.out]
          simp
end Go.Proofs.YtflagbglbhmheaaDoor
