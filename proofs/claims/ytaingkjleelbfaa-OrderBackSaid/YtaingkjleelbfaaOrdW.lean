/- Walk of the reference's Same of edges. -/
import Derived.Test.YtaingkjleelbfaaOrdV
import Derived.Laws.StructEq
namespace Go.Proofs.Ytaingkjleelbfaa
open Go.RowKit Go.Shelf

set_option maxHeartbeats 1000000 in
theorem rSameE_any {v v' : Value} {xs ys : List (Int × Int)} (w : World) (h : IsEdges w w.heap.size v xs) (h' : IsEdges w w.heap.size v' ys) :
    Calls Try.prog 18 #[v, v'] w fun e w' => e = .returned (.bool (decide (xs = ys))) ∧ ∃ n, w' = w.drewN n := by
  obtain ⟨A, c, rfl, hr, hc, hx⟩ := h
  obtain ⟨A', c', rfl, hr', hc', hy⟩ := h'
  by_cases hl : xs.length = ys.length
  · rw [← hl]
    have HL := Lib.hid hl
    have H := Lib.hid (And.intro hr hr')
    clear hl hr hr'
    go_enter Try.func18, Try.ntmps18
    go_wp2
    go_loopw [13] (fun i wr => ∃ k m : Nat, k ≤ xs.length ∧ i = .int .i64 k ∧ wr = w.drewN m ∧ ∀ j, j < k → xs[j]? = ys[j]?) (fun i _ => xs.length - (intOf i).toNat)
    case atStart => exact ⟨0, 0, Nat.zero_le _, rfl, rfl, fun j h => absurd h (Nat.not_lt_zero j)⟩
    case round =>
      obtain ⟨k, m, hk, rfl, rfl, hsame⟩ := hrel
      have HS := Lib.hid hsame
      clear hsame
      by_cases hlt : k < xs.length
      · obtain ⟨ad, ⟨s1, s2⟩, rfl, _, hs, hc0, hc1⟩ := erow_at H.out.1 hlt
        obtain ⟨ad', ⟨t1, t2⟩, rfl, _, ht, hd0, hd1⟩ := erow_at H.out.2 (show k < ys.length by rw [← HL.out]; exact hlt)
        have HX := Lib.hid (And.intro hs ht)
        clear hs ht
        dsimp only at hc0 hc1 hd0 hd1
        by_cases he : s1 = t1
        · subst he
          by_cases he2 : s2 = t2
          · subst he2
            go_wp2
            go_quiet (fail)
            all_goals go_wp2
            go_roundw
            case rel => exact ⟨k + 1, _, by omega, by go_num, rfl, fun j hj => by
              rcases Nat.lt_or_eq_of_le (Nat.le_of_lt_succ hj) with h | rfl
              · exact HS.out j h
              · rw [HX.out.1, HX.out.2]⟩
            case measure => simp [intOf]; omega
          · have h1 : (s2 == t2) = false := by rw [beq_eq_false_iff_ne]; exact he2
            have HE := Lib.hid he2
            clear he2
            go_wp2
            go_quiet (fail)
            all_goals go_wp2
            go_ret
            exact ⟨ret_bool (by rw [eq_comm, decide_eq_false_iff_not]; rintro rfl; rw [HX.out.1] at HX; have := HX.out.2; simp at this; exact HE.out this), _, World.drewN_drewN ..⟩
        · have h1 : (s1 == t1) = false := by rw [beq_eq_false_iff_ne]; exact he
          have HE := Lib.hid he
          clear he
          go_wp2
          go_quiet (fail)
          all_goals go_wp2
          go_ret
          exact ⟨ret_bool (by rw [eq_comm, decide_eq_false_iff_not]; rintro rfl; rw [HX.out.1] at HX; have := HX.out.2; simp at this; exact HE.out this.1), _, World.drewN_drewN ..⟩
      · obtain rfl : k = xs.length := by omega
        go_wp2
        go_ret
        exact ⟨ret_bool (by rw [eq_comm, decide_eq_true_eq]; exact eq_of_get HL.out HS.out), _, rfl⟩
  · have hl1 : ((xs.length : Int) == (ys.length : Int)) = false := by rw [beq_eq_false_iff_ne]; omega
    have hl2 : ((xs.length : Int) != (ys.length : Int)) = true := by rw [bne_iff_ne]; omega
    have HL := Lib.hid hl
    clear hl
    go_enter Try.func18, Try.ntmps18
    go_wp2
    go_ret
    exact ⟨ret_bool (by rw [eq_comm, decide_eq_false_iff_not]; rintro rfl; exact HL.out rfl), 0, rfl⟩
end Go.Proofs.Ytaingkjleelbfaa
