/- Take of any draws: the program's and the reference's, side by side. -/
import Derived.Test.YtmgaaejghfgbnaaPicE
import Derived.Test.YtmgaaejghfgbnaaPicT
namespace Go.Proofs.Ytmgaaejghfgbnaa
set_option maxRecDepth 100000
open Go.RowKit Go.Shelf

theorem takes14 {A L : Option Addr} {list log : List Int} (n c m d : Nat) (i b : Int) (w : World) (hA : Row w w.heap.size A (ints list)) (hL : Row w w.heap.size L (ints log)) (hn : list.length = n) (hm : log.length = m) (h1 : 1 ≤ b) (hB : b < 9223372036854775808) (hi : i < 9223372036854775808) :
    (∃ er : Nat, (er = 1 ∨ er = 8) ∧ (∀ W, Below w.heap.size w W → Calls Try.prog 19 #[.agg #[.slice A n c, .int .i64 i, .slice L m d], .int .i64 b] W (TakeNo13 W er)) ∧ (∀ W, Below w.heap.size w W → Calls Try.prog 23 #[.agg #[.slice A n c, .int .i64 i, .slice L m d], .int .i64 b] W (RTakeNo W er))) ∨
    (∃ (j : Nat) (x : Int), 0 ≤ x ∧ x < b ∧ (∀ W, Below w.heap.size w W → Calls Try.prog 19 #[.agg #[.slice A n c, .int .i64 i, .slice L m d], .int .i64 b] W (Take13 W n m list log x j)) ∧ (∀ W, Below w.heap.size w W → Calls Try.prog 23 #[.agg #[.slice A n c, .int .i64 i, .slice L m d], .int .i64 b] W (RTake W A n c m log x j))) := by
  by_cases h : Dr.right n i m = true ∧ m ≠ 2000
  · obtain ⟨hr, hm2⟩ := h
    have hi0 : 0 ≤ i := by
      have h := hr
      unfold Dr.right at h
      have := of_decide_eq_true h
      omega
    obtain ⟨k, rfl⟩ : ∃ k : Nat, i = (k : Int) := ⟨i.toNat, by omega⟩
    obtain ⟨c1, c2⟩ := Dr.choice_low (list := list) (i := k) h1
    exact .inr ⟨_, _, c1, c2, fun W hW => dTake14_yes n c m d k b W ((hA.below hW).more hW.size) ((hL.below hW).more hW.size) hn hm h1 hB (by omega) hr hm2, fun W hW => rTake13_yes n c m d k b W ((hA.below hW).more hW.size) ((hL.below hW).more hW.size) hn hm hr h1 hm2 hB⟩
  · refine .inl ⟨if Dr.right n i m = true then 8 else 1, ?_, fun W hW => dTake14_no n c m d i b W ((hA.below hW).more hW.size) ((hL.below hW).more hW.size) hn hm h1 hB hi h, fun W hW => ?_⟩
    · split
      · exact .inr rfl
      · exact .inl rfl
    · have h2 := rTake13_no (A := A) (L := L) n c m d i b W fun h3 => h ⟨h3.1, h3.2.2⟩
      by_cases e : Dr.right n i m = true
      · rw [if_pos ⟨e, h1⟩] at h2
        rw [if_pos e]
        exact h2
      · rw [if_neg fun h => e h.1] at h2
        rw [if_neg e]
        exact h2
end Go.Proofs.Ytmgaaejghfgbnaa
