/- The ends of a lattice are those that the reference tells. Plain data. -/
import Derived.Test.YtaingkjleelbfaaSame
namespace Go.Proofs.Ytaingkjleelbfaa
open Lat

structure Latt (up : List Nat) : Prop where
  one : 1 ≤ up.length
  few : up.length ≤ 8
  rows : Rows up
  ord : isOrder up = true
  lat : isLattice up = true
theorem latt_of {names : List ByteArray} {up : List Nat} (h : checkN names up = 0) : Latt up := by
  obtain ⟨h1, h2, h3⟩ := checkN_zero h
  have hl := len_of_checkN h
  exact ⟨hl.1, hl.2, rows_of_may h1, h2, h3⟩

section
variable {up : List Nat} (h : Latt up)
include h
theorem Latt.both {a b : Nat} (ha : a < up.length) (hb : b < up.length) : leastB up (joinS up a b) = true ∧ leastB (turned up) (joinS (turned up) a b) = true := by
  have := h.lat
  unfold isLattice at this
  rw [all_pairs] at this
  have := this a b ha hb
  unfold latOk at this
  rw [Bool.and_eq_true] at this
  exact this
theorem Latt.meet {a b : Nat} (ha : a < up.length) (hb : b < up.length) : 0 ≤ rMeet up a b := by
  rw [meet_same ha hb, if_pos (h.both ha hb).2]; omega
theorem Latt.join {a b : Nat} (ha : a < up.length) (hb : b < up.length) : 0 ≤ rJoin up a b := by
  rw [join_same h.rows, if_pos (h.both ha hb).1]; omega
theorem Latt.rMeet_eq {a b : Nat} (ha : a < up.length) (hb : b < up.length) : rMeet up a b = (leastN (turned up) (joinS (turned up) a b) : Int) := by
  rw [meet_same ha hb, if_pos (h.both ha hb).2]
theorem Latt.rJoin_eq {a b : Nat} (ha : a < up.length) (hb : b < up.length) : rJoin up a b = (leastN up (joinS up a b) : Int) := by
  rw [join_same h.rows, if_pos (h.both ha hb).1]
theorem Latt.meet_spec {a b : Nat} (ha : a < up.length) (hb : b < up.length) : ∃ c : Nat, rMeet up a b = c ∧ c < up.length ∧ fl up c a = true ∧ fl up c b = true ∧ ∀ d, d < up.length → fl up d a = true → fl up d b = true → fl up d c = true := by
  obtain ⟨c, hc, hcl, hm⟩ := rMeet_bd (h.meet ha hb)
  unfold mOk at hm
  rw [Bool.and_eq_true, Bool.and_eq_true, all_range] at hm
  refine ⟨c, hc, hcl, hm.1.1, hm.1.2, fun d hd h1 h2 => ?_⟩
  have := hm.2 d hd
  unfold mAll at this
  simpa [h1, h2] using this
theorem Latt.join_spec {a b : Nat} (ha : a < up.length) (hb : b < up.length) : ∃ c : Nat, rJoin up a b = c ∧ c < up.length ∧ fl up a c = true ∧ fl up b c = true ∧ ∀ d, d < up.length → fl up a d = true → fl up b d = true → fl up c d = true := by
  obtain ⟨c, hc, hcl, hm⟩ := rJoin_bd (h.join ha hb)
  unfold jOk at hm
  rw [Bool.and_eq_true, Bool.and_eq_true, all_range] at hm
  refine ⟨c, hc, hcl, hm.1.1, hm.1.2, fun d hd h1 h2 => ?_⟩
  have := hm.2 d hd
  unfold jAll at this
  simpa [h1, h2] using this

theorem Latt.bot_to : ∀ k, k ≤ up.length → rBotTo up k < up.length ∧ ∀ d, d < k → fl up (rBotTo up k) d = true := by
  intro k
  induction k with
  | zero => intro _; exact ⟨by simp only [rBotTo]; have := h.one; omega, fun d hd => absurd hd (Nat.not_lt_zero d)⟩
  | succ k ih =>
    intro hk
    obtain ⟨h1, h2⟩ := ih (by omega)
    obtain ⟨c, hc, hcl, hca, hcb, _⟩ := h.meet_spec h1 (show k < up.length by omega)
    have e : rBotTo up (k + 1) = c := by simp only [rBotTo]; rw [hc]; simp
    rw [e]
    refine ⟨hcl, fun d hd => ?_⟩
    rcases Nat.lt_or_eq_of_le (Nat.le_of_lt_succ hd) with hd | rfl
    · exact ord_trans h.ord hcl h1 hca (h2 d hd)
    · exact hcb
theorem Latt.top_to : ∀ k, k ≤ up.length → rTopTo up k < up.length ∧ ∀ d, d < k → fl up d (rTopTo up k) = true := by
  intro k
  induction k with
  | zero => intro _; exact ⟨by simp only [rTopTo]; have := h.one; omega, fun d hd => absurd hd (Nat.not_lt_zero d)⟩
  | succ k ih =>
    intro hk
    obtain ⟨h1, h2⟩ := ih (by omega)
    obtain ⟨c, hc, hcl, hca, hcb, _⟩ := h.join_spec h1 (show k < up.length by omega)
    have e : rTopTo up (k + 1) = c := by simp only [rTopTo]; rw [hc]; simp
    rw [e]
    refine ⟨hcl, fun d hd => ?_⟩
    rcases Nat.lt_or_eq_of_le (Nat.le_of_lt_succ hd) with hd | rfl
    · exact ord_trans h.ord (by omega) h1 (h2 d hd) hca
    · exact hcb
end

theorem leastF_all {up : List Nat} {k : Nat} (hk : k < up.length) : leastF up (allS up.length) k = true ↔ ∀ d, d < up.length → fl up k d = true := by
  unfold leastF
  rw [all_bits, Bool.and_eq_true]
  constructor
  · rintro ⟨_, hs⟩ d hd
    exact sub_bit hs d (by rw [all_bits]; simpa using hd)
  · intro hd
    refine ⟨by simpa using hk, sub_of_bits fun i hi => ?_⟩
    rw [all_bits] at hi
    exact hd i (by simpa using hi)
theorem leastN_all {up : List Nat} (hanti : ∀ a b, a < up.length → b < up.length → fl up a b = true → fl up b a = true → a = b) {o : Nat} (ho : o < up.length) (hall : ∀ d, d < up.length → fl up o d = true) : leastN up (allS up.length) = o := by
  refine (least_some ho (fun j hj => ?_) ((leastF_all ho).2 hall)).1
  cases e : leastF up (allS up.length) j with
  | false => rfl
  | true =>
    have := (leastF_all (show j < up.length by omega)).1 e
    have := hanti j o (by omega) ho (this o ho) (hall j (by omega))
    omega
theorem Latt.bottom {up : List Nat} (h : Latt up) : leastN up (allS up.length) = rBotTo up up.length := by
  obtain ⟨h1, h2⟩ := h.bot_to _ (Nat.le_refl _)
  exact leastN_all (fun a b ha hb => ord_anti h.ord ha hb) h1 h2
theorem Latt.top {up : List Nat} (h : Latt up) : leastN (turned up) (allS up.length) = rTopTo up up.length := by
  obtain ⟨h1, h2⟩ := h.top_to _ (Nat.le_refl _)
  have := leastN_all (up := turned up) (o := rTopTo up up.length) (fun a b ha hb h1 h2 => by
    rw [turned_length] at ha hb
    rw [turned_bit hb ha] at h1
    rw [turned_bit ha hb] at h2
    exact ord_anti h.ord ha hb h2 h1) (by rw [turned_length]; exact h1) (fun d hd => by
    rw [turned_length] at hd
    rw [turned_bit hd h1]
    exact h2 d hd)
  rw [turned_length] at this
  exact this
end Go.Proofs.Ytaingkjleelbfaa
