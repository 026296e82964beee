/- Choices by weights, and of numbers, plainly (no program). -/
import Derived.Test.YtmgaaejghfgbnaaBase
namespace Go.Proofs.Ytmgaaejghfgbnaa
set_option maxRecDepth 100000
namespace Pk

def sum : List Int → Int
  | [] => 0
  | x :: r => x + sum r
def good (l : List Int) : Bool := l.all fun x => decide (0 ≤ x ∧ x ≤ 100)
def right (l : List Int) : Bool := good l && decide (1 ≤ l.length ∧ l.length ≤ 20 ∧ 0 < sum l)
def scan (n : Int) : Int → List Int → Option Nat
  | _, [] => none
  | acc, x :: r => if n < acc + x then some 0 else (scan n (acc + x) r).map (· + 1)
/-- The place that a choice picks. -/
def picks (l : List Int) (n : Int) : Nat := (scan n 0 l).getD 0
theorem good_of {l : List Int} (h : good l = true) {x : Int} (hx : x ∈ l) : 0 ≤ x ∧ x ≤ 100 := of_decide_eq_true (List.all_eq_true.1 h x hx)
theorem good_take {l : List Int} (h : good l = true) (k : Nat) : good (l.take k) = true := List.all_eq_true.2 fun _ hx => decide_eq_true (good_of h (List.mem_of_mem_take hx))
theorem sum_snoc : ∀ (l : List Int) (x : Int), sum (l ++ [x]) = sum l + x
  | [], x => by simp [sum]
  | y :: l, x => by
    show y + sum (l ++ [x]) = y + sum l + x
    rw [sum_snoc l x, Int.add_assoc]
theorem sum_step {l : List Int} {k : Nat} {x : Int} (h : l[k]? = some x) : sum (l.take (k + 1)) = sum (l.take k) + x := by
  rw [List.take_add_one, h, Option.toList_some, sum_snoc]
theorem sum_low : ∀ {l : List Int}, good l = true → 0 ≤ sum l ∧ sum l ≤ 100 * l.length
  | [], _ => by simp [sum]
  | x :: l, h => by
    have h1 := good_of h (List.mem_cons_self ..)
    have h2 := sum_low (l := l) (List.all_eq_true.2 fun y hy => List.all_eq_true.1 h y (List.mem_cons_of_mem _ hy))
    simp only [sum, List.length_cons]
    omega
theorem sum_rise {l : List Int} (h : good l = true) (j : Nat) : ∀ k, sum (l.take j) ≤ sum (l.take (j + k))
  | 0 => Int.le_refl _
  | k + 1 => by
    refine Int.le_trans (sum_rise h j k) ?_
    by_cases hk : j + k < l.length
    · have hx := List.getElem?_eq_getElem hk
      have := sum_step hx
      have h2 := (good_of h (List.mem_of_getElem? hx)).1
      rw [← Nat.add_assoc]
      omega
    · rw [← Nat.add_assoc, List.take_of_length_le (by omega), List.take_of_length_le (by omega)]
      exact Int.le_refl _
theorem sum_mono {l : List Int} (h : good l = true) {j k : Nat} (hjk : j ≤ k) : sum (l.take j) ≤ sum (l.take k) := by
  have := sum_rise h j (k - j)
  rwa [Nat.add_sub_cancel' hjk] at this
theorem scan_at (n : Int) : ∀ (l : List Int) (acc : Int) (k : Nat), k < l.length → (∀ j, j < k → acc + sum (l.take (j + 1)) ≤ n) → n < acc + sum (l.take (k + 1)) → scan n acc l = some k
  | x :: r, acc, 0, _, _, h => by
    simp [sum] at h
    unfold scan
    rw [if_pos h]
  | x :: r, acc, k + 1, hk, h1, h2 => by
    have h3 := h1 0 (by omega)
    simp [sum] at h3
    unfold scan
    rw [if_neg (by omega), scan_at n r (acc + x) k (by simpa using hk) (fun j hj => by
      have := h1 (j + 1) (by omega)
      simp only [List.take_succ_cons, sum] at this
      omega) (by
      simp only [List.take_succ_cons, sum] at h2
      omega)]
    rfl
theorem scan_none (n : Int) : ∀ (l : List Int) (acc : Int), (∀ j, j < l.length → acc + sum (l.take (j + 1)) ≤ n) → scan n acc l = none
  | [], _, _ => rfl
  | x :: r, acc, h => by
    have h3 := h 0 (by simp)
    simp [sum] at h3
    unfold scan
    rw [if_neg (by omega), scan_none n r (acc + x) fun j hj => by
      have := h (j + 1) (by simpa using hj)
      simp only [List.take_succ_cons, sum] at this
      omega]
    rfl
theorem picks_at {l : List Int} {n : Int} {k : Nat} (hk : k < l.length) (h1 : ∀ j, j < k → sum (l.take (j + 1)) ≤ n) (h2 : n < sum (l.take (k + 1))) : picks l n = k := by
  unfold picks
  rw [scan_at n l 0 k hk (fun j hj => by have := h1 j hj; omega) (by omega)]
  rfl
theorem picks_none {l : List Int} {n : Int} (h : ∀ j, j < l.length → sum (l.take (j + 1)) ≤ n) : picks l n = 0 := by
  unfold picks
  rw [scan_none n l 0 fun j hj => by have := h j hj; omega]
  rfl
theorem first_above {l : List Int} {n : Int} : ∀ (m : Nat), m ≤ l.length → (∀ j, j < m → sum (l.take (j + 1)) ≤ n) ∨ ∃ k, k < m ∧ (∀ j, j < k → sum (l.take (j + 1)) ≤ n) ∧ n < sum (l.take (k + 1))
  | 0, _ => .inl fun j hj => absurd hj (by omega)
  | m + 1, hm => by
    rcases first_above (l := l) (n := n) m (by omega) with h | ⟨k, hk, h1, h2⟩
    · by_cases h2 : n < sum (l.take (m + 1))
      · exact .inr ⟨m, by omega, h, h2⟩
      · refine .inl fun j hj => ?_
        by_cases e : j = m
        · subst e; omega
        · exact h j (by omega)
    · exact .inr ⟨k, by omega, h1, h2⟩
/-- Below the sum, a choice picks what has weight above 0. -/
theorem picks_spec {l : List Int} {n : Int} (hg : good l = true) (h0 : 0 ≤ n) (hn : n < sum l) : picks l n < l.length ∧ sum (l.take (picks l n)) ≤ n ∧ n < sum (l.take (picks l n + 1)) := by
  rcases first_above (l := l) (n := n) l.length (Nat.le_refl _) with h | ⟨k, hk, h1, h2⟩
  · exfalso
    rcases Nat.eq_zero_or_pos l.length with e | e
    · have : l = [] := List.eq_nil_of_length_eq_zero e
      subst this
      simp [sum] at hn
      omega
    · have := h (l.length - 1) (by omega)
      rw [Nat.sub_add_cancel e, List.take_length] at this
      omega
  · have e := picks_at hk h1 h2
    rw [e]
    refine ⟨hk, ?_, h2⟩
    rcases Nat.eq_zero_or_pos k with e0 | e0
    · subst e0; simp [sum]; exact h0
    · have := h1 (k - 1) (by omega)
      rwa [Nat.sub_add_cancel e0] at this
theorem picks_iff {l : List Int} {n : Int} (hg : good l = true) (i : Nat) (hi : i < l.length) (h1 : sum (l.take i) ≤ n) (h2 : n < sum (l.take (i + 1))) : picks l n = i :=
  picks_at hi (fun j hj => Int.le_trans (sum_mono hg (show j + 1 ≤ i by omega)) h1) h2
/-- The least choice that picks something; the error. -/
def least (l : List Int) (i : Int) : Int × Nat :=
  if right l = true then (if 0 ≤ i ∧ i < l.length ∧ 0 < l.getD i.toNat 0 then (sum (l.take i.toNat), 0) else (0, 9)) else (0, 1)
theorem sum_at {l : List Int} {p : Nat} (hp : p < l.length) : sum (l.take (p + 1)) = sum (l.take p) + l.getD p 0 := by
  rw [sum_step (List.getElem?_eq_getElem hp), List.getD_eq_getElem?_getD, List.getElem?_eq_getElem hp]
  rfl
theorem sum_all {l : List Int} (h : good l = true) (k : Nat) : sum (l.take k) ≤ sum l := by
  by_cases hk : k ≤ l.length
  · have := sum_mono h hk
    rwa [List.take_length] at this
  · rw [List.take_of_length_le (by omega)]; exact Int.le_refl _
theorem right_good {l : List Int} (h : right l = true) : good l = true ∧ 1 ≤ l.length ∧ l.length ≤ 20 ∧ 0 < sum l := by
  unfold right at h
  rw [Bool.and_eq_true, decide_eq_true_iff] at h
  exact h
theorem least_found {l : List Int} {i : Int} {k : Nat} (hr : right l = true) (hk : (k : Int) < sum l) (hp : (picks l (k : Int) : Int) = i) (hno : ∀ j : Nat, j < k → (picks l (j : Int) : Int) ≠ i) : least l i = ((k : Int), 0) := by
  obtain ⟨hg, -, -, -⟩ := right_good hr
  obtain ⟨h1, h2, h3⟩ := picks_spec hg (Int.natCast_nonneg k) hk
  generalize picks l (k : Int) = p at *
  have h4 := sum_at h1
  have h5 := (sum_low (good_take hg p)).1
  subst hp
  unfold least
  rw [if_pos hr, if_pos ⟨by omega, by omega, by rw [Int.toNat_natCast]; omega⟩, Int.toNat_natCast]
  by_cases e : sum (l.take p) = (k : Int)
  · rw [e]
  · exact absurd (congrArg Int.ofNat (picks_iff (n := ((sum (l.take p)).toNat : Int)) hg p h1 (by omega) (by omega))) (hno (sum (l.take p)).toNat (by omega))
theorem least_none {l : List Int} {i : Int} (hr : right l = true) (hno : ∀ j : Nat, (j : Int) < sum l → (picks l (j : Int) : Int) ≠ i) : least l i = (0, 9) := by
  obtain ⟨hg, -, -, -⟩ := right_good hr
  unfold least
  rw [if_pos hr]
  by_cases h : 0 ≤ i ∧ i < l.length ∧ 0 < l.getD i.toNat 0
  · exfalso
    obtain ⟨p, rfl⟩ : ∃ p : Nat, i = (p : Int) := ⟨i.toNat, by omega⟩
    rw [Int.toNat_natCast] at h
    have hp : p < l.length := by omega
    have h4 := sum_at hp
    have h5 := (sum_low (good_take hg p)).1
    have h6 := sum_all hg (p + 1)
    exact hno (sum (l.take p)).toNat (by omega) (congrArg Int.ofNat (picks_iff (n := ((sum (l.take p)).toNat : Int)) hg p hp (by omega) (by omega)))
  · rw [if_neg h]

/-! Numbers. -/
/-- The number that a choice makes. -/
def made (n : Nat) : Int := if n % 2 = 1 then ((n / 2 : Nat) : Int) + 1 else -((n / 2 : Nat) : Int)
/-- The choice that makes a number. -/
def back (n : Int) : Nat := if 0 < n then (2 * n - 1).toNat else (-2 * n).toNat
theorem made_back (n : Int) : made (back n) = n := by
  unfold back made
  by_cases h : 0 < n
  · rw [if_pos h, if_pos (by omega)]; omega
  · rw [if_neg h, if_neg (by omega)]; omega
theorem back_made (k : Nat) : back (made k) = k := by
  unfold made back
  by_cases h : k % 2 = 1
  · rw [if_pos h, if_pos (by omega)]; omega
  · rw [if_neg h, if_neg (by omega)]; omega
theorem back_low {n most : Int} : (-most ≤ n ∧ n ≤ most) ↔ (back n : Int) ≤ 2 * most := by
  unfold back
  by_cases h : 0 < n
  · rw [if_pos h]; omega
  · rw [if_neg h]; omega
theorem made_low {k : Nat} {most : Int} (h : (k : Int) ≤ 2 * most) : -most ≤ made k ∧ made k ≤ most := by
  have := back_low (n := made k) (most := most)
  rw [back_made] at this
  exact this.2 h
/-- The choice that makes a number, or the error. -/
def unsigned (most n : Int) : Int × Nat :=
  if 0 ≤ most ∧ most ≤ 20 then (if -most ≤ n ∧ n ≤ most then ((back n : Int), 0) else (0, 9)) else (0, 1)
theorem unsigned_found {most n : Int} {k : Nat} (h0 : 0 ≤ most ∧ most ≤ 20) (hk : (k : Int) ≤ 2 * most) (hm : made k = n) : unsigned most n = ((k : Int), 0) := by
  subst hm
  unfold unsigned
  rw [if_pos h0, if_pos (made_low hk), back_made]
theorem unsigned_none {most n : Int} (h0 : 0 ≤ most ∧ most ≤ 20) (hno : ∀ k : Nat, (k : Int) ≤ 2 * most → made k ≠ n) : unsigned most n = (0, 9) := by
  unfold unsigned
  rw [if_pos h0, if_neg fun h => hno (back n) (back_low.1 h) (made_back n)]
end Pk
end Go.Proofs.Ytmgaaejghfgbnaa
