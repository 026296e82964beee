/- What edges make, as plain data; over no program. -/
import Derived.Test.YtaingkjleelbfaaOrdP
import Derived.Test.YtaingkjleelbfaaLatOrd
namespace Go.Proofs.Ytaingkjleelbfaa
open Go.RowKit

namespace Ordr
/-- A way along edges. -/
inductive Reach (ps : List (Nat × Nat)) : Nat → Nat → Prop
  | refl (a : Nat) : Reach ps a a
  | step {a b c : Nat} : (a, b) ∈ ps → Reach ps b c → Reach ps a c
theorem Reach.trans {ps : List (Nat × Nat)} {a b c : Nat} (h : Reach ps a b) (k : Reach ps b c) : Reach ps a c := by
  induction h with
  | refl => exact k
  | step he _ ih => exact .step he (ih k)
theorem Reach.one {ps : List (Nat × Nat)} {a b : Nat} (h : (a, b) ∈ ps) : Reach ps a b := .step h (.refl _)
theorem Reach.mono {ps qs : List (Nat × Nat)} (hs : ∀ p ∈ ps, p ∈ qs) {a b : Nat} (h : Reach ps a b) : Reach qs a b := by
  induction h with
  | refl => exact .refl _
  | step he _ ih => exact .step (hs _ he) ih
theorem Reach.lt {ps : List (Nat × Nat)} {n : Nat} (hv : ∀ p ∈ ps, p.1 < n ∧ p.2 < n) {a b : Nat} (h : Reach ps a b) (ha : a < n) : b < n := by
  induction h with
  | refl => exact ha
  | step he _ ih => exact ih (hv _ he).2
/-- Whether there is one. -/
noncomputable def reachF (ps : List (Nat × Nat)) (a b : Nat) : Bool := @decide (Reach ps a b) (Classical.propDecidable _)
theorem reachF_true {ps : List (Nat × Nat)} {a b : Nat} : reachF ps a b = true ↔ Reach ps a b :=
  ⟨fun h => @of_decide_eq_true _ (Classical.propDecidable _) h, fun h => @decide_eq_true _ (Classical.propDecidable _) h⟩
/-- What edges make. -/
noncomputable def madeL (n : Nat) (ps : List (Nat × Nat)) : List Nat := ups (reachF ps) n

/-- Rows on the way to what edges make. -/
structure Part (n : Nat) (ps : List (Nat × Nat)) (up : List Nat) : Prop where
  len : up.length = n
  refl : ∀ a, a < n → Lat.fl up a a = true
  rows : ∀ a, up.getD a 0 < 2 ^ n
  only : ∀ a b, Lat.fl up a b = true → Reach ps a b
variable {n : Nat} {ps : List (Nat × Nat)} {up : List Nat}
theorem fl_out {up : List Nat} {a b : Nat} (h : up.length ≤ a) : Lat.fl up a b = false := by
  unfold Lat.fl
  rw [List.getD_eq_getElem?_getD, List.getElem?_eq_none h]
  simp
theorem start_part : Part n ps (ups (fun a b => decide (a = b)) n) := by
  refine ⟨ups_length, fun a ha => by rw [ups_fl ha]; simp [ha], fun a => ?_, fun a b h => ?_⟩
  · unfold ups
    rw [List.getD_eq_getElem?_getD, List.getElem?_map]
    by_cases h : a < n
    · rw [List.getElem?_range h]; exact rowTo_lt _ _ _
    · rw [List.getElem?_eq_none (by simpa using h)]; exact Nat.pow_pos (by decide)
  · by_cases ha : a < n
    · rw [ups_fl ha] at h
      simp at h
      rw [h.2]
      exact .refl _
    · rw [fl_out (by rw [ups_length]; omega)] at h; cases h
theorem getD_set (l : List Nat) (i x k : Nat) (hi : i < l.length) : (l.set i x).getD k 0 = if k = i then x else l.getD k 0 := by
  rw [List.getD_eq_getElem?_getD, List.getD_eq_getElem?_getD, List.getElem?_set]
  by_cases h : i = k
  · subst h; simp [hi]
  · rw [if_neg h, if_neg (fun e => h e.symm)]
/-- Row a takes up row b. -/
def into (up : List Nat) (p : Nat × Nat) : List Nat := up.set p.1 (up.getD p.1 0 ||| up.getD p.2 0)
theorem into_part (h : Part n ps up) {p : Nat × Nat} (hp : p ∈ ps) (h1 : p.1 < n) : Part n ps (into up p) := by
  have hl : p.1 < up.length := by rw [h.len]; exact h1
  have hfl : ∀ a b, Lat.fl (into up p) a b = if a = p.1 then (Lat.fl up p.1 b || Lat.fl up p.2 b) else Lat.fl up a b := by
    intro a b
    unfold Lat.fl into
    rw [getD_set _ _ _ _ hl]
    split
    · rw [Nat.testBit_or]
    · rfl
  refine ⟨by simp [into, h.len], fun a ha => ?_, fun a => ?_, fun a b hab => ?_⟩
  · rw [hfl]
    split
    · rename_i e; rw [← e, h.refl a ha]; rfl
    · exact h.refl a ha
  · unfold into
    rw [getD_set _ _ _ _ hl]
    split
    · exact Nat.or_lt_two_pow (h.rows _) (h.rows _)
    · exact h.rows a
  · rw [hfl] at hab
    split at hab
    · rename_i e
      subst e
      rw [Bool.or_eq_true] at hab
      rcases hab with hab | hab
      · exact h.only _ _ hab
      · exact .step hp (h.only _ _ hab)
    · exact h.only _ _ hab
/-- How many bits may still be added, about. -/
def room (n : Nat) (up : List Nat) : Nat := (up.map fun x => 2 ^ n - x).sum
theorem sum_set (l : List Nat) (i x : Nat) (f : Nat → Nat) (hi : i < l.length) : ((l.set i x).map f).sum + f (l.getD i 0) = (l.map f).sum + f x := by
  induction l generalizing i with
  | nil => simp at hi
  | cons y r ih =>
    cases i with
    | zero => simp; omega
    | succ i =>
      have := ih i (by simpa using hi)
      simp only [List.set_cons_succ, List.map_cons, List.sum_cons, List.getD_cons_succ]
      omega
theorem into_room (h : Part n ps up) {p : Nat × Nat} (h1 : p.1 < n) (hs : Lat.sub (up.getD p.2 0) (up.getD p.1 0) = false) : room n (into up p) < room n up := by
  have hl : p.1 < up.length := by rw [h.len]; exact h1
  have := sum_set up p.1 (up.getD p.1 0 ||| up.getD p.2 0) (fun x => 2 ^ n - x) hl
  unfold room into
  have h2 : up.getD p.1 0 ≤ up.getD p.1 0 ||| up.getD p.2 0 := Nat.left_le_or
  have h3 : up.getD p.1 0 ≠ up.getD p.1 0 ||| up.getD p.2 0 := by
    intro e
    have : Lat.sub (up.getD p.2 0) (up.getD p.1 0) = true := Lat.sub_of_bits fun i hi => by
      rw [e, Nat.testBit_or, hi, Bool.or_true]
    rw [hs] at this
    cases this
  have h4 : up.getD p.1 0 ||| up.getD p.2 0 < 2 ^ n := Nat.or_lt_two_pow (h.rows _) (h.rows _)
  omega
theorem testBit_of_lt {x n b : Nat} (h : x < 2 ^ n) (hb : n ≤ b) : x.testBit b = false :=
  Nat.testBit_lt_two_pow (Nat.lt_of_lt_of_le h (Nat.pow_le_pow_right (by decide) hb))
/-- Rows of n bits each are known by their bits. -/
theorem rows_ext {n : Nat} {l l' : List Nat} (hl : l.length = n) (hl' : l'.length = n) (h : ∀ a, l.getD a 0 < 2 ^ n) (h' : ∀ a, l'.getD a 0 < 2 ^ n) (hb : ∀ a b, a < n → b < n → Lat.fl l a b = Lat.fl l' a b) : l = l' := by
  refine List.ext_getElem (by omega) fun i h1 h2 => ?_
  have e1 : l[i] = l.getD i 0 := by rw [List.getD_eq_getElem?_getD, List.getElem?_eq_getElem h1]; rfl
  have e2 : l'[i] = l'.getD i 0 := by rw [List.getD_eq_getElem?_getD, List.getElem?_eq_getElem h2]; rfl
  rw [e1, e2]
  refine Nat.eq_of_testBit_eq fun b => ?_
  by_cases hbn : b < n
  · exact hb i b (by omega) hbn
  · rw [testBit_of_lt (h i) (by omega), testBit_of_lt (h' i) (by omega)]
theorem ups_rows (f : Nat → Nat → Bool) (n a : Nat) : (ups f n).getD a 0 < 2 ^ n := by
  unfold ups
  rw [List.getD_eq_getElem?_getD, List.getElem?_map]
  by_cases h : a < n
  · rw [List.getElem?_range h]; exact rowTo_lt _ _ _
  · rw [List.getElem?_eq_none (by simpa using h)]; exact Nat.pow_pos (by decide)
theorem part_done (h : Part n ps up) (hc : ∀ p ∈ ps, Lat.sub (up.getD p.2 0) (up.getD p.1 0) = true) (hv : ∀ p ∈ ps, p.1 < n ∧ p.2 < n) : up = madeL n ps := by
  have hall : ∀ a b, Reach ps a b → a < n → Lat.fl up a b = true := by
    intro a b hr
    induction hr with
    | refl a => exact fun ha => h.refl a ha
    | step he _ ih => exact fun _ => Lat.sub_bit (hc _ he) _ (ih (hv _ he).2)
  refine rows_ext h.len ups_length h.rows (ups_rows _ _) fun a b ha hb => ?_
  unfold madeL
  rw [ups_fl ha, Bool.eq_iff_iff, Bool.and_eq_true, decide_eq_true_eq, reachF_true]
  exact ⟨fun hf => ⟨hb, h.only _ _ hf⟩, fun hr => hall _ _ hr.2 ha⟩
theorem room_le (n : Nat) (up : List Nat) : room n up ≤ up.length * 2 ^ n := by
  unfold room
  induction up with
  | nil => simp
  | cons x r ih => simp only [List.map_cons, List.sum_cons, List.length_cons, Nat.add_mul]; omega
end Ordr
end Go.Proofs.Ytaingkjleelbfaa
