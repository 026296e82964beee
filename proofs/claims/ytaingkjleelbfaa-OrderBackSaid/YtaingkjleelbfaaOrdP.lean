/- Plain lists of bits by a relation, and edges; over no program. -/
import Derived.Test.YtaingkjleelbfaaLat
import Derived.Test.YtaingkjleelbfaaBase
namespace Go.Proofs.Ytaingkjleelbfaa
open Go.RowKit

namespace Ordr
/-- The bits below k of the labels to which a goes. -/
def rowTo (f : Nat → Nat → Bool) (a : Nat) : Nat → Nat
  | 0 => 0
  | k + 1 => if f a k then rowTo f a k ||| 2 ^ k else rowTo f a k
theorem rowTo_bit (f : Nat → Nat → Bool) (a k b : Nat) : (rowTo f a k).testBit b = (decide (b < k) && f a b) := by
  induction k with
  | zero => simp [rowTo]
  | succ k ih =>
    unfold rowTo
    by_cases hb : b = k
    · subst hb
      cases h : f a b <;> simp [ih]
    · have e : decide (b < k + 1) = decide (b < k) := by rw [decide_eq_decide]; omega
      rw [e]
      split
      · rw [Nat.testBit_or, ih, Nat.testBit_two_pow]
        have : decide (k = b) = false := by rw [decide_eq_false_iff_not]; exact fun h => hb h.symm
        rw [this, Bool.or_false]
      · exact ih
theorem rowTo_lt (f : Nat → Nat → Bool) (a k : Nat) : rowTo f a k < 2 ^ k := by
  refine Nat.lt_pow_two_of_testBit _ fun i hi => ?_
  rw [rowTo_bit]
  have : decide (i < k) = false := by rw [decide_eq_false_iff_not]; omega
  rw [this, Bool.false_and]
theorem rowTo_u32 (f : Nat → Nat → Bool) (a k : Nat) (h : k ≤ 32) : rowTo f a k < 4294967296 :=
  Nat.lt_of_lt_of_le (rowTo_lt f a k) (Nat.pow_le_pow_right (by decide) h)
/-- Rows made up to a, and row a up to b. -/
def upsAt (f : Nat → Nat → Bool) (n a b : Nat) : List Nat := (List.range n).map fun i => if i < a then rowTo f i n else if i = a then rowTo f i b else 0
def ups (f : Nat → Nat → Bool) (n : Nat) : List Nat := (List.range n).map fun i => rowTo f i n
variable {f : Nat → Nat → Bool} {n a b : Nat}
theorem upsAt_length : (upsAt f n a b).length = n := by simp [upsAt]
theorem ups_length : (ups f n).length = n := by simp [ups]
theorem upsAt_start : upsAt f n 0 0 = List.replicate n 0 := by
  refine List.ext_getElem? fun i => ?_
  unfold upsAt
  rw [List.getElem?_map]
  by_cases hi : i < n
  · rw [List.getElem?_range hi, List.getElem?_replicate, if_pos hi]
    cases i <;> simp [rowTo]
  · simp [hi]
theorem upsAt_at (h : a < n) : (upsAt f n a b)[a]? = some (rowTo f a b) := by
  unfold upsAt
  rw [List.getElem?_map, List.getElem?_range h]
  simp
theorem upsAt_end (_h : a < n) : upsAt f n a n = upsAt f n (a + 1) 0 := by
  refine List.ext_getElem? fun i => ?_
  unfold upsAt
  rw [List.getElem?_map, List.getElem?_map]
  by_cases hi : i < n
  · rw [List.getElem?_range hi]
    simp only [Option.map_some, Option.some.injEq]
    by_cases h1 : i < a
    · rw [if_pos h1, if_pos (by omega)]
    · rw [if_neg h1]
      by_cases h2 : i = a
      · rw [if_pos h2, if_pos (by omega)]
      · rw [if_neg h2, if_neg (by omega)]
        split <;> rfl
  · simp [hi]
theorem upsAt_done : upsAt f n n 0 = ups f n := by
  unfold upsAt ups
  refine List.map_congr_left fun i hi => ?_
  rw [if_pos (by simpa using hi)]
theorem upsAt_set (h : a < n) (hf : f a b = true) : (upsAt f n a b).set a (rowTo f a b ||| 2 ^ b) = upsAt f n a (b + 1) := by
  refine List.ext_getElem? fun i => ?_
  rw [List.getElem?_set]
  by_cases hi : a = i
  · subst hi
    rw [if_pos rfl, if_pos (by rw [upsAt_length]; exact h), upsAt_at h]
    rw [show rowTo f a (b + 1) = rowTo f a b ||| 2 ^ b by conv => lhs; unfold rowTo; rw [if_pos hf]]
  · rw [if_neg hi]
    unfold upsAt
    rw [List.getElem?_map, List.getElem?_map]
    by_cases hn : i < n
    · rw [List.getElem?_range hn]
      simp only [Option.map_some, Option.some.injEq]
      split
      · rfl
      · rw [if_neg (fun e => hi e.symm), if_neg (fun e => hi e.symm)]
    · simp [hn]
theorem upsAt_skip (hf : f a b = false) : upsAt f n a (b + 1) = upsAt f n a b := by
  unfold upsAt
  refine List.map_congr_left fun i _ => ?_
  split
  · rfl
  · split
    · rename_i h; subst h; rw [rowTo, if_neg (by simp [hf])]
    · rfl
theorem upsAt_u32 (hn : n ≤ 31) (hb : b ≤ n) : ∀ (k x : Nat), (upsAt f n a b)[k]? = some x → x < 4294967296 := by
  intro k x hx
  unfold upsAt at hx
  rw [List.getElem?_map] at hx
  cases e : (List.range n)[k]? with
  | none => rw [e] at hx; cases hx
  | some i =>
    rw [e] at hx
    simp only [Option.map_some, Option.some.injEq] at hx
    subst hx
    split
    · exact rowTo_u32 _ _ _ (by omega)
    · split
      · exact rowTo_u32 _ _ _ (by omega)
      · decide
theorem ups_u32 (hn : n ≤ 31) : ∀ (k x : Nat), (ups f n)[k]? = some x → x < 4294967296 := by
  intro k x hx
  rw [← upsAt_done] at hx
  exact upsAt_u32 hn (Nat.zero_le _) k x hx
theorem ups_fl (ha : a < n) (b : Nat) : Lat.fl (ups f n) a b = (decide (b < n) && f a b) := by
  unfold Lat.fl ups
  rw [List.getD_eq_getElem?_getD, List.getElem?_map, List.getElem?_range ha]
  exact rowTo_bit f a n b
end Ordr

theorem u32s_set (l : List Nat) (i x : Nat) : (u32s l).toArray.setIfInBounds i (.int .u32 (x : Int)) = (u32s (l.set i x)).toArray := by
  simp [u32s, List.map_set]

/-- Edges, in a slice. -/
def ecells (es : List (Int × Int)) : List Value := es.flatMap fun e => [.int .i64 e.1, .int .i64 e.2]
theorem ecells_length (es : List (Int × Int)) : (ecells es).length = es.length * 2 := by
  induction es with
  | nil => rfl
  | cons e r ih => simp only [ecells, List.flatMap_cons, List.length_append, List.length_cons, List.length_nil] at ih ⊢; omega
theorem ecells_at (es : List (Int × Int)) (k : Nat) (e : Int × Int) (h : es[k]? = some e) : (ecells es)[k * 2]? = some (.int .i64 e.1) ∧ (ecells es)[k * 2 + 1]? = some (.int .i64 e.2) := by
  induction es generalizing k with
  | nil => simp at h
  | cons x r ih =>
    cases k with
    | zero => simp only [List.getElem?_cons_zero, Option.some.injEq] at h; subst h; exact ⟨rfl, rfl⟩
    | succ k =>
      have := ih k (by simpa using h)
      simp only [ecells, List.flatMap_cons] at this ⊢
      rw [List.getElem?_append_right (by simp; omega), List.getElem?_append_right (by simp; omega)]
      simpa [show (k + 1) * 2 - 2 = k * 2 by omega, show (k + 1) * 2 + 1 - 2 = k * 2 + 1 by omega] using this
theorem ecells_snoc (es : List (Int × Int)) (e : Int × Int) : ecells (es ++ [e]) = ecells es ++ [.int .i64 e.1, .int .i64 e.2] := by simp [ecells]
/-- A struct's later cells, as the walk spells their addresses. -/
theorem add_next (a : Addr) (m j : Nat) (hj : 0 < j) : a.add (m + j) = ⟨(a.add m).block, (a.add m).off + j, none⟩ := by
  unfold Addr.add
  rw [if_neg (by omega)]
  by_cases hm : m = 0
  · subst hm; simp
  · simp [hm, Nat.add_assoc]
theorem erow_at {w : World} {B : Nat} {A : Option Addr} {es : List (Int × Int)} {k : Nat} (h : Row w B A (ecells es)) (hk : k < es.length) : ∃ ad e, A = some ad ∧ ad.block < B ∧ es[k]? = some e ∧ w.cell? (ad.add (k * 2)) = some (.int .i64 e.1) ∧ w.cell? ⟨(ad.add (k * 2)).block, (ad.add (k * 2)).off + 1, none⟩ = some (.int .i64 e.2) := by
  obtain ⟨ad, e, hb, hc⟩ := h (by intro e; have := ecells_length es; rw [e] at this; simp at this; omega)
  have := ecells_at es k es[k] (List.getElem?_eq_getElem hk)
  exact ⟨ad, es[k], e, hb, List.getElem?_eq_getElem hk, hc _ _ this.1, by rw [← add_next _ _ _ (by decide)]; exact hc _ _ this.2⟩
end Go.Proofs.Ytaingkjleelbfaa
