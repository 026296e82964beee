/- Plain lists of bits by a relation, and edges; over no program. -/
import Derived.Test.YtggcmkpafpjnoaaGLat
import Derived.Test.YtggcmkpafpjnoaaGBase
namespace Go.Proofs.Ytggcmkpafpjnoaa
set_option maxRecDepth 100000
open Go.RowKit

namespace Ordr
/-- The bits below k of the labels to which a goes. -/
def rowTo (f : Nat → Nat → Bool) (a : Nat) : Nat → Nat
  | 0 => 0
  | k + 1 => if f a k then rowTo f a k ||| 2 ^ k else rowTo f a k
theorem rowTo_bit (f : Nat → Nat → Bool) (a k b : Nat) : (rowTo f a k).testBit b = (decide (b < k) && f a b) := by
  induction k with
  | zero => simp [rowTo]
  | succ k ih =>
    unfold rowTo
    by_cases hb : b = k
    · subst hb
      cases h : f a b <;> simp [ih]
    · have e : decide (b < k + 1) = decide (b < k) := by rw [decide_eq_decide]; omega
      rw [e]
      split
      · rw [Nat.testBit_or, ih, Nat.testBit_two_pow]
        have : decide (k = b) = false := by rw [decide_eq_false_iff_not]; exact fun h => hb h.symm
        rw [this, Bool.or_false]
      · exact ih
theorem rowTo_lt (f : Nat → Nat → Bool) (a k : Nat) : rowTo f a k < 2 ^ k := by
  refine Nat.lt_pow_two_of_testBit _ fun i hi => ?_
  rw [rowTo_bit]
  have : decide (i < k) = false := by rw [decide_eq_false_iff_not]; omega
  rw [this, Bool.false_and]
theorem rowTo_u32 (f : Nat → Nat → Bool) (a k : Nat) (h : k ≤ 32) : rowTo f a k < 4294967296 :=
  Nat.lt_of_lt_of_le (rowTo_lt f a k) (Nat.pow_le_pow_right (by decide) h)
/-- Rows made up to a, and row a up to b. -/
def upsAt (f : Nat → Nat → Bool) (n a b : Nat) : List Nat := (List.range n).map fun i => if i < a then rowTo f i n else if i = a then rowTo f i b else 0
def ups (f : Nat → Nat → Bool) (n : Nat) : List Nat := (List.range n).map fun i => rowTo f i n
variable {f : Nat → Nat → Bool} {n a b : Nat}
theorem upsAt_length : (upsAt f n a b).length = n := by simp [upsAt]
theorem ups_length : (ups f n).length = n := by simp [ups]
theorem upsAt_start : upsAt f n 0 0 = List.replicate n 0 := by
  refine List.ext_getElem? fun i => ?_
  unfold upsAt
  rw [List.getElem?_map]
  by_cases hi : i < n
  · rw [List.getElem?_range hi, List.getElem?_replicate, if_pos hi]
    cases i <;> simp [rowTo]
  · simp [hi]
theorem upsAt_at (h : a < n) : (upsAt f n a b)[a]? = some (rowTo f a b) := by
  unfold upsAt
  rw [List.getElem?_map, List.getElem?_range h]
  simp
theorem upsAt_end (_h : a < n) : upsAt f n a n = upsAt f n (a + 1) 0 := by
  refine List.ext_getElem? fun i => ?_
  unfold upsAt
  rw [List.getElem?_map, List.getElem?_map]
  by_cases hi : i < n
  · rw [List.getElem?_range hi]
    simp only [Option.map_some, Option.some.injEq]
    by_cases h1 : i < a
    · rw [if_pos h1, if_pos (by omega)]
    · rw [if_neg h1]
      by_cases h2 : i = a
      · rw [if_pos h2, if_pos (by omega)]
      · rw [if_neg h2, if_neg (by omega)]
        split <;> rfl
  · simp [hi]
theorem upsAt_done : upsAt f n n 0 = ups f n := by
  unfold upsAt ups
  refine List.map_congr_left fun i hi => ?_
  rw [if_pos (by simpa using hi)]
theorem upsAt_set (h : a < n) (hf : f a b = true) : (upsAt f n a b).set a (rowTo f a b ||| 2 ^ b) = upsAt f n a (b + 1) := by
  refine List.ext_getElem? fun i => ?_
  rw [List.getElem?_set]
  by_cases hi : a = i
  · subst hi
    rw [if_pos rfl, if_pos (by rw [upsAt_length]; exact h), upsAt_at h]
    rw [show rowTo f a (b + 1) = rowTo f a b ||| 2 ^ b by conv => lhs; unfold rowTo; rw [if_pos hf]]
  · rw [if_neg hi]
    unfold upsAt
    rw [List.getElem?_map, List.getElem?_map]
    by_cases hn : i < n
    · rw [List.getElem?_range hn]
      simp only [Option.map_some, Option.some.injEq]
      split
      · rfl
      · rw [if_neg (fun e => hi e.symm), if_neg (fun e => hi e.symm)]
    · simp [hn]
theorem upsAt_skip (hf : f a b = false) : upsAt f n a (b + 1) = upsAt f n a b := by
  unfold upsAt
  refine List.map_congr_left fun i _ => ?_
  split
  · rfl
  · split
    · rename_i h; subst h; rw [rowTo, if_neg (by simp [hf])]
    · rfl
theorem upsAt_u32 (hn : n ≤ 31) (hb : b ≤ n) : ∀ (k x : Nat), (upsAt f n a b)[k]? = some x → x < 4294967296 := by
  intro k x hx
  unfold upsAt at hx
  rw [List.getElem?_map] at hx
  cases e : (List.range n)[k]? with
  | none => rw [e] at hx; cases hx
  | some i =>
    rw [e] at hx
    simp only [Option.map_some, Option.some.injEq] at hx
    subst hx
    split
    · exact rowTo_u32 _ _ _ (by omega)
    · split
      · exact rowTo_u32 _ _ _ (by omega)
      · decide
theorem ups_u32 (hn : n ≤ 31) : ∀ (k x : Nat), (ups f n)[k]? = some x → x < 4294967296 := by
  intro k x hx
  rw [← upsAt_done] at hx
  exact upsAt_u32 hn (Nat.zero_le _) k x hx
theorem ups_fl (ha : a < n) (b : Nat) : Lat.fl (ups f n) a b = (decide (b < n) && f a b) := by
  unfold Lat.fl ups
  rw [List.getD_eq_getElem?_getD, List.getElem?_map, List.getElem?_range ha]
  exact rowTo_bit f a n b
end Ordr

theorem u32s_set (l : List Nat) (i x : Nat) : (u32s l).toArray.setIfInBounds i (.int .u32 (x : Int)) = (u32s (l.set i x)).toArray := by
  simp [u32s, List.map_set]

/-- Edges, in a slice. -/
def ecells (es : List (Int × Int)) : List Value := es.flatMap fun e => [.int .i64 e.1, .int .i64 e.2]
theorem ecells_length (es : List (Int × Int)) : (ecells es).length = es.length * 2 := by
  induction es with
  | nil => rfl
  | cons e r ih => simp only [ecells, List.flatMap_cons, List.length_append, List.length_cons, List.length_nil] at ih ⊢; omega
theorem ecells_at (es : List (Int × Int)) (k : Nat) (e : Int × Int) (h : es[k]? = some e) : (ecells es)[k * 2]? = some (.int .i64 e.1) ∧ (ecells es)[k * 2 + 1]? = some (.int .i64 e.2) := by
  induction es generalizing k with
  | nil => simp at h
  | cons x r ih =>
    cases k with
    | zero => simp only [List.getElem?_cons_zero, Option.some.injEq] at h; subst h; exact ⟨rfl, rfl⟩
    | succ k =>
      have := ih k (by simpa using h)
      simp only [ecells, List.flatMap_cons] at this ⊢
      rw [List.getElem?_append_right (by simp; omega), List.getElem?_append_right (by simp; omega)]
      simpa [show (k + 1) * 2 - 2 = k * 2 by omega, show (k + 1) * 2 + 1 - 2 = k * 2 + 1 by omega] using this
theorem ecells_snoc (es : List (Int × Int)) (e : Int × Int) : ecells (es ++ [e]) = ecells es ++ [.int .i64 e.1, .int .i64 e.2] := by simp [ecells]
/-- A struct's later cells, as the walk spells their addresses. -/
theorem add_next (a : Addr) (m j : Nat) (hj : 0 < j) : a.add (m + j) = ⟨(a.add m).block, (a.add m).off + j, none⟩ := by
  unfold Addr.add
  rw [if_neg (by omega)]
  by_cases hm : m = 0
  · subst hm; simp
  · simp [hm, Nat.add_assoc]
theorem erow_at {w : World} {B : Nat} {A : Option Addr} {es : List (Int × Int)} {k : Nat} (h : Row w B A (ecells es)) (hk : k < es.length) : ∃ ad e, A = some ad ∧ ad.block < B ∧ es[k]? = some e ∧ w.cell? (ad.add (k * 2)) = some (.int .i64 e.1) ∧ w.cell? ⟨(ad.add (k * 2)).block, (ad.add (k * 2)).off + 1, none⟩ = some (.int .i64 e.2) := by
  obtain ⟨ad, e, hb, hc⟩ := h (by intro e; have := ecells_length es; rw [e] at this; simp at this; omega)
  have := ecells_at es k es[k] (List.getElem?_eq_getElem hk)
  exact ⟨ad, es[k], e, hb, List.getElem?_eq_getElem hk, hc _ _ this.1, by rw [← add_next _ _ _ (by decide)]; exact hc _ _ this.2⟩
end Go.Proofs.Ytggcmkpafpjnoaa

/- What edges make, as plain data; over no program. -/
namespace Go.Proofs.Ytggcmkpafpjnoaa
set_option maxRecDepth 100000
open Go.RowKit

namespace Ordr
/-- A way along edges. -/
inductive Reach (ps : List (Nat × Nat)) : Nat → Nat → Prop
  | refl (a : Nat) : Reach ps a a
  | step {a b c : Nat} : (a, b) ∈ ps → Reach ps b c → Reach ps a c
theorem Reach.trans {ps : List (Nat × Nat)} {a b c : Nat} (h : Reach ps a b) (k : Reach ps b c) : Reach ps a c := by
  induction h with
  | refl => exact k
  | step he _ ih => exact .step he (ih k)
theorem Reach.one {ps : List (Nat × Nat)} {a b : Nat} (h : (a, b) ∈ ps) : Reach ps a b := .step h (.refl _)
theorem Reach.mono {ps qs : List (Nat × Nat)} (hs : ∀ p ∈ ps, p ∈ qs) {a b : Nat} (h : Reach ps a b) : Reach qs a b := by
  induction h with
  | refl => exact .refl _
  | step he _ ih => exact .step (hs _ he) ih
theorem Reach.lt {ps : List (Nat × Nat)} {n : Nat} (hv : ∀ p ∈ ps, p.1 < n ∧ p.2 < n) {a b : Nat} (h : Reach ps a b) (ha : a < n) : b < n := by
  induction h with
  | refl => exact ha
  | step he _ ih => exact ih (hv _ he).2
/-- Whether there is one. -/
noncomputable def reachF (ps : List (Nat × Nat)) (a b : Nat) : Bool := @decide (Reach ps a b) (Classical.propDecidable _)
theorem reachF_true {ps : List (Nat × Nat)} {a b : Nat} : reachF ps a b = true ↔ Reach ps a b :=
  ⟨fun h => @of_decide_eq_true _ (Classical.propDecidable _) h, fun h => @decide_eq_true _ (Classical.propDecidable _) h⟩
/-- What edges make. -/
noncomputable def madeL (n : Nat) (ps : List (Nat × Nat)) : List Nat := ups (reachF ps) n

/-- Rows on the way to what edges make. -/
structure Part (n : Nat) (ps : List (Nat × Nat)) (up : List Nat) : Prop where
  len : up.length = n
  refl : ∀ a, a < n → Lat.fl up a a = true
  rows : ∀ a, up.getD a 0 < 2 ^ n
  only : ∀ a b, Lat.fl up a b = true → Reach ps a b
variable {n : Nat} {ps : List (Nat × Nat)} {up : List Nat}
theorem fl_out {up : List Nat} {a b : Nat} (h : up.length ≤ a) : Lat.fl up a b = false := by
  unfold Lat.fl
  rw [List.getD_eq_getElem?_getD, List.getElem?_eq_none h]
  simp
theorem start_part : Part n ps (ups (fun a b => decide (a = b)) n) := by
  refine ⟨ups_length, fun a ha => by rw [ups_fl ha]; simp [ha], fun a => ?_, fun a b h => ?_⟩
  · unfold ups
    rw [List.getD_eq_getElem?_getD, List.getElem?_map]
    by_cases h : a < n
    · rw [List.getElem?_range h]; exact rowTo_lt _ _ _
    · rw [List.getElem?_eq_none (by simpa using h)]; exact Nat.pow_pos (by decide)
  · by_cases ha : a < n
    · rw [ups_fl ha] at h
      simp at h
      rw [h.2]
      exact .refl _
    · rw [fl_out (by rw [ups_length]; omega)] at h; cases h
theorem getD_set (l : List Nat) (i x k : Nat) (hi : i < l.length) : (l.set i x).getD k 0 = if k = i then x else l.getD k 0 := by
  rw [List.getD_eq_getElem?_getD, List.getD_eq_getElem?_getD, List.getElem?_set]
  by_cases h : i = k
  · subst h; simp [hi]
  · rw [if_neg h, if_neg (fun e => h e.symm)]
/-- Row a takes up row b. -/
def into (up : List Nat) (p : Nat × Nat) : List Nat := up.set p.1 (up.getD p.1 0 ||| up.getD p.2 0)
theorem into_part (h : Part n ps up) {p : Nat × Nat} (hp : p ∈ ps) (h1 : p.1 < n) : Part n ps (into up p) := by
  have hl : p.1 < up.length := by rw [h.len]; exact h1
  have hfl : ∀ a b, Lat.fl (into up p) a b = if a = p.1 then (Lat.fl up p.1 b || Lat.fl up p.2 b) else Lat.fl up a b := by
    intro a b
    unfold Lat.fl into
    rw [getD_set _ _ _ _ hl]
    split
    · rw [Nat.testBit_or]
    · rfl
  refine ⟨by simp [into, h.len], fun a ha => ?_, fun a => ?_, fun a b hab => ?_⟩
  · rw [hfl]
    split
    · rename_i e; rw [← e, h.refl a ha]; rfl
    · exact h.refl a ha
  · unfold into
    rw [getD_set _ _ _ _ hl]
    split
    · exact Nat.or_lt_two_pow (h.rows _) (h.rows _)
    · exact h.rows a
  · rw [hfl] at hab
    split at hab
    · rename_i e
      subst e
      rw [Bool.or_eq_true] at hab
      rcases hab with hab | hab
      · exact h.only _ _ hab
      · exact .step hp (h.only _ _ hab)
    · exact h.only _ _ hab
/-- How many bits may still be added, about. -/
def room (n : Nat) (up : List Nat) : Nat := (up.map fun x => 2 ^ n - x).sum
theorem sum_set (l : List Nat) (i x : Nat) (f : Nat → Nat) (hi : i < l.length) : ((l.set i x).map f).sum + f (l.getD i 0) = (l.map f).sum + f x := by
  induction l generalizing i with
  | nil => simp at hi
  | cons y r ih =>
    cases i with
    | zero => simp; omega
    | succ i =>
      have := ih i (by simpa using hi)
      simp only [List.set_cons_succ, List.map_cons, List.sum_cons, List.getD_cons_succ]
      omega
theorem into_room (h : Part n ps up) {p : Nat × Nat} (h1 : p.1 < n) (hs : Lat.sub (up.getD p.2 0) (up.getD p.1 0) = false) : room n (into up p) < room n up := by
  have hl : p.1 < up.length := by rw [h.len]; exact h1
  have := sum_set up p.1 (up.getD p.1 0 ||| up.getD p.2 0) (fun x => 2 ^ n - x) hl
  unfold room into
  have h2 : up.getD p.1 0 ≤ up.getD p.1 0 ||| up.getD p.2 0 := Nat.left_le_or
  have h3 : up.getD p.1 0 ≠ up.getD p.1 0 ||| up.getD p.2 0 := by
    intro e
    have : Lat.sub (up.getD p.2 0) (up.getD p.1 0) = true := Lat.sub_of_bits fun i hi => by
      rw [e, Nat.testBit_or, hi, Bool.or_true]
    rw [hs] at this
    cases this
  have h4 : up.getD p.1 0 ||| up.getD p.2 0 < 2 ^ n := Nat.or_lt_two_pow (h.rows _) (h.rows _)
  omega
theorem testBit_of_lt {x n b : Nat} (h : x < 2 ^ n) (hb : n ≤ b) : x.testBit b = false :=
  Nat.testBit_lt_two_pow (Nat.lt_of_lt_of_le h (Nat.pow_le_pow_right (by decide) hb))
/-- Rows of n bits each are known by their bits. -/
theorem rows_ext {n : Nat} {l l' : List Nat} (hl : l.length = n) (hl' : l'.length = n) (h : ∀ a, l.getD a 0 < 2 ^ n) (h' : ∀ a, l'.getD a 0 < 2 ^ n) (hb : ∀ a b, a < n → b < n → Lat.fl l a b = Lat.fl l' a b) : l = l' := by
  refine List.ext_getElem (by omega) fun i h1 h2 => ?_
  have e1 : l[i] = l.getD i 0 := by rw [List.getD_eq_getElem?_getD, List.getElem?_eq_getElem h1]; rfl
  have e2 : l'[i] = l'.getD i 0 := by rw [List.getD_eq_getElem?_getD, List.getElem?_eq_getElem h2]; rfl
  rw [e1, e2]
  refine Nat.eq_of_testBit_eq fun b => ?_
  by_cases hbn : b < n
  · exact hb i b (by omega) hbn
  · rw [testBit_of_lt (h i) (by omega), testBit_of_lt (h' i) (by omega)]
theorem ups_rows (f : Nat → Nat → Bool) (n a : Nat) : (ups f n).getD a 0 < 2 ^ n := by
  unfold ups
  rw [List.getD_eq_getElem?_getD, List.getElem?_map]
  by_cases h : a < n
  · rw [List.getElem?_range h]; exact rowTo_lt _ _ _
  · rw [List.getElem?_eq_none (by simpa using h)]; exact Nat.pow_pos (by decide)
theorem part_done (h : Part n ps up) (hc : ∀ p ∈ ps, Lat.sub (up.getD p.2 0) (up.getD p.1 0) = true) (hv : ∀ p ∈ ps, p.1 < n ∧ p.2 < n) : up = madeL n ps := by
  have hall : ∀ a b, Reach ps a b → a < n → Lat.fl up a b = true := by
    intro a b hr
    induction hr with
    | refl a => exact fun ha => h.refl a ha
    | step he _ ih => exact fun _ => Lat.sub_bit (hc _ he) _ (ih (hv _ he).2)
  refine rows_ext h.len ups_length h.rows (ups_rows _ _) fun a b ha hb => ?_
  unfold madeL
  rw [ups_fl ha, Bool.eq_iff_iff, Bool.and_eq_true, decide_eq_true_eq, reachF_true]
  exact ⟨fun hf => ⟨hb, h.only _ _ hf⟩, fun hr => hall _ _ hr.2 ha⟩
theorem room_le (n : Nat) (up : List Nat) : room n up ≤ up.length * 2 ^ n := by
  unfold room
  induction up with
  | nil => simp
  | cons x r ih => simp only [List.map_cons, List.sum_cons, List.length_cons, Nat.add_mul]; omega
end Ordr
end Go.Proofs.Ytggcmkpafpjnoaa
