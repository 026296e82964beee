/- How the reference goes along edges, as plain data; over no program. -/
import Derived.Test.YtaingkjleelbfaaOrdG
namespace Go.Proofs.Ytaingkjleelbfaa
open Go.RowKit

namespace Ordr
def step1 (l : List Bool) (p : Nat × Nat) : List Bool := if l.getD p.1 false then l.set p.2 true else l
def passTo (ps : List (Nat × Nat)) (l : List Bool) (k : Nat) : List Bool := (ps.take k).foldl step1 l
def passL (ps : List (Nat × Nat)) (l : List Bool) : List Bool := ps.foldl step1 l
def rounds (ps : List (Nat × Nat)) (l : List Bool) : Nat → List Bool
  | 0 => l
  | k + 1 => passL ps (rounds ps l k)
theorem passTo_zero (ps : List (Nat × Nat)) (l : List Bool) : passTo ps l 0 = l := rfl
theorem passTo_succ {ps : List (Nat × Nat)} {l : List Bool} {k : Nat} {p : Nat × Nat} (h : ps[k]? = some p) : passTo ps l (k + 1) = step1 (passTo ps l k) p := by
  unfold passTo
  rw [List.take_add_one, h, List.foldl_append]
  rfl
theorem passTo_all (ps : List (Nat × Nat)) (l : List Bool) : passTo ps l ps.length = passL ps l := by unfold passTo passL; rw [List.take_length]
theorem step1_length (l : List Bool) (p : Nat × Nat) : (step1 l p).length = l.length := by unfold step1; split <;> simp
theorem fold_length (ps : List (Nat × Nat)) : ∀ l : List Bool, (ps.foldl step1 l).length = l.length := by
  induction ps with
  | nil => intro l; rfl
  | cons p r ih => intro l; rw [List.foldl_cons, ih, step1_length]
theorem passTo_length (ps : List (Nat × Nat)) (l : List Bool) (k : Nat) : (passTo ps l k).length = l.length := fold_length _ _
theorem passL_length (ps : List (Nat × Nat)) (l : List Bool) : (passL ps l).length = l.length := fold_length _ _
theorem rounds_length (ps : List (Nat × Nat)) (l : List Bool) (k : Nat) : (rounds ps l k).length = l.length := by
  induction k with
  | zero => rfl
  | succ k ih => unfold rounds; rw [passL_length, ih]
theorem getD_setB (l : List Bool) (i b : Nat) (x : Bool) : (l.set i x).getD b false = if b = i ∧ i < l.length then x else l.getD b false := by
  rw [List.getD_eq_getElem?_getD, List.getD_eq_getElem?_getD, List.getElem?_set]
  by_cases h : i = b
  · subst h
    by_cases hl : i < l.length
    · simp [hl]
    · simp [hl]
  · rw [if_neg h, if_neg (fun e => h e.1.symm)]
theorem step1_mono (l : List Bool) (p : Nat × Nat) (b : Nat) (h : l.getD b false = true) : (step1 l p).getD b false = true := by
  unfold step1
  split
  · rw [getD_setB]; split <;> simp_all
  · exact h
theorem fold_mono (ps : List (Nat × Nat)) (b : Nat) : ∀ l : List Bool, l.getD b false = true → (ps.foldl step1 l).getD b false = true := by
  induction ps with
  | nil => intro l h; exact h
  | cons p r ih => intro l h; exact ih _ (step1_mono l p b h)
theorem step1_hit {l : List Bool} {p : Nat × Nat} (h : l.getD p.1 false = true) (hl : p.2 < l.length) : (step1 l p).getD p.2 false = true := by
  unfold step1
  rw [if_pos h, getD_setB, if_pos ⟨rfl, hl⟩]
theorem fold_sound {qs : List (Nat × Nat)} {a : Nat} (ps : List (Nat × Nat)) (hs : ∀ p ∈ ps, p ∈ qs) : ∀ l : List Bool, (∀ b, l.getD b false = true → Reach qs a b) → ∀ b, (ps.foldl step1 l).getD b false = true → Reach qs a b := by
  induction ps with
  | nil => intro l h b hb; exact h b hb
  | cons p r ih =>
    intro l h b hb
    refine ih (fun q hq => hs q (List.mem_cons_of_mem _ hq)) _ (fun c hc => ?_) b hb
    unfold step1 at hc
    split at hc
    · rename_i h1
      rw [getD_setB] at hc
      split at hc
      · rename_i h2
        rw [h2.1]
        exact (h p.1 h1).trans (Reach.one (hs p List.mem_cons_self))
      · exact h c hc
    · exact h c hc
def cnt (l : List Bool) : Nat := (l.filter id).length
theorem cnt_le : ∀ (l l' : List Bool), l.length = l'.length → (∀ b, l.getD b false = true → l'.getD b false = true) → cnt l ≤ cnt l' ∧ (cnt l = cnt l' → l = l')
  | [], [], _, _ => ⟨Nat.le_refl _, fun _ => rfl⟩
  | [], _ :: _, h, _ => by simp at h
  | _ :: _, [], h, _ => by simp at h
  | x :: l, y :: l', h, hm => by
    have ih := cnt_le l l' (by simpa using h) (fun b hb => hm (b + 1) hb)
    have h0 := hm 0
    cases x <;> cases y
    · exact ⟨ih.1, fun e => by rw [ih.2 e]⟩
    · refine ⟨Nat.le_succ_of_le ih.1, fun e => ?_⟩
      exfalso
      have e' : cnt l = cnt l' + 1 := e
      omega
    · simp at h0
    · exact ⟨Nat.succ_le_succ ih.1, fun e => by rw [ih.2 (Nat.succ.inj e)]⟩
theorem cnt_len (l : List Bool) : cnt l ≤ l.length := List.length_filter_le _ _
theorem rounds_grow (ps : List (Nat × Nat)) (l : List Bool) (k : Nat) : passL ps (rounds ps l k) = rounds ps l k ∨ cnt l + k ≤ cnt (rounds ps l k) := by
  induction k with
  | zero => exact .inr (Nat.le_refl _)
  | succ k ih =>
    have e : rounds ps l (k + 1) = passL ps (rounds ps l k) := rfl
    rcases ih with h | h
    · left; rw [e, h, h]
    · have hm := cnt_le (rounds ps l k) (passL ps (rounds ps l k)) (passL_length _ _).symm (fun b hb => fold_mono ps b _ hb)
      by_cases hf : passL ps (rounds ps l k) = rounds ps l k
      · left; rw [e, hf, hf]
      · right
        rw [e]
        have : cnt (rounds ps l k) ≠ cnt (passL ps (rounds ps l k)) := fun h => hf (hm.2 h).symm
        omega
theorem fix_closed {ps : List (Nat × Nat)} {l : List Bool} (hf : passL ps l = l) {p : Nat × Nat} (hp : p ∈ ps) (hl : p.2 < l.length) (h1 : l.getD p.1 false = true) : l.getD p.2 false = true := by
  obtain ⟨s, t, rfl⟩ := List.append_of_mem hp
  have h : (passL (s ++ p :: t) l).getD p.2 false = true := by
    unfold passL
    rw [List.foldl_append, List.foldl_cons]
    refine fold_mono t p.2 _ (step1_hit (fold_mono s p.1 _ h1) ?_)
    rw [fold_length]
    exact hl
  rw [hf] at h
  exact h
/-- The label a alone. -/
def ind (n a : Nat) : List Bool := (List.range n).map fun b => decide (a = b)
theorem ind_length (n a : Nat) : (ind n a).length = n := by simp [ind]
theorem ind_getD {n a b : Nat} (hb : b < n) : (ind n a).getD b false = decide (a = b) := by
  unfold ind
  rw [List.getD_eq_getElem?_getD, List.getElem?_map, List.getElem?_range hb]
  rfl
theorem getD_false_of_le {l : List Bool} {b : Nat} (h : l.length ≤ b) : l.getD b false = false := by
  rw [List.getD_eq_getElem?_getD, List.getElem?_eq_none h]; rfl
theorem cnt_ind {n a : Nat} (ha : a < n) : 1 ≤ cnt (ind n a) := by
  unfold cnt
  have : true ∈ (ind n a).filter id := by
    rw [List.mem_filter]
    refine ⟨?_, rfl⟩
    unfold ind
    rw [List.mem_map]
    exact ⟨a, by simpa using ha, by simp⟩
  exact List.length_pos_of_mem this
theorem rounds_reach {n a : Nat} {ps : List (Nat × Nat)} (ha : a < n) (hv : ∀ p ∈ ps, p.1 < n ∧ p.2 < n) : rounds ps (ind n a) n = (List.range n).map (reachF ps a) := by
  have hlen : (rounds ps (ind n a) n).length = n := by rw [rounds_length, ind_length]
  have hfix : passL ps (rounds ps (ind n a) n) = rounds ps (ind n a) n := by
    rcases rounds_grow ps (ind n a) n with h | h
    · exact h
    · exfalso
      have h1 := cnt_len (rounds ps (ind n a) n)
      have h2 := cnt_ind ha
      omega
  have hsound : ∀ k b, (rounds ps (ind n a) k).getD b false = true → Reach ps a b := by
    intro k
    induction k with
    | zero =>
      intro b hb
      have hb' : (ind n a).getD b false = true := hb
      by_cases hbn : b < n
      · rw [ind_getD hbn, decide_eq_true_eq] at hb'
        rw [← hb']
        exact .refl _
      · rw [getD_false_of_le (by rw [ind_length]; omega)] at hb'; cases hb'
    | succ k ih => exact fold_sound ps (fun _ h => h) _ ih
  have hmono : ∀ k b, (ind n a).getD b false = true → (rounds ps (ind n a) k).getD b false = true := by
    intro k
    induction k with
    | zero => exact fun _ h => h
    | succ k ih => exact fun b h => fold_mono ps b _ (ih b h)
  have hcomp : ∀ x y, Reach ps x y → (rounds ps (ind n a) n).getD x false = true → (rounds ps (ind n a) n).getD y false = true := by
    intro x y h
    induction h with
    | refl => exact fun h => h
    | step he _ ih => exact fun hx => ih (fix_closed hfix he (by rw [hlen]; exact (hv _ he).2) hx)
  refine List.ext_getElem? fun b => ?_
  by_cases hb : b < n
  · have e : (rounds ps (ind n a) n)[b]? = some ((rounds ps (ind n a) n).getD b false) := by
      rw [List.getD_eq_getElem?_getD, List.getElem?_eq_getElem (by rw [hlen]; exact hb)]; rfl
    rw [e, List.getElem?_map, List.getElem?_range hb]
    simp only [Option.map_some, Option.some.injEq]
    rw [Bool.eq_iff_iff, reachF_true]
    exact ⟨hsound n b, fun h => hcomp a b h (hmono n a (by rw [ind_getD ha]; simp))⟩
  · rw [List.getElem?_eq_none (by rw [hlen]; omega), List.getElem?_eq_none (by simp; omega)]
end Ordr
end Go.Proofs.Ytaingkjleelbfaa
