/- Rows in memory and small facts, over no program. -/
import Derived.Below
import Derived.Laws.OwnMore
import Derived.Laws.BitsAllLaws
import Derived.Lib.Hide
import Derived.Deep.Draws
import Derived.WalkKit
namespace Go.Proofs.Ytmbgndcahlopdaa
set_option maxRecDepth 100000
open Go.RowKit

/-- The slice at A holds the cells xs, in a block below B. -/
def Row (w : World) (B : Nat) (A : Option Addr) (xs : List Value) : Prop :=
  xs ≠ [] → ∃ ad, A = some ad ∧ ad.block < B ∧ ∀ j u, xs[j]? = some u → w.cell? (ad.add j) = some u

theorem add_block (a : Addr) (n : Nat) : (a.add n).block = a.block := by unfold Addr.add; split <;> rfl

section
variable {w w' : World} {B B' : Nat} {A : Option Addr} {xs : List Value}
theorem Row.nil : Row w B A [] := fun h => absurd rfl h
theorem Row.at_ {k : Nat} (h : Row w B A xs) (hk : k < xs.length) : ∃ ad, A = some ad ∧ ad.block < B ∧ w.cell? (ad.add k) = some xs[k] := by
  obtain ⟨ad, e, hb, hc⟩ := h (by intro e; subst e; simp at hk)
  exact ⟨ad, e, hb, hc k _ (List.getElem?_eq_getElem hk)⟩
theorem Row.keep (h : Row w B A xs) (hk : ∀ p : Addr, p.block < B → w'.cell? p = w.cell? p) : Row w' B A xs := fun hn => by
  obtain ⟨ad, e, hb, hc⟩ := h hn
  exact ⟨ad, e, hb, fun j u hu => (hk _ (by rw [add_block]; exact hb)).trans (hc j u hu)⟩
theorem Row.below (h : Row w B A xs) (hb : Below B w w') : Row w' B A xs := h.keep fun _ hp => hb.cell hp
theorem Row.more (h : Row w B A xs) (hB : B ≤ B') : Row w B' A xs := fun hn => by
  obtain ⟨ad, e, hb, hc⟩ := h hn
  exact ⟨ad, e, by omega, hc⟩
theorem Row.take (h : Row w B A xs) (n : Nat) : Row w B A (xs.take n) := fun hn => by
  obtain ⟨ad, e, hb, hc⟩ := h (by rintro rfl; simp at hn)
  refine ⟨ad, e, hb, fun j u hu => hc j u ?_⟩
  rw [List.getElem?_take] at hu
  split at hu
  · exact hu
  · cases hu
end

/-- Numbers of 32 bits in a slice. -/
def u32s (up : List Nat) : List Value := up.map fun (x : Nat) => Value.int .u32 (x : Int)

def Ups (w : World) (B : Nat) (A : Option Addr) (up : List Nat) : Prop := Row w B A (u32s up) ∧ ∀ (k x : Nat), up[k]? = some x → x < 4294967296

section
variable {w w' : World} {B B' : Nat} {A : Option Addr} {up : List Nat}
theorem Ups.at_ {k : Nat} (h : Ups w B A up) (hk : k < up.length) : ∃ ad x, A = some ad ∧ ad.block < B ∧ up[k]? = some x ∧ x < 4294967296 ∧ w.cell? (ad.add k) = some (.int .u32 (x : Int)) := by
  obtain ⟨ad, e, hb, hc⟩ := h.1.at_ (k := k) (by simpa [u32s] using hk)
  exact ⟨ad, up[k], e, hb, List.getElem?_eq_getElem hk, h.2 k _ (List.getElem?_eq_getElem hk), by simpa [u32s] using hc⟩
theorem Ups.below (h : Ups w B A up) (hb : Below B w w') : Ups w' B A up := ⟨h.1.below hb, h.2⟩
theorem Ups.more (h : Ups w B A up) (hB : B ≤ B') : Ups w B' A up := ⟨h.1.more hB, h.2⟩
end

/-- Strings in a slice. -/
def strs (ss : List ByteArray) : List Value := ss.map Value.string

/-- A quiet callee's contract, stated with the world's name kept. -/
theorem quiet_eq {P : Program} {f : FuncId} {args : Array Value} {w : World} {n : Nat} {v : Value}
    (h : Calls P f args (w.drewN n) fun e w' => e = .returned v ∧ w.drewN n = w') : Calls P f args (w.drewN n) fun e w'' => e = .returned v ∧ ∃ m, w'' = w.drewN m :=
  h.mono fun _ _ ⟨he, hm⟩ => ⟨he, n, hm.symm⟩
end Go.Proofs.Ytmbgndcahlopdaa

/- Choices by weights, and of numbers, plainly (no program). -/
namespace Go.Proofs.Ytmbgndcahlopdaa
set_option maxRecDepth 100000
namespace Pk

def sum : List Int → Int
  | [] => 0
  | x :: r => x + sum r
def good (l : List Int) : Bool := l.all fun x => decide (0 ≤ x ∧ x ≤ 100)
def right (l : List Int) : Bool := good l && decide (1 ≤ l.length ∧ l.length ≤ 20 ∧ 0 < sum l)
def scan (n : Int) : Int → List Int → Option Nat
  | _, [] => none
  | acc, x :: r => if n < acc + x then some 0 else (scan n (acc + x) r).map (· + 1)
/-- The place that a choice picks. -/
def picks (l : List Int) (n : Int) : Nat := (scan n 0 l).getD 0
theorem good_of {l : List Int} (h : good l = true) {x : Int} (hx : x ∈ l) : 0 ≤ x ∧ x ≤ 100 := of_decide_eq_true (List.all_eq_true.1 h x hx)
theorem good_take {l : List Int} (h : good l = true) (k : Nat) : good (l.take k) = true := List.all_eq_true.2 fun _ hx => decide_eq_true (good_of h (List.mem_of_mem_take hx))
theorem sum_snoc : ∀ (l : List Int) (x : Int), sum (l ++ [x]) = sum l + x
  | [], x => by simp [sum]
  | y :: l, x => by
    show y + sum (l ++ [x]) = y + sum l + x
    rw [sum_snoc l x, Int.add_assoc]
theorem sum_step {l : List Int} {k : Nat} {x : Int} (h : l[k]? = some x) : sum (l.take (k + 1)) = sum (l.take k) + x := by
  rw [List.take_add_one, h, Option.toList_some, sum_snoc]
theorem sum_low : ∀ {l : List Int}, good l = true → 0 ≤ sum l ∧ sum l ≤ 100 * l.length
  | [], _ => by simp [sum]
  | x :: l, h => by
    have h1 := good_of h (List.mem_cons_self ..)
    have h2 := sum_low (l := l) (List.all_eq_true.2 fun y hy => List.all_eq_true.1 h y (List.mem_cons_of_mem _ hy))
    simp only [sum, List.length_cons]
    omega
theorem sum_rise {l : List Int} (h : good l = true) (j : Nat) : ∀ k, sum (l.take j) ≤ sum (l.take (j + k))
  | 0 => Int.le_refl _
  | k + 1 => by
    refine Int.le_trans (sum_rise h j k) ?_
    by_cases hk : j + k < l.length
    · have hx := List.getElem?_eq_getElem hk
      have := sum_step hx
      have h2 := (good_of h (List.mem_of_getElem? hx)).1
      rw [← Nat.add_assoc]
      omega
    · rw [← Nat.add_assoc, List.take_of_length_le (by omega), List.take_of_length_le (by omega)]
      exact Int.le_refl _
theorem sum_mono {l : List Int} (h : good l = true) {j k : Nat} (hjk : j ≤ k) : sum (l.take j) ≤ sum (l.take k) := by
  have := sum_rise h j (k - j)
  rwa [Nat.add_sub_cancel' hjk] at this
theorem scan_at (n : Int) : ∀ (l : List Int) (acc : Int) (k : Nat), k < l.length → (∀ j, j < k → acc + sum (l.take (j + 1)) ≤ n) → n < acc + sum (l.take (k + 1)) → scan n acc l = some k
  | x :: r, acc, 0, _, _, h => by
    simp [sum] at h
    unfold scan
    rw [if_pos h]
  | x :: r, acc, k + 1, hk, h1, h2 => by
    have h3 := h1 0 (by omega)
    simp [sum] at h3
    unfold scan
    rw [if_neg (by omega), scan_at n r (acc + x) k (by simpa using hk) (fun j hj => by
      have := h1 (j + 1) (by omega)
      simp only [List.take_succ_cons, sum] at this
      omega) (by
      simp only [List.take_succ_cons, sum] at h2
      omega)]
    rfl
theorem scan_none (n : Int) : ∀ (l : List Int) (acc : Int), (∀ j, j < l.length → acc + sum (l.take (j + 1)) ≤ n) → scan n acc l = none
  | [], _, _ => rfl
  | x :: r, acc, h => by
    have h3 := h 0 (by simp)
    simp [sum] at h3
    unfold scan
    rw [if_neg (by omega), scan_none n r (acc + x) fun j hj => by
      have := h (j + 1) (by simpa using hj)
      simp only [List.take_succ_cons, sum] at this
      omega]
    rfl
theorem picks_at {l : List Int} {n : Int} {k : Nat} (hk : k < l.length) (h1 : ∀ j, j < k → sum (l.take (j + 1)) ≤ n) (h2 : n < sum (l.take (k + 1))) : picks l n = k := by
  unfold picks
  rw [scan_at n l 0 k hk (fun j hj => by have := h1 j hj; omega) (by omega)]
  rfl
theorem picks_none {l : List Int} {n : Int} (h : ∀ j, j < l.length → sum (l.take (j + 1)) ≤ n) : picks l n = 0 := by
  unfold picks
  rw [scan_none n l 0 fun j hj => by have := h j hj; omega]
  rfl
theorem first_above {l : List Int} {n : Int} : ∀ (m : Nat), m ≤ l.length → (∀ j, j < m → sum (l.take (j + 1)) ≤ n) ∨ ∃ k, k < m ∧ (∀ j, j < k → sum (l.take (j + 1)) ≤ n) ∧ n < sum (l.take (k + 1))
  | 0, _ => .inl fun j hj => absurd hj (by omega)
  | m + 1, hm => by
    rcases first_above (l := l) (n := n) m (by omega) with h | ⟨k, hk, h1, h2⟩
    · by_cases h2 : n < sum (l.take (m + 1))
      · exact .inr ⟨m, by omega, h, h2⟩
      · refine .inl fun j hj => ?_
        by_cases e : j = m
        · subst e; omega
        · exact h j (by omega)
    · exact .inr ⟨k, by omega, h1, h2⟩
/-- Below the sum, a choice picks what has weight above 0. -/
theorem picks_spec {l : List Int} {n : Int} (hg : good l = true) (h0 : 0 ≤ n) (hn : n < sum l) : picks l n < l.length ∧ sum (l.take (picks l n)) ≤ n ∧ n < sum (l.take (picks l n + 1)) := by
  rcases first_above (l := l) (n := n) l.length (Nat.le_refl _) with h | ⟨k, hk, h1, h2⟩
  · exfalso
    rcases Nat.eq_zero_or_pos l.length with e | e
    · have : l = [] := List.eq_nil_of_length_eq_zero e
      subst this
      simp [sum] at hn
      omega
    · have := h (l.length - 1) (by omega)
      rw [Nat.sub_add_cancel e, List.take_length] at this
      omega
  · have e := picks_at hk h1 h2
    rw [e]
    refine ⟨hk, ?_, h2⟩
    rcases Nat.eq_zero_or_pos k with e0 | e0
    · subst e0; simp [sum]; exact h0
    · have := h1 (k - 1) (by omega)
      rwa [Nat.sub_add_cancel e0] at this
theorem picks_iff {l : List Int} {n : Int} (hg : good l = true) (i : Nat) (hi : i < l.length) (h1 : sum (l.take i) ≤ n) (h2 : n < sum (l.take (i + 1))) : picks l n = i :=
  picks_at hi (fun j hj => Int.le_trans (sum_mono hg (show j + 1 ≤ i by omega)) h1) h2
/-- The least choice that picks something; the error. -/
def least (l : List Int) (i : Int) : Int × Nat :=
  if right l = true then (if 0 ≤ i ∧ i < l.length ∧ 0 < l.getD i.toNat 0 then (sum (l.take i.toNat), 0) else (0, 9)) else (0, 1)
theorem sum_at {l : List Int} {p : Nat} (hp : p < l.length) : sum (l.take (p + 1)) = sum (l.take p) + l.getD p 0 := by
  rw [sum_step (List.getElem?_eq_getElem hp), List.getD_eq_getElem?_getD, List.getElem?_eq_getElem hp]
  rfl
theorem sum_all {l : List Int} (h : good l = true) (k : Nat) : sum (l.take k) ≤ sum l := by
  by_cases hk : k ≤ l.length
  · have := sum_mono h hk
    rwa [List.take_length] at this
  · rw [List.take_of_length_le (by omega)]; exact Int.le_refl _
theorem right_good {l : List Int} (h : right l = true) : good l = true ∧ 1 ≤ l.length ∧ l.length ≤ 20 ∧ 0 < sum l := by
  unfold right at h
  rw [Bool.and_eq_true, decide_eq_true_iff] at h
  exact h
theorem least_none {l : List Int} {i : Int} (hr : right l = true) (hno : ∀ j : Nat, (j : Int) < sum l → (picks l (j : Int) : Int) ≠ i) : least l i = (0, 9) := by
  obtain ⟨hg, -, -, -⟩ := right_good hr
  unfold least
  rw [if_pos hr]
  by_cases h : 0 ≤ i ∧ i < l.length ∧ 0 < l.getD i.toNat 0
  · exfalso
    obtain ⟨p, rfl⟩ : ∃ p : Nat, i = (p : Int) := ⟨i.toNat, by omega⟩
    rw [Int.toNat_natCast] at h
    have hp : p < l.length := by omega
    have h4 := sum_at hp
    have h5 := (sum_low (good_take hg p)).1
    have h6 := sum_all hg (p + 1)
    exact hno (sum (l.take p)).toNat (by omega) (congrArg Int.ofNat (picks_iff (n := ((sum (l.take p)).toNat : Int)) hg p hp (by omega) (by omega)))
  · rw [if_neg h]

/-! Numbers. -/
/-- The number that a choice makes. -/
def made (n : Nat) : Int := if n % 2 = 1 then ((n / 2 : Nat) : Int) + 1 else -((n / 2 : Nat) : Int)
/-- The choice that makes a number. -/
def back (n : Int) : Nat := if 0 < n then (2 * n - 1).toNat else (-2 * n).toNat
theorem back_made (k : Nat) : back (made k) = k := by
  unfold made back
  by_cases h : k % 2 = 1
  · rw [if_pos h, if_pos (by omega)]; omega
  · rw [if_neg h, if_neg (by omega)]; omega
theorem back_low {n most : Int} : (-most ≤ n ∧ n ≤ most) ↔ (back n : Int) ≤ 2 * most := by
  unfold back
  by_cases h : 0 < n
  · rw [if_pos h]; omega
  · rw [if_neg h]; omega
theorem made_low {k : Nat} {most : Int} (h : (k : Int) ≤ 2 * most) : -most ≤ made k ∧ made k ≤ most := by
  have := back_low (n := made k) (most := most)
  rw [back_made] at this
  exact this.2 h
end Pk
end Go.Proofs.Ytmbgndcahlopdaa

/- Choices and rows, plainly (no program). -/
namespace Go.Proofs.Ytmbgndcahlopdaa
set_option maxRecDepth 100000
namespace Dr

/-! Which of two rows is less. -/
/-- Number by number. -/
def lex : List Int → List Int → Int
  | x :: a, y :: b => if x < y then -1 else if y < x then 1 else lex a b
  | _, _ => 0
def cmp (a b : List Int) : Int := if a.length < b.length then -1 else if b.length < a.length then 1 else lex a b
theorem lex_nil (b : List Int) : lex [] b = 0 := by cases b <;> rfl
theorem lex_self : ∀ (a : List Int), lex a a = 0
  | [] => rfl
  | x :: a => by unfold lex; rw [if_neg (by omega), if_neg (by omega)]; exact lex_self a
theorem lex_zero : ∀ (a b : List Int), a.length = b.length → lex a b = 0 → a = b
  | [], [], _, _ => rfl
  | x :: a, y :: b, h, hz => by
    unfold lex at hz
    by_cases h1 : x < y
    · rw [if_pos h1] at hz; omega
    · by_cases h2 : y < x
      · rw [if_neg h1, if_pos h2] at hz; omega
      · rw [if_neg h1, if_neg h2] at hz
        rw [show x = y by omega, lex_zero a b (by simpa using h) hz]
theorem cmp_self (a : List Int) : cmp a a = 0 := by
  unfold cmp; rw [if_neg (by omega), if_neg (by omega)]; exact lex_self a
theorem cmp_zero {a b : List Int} : cmp a b = 0 ↔ a = b := by
  refine ⟨fun h => ?_, fun h => h ▸ cmp_self a⟩
  unfold cmp at h
  by_cases h1 : a.length < b.length
  · rw [if_pos h1] at h; omega
  · by_cases h2 : b.length < a.length
    · rw [if_neg h1, if_pos h2] at h; omega
    · rw [if_neg h1, if_neg h2] at h; exact lex_zero a b (by omega) h
theorem lex_step {a b : List Int} {k : Nat} {x y : Int} (hx : a[k]? = some x) (hy : b[k]? = some y) : lex (a.drop k) (b.drop k) = if x < y then -1 else if y < x then 1 else lex (a.drop (k + 1)) (b.drop (k + 1)) := by
  obtain ⟨h1, rfl⟩ := List.getElem?_eq_some_iff.1 hx
  obtain ⟨h2, rfl⟩ := List.getElem?_eq_some_iff.1 hy
  rw [List.drop_eq_getElem_cons h1, List.drop_eq_getElem_cons h2]
  rfl
theorem lex_end {a b : List Int} {k : Nat} (h : a.length ≤ k) : lex (a.drop k) (b.drop k) = 0 := by
  rw [List.drop_eq_nil_of_le h]; exact lex_nil _
/-! Choices. -/
theorem left_eq (n b : Int) (hb : 0 < b) : n % b = if n.tmod b < 0 then n.tmod b + b else n.tmod b := by
  have h := Int.emod_nonneg n (show b ≠ 0 by omega)
  have h2 := Int.emod_lt_of_pos n hb
  have e := Int.tmod_def n b
  have e2 := Int.emod_def n b
  have hr := Int.lt_tmod_of_pos n hb
  have hr2 := Int.tmod_lt_of_pos n hb
  by_cases hn : n.tmod b < 0
  · rw [if_pos hn]
    have hc : (n.tmod b + b) % b = n % b := by
      rw [Int.add_emod_right, e, Int.sub_mul_emod_self_left]
    rw [← hc, Int.emod_eq_of_lt (by omega) (by omega)]
  · rw [if_neg hn]
    have hc : n.tmod b % b = n % b := by
      rw [e, Int.sub_mul_emod_self_left]
    rw [← hc, Int.emod_eq_of_lt (by omega) (by omega)]
def choice (list : List Int) (i : Nat) (b : Int) : Int := if i < list.length then list.getD i 0 % b else 0
def next (list : List Int) (i : Nat) : Nat := if i < list.length then i + 1 else i
def chs (list : List Int) : List Int → Nat → List Int
  | [], _ => []
  | b :: r, i => choice list i b :: chs list r (next list i)
def ends (list : List Int) : Nat → Nat → Nat
  | 0, i => i
  | k + 1, i => ends list k (next list i)
def err : List Int → Nat → Nat
  | [], _ => 0
  | b :: r, n => if b < 1 then 1 else if n = 2000 then 8 else err r (n + 1)
theorem chs_length (list : List Int) : ∀ (l : List Int) (i : Nat), (chs list l i).length = l.length
  | [], _ => rfl
  | _ :: l, i => by simp [chs, chs_length list l]
theorem ends_succ (list : List Int) : ∀ (k i : Nat), ends list (k + 1) i = next list (ends list k i)
  | 0, _ => rfl
  | k + 1, i => by rw [ends, ends_succ list k, ends]
theorem chs_snoc (list : List Int) (b : Int) : ∀ (l : List Int) (i : Nat), chs list (l ++ [b]) i = chs list l i ++ [choice list (ends list l.length i) b]
  | [], _ => rfl
  | c :: l, i => by simp [chs, chs_snoc list b l, ends]
theorem chs_take {list l : List Int} {k i : Nat} {b : Int} (h : l[k]? = some b) : chs list (l.take (k + 1)) i = chs list (l.take k) i ++ [choice list (ends list k i) b] := by
  have hk := (List.getElem?_eq_some_iff.1 h).1
  rw [List.take_add_one, h, Option.toList_some, chs_snoc, List.length_take, Nat.min_eq_left (by omega)]
theorem err_step {l : List Int} {k n : Nat} {b : Int} (h : l[k]? = some b) : err (l.drop k) n = if b < 1 then 1 else if n = 2000 then 8 else err (l.drop (k + 1)) (n + 1) := by
  obtain ⟨h1, rfl⟩ := List.getElem?_eq_some_iff.1 h
  rw [List.drop_eq_getElem_cons h1]
  rfl
theorem choice_low {list : List Int} {i : Nat} {b : Int} (hb : 1 ≤ b) : 0 ≤ choice list i b ∧ choice list i b < b := by
  unfold choice
  split
  · exact ⟨Int.emod_nonneg _ (by omega), Int.emod_lt_of_pos _ (by omega)⟩
  · omega
end Dr
end Go.Proofs.Ytmbgndcahlopdaa
