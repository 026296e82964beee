/- Choices and rows, plainly (no program). -/
import Derived.Test.YtmgaaejghfgbnaaBase
namespace Go.Proofs.Ytmgaaejghfgbnaa
set_option maxRecDepth 100000
namespace Dr

/-! Which of two rows is less. -/
/-- Number by number. -/
def lex : List Int → List Int → Int
  | x :: a, y :: b => if x < y then -1 else if y < x then 1 else lex a b
  | _, _ => 0
def cmp (a b : List Int) : Int := if a.length < b.length then -1 else if b.length < a.length then 1 else lex a b
theorem lex_nil (b : List Int) : lex [] b = 0 := by cases b <;> rfl
theorem lex_none (a : List Int) : lex a [] = 0 := by cases a <;> rfl
theorem lex_turn : ∀ (a b : List Int), lex b a = - lex a b
  | [], b => by rw [lex_nil, lex_none]; rfl
  | x :: a, [] => rfl
  | x :: a, y :: b => by
    unfold lex
    by_cases h : x < y
    · rw [if_pos h, if_neg (by omega), if_pos h]; rfl
    · by_cases h2 : y < x
      · rw [if_pos h2, if_neg h, if_pos h2]
      · rw [if_neg h2, if_neg h, if_neg h, if_neg h2]; exact lex_turn a b
theorem lex_self : ∀ (a : List Int), lex a a = 0
  | [] => rfl
  | x :: a => by unfold lex; rw [if_neg (by omega), if_neg (by omega)]; exact lex_self a
theorem lex_zero : ∀ (a b : List Int), a.length = b.length → lex a b = 0 → a = b
  | [], [], _, _ => rfl
  | x :: a, y :: b, h, hz => by
    unfold lex at hz
    by_cases h1 : x < y
    · rw [if_pos h1] at hz; omega
    · by_cases h2 : y < x
      · rw [if_neg h1, if_pos h2] at hz; omega
      · rw [if_neg h1, if_neg h2] at hz
        rw [show x = y by omega, lex_zero a b (by simpa using h) hz]
theorem cmp_turn (a b : List Int) : cmp b a = - cmp a b := by
  unfold cmp
  by_cases h : a.length < b.length
  · rw [if_neg (by omega), if_pos h, if_pos h]; rfl
  · by_cases h2 : b.length < a.length
    · rw [if_pos h2, if_neg h, if_pos h2]
    · rw [if_neg h2, if_neg h, if_neg h, if_neg h2]; exact lex_turn a b
theorem cmp_self (a : List Int) : cmp a a = 0 := by
  unfold cmp; rw [if_neg (by omega), if_neg (by omega)]; exact lex_self a
theorem cmp_zero {a b : List Int} : cmp a b = 0 ↔ a = b := by
  refine ⟨fun h => ?_, fun h => h ▸ cmp_self a⟩
  unfold cmp at h
  by_cases h1 : a.length < b.length
  · rw [if_pos h1] at h; omega
  · by_cases h2 : b.length < a.length
    · rw [if_neg h1, if_pos h2] at h; omega
    · rw [if_neg h1, if_neg h2] at h; exact lex_zero a b (by omega) h
theorem lex_step {a b : List Int} {k : Nat} {x y : Int} (hx : a[k]? = some x) (hy : b[k]? = some y) : lex (a.drop k) (b.drop k) = if x < y then -1 else if y < x then 1 else lex (a.drop (k + 1)) (b.drop (k + 1)) := by
  obtain ⟨h1, rfl⟩ := List.getElem?_eq_some_iff.1 hx
  obtain ⟨h2, rfl⟩ := List.getElem?_eq_some_iff.1 hy
  rw [List.drop_eq_getElem_cons h1, List.drop_eq_getElem_cons h2]
  rfl
theorem lex_end {a b : List Int} {k : Nat} (h : a.length ≤ k) : lex (a.drop k) (b.drop k) = 0 := by
  rw [List.drop_eq_nil_of_le h]; exact lex_nil _
theorem lex_cases : ∀ (a b : List Int), lex a b = 0 ∨ lex a b = 1 ∨ lex a b = -1
  | [], b => .inl (lex_nil b)
  | x :: a, [] => .inl rfl
  | x :: a, y :: b => by
    unfold lex
    by_cases h : x < y
    · rw [if_pos h]; exact .inr (.inr rfl)
    · by_cases h2 : y < x
      · rw [if_neg h, if_pos h2]; exact .inr (.inl rfl)
      · rw [if_neg h, if_neg h2]; exact lex_cases a b
theorem cmp_cases (a b : List Int) : cmp a b = 0 ∨ cmp a b = 1 ∨ cmp a b = -1 := by
  unfold cmp
  by_cases h : a.length < b.length
  · rw [if_pos h]; exact .inr (.inr rfl)
  · by_cases h2 : b.length < a.length
    · rw [if_neg h, if_pos h2]; exact .inr (.inl rfl)
    · rw [if_neg h, if_neg h2]; exact lex_cases a b

/-! Choices. -/
theorem left_eq (n b : Int) (hb : 0 < b) : n % b = if n.tmod b < 0 then n.tmod b + b else n.tmod b := by
  have h := Int.emod_nonneg n (show b ≠ 0 by omega)
  have h2 := Int.emod_lt_of_pos n hb
  have e := Int.tmod_def n b
  have e2 := Int.emod_def n b
  have hr := Int.lt_tmod_of_pos n hb
  have hr2 := Int.tmod_lt_of_pos n hb
  by_cases hn : n.tmod b < 0
  · rw [if_pos hn]
    have hc : (n.tmod b + b) % b = n % b := by
      rw [Int.add_emod_right, e, Int.sub_mul_emod_self_left]
    rw [← hc, Int.emod_eq_of_lt (by omega) (by omega)]
  · rw [if_neg hn]
    have hc : n.tmod b % b = n % b := by
      rw [e, Int.sub_mul_emod_self_left]
    rw [← hc, Int.emod_eq_of_lt (by omega) (by omega)]
def choice (list : List Int) (i : Nat) (b : Int) : Int := if i < list.length then list.getD i 0 % b else 0
def next (list : List Int) (i : Nat) : Nat := if i < list.length then i + 1 else i
def chs (list : List Int) : List Int → Nat → List Int
  | [], _ => []
  | b :: r, i => choice list i b :: chs list r (next list i)
def ends (list : List Int) : Nat → Nat → Nat
  | 0, i => i
  | k + 1, i => ends list k (next list i)
def err : List Int → Nat → Nat
  | [], _ => 0
  | b :: r, n => if b < 1 then 1 else if n = 2000 then 8 else err r (n + 1)
theorem chs_length (list : List Int) : ∀ (l : List Int) (i : Nat), (chs list l i).length = l.length
  | [], _ => rfl
  | _ :: l, i => by simp [chs, chs_length list l]
theorem ends_succ (list : List Int) : ∀ (k i : Nat), ends list (k + 1) i = next list (ends list k i)
  | 0, _ => rfl
  | k + 1, i => by rw [ends, ends_succ list k, ends]
theorem chs_snoc (list : List Int) (b : Int) : ∀ (l : List Int) (i : Nat), chs list (l ++ [b]) i = chs list l i ++ [choice list (ends list l.length i) b]
  | [], _ => rfl
  | c :: l, i => by simp [chs, chs_snoc list b l, ends]
theorem chs_take {list l : List Int} {k i : Nat} {b : Int} (h : l[k]? = some b) : chs list (l.take (k + 1)) i = chs list (l.take k) i ++ [choice list (ends list k i) b] := by
  have hk := (List.getElem?_eq_some_iff.1 h).1
  rw [List.take_add_one, h, Option.toList_some, chs_snoc, List.length_take, Nat.min_eq_left (by omega)]
theorem err_step {l : List Int} {k n : Nat} {b : Int} (h : l[k]? = some b) : err (l.drop k) n = if b < 1 then 1 else if n = 2000 then 8 else err (l.drop (k + 1)) (n + 1) := by
  obtain ⟨h1, rfl⟩ := List.getElem?_eq_some_iff.1 h
  rw [List.drop_eq_getElem_cons h1]
  rfl
theorem err_cases : ∀ (l : List Int) (n : Nat), err l n = 0 ∨ err l n = 1 ∨ err l n = 8
  | [], _ => .inl rfl
  | b :: r, n => by
    unfold err
    by_cases h : b < 1
    · rw [if_pos h]; exact .inr (.inl rfl)
    · by_cases h2 : n = 2000
      · rw [if_neg h, if_pos h2]; exact .inr (.inr rfl)
      · rw [if_neg h, if_neg h2]; exact err_cases r (n + 1)
theorem err_none : ∀ {l : List Int} {n : Nat}, err l n = 0 → n ≤ 2000 → (∀ b ∈ l, 1 ≤ b) ∧ n + l.length ≤ 2000
  | [], n, _, hn => ⟨fun _ h => (by cases h), by simpa using hn⟩
  | b :: r, n, h, hn => by
    unfold err at h
    by_cases h1 : b < 1
    · rw [if_pos h1] at h; cases h
    · by_cases h2 : n = 2000
      · rw [if_neg h1, if_pos h2] at h; cases h
      · rw [if_neg h1, if_neg h2] at h
        obtain ⟨g1, g2⟩ := err_none h (by omega)
        refine ⟨fun c hc => ?_, by simp; omega⟩
        rcases List.mem_cons.1 hc with e | hc
        · omega
        · exact g1 c hc
theorem ends_eq (list : List Int) : ∀ (k i : Nat), i ≤ list.length → ends list k i = min (i + k) list.length
  | 0, i, h => by simp [ends]; omega
  | k + 1, i, h => by
    unfold ends next
    by_cases hi : i < list.length
    · rw [if_pos hi, ends_eq list k (i + 1) (by omega)]; omega
    · rw [if_neg hi, ends_eq list k i h]; omega
theorem chs_at (list : List Int) : ∀ (l : List Int) (i k : Nat) (b : Int), l[k]? = some b → (chs list l i)[k]? = some (choice list (ends list k i) b)
  | c :: l, i, 0, b, h => by simp [chs] at h ⊢; rw [h]; rfl
  | c :: l, i, k + 1, b, h => by simp [chs] at h ⊢; rw [chs_at list l (next list i) k b h]; rfl
theorem choice_low {list : List Int} {i : Nat} {b : Int} (hb : 1 ≤ b) : 0 ≤ choice list i b ∧ choice list i b < b := by
  unfold choice
  split
  · exact ⟨Int.emod_nonneg _ (by omega), Int.emod_lt_of_pos _ (by omega)⟩
  · omega
/-- What was chosen, as a list, is chosen again. -/
theorem chs_again (list : List Int) : ∀ (l pre : List Int) (i : Nat), (∀ b ∈ l, 1 ≤ b) → chs (pre ++ chs list l i) l pre.length = chs list l i
  | [], _, _, _ => rfl
  | b :: r, pre, i, h => by
    have hb := h b (List.mem_cons_self ..)
    obtain ⟨h1, h2⟩ := choice_low (list := list) (i := i) hb
    have h3 := chs_again list r (pre ++ [choice list i b]) (next list i) fun c hc => h c (List.mem_cons_of_mem _ hc)
    rw [List.append_assoc, List.length_append] at h3
    have e1 : choice (pre ++ choice list i b :: chs list r (next list i)) pre.length b = choice list i b := by
      generalize choice list i b = x at *
      unfold choice
      rw [if_pos (by simp)]
      rw [List.getD_eq_getElem?_getD, List.getElem?_append_right (Nat.le_refl _), Nat.sub_self, List.getElem?_cons_zero, Option.getD_some, Int.emod_eq_of_lt h1 h2]
    have e2 : next (pre ++ choice list i b :: chs list r (next list i)) pre.length = pre.length + 1 := by
      unfold next; rw [if_pos (by simp)]
    show choice (pre ++ choice list i b :: chs list r (next list i)) pre.length b :: chs (pre ++ choice list i b :: chs list r (next list i)) r (next (pre ++ choice list i b :: chs list r (next list i)) pre.length) = choice list i b :: chs list r (next list i)
    rw [e1, e2]
    exact congrArg _ h3
theorem choice_end {list : List Int} {i : Nat} (b : Int) (h : list.length ≤ i) : choice list (ends list i 0) b = 0 := by
  unfold choice
  rw [ends_eq list i 0 (Nat.zero_le _), if_neg (by omega)]
end Dr
end Go.Proofs.Ytmgaaejghfgbnaa
