/- Lattices as plain data: rows of bits. No program. -/

namespace Go.Proofs.Ytmbgndcahlopdaa.Lat

/-- Does label a flow to label b? -/
def fl (up : List Nat) (a b : Nat) : Bool := (up.getD a 0).testBit b
/-- Are all bits of x bits of y? -/
def sub (x y : Nat) : Bool := x &&& y == x
/-- The first label of s that flows to all of s. -/
def leastF (up : List Nat) (s : Nat) (k : Nat) : Bool := s.testBit k && sub s (up.getD k 0)
def least (up : List Nat) (s : Nat) : Option Nat := (List.range up.length).find? (leastF up s)
def leastN (up : List Nat) (s : Nat) : Nat := (least up s).getD 0
def leastB (up : List Nat) (s : Nat) : Bool := (least up s).isSome
def joinS (up : List Nat) (a b : Nat) : Nat := up.getD a 0 &&& up.getD b 0
def allS (n : Nat) : Nat := 2 ^ n - 1

theorem andNot_zero (x y : Nat) (hx : x < 4294967296) (hy : y < 4294967296) : (x &&& (4294967295 - y) == 0) = sub x y := by
  have e : 4294967295 - y = 2 ^ 32 - (y + 1) := by omega
  rw [e, Bool.eq_iff_iff]
  unfold sub
  rw [beq_iff_eq, beq_iff_eq]
  constructor
  · intro h
    apply Nat.eq_of_testBit_eq
    intro i
    have hi := congrArg (fun n => n.testBit i) h
    simp only [Nat.testBit_and, Nat.zero_testBit] at hi
    rw [Nat.testBit_two_pow_sub_succ (by omega)] at hi
    rw [Nat.testBit_and]
    cases hxi : x.testBit i with
    | false => simp
    | true =>
      rw [hxi] at hi
      have : i < 32 := by
        rcases Nat.lt_or_ge i 32 with h | h
        · exact h
        · rw [Nat.testBit_lt_two_pow (Nat.lt_of_lt_of_le hx (Nat.pow_le_pow_right (show 2 > 0 by decide) h))] at hxi
          cases hxi
      simpa [this] using hi
  · intro h
    apply Nat.eq_of_testBit_eq
    intro i
    have hi := congrArg (fun n => n.testBit i) h
    simp only [Nat.testBit_and] at hi
    rw [Nat.testBit_and, Nat.testBit_two_pow_sub_succ (by omega), Nat.zero_testBit]
    cases hxi : x.testBit i <;> simp_all

theorem bit_one (x b : Nat) : (x / 2 ^ b &&& 1 == 1) = x.testBit b := by
  rw [Nat.testBit_eq_decide_div_mod_eq, Nat.and_one_is_mod]
  rfl

/-- The first k pairs of places below n, in order. -/
def upto (n k : Nat) : List (Nat × Nat) := (List.range k).map fun i => (i / n, i % n)
def pairs (n : Nat) : List (Nat × Nat) := upto n (n * n)
theorem upto_succ {n a b : Nat} (hb : b < n) : upto n (a * n + b + 1) = upto n (a * n + b) ++ [(a, b)] := by
  unfold upto
  rw [List.range_succ, List.map_append]
  have h1 : (a * n + b) / n = a := by rw [Nat.mul_comm, Nat.mul_add_div (by omega), Nat.div_eq_of_lt hb, Nat.add_zero]
  have h2 : (a * n + b) % n = b := by rw [Nat.mul_comm, Nat.mul_add_mod, Nat.mod_eq_of_lt hb]
  simp [h1, h2]
theorem place_lt {n a b : Nat} (ha : a < n) (hb : b < n) : a * n + b < n * n := by
  have : (a + 1) * n ≤ n * n := Nat.mul_le_mul_right n (by omega)
  rw [Nat.succ_mul] at this
  omega
theorem upto_lt {n a b : Nat} (_ : a ≤ n) (ha : a < n) (hb : b < n) : (upto n (a * n + b)).length < n * n := by
  unfold upto
  simpa using place_lt ha hb
theorem range_prefix {i j : Nat} (h : i ≤ j) : List.range i <+: List.range j := by
  refine ⟨(List.range (j - i)).map (i + ·), ?_⟩
  obtain ⟨d, rfl⟩ : ∃ d, j = i + d := ⟨j - i, by omega⟩
  rw [List.range_add]
  simp
theorem upto_prefix {n a b : Nat} (ha : a < n) (hb : b < n) : upto n (a * n + b) ++ [(a, b)] <+: pairs n := by
  rw [← upto_succ hb]
  unfold pairs upto
  exact (range_prefix (place_lt ha hb)).map _
theorem mem_pairs {n : Nat} {p : Nat × Nat} : p ∈ pairs n ↔ p.1 < n ∧ p.2 < n := by
  unfold pairs upto
  simp only [List.mem_map, List.mem_range]
  constructor
  · rintro ⟨k, hk, rfl⟩
    exact ⟨Nat.div_lt_of_lt_mul hk, Nat.mod_lt _ (by rcases Nat.eq_zero_or_pos n with h | h; · subst h; simp at hk
                                                     · exact h)⟩
  · rintro ⟨h1, h2⟩
    refine ⟨p.1 * n + p.2, place_lt h1 h2, ?_⟩
    rw [Nat.mul_comm, Nat.mul_add_div (by omega), Nat.div_eq_of_lt h2, Nat.mul_add_mod, Nat.mod_eq_of_lt h2]
    rfl

/-- What a pair must keep in an order. -/
def ordOk (up : List Nat) (p : Nat × Nat) : Bool :=
  if p.1 = p.2 then fl up p.1 p.2 else !fl up p.1 p.2 || (!fl up p.2 p.1 && sub (up.getD p.2 0) (up.getD p.1 0))
def isOrder (up : List Nat) : Bool := (pairs up.length).all (ordOk up)
theorem sub_self (x : Nat) : sub x x = true := by unfold sub; simp
theorem all_snoc {f : Nat × Nat → Bool} {pre : List (Nat × Nat)} {p : Nat × Nat} : (pre ++ [p]).all f = (pre.all f && f p) := by simp
theorem all_false {f : Nat × Nat → Bool} {pre ps : List (Nat × Nat)} (hp : pre <+: ps) (h : pre.all f = false) : ps.all f = false := by
  obtain ⟨t, rfl⟩ := hp
  rw [List.all_append, h]
  rfl

/-- The order upside down, as it is made: pair by pair. -/
def stepT (up d : List Nat) (p : Nat × Nat) : List Nat := if fl up p.1 p.2 then d.set p.2 (d.getD p.2 0 ||| 2 ^ p.1) else d
def turnTo (up : List Nat) (pre : List (Nat × Nat)) : List Nat := pre.foldl (stepT up) (List.replicate up.length 0)
def turned (up : List Nat) : List Nat := turnTo up (pairs up.length)
theorem turnTo_snoc (up : List Nat) (pre : List (Nat × Nat)) (p : Nat × Nat) : turnTo up (pre ++ [p]) = stepT up (turnTo up pre) p := by simp [turnTo]
theorem stepT_length (up d : List Nat) (p : Nat × Nat) : (stepT up d p).length = d.length := by unfold stepT; split <;> simp
theorem turnTo_length (up : List Nat) (pre : List (Nat × Nat)) : (turnTo up pre).length = up.length := by
  unfold turnTo
  generalize hd : List.replicate up.length 0 = d
  have : d.length = up.length := by rw [← hd]; simp
  rw [← this]
  clear hd this
  induction pre generalizing d with
  | nil => rfl
  | cons p r ih => simp only [List.foldl_cons]; rw [ih, stepT_length]
theorem turned_length (up : List Nat) : (turned up).length = up.length := turnTo_length _ _
/-- Every number stays below 2^n, if all first places are below n. -/
theorem stepT_lt {up d : List Nat} {p : Nat × Nat} {n : Nat} (hp : p.1 < n) (hd : ∀ k x : Nat, d[k]? = some x → x < 2 ^ n) : ∀ k x : Nat, (stepT up d p)[k]? = some x → x < 2 ^ n := by
  intro k x hx
  unfold stepT at hx
  split at hx
  · rw [List.getElem?_set] at hx
    split at hx
    · split at hx
      · injection hx with hx
        rw [← hx]
        refine Nat.or_lt_two_pow ?_ (Nat.pow_lt_pow_right (by decide) hp)
        rw [List.getD_eq_getElem?_getD]
        cases e : d[p.2]? with
        | none => exact Nat.pow_pos (by decide)
        | some y => exact hd _ _ e
      · cases hx
    · exact hd k x hx
  · exact hd k x hx
theorem turnTo_lt {up : List Nat} {n : Nat} {pre : List (Nat × Nat)} (hp : ∀ p ∈ pre, p.1 < n) : ∀ k x : Nat, (turnTo up pre)[k]? = some x → x < 2 ^ n := by
  unfold turnTo
  have h0 : ∀ k x : Nat, (List.replicate up.length 0)[k]? = some x → x < 2 ^ n := by
    intro k x hx
    rw [List.getElem?_replicate] at hx
    split at hx
    · injection hx with hx; rw [← hx]; exact Nat.pow_pos (by decide)
    · cases hx
  generalize List.replicate up.length 0 = d at h0
  induction pre generalizing d with
  | nil => exact h0
  | cons p r ih => exact ih (fun q hq => hp q (List.mem_cons_of_mem _ hq)) _ (stepT_lt (hp p (List.mem_cons_self)) h0)
/-- Bit by bit: what has been set. -/
theorem turnTo_bit {up : List Nat} {pre : List (Nat × Nat)} (a b : Nat) (hb : b < up.length) : ((turnTo up pre).getD b 0).testBit a = (fl up a b && decide ((a, b) ∈ pre)) := by
  suffices H : ∀ (pre : List (Nat × Nat)) (d : List Nat), d.length = up.length → ((pre.foldl (stepT up) d).getD b 0).testBit a = ((d.getD b 0).testBit a || (fl up a b && decide ((a, b) ∈ pre))) by
    unfold turnTo
    rw [H _ _ (by simp)]
    have : ((List.replicate up.length 0).getD b 0).testBit a = false := by
      rw [List.getD_eq_getElem?_getD, List.getElem?_replicate]; split <;> simp
    rw [this, Bool.false_or]
  intro pre
  induction pre with
  | nil => intro d _; simp
  | cons p r ih =>
    intro d hd
    simp only [List.foldl_cons]
    rw [ih _ (by rw [stepT_length, hd])]
    have hs : ((stepT up d p).getD b 0).testBit a = ((d.getD b 0).testBit a || (fl up a b && decide (p = (a, b)))) := by
      obtain ⟨p1, p2⟩ := p
      unfold stepT
      by_cases hf : fl up p1 p2 = true
      · simp only [hf, if_true]
        rw [List.getD_eq_getElem?_getD, List.getElem?_set]
        by_cases h2 : p2 = b
        · subst h2
          simp only [if_true, show p2 < d.length by omega, Option.getD_some, Nat.testBit_or, Nat.testBit_two_pow]
          by_cases h1 : p1 = a
          · subst h1; simp [hf]
          · simp [h1]
        · simp only [h2, if_false, ← List.getD_eq_getElem?_getD, Prod.mk.injEq, and_false, decide_false, Bool.and_false, Bool.or_false]
      · simp only [hf, Bool.false_eq_true, if_false]
        by_cases h : (p1, p2) = (a, b)
        · simp only [Prod.mk.injEq] at h
          obtain ⟨rfl, rfl⟩ := h
          simp [hf]
        · simp [h]
    rw [hs, Bool.or_assoc, ← Bool.and_or_distrib_left]
    congr 2
    simp only [List.mem_cons]
    by_cases h : p = (a, b)
    · simp [h]
    · have h' : ¬ (a, b) = p := fun e => h e.symm
      simp [h, h']
theorem turned_bit {up : List Nat} {a b : Nat} (ha : a < up.length) (hb : b < up.length) : fl (turned up) b a = fl up a b := by
  unfold fl turned
  rw [turnTo_bit a b hb]
  simp [mem_pairs, ha, hb, fl]

def latOk (up : List Nat) (p : Nat × Nat) : Bool := leastB up (joinS up p.1 p.2) && leastB (turned up) (joinS (turned up) p.1 p.2)
def isLattice (up : List Nat) : Bool := (pairs up.length).all (latOk up)

theorem find_range (f : Nat → Bool) (n k : Nat) (hk : k < n) (hno : ∀ j, j < k → f j = false) (hf : f k = true) : (List.range n).find? f = some k := by
  rw [List.find?_eq_some_iff_append]
  refine ⟨hf, List.range k, (List.range (n - (k + 1))).map (· + (k + 1)), ?_, fun a ha => by simp only [List.mem_range] at ha; simp [hno a ha]⟩
  apply List.ext_getElem?
  intro i
  rcases Nat.lt_trichotomy i k with h | h | h
  · rw [List.getElem?_append_left (by simpa using h), List.getElem?_range (by omega), List.getElem?_range h]
  · subst h
    rw [List.getElem?_append_right (by simp), List.getElem?_range (by omega)]
    simp
  · rw [List.getElem?_append_right (by simp; omega)]
    obtain ⟨m, rfl⟩ : ∃ m, i = k + 1 + m := ⟨i - (k + 1), by omega⟩
    rw [show k + 1 + m - (List.range k).length = m + 1 from by simp; omega, List.getElem?_cons_succ, List.getElem?_map]
    by_cases hm : k + 1 + m < n
    · rw [List.getElem?_range hm, List.getElem?_range (by omega)]
      simp
      omega
    · rw [List.getElem?_eq_none (by simp; omega), List.getElem?_eq_none (by simp; omega)]
      rfl
theorem find_range_none (f : Nat → Bool) (n : Nat) (hno : ∀ j, j < n → f j = false) : (List.range n).find? f = none := by
  rw [List.find?_eq_none]
  intro x hx
  simp only [List.mem_range] at hx
  simp [hno x hx]
theorem least_some {up : List Nat} {s k : Nat} (hk : k < up.length) (hno : ∀ j, j < k → leastF up s j = false) (hf : leastF up s k = true) : leastN up s = k ∧ leastB up s = true := by
  have := find_range _ _ _ hk hno hf
  exact ⟨by unfold leastN least; rw [this]; rfl, by unfold leastB least; rw [this]; rfl⟩
theorem least_none {up : List Nat} {s : Nat} (hno : ∀ j, j < up.length → leastF up s j = false) : leastN up s = 0 ∧ leastB up s = false := by
  have := find_range_none _ _ hno
  exact ⟨by unfold leastN least; rw [this]; rfl, by unfold leastB least; rw [this]; rfl⟩
end Go.Proofs.Ytmbgndcahlopdaa.Lat

/- Orders as plain data: transitivity, heights. No program. -/
namespace Go.Proofs.Ytmbgndcahlopdaa.Lat

theorem sub_bit {x y : Nat} (h : sub x y = true) (i : Nat) (hx : x.testBit i = true) : y.testBit i = true := by
  unfold sub at h
  rw [beq_iff_eq] at h
  have := congrArg (fun n => n.testBit i) h
  simp only [Nat.testBit_and, hx, Bool.true_and] at this
  exact this
theorem sub_of_bits {x y : Nat} (h : ∀ i, x.testBit i = true → y.testBit i = true) : sub x y = true := by
  unfold sub
  rw [beq_iff_eq]
  apply Nat.eq_of_testBit_eq
  intro i
  rw [Nat.testBit_and]
  cases e : x.testBit i with
  | false => rfl
  | true => rw [h i e]; rfl

section
variable {up : List Nat} (ho : isOrder up = true)
include ho
theorem ord_at {a b : Nat} (ha : a < up.length) (hb : b < up.length) : ordOk up (a, b) = true := by
  unfold isOrder at ho
  rw [List.all_eq_true] at ho
  exact ho (a, b) (mem_pairs.2 ⟨ha, hb⟩)
theorem ord_refl {a : Nat} (ha : a < up.length) : fl up a a = true := by
  have := ord_at ho ha ha
  simpa [ordOk] using this
theorem ord_anti {a b : Nat} (ha : a < up.length) (hb : b < up.length) (h1 : fl up a b = true) (h2 : fl up b a = true) : a = b := by
  by_cases hab : a = b
  · exact hab
  · have := ord_at ho ha hb
    simp [ordOk, hab, h1, h2] at this
theorem ord_sub {a b : Nat} (ha : a < up.length) (hb : b < up.length) (h1 : fl up a b = true) : sub (up.getD b 0) (up.getD a 0) = true := by
  by_cases hab : a = b
  · subst hab; exact sub_self _
  · have := ord_at ho ha hb
    simp only [ordOk, hab, if_false, h1, Bool.not_true, Bool.false_or, Bool.and_eq_true] at this
    exact this.2
theorem ord_trans {a b c : Nat} (ha : a < up.length) (hb : b < up.length) (h1 : fl up a b = true) (h2 : fl up b c = true) : fl up a c = true :=
  sub_bit (ord_sub ho ha hb h1) c h2
end

end Go.Proofs.Ytmbgndcahlopdaa.Lat
