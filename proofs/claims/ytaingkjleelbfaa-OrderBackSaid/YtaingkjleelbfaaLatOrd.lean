/- Orders as plain data: transitivity, heights. No program. -/
import Derived.Test.YtaingkjleelbfaaLat
namespace Go.Proofs.Ytaingkjleelbfaa.Lat

theorem sub_bit {x y : Nat} (h : sub x y = true) (i : Nat) (hx : x.testBit i = true) : y.testBit i = true := by
  unfold sub at h
  rw [beq_iff_eq] at h
  have := congrArg (fun n => n.testBit i) h
  simp only [Nat.testBit_and, hx, Bool.true_and] at this
  exact this
theorem sub_of_bits {x y : Nat} (h : ∀ i, x.testBit i = true → y.testBit i = true) : sub x y = true := by
  unfold sub
  rw [beq_iff_eq]
  apply Nat.eq_of_testBit_eq
  intro i
  rw [Nat.testBit_and]
  cases e : x.testBit i with
  | false => rfl
  | true => rw [h i e]; rfl

section
variable {up : List Nat} (ho : isOrder up = true)
include ho
theorem ord_at {a b : Nat} (ha : a < up.length) (hb : b < up.length) : ordOk up (a, b) = true := by
  unfold isOrder at ho
  rw [List.all_eq_true] at ho
  exact ho (a, b) (mem_pairs.2 ⟨ha, hb⟩)
theorem ord_refl {a : Nat} (ha : a < up.length) : fl up a a = true := by
  have := ord_at ho ha ha
  simpa [ordOk] using this
theorem ord_anti {a b : Nat} (ha : a < up.length) (hb : b < up.length) (h1 : fl up a b = true) (h2 : fl up b a = true) : a = b := by
  by_cases hab : a = b
  · exact hab
  · have := ord_at ho ha hb
    simp [ordOk, hab, h1, h2] at this
theorem ord_sub {a b : Nat} (ha : a < up.length) (hb : b < up.length) (h1 : fl up a b = true) : sub (up.getD b 0) (up.getD a 0) = true := by
  by_cases hab : a = b
  · subst hab; exact sub_self _
  · have := ord_at ho ha hb
    simp only [ordOk, hab, if_false, h1, Bool.not_true, Bool.false_or, Bool.and_eq_true] at this
    exact this.2
theorem ord_trans {a b c : Nat} (ha : a < up.length) (hb : b < up.length) (h1 : fl up a b = true) (h2 : fl up b c = true) : fl up a c = true :=
  sub_bit (ord_sub ho ha hb h1) c h2
end

/-- Is b another label that flows to a? -/
def und (up : List Nat) (a b : Nat) : Bool := b != a && fl up b a
def belowN (up : List Nat) (a : Nat) : Nat := ((List.range up.length).filter (und up a)).length
theorem belowN_le (up : List Nat) (a : Nat) : belowN up a ≤ up.length := by
  have := List.length_filter_le (und up a) (List.range up.length)
  simpa [belowN] using this

theorem filter_lt {f g : Nat → Bool} {l : List Nat} (hfg : ∀ x ∈ l, f x = true → g x = true) {y : Nat} (hy : y ∈ l) (h1 : f y = false) (h2 : g y = true) : (l.filter f).length < (l.filter g).length := by
  induction l with
  | nil => cases hy
  | cons x r ih =>
    have hle : (r.filter f).length ≤ (r.filter g).length := by
      clear ih hy
      induction r with
      | nil => simp
      | cons z r ih2 =>
        have hz := hfg z (by simp)
        have := ih2 (fun q hq => hfg q (by simp only [List.mem_cons] at hq ⊢; rcases hq with h | h; exact .inl h; exact .inr (.inr h)))
        cases e1 : f z <;> cases e2 : g z <;> simp [e1, e2] <;> first | omega | (rw [e1] at hz; rw [hz rfl] at e2; cases e2)
    rcases List.mem_cons.1 hy with rfl | hy
    · simp [h1, h2]; omega
    · have := ih (fun q hq => hfg q (List.mem_cons_of_mem _ hq)) hy
      have hx := hfg x (by simp)
      cases e1 : f x <;> cases e2 : g x <;> simp [e1, e2] <;> first | omega | (rw [e1] at hx; rw [hx rfl] at e2; cases e2)

theorem belowN_lt {up : List Nat} (ho : isOrder up = true) {a b : Nat} (ha : a < up.length) (hb : b < up.length) (h : und up a b = true) : belowN up b < belowN up a := by
  unfold und at h
  simp only [Bool.and_eq_true, bne_iff_ne] at h
  obtain ⟨hne, hf⟩ := h
  refine filter_lt (fun x hx hu => ?_) (y := b) (by simpa using hb) (by simp [und]) (by simp [und, hne, hf])
  simp only [List.mem_range] at hx
  unfold und at hu ⊢
  simp only [Bool.and_eq_true, bne_iff_ne] at hu ⊢
  obtain ⟨hxb, hfx⟩ := hu
  refine ⟨?_, ord_trans ho hx hb hfx hf⟩
  rintro rfl
  exact hxb (ord_anti ho hx hb hfx hf)

/-- The height, by fuel. -/
def ht (up : List Nat) : Nat → Nat → Nat
  | 0, _ => 0
  | f + 1, a => (List.range up.length).foldl (fun m b => if und up a b then max m (ht up f b + 1) else m) 0
def htTo (up : List Nat) (f a k : Nat) : Nat := (List.range k).foldl (fun m b => if und up a b then max m (ht up f b + 1) else m) 0
theorem ht_succ (up : List Nat) (f a : Nat) : ht up (f + 1) a = htTo up f a up.length := rfl
theorem htTo_zero (up : List Nat) (f a : Nat) : htTo up f a 0 = 0 := rfl
theorem htTo_succ (up : List Nat) (f a k : Nat) : htTo up f a (k + 1) = if und up a k then max (htTo up f a k) (ht up f k + 1) else htTo up f a k := by
  simp [htTo, List.range_succ]
theorem ht_le (up : List Nat) (f : Nat) : ∀ a, ht up f a ≤ f := by
  induction f with
  | zero => intro a; exact Nat.le_refl _
  | succ f ih =>
    intro a
    rw [ht_succ]
    generalize up.length = n
    induction n with
    | zero => simp [htTo_zero]
    | succ n ih2 =>
      rw [htTo_succ]
      have := ih n
      split <;> omega
theorem htTo_le (up : List Nat) (f a k : Nat) : htTo up f a k ≤ f + 1 := by
  induction k with
  | zero => simp [htTo_zero]
  | succ k ih =>
    rw [htTo_succ]
    have := ht_le up f k
    split <;> omega
theorem htTo_mono (up : List Nat) (f a : Nat) {k m : Nat} (h : k ≤ m) : htTo up f a k ≤ htTo up f a m := by
  induction m with
  | zero => have : k = 0 := by omega
            subst this; exact Nat.le_refl _
  | succ m ih =>
    rcases Nat.lt_or_eq_of_le h with h | rfl
    · have := ih (by omega)
      rw [htTo_succ]
      split <;> omega
    · exact Nat.le_refl _
/-- Fuel beyond what is below changes nothing. -/
theorem ht_stable {up : List Nat} (ho : isOrder up = true) : ∀ (f a : Nat), a < up.length → belowN up a < f → ht up (f + 1) a = ht up f a := by
  intro f
  induction f with
  | zero => intro a _ h; omega
  | succ f ih =>
    intro a ha hlt
    rw [ht_succ, ht_succ]
    suffices H : ∀ k, k ≤ up.length → htTo up (f + 1) a k = htTo up f a k from H _ (Nat.le_refl _)
    intro k
    induction k with
    | zero => intro _; rfl
    | succ k ih2 =>
      intro hk
      rw [htTo_succ, htTo_succ, ih2 (by omega)]
      by_cases hu : und up a k = true
      · rw [if_pos hu, if_pos hu, ih k (by omega) (by have := belowN_lt ho ha (by omega : k < up.length) hu; omega)]
      · rw [if_neg hu, if_neg hu]
def htS (up : List Nat) (a : Nat) : Nat := ht up (up.length + 1) a
theorem htS_lt {up : List Nat} (ho : isOrder up = true) {a b : Nat} (ha : a < up.length) (hb : b < up.length) (h : und up a b = true) : htS up b < htS up a := by
  have h1 : htS up b = ht up up.length b := by
    unfold htS
    exact ht_stable ho _ b hb (by have := belowN_lt ho ha hb h; have := belowN_le up a; omega)
  have h2 : htS up a = htTo up up.length a up.length := rfl
  have h3 : htTo up up.length a (b + 1) ≤ htTo up up.length a up.length := htTo_mono _ _ _ hb
  rw [htTo_succ, if_pos h] at h3
  omega
theorem htS_zero {up : List Nat} {a : Nat} (h : ∀ b, b < up.length → und up a b = false) : htS up a = 0 := by
  have h2 : htS up a = htTo up up.length a up.length := rfl
  rw [h2]
  suffices H : ∀ k, k ≤ up.length → htTo up up.length a k = 0 from H _ (Nat.le_refl _)
  intro k
  induction k with
  | zero => intro _; rfl
  | succ k ih => intro hk; rw [htTo_succ, h k (by omega), ih (by omega)]; rfl
end Go.Proofs.Ytaingkjleelbfaa.Lat
