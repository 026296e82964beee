/- The package's answers and the reference's are the same. Plain data. -/
import Derived.Test.YtaingkjleelbfaaHeight
namespace Go.Proofs.Ytaingkjleelbfaa
open Lat

/-- All rows hold bits of labels alone. -/
def Rows (up : List Nat) : Prop := ∀ a, up.getD a 0 < 2 ^ up.length

theorem sub_all {x n : Nat} : sub x (allS n) = !highB x n := by
  have h2 : 0 < 2 ^ n := Nat.pow_pos (by decide)
  rw [Bool.eq_iff_iff]
  unfold highB
  simp only [Bool.not_eq_true', decide_eq_false_iff_not, Nat.not_lt, Nat.le_zero_eq]
  rw [Nat.div_eq_zero_iff]
  constructor
  · intro h
    right
    unfold sub allS at h
    rw [beq_iff_eq, Nat.and_two_pow_sub_one_eq_mod] at h
    rw [← h]
    exact Nat.mod_lt _ h2
  · intro h
    have hx : x < 2 ^ n := by rcases h with h | h <;> omega
    unfold sub allS
    rw [beq_iff_eq, Nat.and_two_pow_sub_one_eq_mod, Nat.mod_eq_of_lt hx]
theorem lt_of_sub {x n : Nat} (h : sub x (allS n) = true) : x < 2 ^ n := by
  rw [sub_all] at h
  unfold highB at h
  simp only [Bool.not_eq_true', decide_eq_false_iff_not, Nat.not_lt, Nat.le_zero_eq] at h
  rw [Nat.div_eq_zero_iff] at h
  have : 0 < 2 ^ n := Nat.pow_pos (by decide)
  rcases h with h | h <;> omega

theorem streq_symm (s t : ByteArray) : streq s t = streq t s := by
  unfold streq
  rw [Bool.eq_iff_iff, beq_iff_eq, beq_iff_eq]
  exact ⟨fun h => h.symm, fun h => h.symm⟩

theorem all_range {f : Nat → Bool} {n : Nat} : (List.range n).all f = true ↔ ∀ i, i < n → f i = true := by
  rw [List.all_eq_true]
  simp [List.mem_range]
theorem all_pairs {f : Nat × Nat → Bool} {n : Nat} : (pairs n).all f = true ↔ ∀ a b, a < n → b < n → f (a, b) = true := by
  rw [List.all_eq_true]
  constructor
  · intro h a b ha hb; exact h _ (mem_pairs.2 ⟨ha, hb⟩)
  · rintro h ⟨a, b⟩ hp; exact h a b (mem_pairs.1 hp).1 (mem_pairs.1 hp).2

theorem may_same (names : List ByteArray) (up : List Nat) : mayB names up = rMay names up := by
  unfold mayB rMay
  cases hl : (decide (1 ≤ up.length) && decide (up.length ≤ 8) && decide (names.length = up.length)) with
  | false => rfl
  | true =>
    simp only [Bool.and_eq_true, decide_eq_true_eq] at hl
    obtain ⟨_, hlen⟩ := hl
    rw [hlen, Bool.true_and, Bool.true_and, Bool.eq_iff_iff, Bool.and_eq_true, all_range, all_range, all_pairs]
    constructor
    · rintro ⟨h1, h2⟩ i hi
      have hr := h1 i hi
      unfold rowOk at hr
      rw [Bool.and_eq_true, sub_all] at hr
      unfold lineOk
      rw [Bool.and_eq_true, Bool.and_eq_true, all_range]
      refine ⟨⟨hr.2, hr.1⟩, fun j hj => ?_⟩
      have := h2 i j hi (by omega)
      unfold twoOk at this
      have hne : (i != j) = true := by rw [bne_iff_ne]; omega
      simp only [hne, Bool.true_and] at this
      unfold dist nameAt
      rw [streq_symm]
      exact this
    · intro h
      refine ⟨fun i hi => ?_, fun a b ha hb => ?_⟩
      · have := h i hi
        unfold lineOk at this
        rw [Bool.and_eq_true, Bool.and_eq_true] at this
        unfold rowOk
        rw [Bool.and_eq_true, sub_all]
        exact ⟨this.1.2, this.1.1⟩
      · unfold twoOk
        rcases Nat.lt_trichotomy a b with hab | hab | hab
        · have := h b hb
          unfold lineOk at this
          rw [Bool.and_eq_true, all_range] at this
          have := this.2 a hab
          unfold dist nameAt at this
          have hne : (a != b) = true := by rw [bne_iff_ne]; omega
          simp only [hne, Bool.true_and]
          exact this
        · subst hab; simp
        · have := h a ha
          unfold lineOk at this
          rw [Bool.and_eq_true, all_range] at this
          have := this.2 b hab
          unfold dist nameAt at this
          have hne : (a != b) = true := by rw [bne_iff_ne]; omega
          simp only [hne, Bool.true_and]
          rw [streq_symm]
          exact this

theorem rows_of_may {names : List ByteArray} {up : List Nat} (h : mayB names up = true) : Rows up := by
  unfold mayB at h
  simp only [Bool.and_eq_true] at h
  have h1 := h.2.1
  rw [all_range] at h1
  intro a
  by_cases ha : a < up.length
  · have := h1 a ha
    unfold rowOk at this
    rw [Bool.and_eq_true] at this
    exact lt_of_sub this.1
  · rw [List.getD_eq_getElem?_getD, List.getElem?_eq_none (by omega)]
    exact Nat.pow_pos (by decide)

theorem fl_lt {up : List Nat} (h : Rows up) {a b : Nat} (hf : fl up a b = true) : b < up.length := by
  rcases Nat.lt_or_ge b up.length with hb | hb
  · exact hb
  · unfold fl at hf
    rw [Nat.testBit_lt_two_pow (Nat.lt_of_lt_of_le (h a) (Nat.pow_le_pow_right (show 2 > 0 by decide) hb))] at hf
    cases hf

theorem sub_rows {up : List Nat} (h : Rows up) (a b : Nat) : sub (up.getD b 0) (up.getD a 0) = true ↔ ∀ c, c < up.length → fl up b c = true → fl up a c = true := by
  constructor
  · intro hs c _ hc; exact sub_bit hs c hc
  · intro hc
    exact sub_of_bits fun i hi => hc i (fl_lt h hi) hi

theorem order_same {up : List Nat} (h : Rows up) : isOrder up = rOrder up := by
  rw [Bool.eq_iff_iff]
  unfold isOrder rOrder
  rw [all_pairs, all_range]
  constructor
  · intro ho
    have ho' : isOrder up = true := by unfold isOrder; rw [all_pairs]; exact ho
    intro a ha
    unfold uno
    rw [Bool.and_eq_true, all_range]
    refine ⟨ord_refl ho' ha, fun b hb => ?_⟩
    unfold duo
    rw [Bool.and_eq_true, all_range]
    refine ⟨?_, fun c hc => ?_⟩
    · cases e1 : fl up a b <;> cases e2 : fl up b a <;> simp
      exact ord_anti ho' ha hb e1 e2
    · unfold tri
      cases e1 : fl up a b <;> cases e2 : fl up b c <;> simp
      exact ord_trans ho' ha hb e1 e2
  · intro ho a b ha hb
    have h1 := ho a ha
    unfold uno at h1
    rw [Bool.and_eq_true, all_range] at h1
    have h2 := h1.2 b hb
    unfold duo at h2
    rw [Bool.and_eq_true, all_range] at h2
    unfold ordOk
    by_cases hab : a = b
    · subst hab; simp [h1.1]
    · simp only [hab, if_false]
      cases e1 : fl up a b with
      | false => rfl
      | true =>
        have hba : fl up b a = false := by
          have := h2.1
          simp only [e1, Bool.and_true] at this
          have hne : (a != b) = true := by rw [bne_iff_ne]; exact hab
          simp only [hne, Bool.true_and] at this
          simpa using this
        simp only [Bool.not_true, Bool.false_or, hba, Bool.not_false, Bool.true_and]
        rw [sub_rows h]
        intro c hc hbc
        have := h2.2 c hc
        unfold tri at this
        simpa [e1, hbc] using this

theorem joinS_bit (up : List Nat) (a b c : Nat) : (joinS up a b).testBit c = (fl up a c && fl up b c) := by
  unfold joinS fl; rw [Nat.testBit_and]
theorem leastF_j {up : List Nat} (h : Rows up) (a b c : Nat) : leastF up (joinS up a b) c = jOk up a b c := by
  unfold leastF jOk
  rw [joinS_bit]
  congr 1
  rw [Bool.eq_iff_iff, all_range]
  constructor
  · intro hs d _
    unfold jAll
    cases e1 : fl up a d <;> cases e2 : fl up b d <;> simp
    exact sub_bit hs d (by rw [joinS_bit, e1, e2]; rfl)
  · intro hd
    refine sub_of_bits fun i hi => ?_
    rw [joinS_bit, Bool.and_eq_true] at hi
    have := hd i (fl_lt h hi.1)
    unfold jAll at this
    have : fl up c i = true := by simpa [hi.1, hi.2] using this
    exact this
theorem find_same {f g : Nat → Bool} {n : Nat} (h : ∀ i, i < n → f i = g i) : (List.range n).find? f = (List.range n).find? g := by
  cases e : (List.range n).find? g with
  | none =>
    rw [List.find?_eq_none] at e ⊢
    intro x hx
    rw [h x (by simpa using hx)]
    exact e x hx
  | some k =>
    have hk : k < n := by simpa using List.mem_of_find?_eq_some e
    refine find_range f n k hk (fun j hj => ?_) (by rw [h k hk]; exact List.find?_some e)
    rw [h j (by omega)]
    rw [List.find?_eq_some_iff_append] at e
    obtain ⟨_, l1, l2, hl, hno⟩ := e
    have hjm : j ∈ l1 := by
      have hlen : l1.length = k := by
        have := congrArg (fun l => l[l1.length]?) hl
        simp only [List.getElem?_append_right (Nat.le_refl _), Nat.sub_self, List.getElem?_cons_zero] at this
        have hlt : l1.length < n := by
          have := congrArg List.length hl
          simp at this
          omega
        rw [List.getElem?_range hlt] at this
        injection this
      have hj2 : (List.range n)[j]? = l1[j]? := by rw [hl, List.getElem?_append_left (by omega)]
      rw [List.getElem?_range (by omega)] at hj2
      exact List.mem_of_getElem? hj2.symm
    simpa using hno j hjm
theorem join_same {up : List Nat} (h : Rows up) (a b : Nat) : rJoin up a b = if leastB up (joinS up a b) then (leastN up (joinS up a b) : Int) else -1 := by
  unfold rJoin leastB leastN least
  rw [find_same (fun i _ => (leastF_j h a b i).symm)]
  cases (List.range up.length).find? (leastF up (joinS up a b)) <;> simp

theorem rows_turned (up : List Nat) : Rows (turned up) := by
  intro a
  rw [turned_length, List.getD_eq_getElem?_getD]
  cases e : (turned up)[a]? with
  | none => exact Nat.pow_pos (by decide)
  | some x => exact turnTo_lt (n := up.length) (fun p hp => (mem_pairs.1 hp).1) a x e
theorem leastF_m {up : List Nat} {a b c : Nat} (ha : a < up.length) (hb : b < up.length) (hc : c < up.length) : leastF (turned up) (joinS (turned up) a b) c = mOk up a b c := by
  rw [leastF_j (rows_turned up)]
  unfold jOk mOk
  rw [turned_bit hc ha, turned_bit hc hb, turned_length]
  congr 1
  rw [Bool.eq_iff_iff, all_range, all_range]
  have : ∀ d, d < up.length → jAll (turned up) a b c d = mAll up a b c d := by
    intro d hd
    unfold jAll mAll
    rw [turned_bit hd ha, turned_bit hd hb, turned_bit hd hc]
  constructor
  · intro h d hd; rw [← this d hd]; exact h d hd
  · intro h d hd; rw [this d hd]; exact h d hd
theorem meet_same {up : List Nat} {a b : Nat} (ha : a < up.length) (hb : b < up.length) : rMeet up a b = if leastB (turned up) (joinS (turned up) a b) then (leastN (turned up) (joinS (turned up) a b) : Int) else -1 := by
  unfold rMeet leastB leastN least
  rw [turned_length, find_same (fun i hi => (leastF_m ha hb hi).symm)]
  cases (List.range up.length).find? (leastF (turned up) (joinS (turned up) a b)) <;> simp
theorem lattice_same {up : List Nat} (h : Rows up) : isLattice up = (List.range up.length).all (rBoth up) := by
  rw [Bool.eq_iff_iff]
  unfold isLattice
  rw [all_pairs, all_range]
  have : ∀ a b, a < up.length → b < up.length → latOk up (a, b) = bothOk up a b := by
    intro a b ha hb
    unfold latOk bothOk
    rw [join_same h, meet_same ha hb]
    cases leastB up (joinS up a b) <;> cases leastB (turned up) (joinS (turned up) a b) <;> simp
    all_goals omega
  constructor
  · intro hl a ha
    unfold rBoth
    rw [all_range]
    intro b hb
    rw [← this a b ha hb]
    exact hl a b ha hb
  · intro hl a b ha hb
    have := hl a ha
    unfold rBoth at this
    rw [all_range] at this
    rw [‹∀ a b, a < up.length → b < up.length → latOk up (a, b) = bothOk up a b› a b ha hb]
    exact this b hb
theorem check_same (names : List ByteArray) (up : List Nat) : checkN names up = rCheckN names up := by
  unfold checkN rCheckN
  rw [← may_same]
  cases hm : mayB names up with
  | false => rfl
  | true =>
    have h := rows_of_may hm
    rw [order_same h, lattice_same h]
end Go.Proofs.Ytaingkjleelbfaa
