/- Tokens over plain data: they stand where they are told; joined, and read again, they are the same. -/
import Derived.Test.YtmgaaejghfgbnaaLexP
namespace Go.Proofs.Ytmgaaejghfgbnaa
set_option maxRecDepth 100000
namespace Lx

theorem run_cons (p : UInt8 → Bool) (c : UInt8) (r : List UInt8) : run p (c :: r) = if p c then run p r + 1 else 0 := by
  unfold run
  rw [List.takeWhile_cons]
  split <;> simp
theorem run_yes {p : UInt8 → Bool} {c : UInt8} (h : p c = true) (r : List UInt8) : run p (c :: r) = run p r + 1 := by rw [run_cons, if_pos h]
theorem run_no {p : UInt8 → Bool} {c : UInt8} (h : p c = false) (r : List UInt8) : run p (c :: r) = 0 := by rw [run_cons, if_neg (by rw [h]; decide)]
theorem letter_blank {c : UInt8} (h : letter c = true) : blank c = false := by
  cases hb : blank c
  · rfl
  · simp only [blank, Bool.or_eq_true, beq_iff_eq] at hb
    rcases hb with (rfl | rfl) | rfl <;> exact absurd h (by decide)
theorem digit_blank {c : UInt8} (h : digit c = true) : blank c = false := by
  cases hb : blank c
  · rfl
  · simp only [blank, Bool.or_eq_true, beq_iff_eq] at hb
    rcases hb with (rfl | rfl) | rfl <;> exact absurd h (by decide)
theorem letter_35 {c : UInt8} (h : letter c = true) : c ≠ 35 := by rintro rfl; exact absurd h (by decide)
theorem digit_35 {c : UInt8} (h : digit c = true) : c ≠ 35 := by rintro rfl; exact absurd h (by decide)
theorem digit_letter {c : UInt8} (h : digit c = true) : letter c = false := by
  simp only [digit, Bool.and_eq_true, decide_eq_true_eq, UInt8.le_iff_toNat_le] at h
  cases hl : letter c
  · rfl
  · simp only [letter, Bool.and_eq_true, decide_eq_true_eq, UInt8.le_iff_toNat_le] at hl
    have h1 : (57 : UInt8).toNat = 57 := rfl
    have h2 : (97 : UInt8).toNat = 97 := rfl
    omega
theorem mark_cases {c : UInt8} (h : marks.contains c = true) : blank c = false ∧ c ≠ 35 ∧ letter c = false ∧ digit c = false := by
  simp only [marks, List.contains_iff_mem, List.mem_cons, List.not_mem_nil, or_false] at h
  rcases h with rfl | rfl | rfl | rfl | rfl | rfl | rfl | rfl | rfl | rfl | rfl | rfl <;> decide
theorem first_letter {c : UInt8} (h : letter c = true) (r : List UInt8) : first (c :: r) = (1, run letter (c :: r)) := by
  unfold first
  rw [run_no (letter_blank h), comment_cons, if_neg (letter_35 h), if_neg (Nat.lt_irrefl 0), if_neg (Nat.lt_irrefl 0), if_pos (by rw [run_yes h]; omega)]
theorem first_digit {c : UInt8} (h : digit c = true) (r : List UInt8) : first (c :: r) = (2, run digit (c :: r)) := by
  unfold first
  rw [run_no (digit_blank h), comment_cons, if_neg (digit_35 h), run_no (digit_letter h), if_neg (Nat.lt_irrefl 0), if_neg (Nat.lt_irrefl 0), if_neg (Nat.lt_irrefl 0), if_pos (by rw [run_yes h]; omega)]
theorem first_mark {c : UInt8} (h : marks.contains c = true) (r : List UInt8) : first (c :: r) = (3, mark (c :: r)) := by
  obtain ⟨h1, h2, h3, h4⟩ := mark_cases h
  unfold first
  rw [run_no h1, comment_cons, if_neg h2, run_no h3, run_no h4, if_neg (Nat.lt_irrefl 0), if_neg (Nat.lt_irrefl 0), if_neg (Nat.lt_irrefl 0), if_neg (Nat.lt_irrefl 0), if_pos]
  rw [mark_cons, h]
  split
  · omega
  · simp
theorem first_blank {c : UInt8} (h : blank c = true) (r : List UInt8) : first (c :: r) = (-1, run blank (c :: r)) := by
  unfold first
  rw [if_pos (by rw [run_yes h]; omega)]
theorem first_sort {c : UInt8} {r : List UInt8} (h : (first (c :: r)).1 ≠ -1) : letter c = true ∨ digit c = true ∨ marks.contains c = true := by
  cases h1 : letter c
  · cases h2 : digit c
    · cases h3 : marks.contains c
      · refine absurd ?_ h
        have hm : mark (c :: r) = 0 := by
          rw [mark_cons, h3, if_neg, if_neg (by decide)]
          rintro ⟨rfl, _⟩
          exact absurd h3 (by decide)
        unfold first
        rw [run_no h1, run_no h2, hm, if_neg (Nat.lt_irrefl 0), if_neg (Nat.lt_irrefl 0), if_neg (Nat.lt_irrefl 0)]
        split
        · rfl
        · split <;> rfl
      · exact .inr (.inr rfl)
    · exact .inr (.inl rfl)
  · exact .inl rfl

/-- What may stand behind a token that stands alone. -/
def Stop (x : List UInt8) : Prop := x = [] ∨ ∃ y, x = 32 :: y
theorem run_stop {p : UInt8 → Bool} {x : List UInt8} (h : Stop x) (hp : p 32 = false) : ∀ l : List UInt8, (∀ c ∈ l, p c = true) → run p (l ++ x) = l.length
  | [], _ => by
    rcases h with rfl | ⟨y, rfl⟩
    · rfl
    · exact run_no hp y
  | c :: l, hl => by
    rw [List.cons_append, run_yes (hl c (by simp)), run_stop h hp l (fun d hd => hl d (by simp [hd])), List.length_cons]
theorem take_run (p : UInt8 → Bool) (r : List UInt8) : r.take (run p r) = r.takeWhile p := (List.prefix_iff_eq_take.1 (List.takeWhile_prefix p)).symm
theorem all_run (p : UInt8 → Bool) : ∀ r : List UInt8, ∀ c ∈ r.takeWhile p, p c = true
  | [], _, h => by simp at h
  | d :: r, c, h => by
    rw [List.takeWhile_cons] at h
    split at h
    · rcases List.mem_cons.1 h with rfl | h
      · assumption
      · exact all_run p r c h
    · simp at h

/-- A token that is read as itself wherever it stands alone. -/
def Alone (t : Tk) : Prop := 1 ≤ t.kind ∧ t.kind ≤ 3 ∧ t.text.data.toList ≠ [] ∧ ∀ x, Stop x → first (t.text.data.toList ++ x) = (t.kind, t.text.data.toList.length)
theorem alone_run {p : UInt8 → Bool} {kd : Int} (hk : 1 ≤ kd ∧ kd ≤ 3) (hp : p 32 = false) (hf : ∀ c r, p c = true → first (c :: r) = (kd, run p (c :: r))) (c : UInt8) (r : List UInt8) (hc : p c = true) (k : Int) : Alone ⟨kd, pack ((c :: r).take (run p (c :: r))), k⟩ := by
  refine ⟨hk.1, hk.2, ?_, fun x hx => ?_⟩
  · rw [pack_list, take_run, List.takeWhile_cons, if_pos hc]
    exact List.cons_ne_nil _ _
  · have ha := all_run p (c :: r)
    rw [pack_list, take_run]
    rw [List.takeWhile_cons, if_pos hc] at ha ⊢
    rw [List.cons_append, hf _ _ hc, ← List.cons_append, run_stop hx hp _ ha]
theorem alone_first {c : UInt8} {r : List UInt8} (h : (first (c :: r)).1 ≠ -1) (k : Int) : Alone ⟨(first (c :: r)).1, pack ((c :: r).take (first (c :: r)).2), k⟩ := by
  rcases first_sort h with h1 | h1 | h1
  · rw [first_letter h1]
    exact alone_run (by decide) (by decide) (fun c r hc => first_letter hc r) c r h1 k
  · rw [first_digit h1]
    exact alone_run (by decide) (by decide) (fun c r hc => first_digit hc r) c r h1 k
  · rw [first_mark h1]
    by_cases h2 : c = 60 ∧ r.head? = some 61
    · rw [mark_cons, if_pos h2]
      obtain ⟨rfl, h2⟩ := h2
      rcases r with _ | ⟨d, r⟩
      · simp at h2
      · simp only [List.head?_cons, Option.some.injEq] at h2
        subst h2
        refine ⟨show (1 : Int) ≤ 3 by decide, show (3 : Int) ≤ 3 by decide, by simp [pack_list], fun x _ => ?_⟩
        show first (60 :: 61 :: x) = (3, 2)
        rw [first_mark (by decide), mark_cons, if_pos ⟨rfl, rfl⟩]
    · rw [mark_cons, if_neg h2, if_pos h1]
      refine ⟨show (1 : Int) ≤ 3 by decide, show (3 : Int) ≤ 3 by decide, by simp [pack_list], fun x hx => ?_⟩
      show first (c :: x) = (3, 1)
      rw [first_mark h1, mark_cons, if_neg, if_pos h1]
      rintro ⟨_, h⟩
      rcases hx with rfl | ⟨y, rfl⟩ <;> simp at h

/-- Tokens stand where they are told, one behind the other. -/
def Stands (s : List UInt8) : Nat → List Tk → Prop
  | _, [] => True
  | k, t :: l => ∃ p : Nat, t.pos = p ∧ k ≤ p ∧ p + t.text.data.toList.length ≤ s.length ∧ Lib.hasPrefix (s.drop p) t.text.data.toList = true ∧ Stands s (p + t.text.data.toList.length) l
theorem Stands.less {s : List UInt8} {k k' : Nat} (h : k ≤ k') : ∀ {l : List Tk}, Stands s k' l → Stands s k l
  | [], _ => trivial
  | _ :: _, ⟨p, h1, h2, h3⟩ => ⟨p, h1, by omega, h3⟩

structure Told (s : List UInt8) (k : Nat) (r : List UInt8) (q : List Tk × Nat) : Prop where
  alone : ∀ t ∈ q.1, Alone t
  le : q.2 ≤ s.length
  sum : Lib.lens (q.1.map fun t => t.text.data.toList) ≤ r.length
  stands : ∀ t : Tk, t.pos = s.length → q.2 = s.length → t.text = ByteArray.empty → Stands s k (q.1 ++ [t])
theorem hasPrefix_take (r : List UInt8) (n : Nat) : Lib.hasPrefix r (r.take n) = true := by
  unfold Lib.hasPrefix
  rw [List.isPrefixOf_iff_prefix]
  exact List.take_prefix _ _
theorem toks_told (s : List UInt8) : ∀ (n k : Nat), k ≤ s.length → Told s k (s.drop k) (toks n (s.drop k) k)
  | 0, k, hk => ⟨by simp [toks], hk, by simp [toks, Lib.lens], fun t h1 h2 h3 => ⟨s.length, h1, hk, by rw [h3, empty_list]; exact Nat.le_refl _, by rw [h3, empty_list]; rfl, trivial⟩⟩
  | n + 1, k, hk => by
    have hstop : Told s k (s.drop k) ([], k) := ⟨by simp, hk, by simp [Lib.lens], fun t h1 h2 h3 => ⟨s.length, h1, hk, by rw [h3, empty_list]; exact Nat.le_refl _, by rw [h3, empty_list]; rfl, trivial⟩⟩
    by_cases hr : s.drop k = []
    · rw [hr, toks_end, ← hr]; exact hstop
    · by_cases h0 : (first (s.drop k)).2 = 0
      · rw [toks_bad h0]; exact hstop
      · have hle := first_le (s.drop k)
        rw [List.length_drop] at hle
        have ih := toks_told s n (k + (first (s.drop k)).2) (by omega)
        rw [← List.drop_drop] at ih
        have hlen : ((s.drop k).drop (first (s.drop k)).2).length = s.length - k - (first (s.drop k)).2 := by rw [List.length_drop, List.length_drop]
        by_cases h1 : (first (s.drop k)).1 = -1
        · rw [toks_skip hr h0 h1]
          refine ⟨ih.alone, ih.le, ?_, fun t a b c => (ih.stands t a b c).less (by omega)⟩
          have := ih.sum
          rw [hlen] at this
          rw [List.length_drop]
          omega
        · rw [toks_take hr h0 h1]
          have htl : ((s.drop k).take (first (s.drop k)).2).length = (first (s.drop k)).2 := by rw [List.length_take, List.length_drop]; omega
          refine ⟨?_, ih.le, ?_, fun t a b c => ?_⟩
          · intro t ht
            rcases List.mem_cons.1 ht with rfl | ht
            · obtain ⟨c, r, e⟩ : ∃ c r, s.drop k = c :: r := by
                cases e : s.drop k with
                | nil => exact absurd e hr
                | cons c r => exact ⟨c, r, rfl⟩
              rw [e] at h1 ⊢
              exact alone_first h1 _
            · exact ih.alone t ht
          · have := ih.sum
            rw [hlen] at this
            rw [List.length_drop]
            simp only [Lib.lens, List.map_cons, List.sum_cons, pack_list] at this ⊢
            rw [htl]
            omega
          · refine ⟨k, rfl, Nat.le_refl _, ?_, ?_, ?_⟩
            · rw [pack_list, htl]; omega
            · rw [pack_list]; exact hasPrefix_take _ _
            · rw [pack_list, htl]
              exact ih.stands t a b c

def kt (t : Tk) : Int × ByteArray := (t.kind, t.text)
theorem stop_tail (r : List (List UInt8)) : Stop (Lib.joinTail [32] r) := by
  cases r with
  | nil => exact .inl rfl
  | cons y r => exact .inr ⟨y ++ Lib.joinTail [32] r, by simp [Lib.joinTail]⟩
theorem first_gap {t : Tk} (h : Alone t) {x : List UInt8} (hx : Stop x) : first (32 :: (t.text.data.toList ++ x)) = (-1, 1) := by
  rw [first_blank (by decide), run_yes (by decide)]
  have h0 : run blank (t.text.data.toList ++ x) = 0 := by
    have := h.2.2.2 x hx
    rcases Nat.eq_zero_or_pos (run blank (t.text.data.toList ++ x)) with h0 | h0
    · exact h0
    · unfold first at this
      rw [if_pos h0] at this
      have h1 := congrArg Prod.fst this
      have := h.1
      simp only at h1
      omega
  rw [h0]
theorem toks_one {t : Tk} {n k : Nat} {x : List UInt8} (h : Alone t) (hx : Stop x) : toks (n + 1) (t.text.data.toList ++ x) k = (⟨t.kind, t.text, k⟩ :: (toks n x (k + t.text.data.toList.length)).1, (toks n x (k + t.text.data.toList.length)).2) := by
  have hf := h.2.2.2 x hx
  have h1 := h.1
  rw [toks_take (by intro e; exact h.2.2.1 (List.append_eq_nil_iff.1 e).1) (by rw [hf]; exact fun e => h.2.2.1 (List.length_eq_zero_iff.1 e)) (by rw [hf]; show t.kind ≠ -1; omega), hf]
  simp only [List.take_left, List.drop_left]
  rw [pack_data]
theorem toks_tail : ∀ (l : List Tk) (n k : Nat), (∀ t ∈ l, Alone t) → (Lib.joinTail [32] (l.map fun t => t.text.data.toList)).length ≤ n →
    ∃ m, toks n (Lib.joinTail [32] (l.map fun t => t.text.data.toList)) k = (m, k + (Lib.joinTail [32] (l.map fun t => t.text.data.toList)).length) ∧ m.map kt = l.map kt
  | [], n, k, _, _ => ⟨[], by simp [Lib.joinTail, toks_end], rfl⟩
  | t :: l, n, k, hl, hn => by
    have ht := hl t (by simp)
    have e : Lib.joinTail [32] ((t :: l).map fun t => t.text.data.toList) = 32 :: (t.text.data.toList ++ Lib.joinTail [32] (l.map fun t => t.text.data.toList)) := by simp [Lib.joinTail]
    rw [e] at hn ⊢
    have hx := stop_tail (l.map fun t => t.text.data.toList)
    have hpos := List.length_pos_iff.2 ht.2.2.1
    simp only [List.length_cons, List.length_append] at hn
    obtain ⟨n, rfl⟩ : ∃ n', n = n' + 2 := ⟨n - 2, by omega⟩
    obtain ⟨m, hm, hk⟩ := toks_tail l n (k + 1 + t.text.data.toList.length) (fun t h => hl t (by simp [h])) (by omega)
    have hf := first_gap ht hx
    rw [toks_skip (by simp) (by rw [hf]; decide) (by rw [hf]), hf]
    simp only [List.drop_succ_cons, List.drop_zero]
    rw [toks_one ht hx, hm]
    refine ⟨⟨t.kind, t.text, ((k + 1 : Nat) : Int)⟩ :: m, ?_, by simp [kt, hk]⟩
    congr 1
    simp only [List.length_cons, List.length_append]
    omega
theorem toks_join (l : List Tk) (n : Nat) (hl : ∀ t ∈ l, Alone t) (hn : (Lib.join (l.map fun t => t.text.data.toList) [32]).length ≤ n) :
    ∃ m, toks n (Lib.join (l.map fun t => t.text.data.toList) [32]) 0 = (m, (Lib.join (l.map fun t => t.text.data.toList) [32]).length) ∧ m.map kt = l.map kt := by
  cases l with
  | nil => exact ⟨[], by simp [Lib.join_nil, toks_end], rfl⟩
  | cons t l =>
    have ht := hl t (by simp)
    rw [List.map_cons, Lib.join_cons] at hn ⊢
    have hx := stop_tail (l.map fun t => t.text.data.toList)
    have hpos := List.length_pos_iff.2 ht.2.2.1
    rw [List.length_append] at hn
    obtain ⟨n, rfl⟩ : ∃ n', n = n' + 1 := ⟨n - 1, by omega⟩
    obtain ⟨m, hm, hk⟩ := toks_tail l n (0 + t.text.data.toList.length) (fun t h => hl t (by simp [h])) (by omega)
    rw [toks_one ht hx, hm]
    refine ⟨⟨t.kind, t.text, ((0 : Nat) : Int)⟩ :: m, ?_, by simp [kt, hk]⟩
    congr 1
    rw [List.length_append]
    omega

theorem lex_ok {s : List UInt8} {l : List Tk} {a : Nat} (h : lex s = (l, a, 0)) : ∃ ts, l = ts ++ [⟨0, ByteArray.empty, (s.length : Nat)⟩] ∧ ts.length ≤ 199 ∧ (∀ t ∈ ts, Alone t) ∧ Stands s 0 l ∧ Lib.lens (ts.map fun t => t.text.data.toList) ≤ s.length := by
  unfold lex at h
  by_cases h1 : 2000 < s.length
  · rw [if_pos h1] at h; cases h
  · rw [if_neg h1] at h
    by_cases h2 : (toks s.length s 0).2 < s.length
    · rw [if_pos h2] at h; cases h
    · rw [if_neg h2] at h
      by_cases h3 : 200 < (toks s.length s 0).1.length + 1
      · rw [if_pos h3] at h; cases h
      · rw [if_neg h3] at h
        have hT := toks_told s s.length 0 (Nat.zero_le _)
        rw [List.drop_zero] at hT
        have he : (toks s.length s 0).2 = s.length := by have := hT.le; omega
        injection h with hl _
        rw [he] at hl
        subst hl
        exact ⟨_, rfl, by omega, hT.alone, hT.stands _ rfl he rfl, hT.sum⟩
theorem lens_join : ∀ (l : List (List UInt8)), (Lib.join l [32]).length ≤ Lib.lens l + l.length := by
  intro l
  cases l with
  | nil => simp [Lib.join_nil]
  | cons x r =>
    rw [Lib.join_cons, List.length_append, Lib.joinTail_length]
    simp only [Lib.lens, List.map_cons, List.sum_cons, List.length_cons, List.length_nil]
    omega
theorem texts_alone {ts : List Tk} (h : ∀ t ∈ ts, Alone t) (k : Int) : texts (ts ++ [⟨0, ByteArray.empty, k⟩]) = ts.map Tk.text := by
  unfold texts
  rw [List.map_append, List.filter_append, List.filter_eq_self.2]
  · exact List.append_nil _
  · intro x hx
    obtain ⟨t, ht, rfl⟩ := List.mem_map.1 hx
    have := (h t ht).2.2.1
    cases e : t.text.data.toList with
    | nil => exact absurd e this
    | cons _ _ => rfl
/-- Joined, and read again, tokens are the same. -/
theorem lex_back {s : List UInt8} {l : List Tk} {a : Nat} (hs : s.length ≤ 900) (h : lex s = (l, a, 0)) : (joined l).size ≤ 1200 ∧ ∃ m, lex (joined l).data.toList = (m, 0, 0) ∧ m.map kt = l.map kt := by
  obtain ⟨ts, rfl, hn, hal, _, hsum⟩ := lex_ok h
  have e : (joined (ts ++ [⟨0, ByteArray.empty, (s.length : Nat)⟩])).data.toList = Lib.join (ts.map fun t => t.text.data.toList) [32] := by
    unfold joined
    rw [texts_alone hal, pack_list, List.map_map]
    rfl
  have hlen := lens_join (ts.map fun t => t.text.data.toList)
  rw [List.length_map] at hlen
  rw [Lib.size_eq, e]
  refine ⟨by omega, ?_⟩
  obtain ⟨m, hm, hk⟩ := toks_join ts _ hal (Nat.le_refl _)
  have hml : m.length = ts.length := by have := congrArg List.length hk; simpa using this
  refine ⟨m ++ [⟨0, ByteArray.empty, ((Lib.join (ts.map fun t => t.text.data.toList) [32]).length : Nat)⟩], ?_, by simp [hk, kt]⟩
  unfold lex
  rw [if_neg (by omega), hm, if_neg (by simp), if_neg (by simp only [hml]; omega)]
end Lx
end Go.Proofs.Ytmgaaejghfgbnaa
