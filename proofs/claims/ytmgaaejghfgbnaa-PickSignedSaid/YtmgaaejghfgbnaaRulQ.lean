/- What is told, read again up to its end alone, is the same. Over no program. -/
import Derived.Test.YtmgaaejghfgbnaaRulP
namespace Go.Proofs.Ytmgaaejghfgbnaa
set_option maxRecDepth 100000
namespace Rl
open Lx (Tk)

/-- The tokens m are those of l from i up to e, and an end. -/
structure Part (l m : List Tk) (i e : Nat) : Prop where
  same : ∀ j, i ≤ j → j < e → m[j - i]? = l[j]?
  fin : ∃ t, m[e - i]? = some t ∧ t.kind = 0
  len : m.length = e - i + 1
  le : i ≤ e
  lt : e < l.length
section
variable {l m : List Tk} {i e : Nat}
theorem Part.no (h : Part l m i e) (w : ByteArray) : isN m (e - i) w = false := by
  obtain ⟨t, ht, hk⟩ := h.fin
  unfold isN
  rw [ht]
  exact decide_eq_false fun h1 => by omega
theorem Part.yes (h : Part l m i e) {k : Nat} (hi : i ≤ k) (hk : k < e) (w : ByteArray) : isN m (k - i) w = isN l k w := by
  unfold isN
  rw [h.same k hi hk]
theorem Part.not (h : Part l m i e) {k : Nat} {w : ByteArray} (hi : i ≤ k) (hk : k ≤ e) (hn : ¬ isN l k w = true) : ¬ isN m (k - i) w = true := by
  by_cases he : k = e
  · subst he; rw [h.no]; decide
  · rw [h.yes hi (by omega)]; exact hn
theorem Part.word (h : Part l m i e) {k : Nat} (hi : i ≤ k) (hk : k < e) : word m (k - i) = word l k := by
  unfold Rl.word
  rw [h.same k hi hk]
end
/-- A state, told from i on. -/
def sh (i : Nat) (s : St) : St := { s with pos := s.pos - i }
/-- What a part reads over l, up to e at most, its twin reads over m. -/
def Again (l : List Tk) (i e o : Nat) (p q : St → Res) : Prop :=
  ∀ s s1 : St, i ≤ s.pos → s.pos < l.length → s.deep = o → s.out.length ≤ 40 → p s = (s1, 0) → s1.pos ≤ e → q (sh i s) = (sh i s1, 0)
theorem sh_adv {i : Nat} {s : St} (h : i ≤ s.pos) : adv (sh i s) = sh i (adv s) := by
  unfold adv sh
  congr 1
  show s.pos - i + 1 = s.pos + 1 - i
  omega
theorem sh_into {i : Nat} {s : St} (h : i ≤ s.pos) : into (sh i s) = sh i (into s) := by
  unfold into sh
  congr 1
  show s.pos - i + 1 = s.pos + 1 - i
  omega
theorem sh_outof {i : Nat} {s : St} (h : i ≤ s.pos) : outof (sh i s) = sh i (outof s) := by
  unfold outof sh
  congr 1
  show s.pos - i + 1 = s.pos + 1 - i
  omega
theorem sh_put {i : Nat} {s s1 : St} {op : Int} (h : put op s = (s1, 0)) : put op (sh i s) = (sh i s1, 0) := by
  unfold put at h ⊢
  by_cases hl : s.out.length = 40
  · rw [if_pos hl] at h
    injection h with _ h
    cases h
  · rw [if_neg hl] at h
    rw [if_neg (show ¬ (sh i s).out.length = 40 from hl)]
    injection h with h _
    subst h
    rfl
theorem res_eq {r : Res} {s1 : St} (h : r = (s1, 0)) : r.2 = 0 ∧ r.1 = s1 := by subst h; exact ⟨rfl, rfl⟩
theorem res_mk {r : Res} (h : r.2 = 0) : r = (r.1, 0) := by
  obtain ⟨a, b⟩ := r
  dsimp only at h
  subst h
  rfl
section
variable {l m : List Tk} {i e : Nat}
theorem loop_pos {o : Nat} {sort : Bool} {more : St → Res} (he : Ends l) (hm : Good l o sort more) (w : ByteArray) :
    ∀ (n : Nat) (s s1 : St), s.pos < l.length → s.deep = o → s.out.length ≤ 40 → loop l more w n s = (s1, 0) → s.pos ≤ s1.pos
  | 0, s, s1, _, _, _, h => by injection h with h _; subst h; exact Nat.le_refl _
  | n + 1, s, s1, h1, h2, h3, h => by
    by_cases hn : isN l s.pos w = true
    · obtain ⟨a1, a2, a3⟩ := hm (adv s) (isN_lt he hn) h2 h3
      by_cases hr : (more (adv s)).2 = 0
      · obtain ⟨b1, b2, _⟩ := a3 hr
        have b2' : s.pos + 1 < (more (adv s)).1.pos := b2
        obtain ⟨c1, c2, c3, c4⟩ := put_good (opOf w) _ a2
        by_cases hq : (put (opOf w) (more (adv s)).1).2 = 0
        · rw [loop, if_pos hn, if_pos hr, if_pos hq] at h
          have := loop_pos he hm w n _ s1 (by rw [c1]; exact a1) (by rw [c2]; exact b1) c3 h
          rw [c1] at this
          omega
        · rw [loop, if_pos hn, if_pos hr, if_neg hq] at h
          exact absurd (res_eq h).1 hq
      · rw [loop, if_pos hn, if_neg hr] at h
        exact absurd (res_eq h).1 hr
    · rw [loop, if_neg hn] at h
      injection h with h _
      subst h
      exact Nat.le_refl _
theorem loop_again (hP : Part l m i e) (he : Ends l) {o : Nat} {sort : Bool} {more more' : St → Res} (hm : Good l o sort more) (ha : Again l i e o more more') (w : ByteArray) :
    ∀ (n n' : Nat) (s s1 : St), i ≤ s.pos → s.pos < l.length → s.deep = o → s.out.length ≤ 40 → e + 1 ≤ n' + s.pos → loop l more w n s = (s1, 0) → l.length ≤ n + s.pos → s1.pos ≤ e → loop m more' w n' (sh i s) = (sh i s1, 0)
  | 0, n', s, s1, h0, h1, h2, h3, hn', h, hl, hle => by omega
  | n + 1, n', s, s1, h0, h1, h2, h3, hn', h, hl, hle => by
    have hse := loop_pos he hm w (n + 1) s s1 h1 h2 h3 h
    obtain ⟨n', rfl⟩ : ∃ k, n' = k + 1 := ⟨n' - 1, by omega⟩
    by_cases hn : isN l s.pos w = true
    · obtain ⟨a1, a2, a3⟩ := hm (adv s) (isN_lt he hn) h2 h3
      by_cases hr : (more (adv s)).2 = 0
      · obtain ⟨b1, b2, _⟩ := a3 hr
        have b2' : s.pos + 1 < (more (adv s)).1.pos := b2
        obtain ⟨c1, c2, c3, c4⟩ := put_good (opOf w) _ a2
        by_cases hq : (put (opOf w) (more (adv s)).1).2 = 0
        · rw [loop, if_pos hn, if_pos hr, if_pos hq] at h
          have hq1 := loop_pos he hm w n _ s1 (by rw [c1]; exact a1) (by rw [c2]; exact b1) c3 h
          rw [c1] at hq1
          have g1 := ha (adv s) (more (adv s)).1 (by show i ≤ s.pos + 1; omega) (isN_lt he hn) h2 h3 (res_mk hr) (by omega)
          rw [← sh_adv h0] at g1
          have g2 := sh_put (i := i) (res_mk hq)
          have hn2 : isN m (sh i s).pos w = true := by
            show isN m (s.pos - i) w = true
            rw [hP.yes h0 (by omega)]; exact hn
          rw [loop, if_pos hn2, g1, if_pos rfl, g2, if_pos rfl]
          exact loop_again hP he hm ha w n n' _ s1 (by rw [c1]; omega) (by rw [c1]; exact a1) (by rw [c2]; exact b1) c3 (by rw [c1]; omega) h (by rw [c1]; omega) hle
        · rw [loop, if_pos hn, if_pos hr, if_neg hq] at h
          exact absurd (res_eq h).1 hq
      · rw [loop, if_pos hn, if_neg hr] at h
        exact absurd (res_eq h).1 hr
    · rw [loop, if_neg hn] at h
      injection h with h _
      subst h
      have hn2 : ¬ isN m (sh i s).pos w = true := hP.not h0 hle hn
      rw [loop, if_neg hn2]
theorem rows_again (hP : Part l m i e) (he : Ends l) {o : Nat} {sort : Bool} {part part' : St → Res} (hm : Good l o sort part) (ha : Again l i e o part part') :
    ∀ ws : List ByteArray, (∀ w ∈ ws, ∀ p, step p (opOf w) = two p sort sort) → Again l i e o (rows l part ws) (rows m part' ws)
  | [], _ => ha
  | w :: ws, hw => fun s s1 h0 h1 h2 h3 h hle => by
    have hg := rows_good he hm ws (fun v hv => hw v (.tail _ hv))
    have hr' := rows_again hP he hm ha ws (fun v hv => hw v (.tail _ hv))
    by_cases hr : (rows l part ws s).2 = 0
    · obtain ⟨a1, a2, a3⟩ := hg s h1 h2 h3
      obtain ⟨b1, b2, _⟩ := a3 hr
      rw [rows, if_pos hr] at h
      have hp := loop_pos he hg w l.length _ s1 a1 b1 a2 h
      have g1 := hr' s (rows l part ws s).1 h0 h1 h2 h3 (res_mk hr) (by omega)
      rw [rows, g1, if_pos rfl]
      exact loop_again hP he hg hr' w l.length m.length _ s1 (by omega) a1 b1 a2 (by rw [hP.len]; omega) h (by omega) hle
    · rw [rows, if_neg hr] at h
      exact absurd (res_eq h).1 hr
theorem inside_again (hP : Part l m i e) (he : Ends l) {o : Nat} {sort : Bool} {part part' : St → Res} (hm : o < 12 → Good l (o + 1) sort part) (ha : o < 12 → Again l i e (o + 1) part part') (w fin : ByteArray) {s s1 : St}
    (hn : isN l s.pos w = true) (h0 : i ≤ s.pos) (h2 : s.deep = o) (h4 : o ≤ 12) (h3 : s.out.length ≤ 40) (h : inside l part fin s = (s1, 0)) (hle : s1.pos ≤ e) : inside m part' fin (sh i s) = (sh i s1, 0) ∧ s.pos < e := by
  have h1 := isN_lt he hn
  by_cases hd : s.deep = 12
  · rw [inside, if_pos hd] at h
    injection h with _ h
    cases h
  · obtain ⟨a1, a2, a3⟩ := hm (by omega) (into s) h1 (by show s.deep + 1 = _; omega) h3
    by_cases hr : (part (into s)).2 = 0
    · obtain ⟨b1, b2, _⟩ := a3 hr
      have b2' : s.pos + 1 < (part (into s)).1.pos := b2
      by_cases hf : isN l (part (into s)).1.pos fin = true
      · rw [inside, if_neg hd, if_pos hr, if_pos hf] at h
        injection h with h _
        subst h
        have hle' : (part (into s)).1.pos + 1 ≤ e := hle
        have g1 := ha (by omega) (into s) (part (into s)).1 (by show i ≤ s.pos + 1; omega) h1 (by show s.deep + 1 = _; omega) h3 (res_mk hr) (by omega)
        rw [← sh_into h0] at g1
        have hf2 : isN m (sh i (part (into s)).1).pos fin = true := by
          show isN m ((part (into s)).1.pos - i) fin = true
          rw [hP.yes (by omega) (by omega)]; exact hf
        rw [inside, if_neg (show ¬ (sh i s).deep = 12 from hd), g1, if_pos rfl, if_pos hf2, sh_outof (by omega)]
        exact ⟨rfl, by omega⟩
      · rw [inside, if_neg hd, if_pos hr, if_neg hf] at h
        injection h with _ h
        cases h
    · rw [inside, if_neg hd, if_neg hr] at h
      exact absurd (res_eq h).1 hr
theorem atom_again (hP : Part l m i e) (he : Ends l) {o : Nat} (ho : o ≤ 12) {lab lab' : St → Res} (hm : o < 12 → Good l (o + 1) true lab) (ha : o < 12 → Again l i e (o + 1) lab lab') : Again l i e o (atom l lab) (atom m lab') := fun s s1 h0 h1 h2 h3 h hle => by
  by_cases hn : isN l s.pos wOpenL = true
  · rw [atom, if_pos hn] at h
    obtain ⟨g, hlt⟩ := inside_again hP he hm ha wOpenL wShutL hn h0 h2 ho h3 h hle
    rw [atom, if_pos (show isN m (sh i s).pos wOpenL = true from (hP.yes h0 hlt _).trans hn)]
    exact g
  · by_cases hw : word l s.pos = 0
    · rw [atom, if_neg hn, if_pos hw] at h
      injection h with _ h
      cases h
    · rw [atom, if_neg hn, if_neg hw] at h
      have hp : s1.pos = s.pos + 1 := by
        have := (put_good (word l s.pos) (adv s) h3).1
        rw [(res_eq h).2] at this
        exact this
      have e2 : word m (sh i s).pos = word l s.pos := hP.word h0 (by omega)
      rw [atom, if_neg (show ¬ isN m (sh i s).pos wOpenL = true from hP.not h0 (by omega) hn), e2, if_neg hw, sh_adv h0]
      exact sh_put h
theorem word_join : ∀ w ∈ [wJoin, wMeet], ∀ p, step p (opOf w) = two p true true := fun w hw p => by
  simp only [List.mem_cons, List.not_mem_nil, or_false] at hw
  rcases hw with rfl | rfl
  · exact step_join p
  · exact step_meet p
theorem word_or : ∀ w ∈ [wOr, wAnd], ∀ p, step p (opOf w) = two p false false := fun w hw p => by
  simp only [List.mem_cons, List.not_mem_nil, or_false] at hw
  rcases hw with rfl | rfl
  · exact step_or p
  · exact step_and p
theorem label_again (hP : Part l m i e) (he : Ends l) : ∀ (d o : Nat), o + d = 12 → Again l i e o (label l (d + 1)) (label m (d + 1))
  | 0, o, h => rows_again hP he (atom_good he (by omega) fun h2 => absurd h2 (by omega)) (atom_again hP he (by omega) (fun h2 => absurd h2 (by omega)) fun h2 => absurd h2 (by omega)) _ word_join
  | d + 1, o, h => rows_again hP he (atom_good he (by omega) fun _ => label_good he d (o + 1) (by omega)) (atom_again hP he (by omega) (fun _ => label_good he d (o + 1) (by omega)) fun _ => label_again hP he d (o + 1) (by omega)) _ word_join
theorem flow_again (hP : Part l m i e) (he : Ends l) {o : Nat} {lab lab' : St → Res} (hm : Good l o true lab) (ha : Again l i e o lab lab') : Again l i e o (flow l lab) (flow m lab') := fun s s1 h0 h1 h2 h3 h hle => by
  obtain ⟨a1, a2, a3⟩ := hm s h1 h2 h3
  by_cases hr : (lab s).2 = 0
  · obtain ⟨b1, b2, _⟩ := a3 hr
    by_cases hn : isN l (lab s).1.pos wFlows = true
    · obtain ⟨c1, c2, c3⟩ := hm (adv (lab s).1) (isN_lt he hn) b1 a2
      by_cases hq : (lab (adv (lab s).1)).2 = 0
      · obtain ⟨d1, d2, _⟩ := c3 hq
        have d2' : (lab s).1.pos + 1 < (lab (adv (lab s).1)).1.pos := d2
        rw [flow, if_pos hr, if_pos hn, if_pos hq] at h
        have hp : s1.pos = (lab (adv (lab s).1)).1.pos := by
          have := (put_good 5 _ c2).1
          rw [(res_eq h).2] at this
          exact this
        have g1 := ha s (lab s).1 h0 h1 h2 h3 (res_mk hr) (by omega)
        have g2 := ha (adv (lab s).1) _ (by show i ≤ (lab s).1.pos + 1; omega) (isN_lt he hn) b1 a2 (res_mk hq) (by omega)
        rw [← sh_adv (by omega)] at g2
        have hn2 : isN m (sh i (lab s).1).pos wFlows = true := by
          show isN m ((lab s).1.pos - i) wFlows = true
          rw [hP.yes (by omega) (by omega)]; exact hn
        rw [flow, g1, if_pos rfl, if_pos hn2, g2, if_pos rfl]
        exact sh_put h
      · rw [flow, if_pos hr, if_pos hn, if_neg hq] at h
        exact absurd (res_eq h).1 hq
    · rw [flow, if_pos hr, if_neg hn] at h
      injection h with _ h
      cases h
  · rw [flow, if_neg hr] at h
    exact absurd (res_eq h).1 hr
theorem prim_again (hP : Part l m i e) (he : Ends l) {o : Nat} (ho : o ≤ 12) {cnd cnd' lab lab' : St → Res} (hc : o < 12 → Good l (o + 1) false cnd) (hc' : o < 12 → Again l i e (o + 1) cnd cnd') (hm : Good l o true lab) (ha : Again l i e o lab lab') :
    Again l i e o (prim l cnd lab) (prim m cnd' lab') := fun s s1 h0 h1 h2 h3 h hle => by
  have hg := prim_good he ho hc hm s h1 h2 h3
  rw [h] at hg
  have hlt : s.pos < s1.pos := (hg.2.2 rfl).2.1
  have yes : ∀ w, isN l s.pos w = true → isN m (sh i s).pos w = true := fun w hn => by
    show isN m (s.pos - i) w = true
    rw [hP.yes h0 (by omega)]; exact hn
  have no : ∀ w, ¬ isN l s.pos w = true → ¬ isN m (sh i s).pos w = true := fun w hn => hP.not h0 (by omega) hn
  by_cases t1 : isN l s.pos wTrue = true
  · rw [prim, if_pos t1] at h
    rw [prim, if_pos (yes _ t1), sh_adv h0]
    exact sh_put h
  · by_cases t2 : isN l s.pos wFalse = true
    · rw [prim, if_neg t1, if_pos t2] at h
      rw [prim, if_neg (no _ t1), if_pos (yes _ t2), sh_adv h0]
      exact sh_put h
    · by_cases t3 : isN l s.pos wOpen = true
      · rw [prim, if_neg t1, if_neg t2, if_pos t3] at h
        rw [prim, if_neg (no _ t1), if_neg (no _ t2), if_pos (yes _ t3)]
        exact (inside_again hP he hc hc' wOpen wShut t3 h0 h2 ho h3 h hle).1
      · rw [prim, if_neg t1, if_neg t2, if_neg t3] at h
        rw [prim, if_neg (no _ t1), if_neg (no _ t2), if_neg (no _ t3)]
        exact flow_again hP he hm ha s s1 h0 h1 h2 h3 h hle
theorem cond_again (hP : Part l m i e) (he : Ends l) : ∀ (d o : Nat), o + d = 12 → Again l i e o (cond l (d + 1)) (cond m (d + 1))
  | 0, o, h => rows_again hP he (prim_good he (by omega) (fun h2 => absurd h2 (by omega)) (label_good he 0 o h))
      (prim_again hP he (by omega) (fun h2 => absurd h2 (by omega)) (fun h2 => absurd h2 (by omega)) (label_good he 0 o h) (label_again hP he 0 o h)) _ word_or
  | d + 1, o, h => rows_again hP he (prim_good he (by omega) (fun _ => cond_good he d (o + 1) (by omega)) (label_good he (d + 1) o h))
      (prim_again hP he (by omega) (fun _ => cond_good he d (o + 1) (by omega)) (fun _ => cond_again hP he d (o + 1) (by omega)) (label_good he (d + 1) o h) (label_again hP he (d + 1) o h)) _ word_or
/-- What is told, read again up to its end alone, is the same. -/
theorem read_again (hP : Part l m i e) (he : Ends l) (lab : Bool) (hi : i < l.length) (h : (read l lab i).2 = 0) (hpos : (read l lab i).1.pos = e) : (read m lab 0).2 = 0 ∧ (read m lab 0).1.pos = e - i ∧ (read m lab 0).1.out = (read l lab i).1.out := by
  have hg : ∀ {p q : St → Res}, Again l i e 0 p q → (p ⟨i, 0, []⟩).2 = 0 → (p ⟨i, 0, []⟩).1.pos = e → (q ⟨0, 0, []⟩).2 = 0 ∧ (q ⟨0, 0, []⟩).1.pos = e - i ∧ (q ⟨0, 0, []⟩).1.out = (p ⟨i, 0, []⟩).1.out := fun hg h hpos => by
    have g := hg ⟨i, 0, []⟩ _ (Nat.le_refl _) hi rfl (by simp) (res_mk h) (by omega)
    have e0 : sh i ⟨i, 0, []⟩ = ⟨0, 0, []⟩ := by
      unfold sh
      congr 1
      exact Nat.sub_self i
    rw [e0] at g
    rw [g]
    refine ⟨rfl, ?_, rfl⟩
    show _ - i = e - i
    rw [hpos]
  cases lab
  · exact hg (cond_again hP he 12 0 rfl) h hpos
  · exact hg (label_again hP he 12 0 rfl) h hpos
end
end Rl
end Go.Proofs.Ytmgaaejghfgbnaa
