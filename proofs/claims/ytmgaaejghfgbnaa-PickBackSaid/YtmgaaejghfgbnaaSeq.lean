/- A region that draws its order, walked once, in the text's order: operations that only make a value, whatever the world of a class, stand wherever they like; those that turn the world wait for one another. Over no program. -/
import Derived.Test.YtmgaaejghfgbnaaFree
namespace Go.Proofs.Ytmgaaejghfgbnaa
set_option maxRecDepth 100000
open Go Go.RowKit

namespace Free
section
variable {P : Program} {ops : Array Oper}

/-- For what each operation waits, through others too: a number's bits. -/
def masks : List Oper → List Nat → List Nat
  | [], acc => acc
  | o :: l, acc => masks l (acc ++ [(deps o).foldl (fun m d => m ||| (acc.getD d 0 ||| 1 <<< d)) 0])
def chainB (ops : Array Oper) (loud : List Nat) : Bool :=
  let ms := masks ops.toList []
  loud.all fun k => loud.all fun j => !decide (j < k) || (ms.getD k 0).testBit j

theorem bit_fold (g : Nat → Nat) (j : Nat) : ∀ (l : List Nat) (m : Nat), (l.foldl (fun m d => m ||| (g d ||| 1 <<< d)) m).testBit j = true → m.testBit j = true ∨ ∃ d ∈ l, (g d).testBit j = true ∨ j = d
  | [], m, h => .inl h
  | d :: l, m, h => by
    rcases bit_fold g j l _ h with h | ⟨d', hd, h⟩
    · rw [Nat.testBit_or, Nat.testBit_or, Bool.or_eq_true, Bool.or_eq_true] at h
      rcases h with h | h | h
      · exact .inl h
      · exact .inr ⟨d, List.mem_cons_self, .inl h⟩
      · refine .inr ⟨d, List.mem_cons_self, .inr ?_⟩
        rw [Nat.one_shiftLeft, Nat.testBit_two_pow] at h
        simpa using (of_decide_eq_true h).symm
    · exact .inr ⟨d', List.mem_cons_of_mem _ hd, h⟩
/-- What a mask tells: all that it names is done where all that the operation waits for is. -/
def MaskOk (ops : Array Oper) (acc : List Nat) : Prop :=
  ∀ (k m : Nat), acc[k]? = some m → ∃ o, ops[k]? = some o ∧ ∀ done, Closed ops done → (∀ d ∈ deps o, done d = true) → ∀ j, m.testBit j = true → done j = true
theorem masks_ok : ∀ (l : List Oper) (acc : List Nat), (∀ j, l[j]? = ops[acc.length + j]?) → MaskOk ops acc → MaskOk ops (masks l acc)
  | [], _, _, h => h
  | o :: l, acc, hl, h => by
    refine masks_ok l _ (fun j => ?_) ?_
    · have := hl (j + 1)
      simp only [List.getElem?_cons_succ] at this
      rw [this, List.length_append, List.length_singleton]
      congr 1
      omega
    · intro k m hk
      by_cases hlt : k < acc.length
      · rw [List.getElem?_append_left hlt] at hk
        exact h k m hk
      · have hkl : k < (acc ++ [(deps o).foldl (fun m d => m ||| (acc.getD d 0 ||| 1 <<< d)) 0]).length := (List.getElem?_eq_some_iff.1 hk).1
        rw [List.length_append, List.length_singleton] at hkl
        obtain rfl : k = acc.length := by omega
        rw [List.getElem?_append_right (Nat.le_refl _), Nat.sub_self] at hk
        simp only [List.getElem?_cons_zero, Option.some.injEq] at hk
        subst hk
        refine ⟨o, by rw [← Nat.add_zero acc.length, ← hl 0]; rfl, fun done hC hd j hj => ?_⟩
        rcases bit_fold _ _ _ _ hj with h0 | ⟨d, hdm, hb | rfl⟩
        · simp at h0
        · rw [List.getD_eq_getElem?_getD] at hb
          cases e : acc[d]? with
          | none => rw [e] at hb; simp at hb
          | some md =>
            rw [e] at hb
            obtain ⟨od, hod, h2⟩ := h d md e
            exact h2 done hC (fun d' hd' => hC d od hod (hd d hdm) d' hd') j hb
        · exact hd _ hdm
theorem chain_spec {loud : List Nat} (hc : chainB ops loud = true) {k j : Nat} (hk : k ∈ loud) (hj : j ∈ loud) (hjk : j < k) {o : Oper} (ho : ops[k]? = some o) {done : Nat → Bool} (hC : Closed ops done) (hd : ∀ d ∈ deps o, done d = true) : done j = true := by
  unfold chainB at hc
  have h1 := List.all_eq_true.1 (List.all_eq_true.1 hc k hk) j hj
  simp only [Bool.or_eq_true, Bool.not_eq_true', decide_eq_false_iff_not] at h1
  rcases h1 with h1 | h1
  · exact absurd hjk h1
  · have hm := masks_ok (ops := ops) ops.toList [] (by simp) (fun k m h => by simp at h)
    rw [List.getD_eq_getElem?_getD] at h1
    cases e : (masks ops.toList [])[k]? with
    | none => rw [e] at h1; simp at h1
    | some m =>
      rw [e] at h1
      obtain ⟨o', ho', h2⟩ := hm k m e
      rw [ho] at ho'
      injection ho' with ho'
      subst ho'
      exact h2 done hC hd j h1

/-- Where the last of those that turn the world stands, all others are done. -/
def endB (ops : Array Oper) (loud reads : List Nat) (last : Nat) : Bool :=
  decide (ops.size ≤ last) || (loud.contains last && (List.range ops.size).all fun k => loud.contains k || !reads.contains k || ((masks ops.toList []).getD last 0).testBit k)
theorem end_spec {loud reads : List Nat} {last : Nat} (h : endB ops loud reads last = true) (hlt : ∀ (i : Nat) oi, ops[i]? = some oi → ∀ d ∈ deps oi, d < i) :
    (last < ops.size → last ∈ loud) ∧ ∀ k, k < ops.size → k ∉ loud → reads.contains k = true → k < last ∧ ∀ done, Closed ops done → (last < ops.size → done last = true → done k = true) := by
  unfold endB at h
  rw [Bool.or_eq_true, decide_eq_true_eq] at h
  rcases h with h | h
  · exact ⟨fun h2 => by omega, fun k hk _ _ => ⟨by omega, fun done _ h2 => by omega⟩⟩
  · rw [Bool.and_eq_true] at h
    refine ⟨fun _ => by simpa using h.1, fun k hk hkl hrk => ?_⟩
    have h1 := List.all_eq_true.1 h.2 k (by simpa using hk)
    rw [hrk, Bool.not_true, Bool.or_false, Bool.or_eq_true] at h1
    rcases h1 with h1 | h1
    · exact absurd (by simpa using h1) hkl
    · have hm := masks_ok (ops := ops) ops.toList [] (by simp) (fun k m h => by simp at h)
      rw [List.getD_eq_getElem?_getD] at h1
      cases e : (masks ops.toList [])[last]? with
      | none => rw [e] at h1; simp at h1
      | some m =>
        rw [e] at h1
        obtain ⟨o, ho, h2⟩ := hm last m e
        refine ⟨?_, fun done hC _ hd => h2 done hC (fun d hdd => hC last o ho hd d hdd) k h1⟩
        have := h2 (fun j => decide (j < last)) (fun i oi hoi hi d hd => by
          have h3 := hlt i oi hoi d hd
          have h4 := of_decide_eq_true hi
          exact decide_eq_true (by omega)) (fun d hd => decide_eq_true (hlt last o ho d hd)) k h1
        exact of_decide_eq_true this

theorem UponV.mono {K K' : Value → World → Prop} (hk : ∀ v w', K v w' → K' v w') : ∀ {x : Result Next}, UponV P K x → UponV P K' x := by
  intro x h
  cases x with
  | ok n w' =>
    cases n with
    | value v => exact hk _ _ h
    | skip => exact hk _ _ h
    | enter f args => exact Calls.mono h fun e w'' ⟨v, he, hv⟩ => ⟨v, he, hk _ _ hv⟩
    | row row args => exact Rows.mono h fun v w'' hv => hk _ _ hv
    | _ => exact h.elim
  | halt _ _ => exact h.elim
/-- There is an outcome. -/
theorem UponV.some_ {K : Value → World → Prop} : ∀ {x : Result Next}, UponV P K x → ∃ v w', K v w' := by
  intro x h
  cases x with
  | ok n w' =>
    cases n with
    | value v => exact ⟨_, _, h⟩
    | skip => exact ⟨_, _, h⟩
    | enter f args =>
      obtain ⟨e, w'', fr, ⟨v, _, hv⟩, _⟩ := h []
      exact ⟨v, w'', hv⟩
    | row row args =>
      obtain ⟨v, w'', hv, _⟩ := h (Frame.ofRow P row args .normal) []
      exact ⟨v, w'', hv⟩
    | _ => exact h.elim
  | halt _ _ => exact h.elim

variable (P) (ops)
/-- The walk in the text's order, over the operations' values; what is done is passed over. -/
def SeqR (a0 : Act) (S : World → Prop) (loud reads : List Nat) (last : Nat) (fin : (Nat → Value) → World → Prop) (done : Nat → Bool) : List Oper → Nat → (Nat → Value) → World → Prop
  | [], _, r, w => fin r w
  | o :: l, k, r, w =>
    if done k = true then SeqR a0 S loud reads last fin done l (k + 1) r w
    else if wantedR o r = false then SeqR a0 S loud reads last fin done l (k + 1) (updR r k undef) w
    else if k ∈ loud then UponV P (fun v w' => (k < last → S w') ∧ SeqR a0 S loud reads last fin done l (k + 1) (updR r k v) w') ((execOp (rd ops a0 k r) o).run P w)
    else ∃ x, (∀ W, (reads.contains k = true → S W) → (execOp (rd ops a0 k r) o).run P W = .ok (.value x) W) ∧ SeqR a0 S loud reads last fin done l (k + 1) (updR r k x) w
variable {P} {ops}
variable {a0 : Act} {S : World → Prop} {loud reads : List Nat} {last : Nat} {fin : (Nat → Value) → World → Prop}

/-- Only what stands from here on is looked at. -/
theorem seqR_done {done done' : Nat → Bool} : ∀ (l : List Oper) (k : Nat) (r : Nat → Value) (w : World), (∀ j, k ≤ j → done j = done' j) → SeqR P ops a0 S loud reads last fin done l k r w → SeqR P ops a0 S loud reads last fin done' l k r w
  | [], _, _, _, _, h => h
  | o :: l, k, r, w, hd, h => by
    have hd' : ∀ j, k + 1 ≤ j → done j = done' j := fun j hj => hd j (by omega)
    unfold SeqR at h ⊢
    rw [← hd k (Nat.le_refl _)]
    split
    · rename_i e; rw [if_pos e] at h; exact seqR_done l _ _ _ hd' h
    · rename_i e
      rw [if_neg e] at h
      split
      · rename_i e2; rw [if_pos e2] at h; exact seqR_done l _ _ _ hd' h
      · rename_i e2
        rw [if_neg e2] at h
        split
        · rename_i e3
          rw [if_pos e3] at h
          exact UponV.mono (fun v w' ⟨h1, h2⟩ => ⟨h1, seqR_done l _ _ _ hd' h2⟩) h
        · rename_i e3
          rw [if_neg e3] at h
          obtain ⟨x, h1, h2⟩ := h
          exact ⟨x, h1, seqR_done l _ _ _ hd' h2⟩
theorem updR_comm (r : Nat → Value) {i k : Nat} (h : i ≠ k) (x y : Value) : updR (updR r i x) k y = updR (updR r k y) i x := by
  funext j
  unfold updR
  by_cases h1 : j = k
  · by_cases h2 : j = i
    · omega
    · simp [h1]; intro e; exact absurd e (fun e => h e.symm)
  · simp [h1]
theorem rd_upd {k i : Nat} {r : Nat → Value} {v : Value} {o : Oper} (ho : ops[k]? = some o) (h : i ∉ deps o) : rd ops a0 k (updR r i v) = rd ops a0 k r := by
  funext x
  cases x with
  | tmp t =>
    simp only [rd]
    cases prodOf ops t with
    | none => rfl
    | some j =>
      simp only [ho]
      by_cases hc : (deps o).contains j = true
      · rw [if_pos hc, if_pos hc]
        unfold updR
        rw [if_neg (fun e => h (by subst e; simpa using hc))]
      · rw [if_neg hc, if_neg hc]
  | _ => rfl
theorem wanted_upd {i : Nat} {r : Nat → Value} {v : Value} {o : Oper} (h : ∀ g b, o.guard = some (g, b) → g ≠ i) : wantedR o (updR r i v) = wantedR o r := by
  unfold wantedR
  cases e : o.guard with
  | none => rfl
  | some gb =>
    obtain ⟨g, b⟩ := gb
    have := h g b e
    simp only [updR, if_neg this]

/-- An operation that may come up now, taken ahead of those that stand before it. -/
structure May (ops : Array Oper) (loud : List Nat) (done : Nat → Bool) (k : Nat) (o : Oper) : Prop where
  at_ : ops[k]? = some o
  no : done k = false
  deps : ∀ d ∈ deps o, done d = true
  closed : Closed ops done
  lt : ∀ (i : Nat) oi, ops[i]? = some oi → ∀ d ∈ Free.deps oi, d < i
  guard : ∀ (i : Nat) oi, ops[i]? = some oi → ∀ g b, oi.guard = some (g, b) → g ∈ Free.deps oi
theorem upd_ne {done : Nat → Bool} {i k : Nat} (h : i ≠ k) : upd done k i = done i := by unfold upd; rw [if_neg h]

theorem take_skip {done : Nat → Bool} {k : Nat} {o : Oper} (m : May ops loud done k o) : ∀ (l : List Oper) (i : Nat) (r : Nat → Value) (w : World), (∀ j, l[j]? = ops[i + j]?) → i ≤ k → wantedR o r = false →
    SeqR P ops a0 S loud reads last fin done l i r w → SeqR P ops a0 S loud reads last fin (upd done k) l i (updR r k undef) w
  | [], i, r, w, hl, hi, _, _ => by
    have := hl (k - i)
    rw [show i + (k - i) = k by omega, m.at_] at this
    simp at this
  | o' :: l, i, r, w, hl, hi, hw, h => by
    have h0 : ops[i]? = some o' := by have := hl 0; simpa using this.symm
    have hl' : ∀ j, l[j]? = ops[i + 1 + j]? := fun j => by have := hl (j + 1); simp only [List.getElem?_cons_succ] at this; rw [this]; congr 1; omega
    by_cases hik : i = k
    · subst hik
      rw [m.at_] at h0
      injection h0 with h0
      subst h0
      unfold SeqR at h ⊢
      rw [if_neg (by rw [m.no]; exact fun e => by cases e), if_pos hw] at h
      rw [if_pos (by simp [upd])]
      exact seqR_done l _ _ _ (fun j hj => (upd_ne (by omega)).symm) h
    · have hdk : k ∉ Free.deps o' := fun e => by have := m.lt i o' h0 k e; omega
      have hgk : ∀ g b, o'.guard = some (g, b) → g ≠ k := fun g b e => by have := m.lt i o' h0 g (m.guard i o' h0 g b e); omega
      have hnd : done i = false → i ∉ Free.deps o := fun e hd => by rw [m.deps i hd] at e; cases e
      have hng : done i = false → ∀ g b, o.guard = some (g, b) → g ≠ i := fun e g b hg hgi => by have := m.deps g (m.guard k o m.at_ g b hg); rw [hgi, e] at this; cases this
      unfold SeqR at h ⊢
      rw [upd_ne hik, wanted_upd hgk, rd_upd h0 hdk]
      split
      · rename_i e; rw [if_pos e] at h; exact take_skip m l (i + 1) r w hl' (by omega) hw h
      · rename_i e
        have e' : done i = false := by simpa using e
        rw [if_neg e] at h
        split
        · rename_i e2
          rw [if_pos e2] at h
          rw [← updR_comm r hik]
          exact take_skip m l (i + 1) _ w hl' (by omega) (by rw [wanted_upd (hng e')]; exact hw) h
        · rename_i e2
          rw [if_neg e2] at h
          split
          · rename_i e3
            rw [if_pos e3] at h
            refine UponV.mono (fun v w' ⟨h1, h2⟩ => ⟨h1, ?_⟩) h
            rw [← updR_comm r hik]
            exact take_skip m l (i + 1) _ w' hl' (by omega) (by rw [wanted_upd (hng e')]; exact hw) h2
          · rename_i e3
            rw [if_neg e3] at h
            obtain ⟨x, h1, h2⟩ := h
            refine ⟨x, h1, ?_⟩
            rw [← updR_comm r hik]
            exact take_skip m l (i + 1) _ w hl' (by omega) (by rw [wanted_upd (hng e')]; exact hw) h2

theorem take_loud {done : Nat → Bool} {k : Nat} {o : Oper} (m : May ops loud done k o) (hk : k ∈ loud) (hc : chainB ops loud = true) : ∀ (l : List Oper) (i : Nat) (r : Nat → Value) (w : World), (∀ j, l[j]? = ops[i + j]?) → i ≤ k → wantedR o r = true →
    SeqR P ops a0 S loud reads last fin done l i r w → UponV P (fun v w' => (k < last → S w') ∧ SeqR P ops a0 S loud reads last fin (upd done k) l i (updR r k v) w') ((execOp (rd ops a0 k r) o).run P w)
  | [], i, r, w, hl, hi, _, _ => by
    have := hl (k - i)
    rw [show i + (k - i) = k by omega, m.at_] at this
    simp at this
  | o' :: l, i, r, w, hl, hi, hw, h => by
    have h0 : ops[i]? = some o' := by have := hl 0; simpa using this.symm
    have hl' : ∀ j, l[j]? = ops[i + 1 + j]? := fun j => by have := hl (j + 1); simp only [List.getElem?_cons_succ] at this; rw [this]; congr 1; omega
    by_cases hik : i = k
    · subst hik
      rw [m.at_] at h0
      injection h0 with h0
      subst h0
      unfold SeqR at h
      rw [if_neg (by rw [m.no]; exact fun e => by cases e), if_neg (by rw [hw]; exact fun e => by cases e), if_pos hk] at h
      refine UponV.mono (fun v w' ⟨h1, h2⟩ => ⟨h1, ?_⟩) h
      unfold SeqR
      rw [if_pos (by simp [upd])]
      exact seqR_done l _ _ _ (fun j hj => (upd_ne (by omega)).symm) h2
    · have hdk : k ∉ Free.deps o' := fun e => by have := m.lt i o' h0 k e; omega
      have hgk : ∀ g b, o'.guard = some (g, b) → g ≠ k := fun g b e => by have := m.lt i o' h0 g (m.guard i o' h0 g b e); omega
      have hnd : done i = false → i ∉ Free.deps o := fun e hd => by rw [m.deps i hd] at e; cases e
      have hng : done i = false → ∀ g b, o.guard = some (g, b) → g ≠ i := fun e g b hg hgi => by have := m.deps g (m.guard k o m.at_ g b hg); rw [hgi, e] at this; cases this
      unfold SeqR at h
      by_cases e : done i = true
      · rw [if_pos e] at h
        refine UponV.mono (fun v w' ⟨h1, h2⟩ => ⟨h1, ?_⟩) (take_loud m hk hc l (i + 1) r w hl' (by omega) hw h)
        unfold SeqR
        rw [upd_ne hik, if_pos e]
        exact h2
      · have e' : done i = false := by simpa using e
        rw [if_neg e] at h
        by_cases e2 : wantedR o' r = false
        · rw [if_pos e2] at h
          have := take_loud m hk hc l (i + 1) _ w hl' (by omega) (by rw [wanted_upd (hng e')]; exact hw) h
          rw [rd_upd m.at_ (hnd e')] at this
          refine UponV.mono (fun v w' ⟨h1, h2⟩ => ⟨h1, ?_⟩) this
          unfold SeqR
          rw [upd_ne hik, if_neg e, wanted_upd hgk, if_pos e2, ← updR_comm r hik]
          exact h2
        · rw [if_neg e2] at h
          by_cases e3 : i ∈ loud
          · exact absurd (chain_spec hc hk e3 (by omega) m.at_ m.closed m.deps) e
          · rw [if_neg e3] at h
            obtain ⟨x, hx, h⟩ := h
            have := take_loud m hk hc l (i + 1) _ w hl' (by omega) (by rw [wanted_upd (hng e')]; exact hw) h
            rw [rd_upd m.at_ (hnd e')] at this
            refine UponV.mono (fun v w' ⟨h1, h2⟩ => ⟨h1, ?_⟩) this
            unfold SeqR
            rw [upd_ne hik, if_neg e, wanted_upd hgk, if_neg e2, if_neg e3, rd_upd h0 hdk]
            refine ⟨x, hx, ?_⟩
            rw [← updR_comm r hik]
            exact h2

theorem take_quiet {done : Nat → Bool} {k : Nat} {o : Oper} (m : May ops loud done k o) (hk : k ∉ loud) (hkl : reads.contains k = true → k < last) : ∀ (l : List Oper) (i : Nat) (r : Nat → Value) (w : World), (reads.contains k = true → S w) → (∀ j, l[j]? = ops[i + j]?) → i ≤ k → wantedR o r = true →
    SeqR P ops a0 S loud reads last fin done l i r w → ∃ x, (∀ W, (reads.contains k = true → S W) → (execOp (rd ops a0 k r) o).run P W = .ok (.value x) W) ∧ SeqR P ops a0 S loud reads last fin (upd done k) l i (updR r k x) w
  | [], i, r, w, _, hl, hi, _, _ => by
    have := hl (k - i)
    rw [show i + (k - i) = k by omega, m.at_] at this
    simp at this
  | o' :: l, i, r, w, hS, hl, hi, hw, h => by
    have h0 : ops[i]? = some o' := by have := hl 0; simpa using this.symm
    have hl' : ∀ j, l[j]? = ops[i + 1 + j]? := fun j => by have := hl (j + 1); simp only [List.getElem?_cons_succ] at this; rw [this]; congr 1; omega
    by_cases hik : i = k
    · subst hik
      rw [m.at_] at h0
      injection h0 with h0
      subst h0
      unfold SeqR at h
      rw [if_neg (by rw [m.no]; exact fun e => by cases e), if_neg (by rw [hw]; exact fun e => by cases e), if_neg hk] at h
      obtain ⟨x, h1, h2⟩ := h
      refine ⟨x, h1, ?_⟩
      unfold SeqR
      rw [if_pos (by simp [upd])]
      exact seqR_done l _ _ _ (fun j hj => (upd_ne (by omega)).symm) h2
    · have hdk : k ∉ Free.deps o' := fun e => by have := m.lt i o' h0 k e; omega
      have hgk : ∀ g b, o'.guard = some (g, b) → g ≠ k := fun g b e => by have := m.lt i o' h0 g (m.guard i o' h0 g b e); omega
      have hnd : done i = false → i ∉ Free.deps o := fun e hd => by rw [m.deps i hd] at e; cases e
      have hng : done i = false → ∀ g b, o.guard = some (g, b) → g ≠ i := fun e g b hg hgi => by have := m.deps g (m.guard k o m.at_ g b hg); rw [hgi, e] at this; cases this
      unfold SeqR at h
      by_cases e : done i = true
      · rw [if_pos e] at h
        obtain ⟨x, h1, h2⟩ := take_quiet m hk hkl l (i + 1) r w hS hl' (by omega) hw h
        refine ⟨x, h1, ?_⟩
        unfold SeqR
        rw [upd_ne hik, if_pos e]
        exact h2
      · have e' : done i = false := by simpa using e
        rw [if_neg e] at h
        by_cases e2 : wantedR o' r = false
        · rw [if_pos e2] at h
          obtain ⟨x, h1, h2⟩ := take_quiet m hk hkl l (i + 1) _ w hS hl' (by omega) (by rw [wanted_upd (hng e')]; exact hw) h
          rw [rd_upd m.at_ (hnd e')] at h1
          refine ⟨x, h1, ?_⟩
          unfold SeqR
          rw [upd_ne hik, if_neg e, wanted_upd hgk, if_pos e2, ← updR_comm r hik]
          exact h2
        · rw [if_neg e2] at h
          by_cases e3 : i ∈ loud
          · rw [if_pos e3] at h
            have hall : UponV P (fun v w' => (i < last → S w') ∧ ∃ x, (∀ W, (reads.contains k = true → S W) → (execOp (rd ops a0 k r) o).run P W = .ok (.value x) W) ∧ SeqR P ops a0 S loud reads last fin (upd done k) l (i + 1) (updR (updR r k x) i v) w') ((execOp (rd ops a0 i r) o').run P w) := by
              refine UponV.mono (fun v w' ⟨hS', h1⟩ => ⟨hS', ?_⟩) h
              obtain ⟨x, h2, h3⟩ := take_quiet m hk hkl l (i + 1) _ w' (fun hn => hS' (by have := hkl hn; omega)) hl' (by omega) (by rw [wanted_upd (hng e')]; exact hw) h1
              rw [rd_upd m.at_ (hnd e')] at h2
              refine ⟨x, h2, ?_⟩
              rw [← updR_comm r hik]
              exact h3
            obtain ⟨v0, w0, _, x, hx, _⟩ := hall.some_
            refine ⟨x, hx, ?_⟩
            unfold SeqR
            rw [upd_ne hik, if_neg e, wanted_upd hgk, if_neg e2, if_pos e3, rd_upd h0 hdk]
            refine UponV.mono (fun v w' ⟨hS', x', hx', h3⟩ => ⟨hS', ?_⟩) hall
            have : x' = x := by
              have h1 := hx' w hS
              rw [hx w hS] at h1
              injection h1 with h1
              injection h1 with h1
              exact h1.symm
            subst this
            exact h3
          · rw [if_neg e3] at h
            obtain ⟨y, hy, h⟩ := h
            obtain ⟨x, h1, h2⟩ := take_quiet m hk hkl l (i + 1) _ w hS hl' (by omega) (by rw [wanted_upd (hng e')]; exact hw) h
            rw [rd_upd m.at_ (hnd e')] at h1
            refine ⟨x, h1, ?_⟩
            unfold SeqR
            rw [upd_ne hik, if_neg e, wanted_upd hgk, if_neg e2, if_neg e3, rd_upd h0 hdk]
            refine ⟨y, hy, ?_⟩
            rw [← updR_comm r hik]
            exact h2
theorem seqR_all {done : Nat → Bool} : ∀ (l : List Oper) (k : Nat) (r : Nat → Value) (w : World), (∀ j, k ≤ j → j < k + l.length → done j = true) → SeqR P ops a0 S loud reads last fin done l k r w → fin r w
  | [], _, _, _, _, h => h
  | o :: l, k, r, w, hd, h => by
    unfold SeqR at h
    rw [if_pos (hd k (Nat.le_refl _) (by simp))] at h
    exact seqR_all l (k + 1) r w (fun j h1 h2 => hd j (by omega) (by simp; omega)) h

theorem slot_put {n k : Nat} {o : Oper} {a : Act} {done : Nat → Bool} {r : Nat → Value} (okk : Ok ops n k o) (ho : ops[k]? = some o) (hkf : done k = false) (hsl : ∀ d, a.tmps[d]? = slot ops a0 done r d) (v : Value) : ∀ d, (a.put o.dst v).tmps[d]? = slot ops a0 (upd done k) (updR r k v) d := by
  intro d
  by_cases hod : o.dst = some d
  · obtain ⟨hdn, hp, -⟩ := okk.dst d hod
    rw [hod, put_same, hsl d]
    unfold slot
    rw [hp]
    simp only [hkf, Bool.false_eq_true, if_false]
    unfold upd updR
    simp
  · rw [put_other hod, hsl d]
    unfold slot
    cases hp : prodOf ops d with
    | none => rfl
    | some j =>
      have hjk : j ≠ k := by
        rintro rfl
        have := (prodOf_spec hp).2
        unfold dstOf at this
        rw [ho] at this
        exact hod this
      simp only [upd, updR, if_neg hjk]

variable (P) (ops)
/-- The walk in the text's order, over the frame. -/
def Seq (S : World → Prop) (loud reads : List Nat) (last : Nat) (Q : Act → World → Prop) : List Oper → Nat → Act → World → Prop
  | [], _, a, w => Q a w
  | o :: l, k, a, w =>
    if Region.wanted o (yielded ops a.tmps) = true then
      if k ∈ loud then UponV P (fun v w' => (k < last → S w') ∧ Seq S loud reads last Q l (k + 1) (a.put o.dst v) w') ((execOp a.eval o).run P w)
      else ∃ x, (∀ W, (reads.contains k = true → S W) → (execOp a.eval o).run P W = .ok (.value x) W) ∧ Seq S loud reads last Q l (k + 1) (a.put o.dst x) w
    else Seq S loud reads last Q l (k + 1) (a.put o.dst undef) w
variable {P} {ops}

theorem upd_lt (k : Nat) : upd (fun j => decide (j < k)) k = fun j => decide (j < k + 1) := by
  funext j
  unfold upd
  by_cases h : j = k
  · subst h; simp
  · rw [if_neg h]
    by_cases h2 : j < k
    · simp [h2]; omega
    · simp [h2]; omega

theorem seqR_of {Q : Act → World → Prop} (hok : okB ops a0.tmps.size = true) : ∀ (l : List Oper) (k : Nat) (r : Nat → Value) (a : Act) (w : World), (∀ j, l[j]? = ops[k + j]?) → a.defers = a0.defers → (∀ d, a.tmps[d]? = slot ops a0 (fun j => decide (j < k)) r d) →
    Seq P ops S loud reads last Q l k a w → SeqR P ops a0 S loud reads last (fun r w => Q (putAll ops.toList 0 r a0) w) (fun _ => false) l k r w
  | [], k, r, a, w, hl, hdf, hsl, h => by
    have hk : ops.size ≤ k := by
      have := hl 0
      simp only [List.getElem?_nil, Nat.add_zero] at this
      exact Array.getElem?_eq_none_iff.1 this.symm
    have hall : ∀ j, j < ops.size → decide (j < k) = true := fun j hj => decide_eq_true (by omega)
    have ea : a = putAll ops.toList 0 r a0 := by
      have h1 : a.tmps = (putAll ops.toList 0 r a0).tmps := by
        refine Array.ext_getElem? fun d => ?_
        rw [hsl d]
        cases hp : prodOf ops d with
        | none =>
          simp only [slot, hp]
          rw [putAll_other]
          intro o ho
          obtain ⟨j, hj, rfl⟩ := List.getElem_of_mem ho
          have := prodOf_none hp (j := j) (by simpa using hj)
          unfold dstOf at this
          rw [Array.getElem?_eq_getElem (by simpa using hj)] at this
          simpa using this
        | some j =>
          obtain ⟨hjl, hdst⟩ := prodOf_spec hp
          obtain ⟨oj, hoj⟩ : ∃ oj, ops[j]? = some oj := ⟨_, Array.getElem?_eq_getElem hjl⟩
          have hdj : oj.dst = some d := by unfold dstOf at hdst; rw [hoj] at hdst; exact hdst
          have hj1 := hall j hjl
          simp only [slot, hp, hj1, if_true]
          rw [putAll_same ops.toList 0 r a0 j oj (by simpa using hoj) hdj, Nat.zero_add]
          intro i x hx hne
          have hil : i < ops.size := by
            have := (List.getElem?_eq_some_iff.1 hx).1
            simpa using this
          have := ((ok_of hok hoj).dst d hdj).2.2 i hil hne
          unfold dstOf at this
          rw [show ops[i]? = some x by simpa using hx] at this
          exact this
      have h2 : a.defers = (putAll ops.toList 0 r a0).defers := by rw [putAll_defers, hdf]
      cases a
      simp only at h1 h2
      rw [h1, h2]
    show Q _ w
    rw [← ea]
    exact h
  | o :: l, k, r, a, w, hl, hdf, hsl, h => by
    have ho : ops[k]? = some o := by have := hl 0; simpa using this.symm
    have hl' : ∀ j, l[j]? = ops[k + 1 + j]? := fun j => by have := hl (j + 1); simp only [List.getElem?_cons_succ] at this; rw [this]; congr 1; omega
    have okk := ok_of hok ho
    have hks : k < ops.size := (Array.getElem?_eq_some_iff.1 ho).1
    have hrd : ∀ x ∈ o.op.operands, a.eval x = rd ops a0 k r x := by
      intro x hx
      cases x with
      | tmp t =>
        have e0 : a.eval (.tmp t) = (slot ops a0 (fun j => decide (j < k)) r t).getD undef := by
          show a.tmps.getD t undef = _
          rw [Array.getD_eq_getD_getElem?, hsl t]
        have e1 : a0.eval (.tmp t) = (a0.tmps[t]?).getD undef := by
          show a0.tmps.getD t undef = _
          rw [Array.getD_eq_getD_getElem?]
        rw [e0]
        cases hp : prodOf ops t with
        | none =>
          simp only [slot, rd, hp]
          exact e1.symm
        | some j =>
          have hdst := (prodOf_spec hp).2
          obtain ⟨oj, hoj⟩ : ∃ oj, ops[j]? = some oj := ⟨_, Array.getElem?_eq_getElem (prodOf_spec hp).1⟩
          have hdj : oj.dst = some t := by unfold dstOf at hdst; rw [hoj] at hdst; exact hdst
          have hlt := ((ok_of hok hoj).dst t hdj).1
          rcases okk.reads t hx j hp with hj | ⟨oj', hoj', hkj⟩
          · have hc : (deps o).contains j = true := by simpa using hj
            have hjk : decide (j < k) = true := decide_eq_true (okk.lt j hj)
            simp only [slot, rd, hp, ho, hjk, hc, if_true, Array.getElem?_eq_getElem hlt]
            rfl
          · rw [hoj] at hoj'
            injection hoj' with hoj'
            subst hoj'
            have hkj2 := (ok_of hok hoj).lt k hkj
            have hjf : decide (j < k) = false := decide_eq_false (by omega)
            have hnot : (deps o).contains j = false := by
              cases e : (deps o).contains j with
              | false => rfl
              | true =>
                have h1 := okk.lt j (by simpa using e)
                omega
            simp only [slot, rd, hp, ho, hjf, hnot, Bool.false_eq_true, if_false]
            exact e1.symm
      | const v => rfl
      | global g => rfl
      | func f => rfl
    have hwant : Region.wanted o (yielded ops a.tmps) = wantedR o r := by
      unfold Region.wanted wantedR
      cases hg : o.guard with
      | none => rfl
      | some gb =>
        obtain ⟨g, b⟩ := gb
        obtain ⟨hgd, d, hgs⟩ := okk.guard g b hg
        have hgk := okk.lt g hgd
        obtain ⟨og, hog⟩ : ∃ og, ops[g]? = some og := ⟨_, Array.getElem?_eq_getElem (by omega)⟩
        have hdg : og.dst = some d := by unfold dstOf at hgs; rw [hog] at hgs; exact hgs
        obtain ⟨hdn, hp, -⟩ := (ok_of hok hog).dst d hdg
        have e : yielded ops a.tmps g = boolOf (r g) := by
          have hs : a.tmps[d]? = some (r g) := by
            rw [hsl d]
            unfold slot
            rw [hp]
            simp only [decide_eq_true hgk, if_true, Array.getElem?_eq_getElem hdn, Option.map_some]
          unfold yielded
          rw [hog]
          simp only [Option.bind_some, hdg, hs]
          cases r g <;> rfl
        simp only [e]
    have hex : execOp (rd ops a0 k r) o = execOp a.eval o := execOp_congr o (fun cs b => (Region.noSelect_spec (Bool.and_eq_true _ _ ▸ hok).1) k o cs b ho) (fun x hx => (hrd x hx).symm)
    have hput : ∀ v d, (a.put o.dst v).tmps[d]? = slot ops a0 (fun j => decide (j < k + 1)) (updR r k v) d := fun v d => by
      rw [← upd_lt]
      exact slot_put okk ho (decide_eq_false (by omega)) hsl v d
    have hpd : ∀ v, (a.put o.dst v).defers = a0.defers := fun v => by rw [← hdf]; cases o.dst <;> rfl
    unfold Seq at h
    unfold SeqR
    rw [if_neg (by simp)]
    rw [hwant] at h
    by_cases hw : wantedR o r = true
    · rw [if_pos hw] at h
      rw [if_neg (by rw [hw]; simp), hex]
      by_cases hk : k ∈ loud
      · rw [if_pos hk] at h ⊢
        exact UponV.mono (fun v w' ⟨h1, h2⟩ => ⟨h1, seqR_of hok l (k + 1) _ _ w' hl' (hpd v) (hput v) h2⟩) h
      · rw [if_neg hk] at h ⊢
        obtain ⟨x, h1, h2⟩ := h
        exact ⟨x, h1, seqR_of hok l (k + 1) _ _ w hl' (hpd x) (hput x) h2⟩
    · rw [if_neg hw] at h
      rw [if_pos (by simpa using hw)]
      exact seqR_of hok l (k + 1) _ _ w hl' (hpd _) (hput _) h

/-- The law: a region that draws its order, walked once. `loud`: the operations that turn the world; each waits for those before it; where `last` of them stands, all others are done. Each of the others makes one value in all worlds of S. -/
theorem region_seq {id : Nat} {Q : Exit → Act → World → Prop} {w : World} {l : List Oper} (loud reads : List Nat) (last : Nat) (S : World → Prop) (hm : P.follows .mixedOrders = true) (hok : okB l.toArray a0.tmps.size = true) (hc : chainB l.toArray loud = true) (he : endB l.toArray loud reads last = true) (hS : S w.drew)
    (h : ∀ ops, ops = l.toArray → Seq P ops S loud reads last (fun a w => Q .normal a w) l 0 a0 w.drew) : (Code.region id l.toArray true).wp P Q a0 w := by
  have hR := seqR_of (P := P) (S := S) (loud := loud) (reads := reads) (last := last) hok l 0 (fun _ => undef) a0 w.drew (by simp) rfl (fun d => by unfold slot; cases prodOf l.toArray d <;> rfl) (h _ rfl)
  have hlt : ∀ (i : Nat) oi, l.toArray[i]? = some oi → ∀ d ∈ deps oi, d < i := fun i oi hoi d hdd => (ok_of hok hoi).lt d hdd
  obtain ⟨he1, he2⟩ := end_spec he hlt
  refine region hm hok (fun _ => none) (fun done r W => ((last < l.toArray.size → done last = false) → S W) ∧ SeqR P l.toArray a0 S loud reads last (fun r w => Q .normal (putAll l.toArray.toList 0 r a0) w) done l 0 r W) (fun _ => undef) ⟨fun _ => hS, hR⟩ ?_ ?_
  · intro k o ho done r W ⟨hSW, hJ⟩ _ hC hd hdeps
    have hks : k < l.toArray.size := (Array.getElem?_eq_some_iff.1 ho).1
    have m : May l.toArray loud done k o := ⟨ho, hd, hdeps, hC, hlt, fun i oi hoi g b hg => ((ok_of hok hoi).guard g b hg).1⟩
    have hup : upd done k last = false → done last = false := fun e => by
      unfold upd at e
      split at e
      · cases e
      · exact e
    by_cases hw : wantedR o r = true
    · rw [if_pos hw]
      by_cases hk : k ∈ loud
      · refine UponV.mono (fun v w' ⟨h1, h2⟩ => ⟨fun x hx => (nomatch hx), fun e' => h1 ?_, h2⟩) (take_loud m hk hc l 0 r W (by simp) (Nat.zero_le _) hw hJ)
        by_cases hl : last < l.toArray.size
        · have e := e' hl
          have hne : k ≠ last := fun e2 => by
            subst e2
            simp [upd] at e
          by_cases hkl : k < last
          · exact hkl
          · have := chain_spec hc hk (he1 hl) (by omega) ho hC hdeps
            rw [hup e] at this
            cases this
        · omega
      · have hS' : reads.contains k = true → S W := fun hn => hSW fun hl => by
          cases e : done last with
          | false => rfl
          | true =>
            have := (he2 k hks hk hn).2 done hC hl e
            rw [hd] at this
            cases this
        obtain ⟨x, h1, h2⟩ := take_quiet m hk (fun hn => (he2 k hks hk hn).1) l 0 r W hS' (by simp) (Nat.zero_le _) hw hJ
        rw [h1 W hS']
        exact ⟨fun y hy => (nomatch hy), fun e => hSW fun hl => hup (e hl), h2⟩
    · rw [if_neg hw]
      exact ⟨fun x hx => (nomatch hx), fun e => hSW fun hl => hup (e hl), take_skip m l 0 r W (by simp) (Nat.zero_le _) (by simpa using hw) hJ⟩
  · intro done r W hall ⟨_, hJ⟩ _
    exact seqR_all l 0 r W (fun j _ hj => hall j (by simpa using hj)) hJ

/-! The steps. -/
theorem Seq.nil_ {Q : Act → World → Prop} {k : Nat} {a : Act} {w : World} (h : Q a w) : Seq P ops S loud reads last Q [] k a w := h
/-- An operation that makes a value. -/
theorem Seq.quiet {Q : Act → World → Prop} {o : Oper} {l : List Oper} {k : Nat} {a : Act} {w : World} {v : Value} {a' : Act} (hl : loud.contains k = false) (hg : Region.wanted o (yielded ops a.tmps) = true)
    (hq : ∀ W, (reads.contains k = true → S W) → (execOp a.eval o).run P W = .ok (.value v) W) (ha : a.put o.dst v = a') (h : Seq P ops S loud reads last Q l (k + 1) a' w) : Seq P ops S loud reads last Q (o :: l) k a w := by
  unfold Seq
  rw [if_pos hg, if_neg (by simpa using hl)]
  exact ⟨v, hq, ha ▸ h⟩
/-- An operation that is passed over. -/
theorem Seq.skip {Q : Act → World → Prop} {o : Oper} {l : List Oper} {k : Nat} {a : Act} {w : World} {a' : Act} (hg : Region.wanted o (yielded ops a.tmps) = false)
    (ha : a.put o.dst undef = a') (h : Seq P ops S loud reads last Q l (k + 1) a' w) : Seq P ops S loud reads last Q (o :: l) k a w := by
  unfold Seq
  rw [if_neg (by rw [hg]; simp)]
  exact ha ▸ h
/-- An operation that turns the world. -/
theorem Seq.loud_ {Q : Act → World → Prop} {o : Oper} {l : List Oper} {k : Nat} {a : Act} {w : World} (hl : loud.contains k = true) (hg : o.guard = none ∨ Region.wanted o (yielded ops a.tmps) = true)
    (h : ∀ K : Act → World → Prop, Hid (∀ a' w', a'.defers = a.defers → (k < last → S w') → Seq P ops S loud reads last Q l (k + 1) a' w' → K a' w') → if Region.wanted o (yielded ops a.tmps) = true then Oper.wp P o a w K (fun _ _ _ => False) else K (a.put o.dst undef) w) : Seq P ops S loud reads last Q (o :: l) k a w := by
  have hg' : Region.wanted o (yielded ops a.tmps) = true := by
    rcases hg with hg | hg
    · unfold Region.wanted; rw [hg]
    · exact hg
  have h1 := h (fun a' w' => a'.defers = a.defers ∧ (k < last → S w') ∧ Seq P ops S loud reads last Q l (k + 1) a' w') (show Hid _ from fun a' w' e1 e2 e3 => ⟨e1, e2, e3⟩)
  rw [if_pos hg'] at h1
  unfold Seq
  rw [if_pos hg', if_pos (by simpa using hl)]
  unfold Oper.wp at h1
  revert h1
  generalize (execOp a.eval o).run P w = x
  intro h1
  cases x with
  | ok n w' =>
    cases n with
    | value v => exact ⟨h1.2.1, h1.2.2⟩
    | skip => exact ⟨h1.2.1, h1.2.2⟩
    | defer d =>
      have := h1.1
      exfalso
      have e : d :: a.defers = a.defers := by
        generalize o.dst = x at this
        cases x <;> exact this
      exact absurd (congrArg List.length e) (by simp)
    | enter f args =>
      refine Calls.mono h1 fun e w'' he => ?_
      cases e with
      | returned v => exact ⟨v, rfl, he.2.1, he.2.2⟩
      | panicked c => exact he.elim
      | outgrown => obtain ⟨_, _, h⟩ := he; exact h.elim
    | row row args => exact Rows.mono h1 fun v w'' hv => ⟨hv.2.1, hv.2.2⟩
    | _ => exact h1.elim
  | halt c w' =>
    cases c <;> exact (h1 : False).elim
end
end Free
end Go.Proofs.Ytmgaaejghfgbnaa
