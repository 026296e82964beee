/- What is made right is one tree; what tokens tell is one that is not too deep, and no longer than the tokens. Over no program. -/
import Derived.Test.YtflagbglbhmheaaDoorShoQ
namespace Go.Proofs.YtflagbglbhmheaaDoor
set_option maxRecDepth 100000
namespace Sh
open Rl (St Res opOf isN loop rows adv put into outof inside)
open Lx (Tk kt)

/- One tree. -/
def isLeaf (n : Int) : Bool := decide (n = 1 ∨ n = 2 ∨ 6 ≤ n ∧ n ≤ 11)
/-- A pile of trees behind a number. -/
def tstep (ts : List Tree) (n : Int) : List Tree :=
  if isLeaf n = true then ts ++ [.leaf n]
  else ts.take (ts.length - 2) ++ [.node n (ts.getD (ts.length - 2) (.leaf 0)) (ts.getD (ts.length - 1) (.leaf 0))]
def tmach : List Tree → List Int → List Tree
  | ts, [] => ts
  | ts, n :: r => tmach (tstep ts n) r
theorem tmach_append : ∀ (a b : List Int) (ts : List Tree), tmach ts (a ++ b) = tmach (tmach ts a) b
  | [], _, _ => rfl
  | n :: a, b, ts => tmach_append a b (tstep ts n)
theorem tstep_node {n : Int} (h : isLeaf n = false) (ts : List Tree) (x y : Tree) : tstep (ts ++ [x] ++ [y]) n = ts ++ [.node n x y] := by
  unfold tstep
  rw [if_neg (by rw [h]; decide)]
  have e0 : (ts ++ [x] ++ [y]).length = ts.length + 2 := by simp
  rw [e0, Nat.add_sub_cancel, show ts.length + 2 - 1 = ts.length + 1 by omega]
  congr 1
  · rw [List.append_assoc, List.take_left]
  · simp
theorem ok_leaf {b : Bool} {op : Int} (h : Ok b (.leaf op)) : isLeaf op = true := by
  unfold Ok at h
  exact decide_eq_true (by rcases h with ⟨_, h⟩ | ⟨_, h⟩ <;> omega)
theorem ok_noleaf {b : Bool} {op : Int} {x y : Tree} (h : Ok b (.node op x y)) : isLeaf op = false := by
  have := ok_op h
  exact decide_eq_false (by omega)
theorem tmach_post : ∀ (t : Tree) (b : Bool) (ts : List Tree), Ok b t → tmach ts (post t) = ts ++ [t]
  | .leaf op, b, ts, h => by
    show tstep ts op = _
    unfold tstep
    rw [if_pos (ok_leaf h)]
  | .node op x y, b, ts, h => by
    obtain ⟨b', hx, hy⟩ := ok_sub h
    show tmach ts (post x ++ post y ++ [op]) = _
    rw [tmach_append, tmach_append, tmach_post x b' ts hx, tmach_post y b' _ hy]
    exact tstep_node (ok_noleaf h) ts x y
/-- A rule is of one tree. -/
theorem post_inj {t t' : Tree} {b b' : Bool} (h : Ok b t) (h' : Ok b' t') (e : post t = post t') : t = t' := by
  have h1 := tmach_post t b [] h
  rw [e, tmach_post t' b' [] h'] at h1
  simpa using h1.symm
/-- A pile's sorts are those of trees. -/
def Piled (q : List Bool) (ts : List Tree) : Prop := ts.length = q.length ∧ ∀ (j : Nat) (b : Bool) (t : Tree), q[j]? = some b → ts[j]? = some t → Ok b t
theorem Piled.snoc {q : List Bool} {ts : List Tree} {b : Bool} {t : Tree} (h : Piled q ts) (ht : Ok b t) : Piled (q ++ [b]) (ts ++ [t]) := by
  refine ⟨by simp [h.1], fun j c u hc hu => ?_⟩
  by_cases hj : j < q.length
  · rw [List.getElem?_append_left hj] at hc
    rw [List.getElem?_append_left (by rw [h.1]; exact hj)] at hu
    exact h.2 j c u hc hu
  · rw [List.getElem?_append_right (by omega)] at hc
    rw [List.getElem?_append_right (by have := h.1; omega)] at hu
    have h0 : j - q.length = 0 := by have := (List.getElem?_eq_some_iff.1 hc).1; simp at this; omega
    rw [h0] at hc
    rw [h.1, h0] at hu
    injection hc with hc
    injection hu with hu
    subst hc hu
    exact ht
theorem Piled.take {q : List Bool} {ts : List Tree} (h : Piled q ts) (n : Nat) : Piled (q.take n) (ts.take n) := by
  refine ⟨by simp [h.1], fun j c u hc hu => ?_⟩
  rw [List.getElem?_take] at hc hu
  split at hc
  · rename_i hj
    rw [if_pos hj] at hu
    exact h.2 j c u hc hu
  · cases hc
def posts (ts : List Tree) : List Int := ts.flatMap post
theorem posts_append (a b : List Tree) : posts (a ++ b) = posts a ++ posts b := by simp [posts]
/-- A number of a rule, told over trees. -/
theorem step_tree {q q' : List Bool} {ts : List Tree} {n : Int} (h : Piled q ts) (hs : Rl.step q n = some q') : Piled q' (tstep ts n) ∧ posts (tstep ts n) = posts ts ++ [n] := by
  have leaf : ∀ b, Ok b (.leaf n) → Piled (q ++ [b]) (tstep ts n) ∧ posts (tstep ts n) = posts ts ++ [n] := fun b hb => by
    unfold tstep
    rw [if_pos (ok_leaf hb)]
    exact ⟨h.snoc hb, by rw [posts_append]; simp [posts, post]⟩
  have node : ∀ a b, (∀ x y, Ok a x → Ok a y → Ok b (.node n x y)) → Rl.two q a b = some q' → Piled q' (tstep ts n) ∧ posts (tstep ts n) = posts ts ++ [n] := fun a b hb h2 => by
    unfold Rl.two at h2
    split at h2
    · rename_i hq
      obtain ⟨hq2, hqa, hqb⟩ := hq
      injection h2 with h2
      subst h2
      obtain ⟨m, hm⟩ : ∃ m, q.length = m + 2 := ⟨q.length - 2, by omega⟩
      have hl := h.1
      rw [hm] at hqa hqb hl ⊢
      rw [Nat.add_sub_cancel] at hqa ⊢
      rw [show m + 2 - 1 = m + 1 by omega] at hqb
      have g1 : ts[m]? = some ts[m] := List.getElem?_eq_getElem (by omega)
      have g2 : ts[m + 1]? = some ts[m + 1] := List.getElem?_eq_getElem (by omega)
      have ok1 := h.2 _ _ _ hqa g1
      have ok2 := h.2 _ _ _ hqb g2
      have okn := hb _ _ ok1 ok2
      have hts : ts = ts.take m ++ [ts[m]] ++ [ts[m + 1]] := by
        have e1 : ts.take (m + 1) = ts.take m ++ [ts[m]] := by rw [List.take_add_one, g1]; rfl
        have e2 : ts.take (m + 2) = ts.take (m + 1) ++ [ts[m + 1]] := by rw [List.take_add_one, g2]; rfl
        rw [← e1, ← e2, List.take_of_length_le (by omega)]
      have hst : tstep ts n = ts.take m ++ [.node n ts[m] ts[m + 1]] := by
        have := tstep_node (ok_noleaf okn) (ts.take m) ts[m] ts[m + 1]
        rwa [← hts] at this
      rw [hst]
      refine ⟨(h.take m).snoc okn, ?_⟩
      have hp : posts ts = posts (ts.take m) ++ post ts[m] ++ post ts[m + 1] := by
        have := congrArg posts hts
        rw [posts_append, posts_append] at this
        rw [this]
        simp [posts]
      rw [hp, posts_append]
      simp [posts, post]
    · cases h2
  unfold Rl.step at hs
  split at hs
  · rename_i h1; injection hs with hs; subst hs
    exact leaf false (by unfold Ok; exact .inr ⟨rfl, h1⟩)
  · split at hs
    · rename_i h1; injection hs with hs; subst hs
      exact leaf true (by unfold Ok; exact .inl ⟨rfl, h1.1, h1.2⟩)
    · split at hs
      · rename_i h1; exact node false false (fun x y hx hy => by unfold Ok; exact .inl ⟨rfl, h1, hx, hy⟩) hs
      · split at hs
        · rename_i h1; exact node true false (fun x y hx hy => by unfold Ok; exact .inr (.inl ⟨rfl, h1, hx, hy⟩)) hs
        · split at hs
          · rename_i h1; exact node true true (fun x y hx hy => by unfold Ok; exact .inr (.inr ⟨rfl, h1, hx, hy⟩)) hs
          · cases hs
theorem pile_tree : ∀ (rule : List Int) (q q' : List Bool) (ts : List Tree), Piled q ts → Rl.pileOf q rule = some q' → Piled q' (tmach ts rule) ∧ posts (tmach ts rule) = posts ts ++ rule
  | [], q, q', ts, h, hs => by
    injection hs with hs
    subst hs
    exact ⟨h, by simp [tmach]⟩
  | n :: r, q, q', ts, h, hs => by
    simp only [Rl.pileOf] at hs
    cases hq : Rl.step q n with
    | none => rw [hq] at hs; cases hs
    | some q1 =>
      rw [hq, Option.bind_some] at hs
      obtain ⟨a1, a2⟩ := step_tree h hq
      obtain ⟨b1, b2⟩ := pile_tree r q1 q' _ a1 hs
      exact ⟨b1, by show posts (tmach (tstep ts n) r) = _; rw [b2, a2]; simp⟩
/-- What is made right is a tree. -/
theorem right_tree {rule : List Int} {b : Bool} (h : Rl.right rule b = true) : ∃ t, Ok b t ∧ post t = rule ∧ tmach [] rule = [t] := by
  obtain ⟨_, h2⟩ := of_decide_eq_true h
  obtain ⟨a1, a2⟩ := pile_tree rule [] [b] [] ⟨rfl, fun j c u hc => by simp at hc⟩ h2
  obtain ⟨t, ht⟩ : ∃ t, tmach [] rule = [t] := by
    have := a1.1
    match hm : tmach [] rule, this with
    | [t], _ => exact ⟨t, rfl⟩
  rw [ht] at a1 a2
  exact ⟨t, a1.2 0 b t rfl rfl, by simpa [posts] using a2, ht⟩
theorem tree_seg : ∀ (t : Tree) (b : Bool), Ok b t → Rl.Seg (post t) b
  | .leaf op, b, h => Rl.seg_one fun p => by
    unfold Ok at h
    unfold Rl.step
    rcases h with ⟨rfl, h1, h2⟩ | ⟨rfl, h1⟩
    · rw [if_neg (by omega), if_pos ⟨h1, h2⟩]
    · rw [if_pos h1]
  | .node op x y, b, h => by
    unfold Ok at h
    rcases h with ⟨rfl, h1, hx, hy⟩ | ⟨rfl, rfl, hx, hy⟩ | ⟨rfl, h1, hx, hy⟩
    · exact Rl.seg_two (tree_seg x _ hx) (tree_seg y _ hy) fun p => by
        unfold Rl.step
        rw [if_neg (by omega), if_neg (by omega), if_pos h1]
    · exact Rl.seg_two (tree_seg x _ hx) (tree_seg y _ hy) fun p => rfl
    · exact Rl.seg_two (tree_seg x _ hx) (tree_seg y _ hy) fun p => by
        unfold Rl.step
        rw [if_neg (by omega), if_neg (by omega), if_neg (by omega), if_neg (by omega), if_pos h1]

/- What tokens tell. -/
/-- The bytes of the words that a rule is written with; of the tokens up to a place. -/
def wl (x : List Int) : Nat := (x.map fun n => (nameOf n).size).sum
theorem wl_append (a b : List Int) : wl (a ++ b) = wl a + wl b := by simp [wl]
theorem wl_one (n : Int) : wl [n] = (nameOf n).size := by simp [wl]
def sumTo (l : List Tk) (k : Nat) : Nat := ((l.take k).map fun t => t.text.size).sum
theorem sumTo_next {l : List Tk} {k : Nat} {t : Tk} (h : l[k]? = some t) : sumTo l (k + 1) = sumTo l k + t.text.size := by
  unfold sumTo
  rw [List.take_add_one, h]
  simp
theorem sumTo_up {l : List Tk} (k : Nat) : sumTo l k ≤ sumTo l (k + 1) := by
  cases h : l[k]? with
  | none =>
    have hk := List.getElem?_eq_none_iff.1 h
    unfold sumTo
    rw [List.take_of_length_le hk, List.take_of_length_le (by omega)]
    exact Nat.le_refl _
  | some t => rw [sumTo_next h]; omega
theorem sum_isN {l : List Tk} {k : Nat} {w : ByteArray} (h : isN l k w = true) : sumTo l (k + 1) = sumTo l k + w.size := by
  obtain ⟨t, ht, _, e⟩ := Rl.isN_some h
  rw [sumTo_next ht, e]
theorem W_mono {m m' : Nat} (h : m ≤ m') (t : Tree) : W m t ≤ W m' t := by
  unfold W
  by_cases h1 : bt t < m
  · rw [decide_eq_true h1, decide_eq_true (by omega)]
    exact Nat.le_refl _
  · rw [decide_eq_false h1]
    exact Nat.le_add_right _ _
theorem W_le (m : Nat) (t : Tree) : W m t ≤ deep t + 1 := by
  unfold W
  cases decide (bt t < m) <;> simp
/-- What a part makes, read at a depth, where least m must bind. -/
def Makes (l : List Tk) (o : Nat) (sort : Bool) (m : Nat) (p : St → Res) : Prop :=
  ∀ s s1 : St, s.deep = o → p s = (s1, 0) → s1.deep = o ∧ ∃ t, Ok sort t ∧ s1.out = s.out ++ post t ∧ o + W m t ≤ 12 ∧ sumTo l s.pos + wl (post t) ≤ sumTo l s1.pos
theorem put_inv {op : Int} {s s1 : St} (h : put op s = (s1, 0)) : s1 = { s with out := s.out ++ [op] } := by
  unfold put at h
  split at h
  · injection h with _ h; cases h
  · injection h with h _; exact h.symm
theorem res_two {r : Res} {s1 : St} (h : r = (s1, 0)) : r.2 = 0 ∧ r.1 = s1 := by subst h; exact ⟨rfl, rfl⟩
section
variable {l : List Tk} {o : Nat} {sort : Bool} {more : St → Res} {w : ByteArray} {op : Int} {m : Nat}
theorem loop_makes (hm : Makes l o sort (m + 1) more) (hop : opOf w = op) (hw : nameOf op = w) (hok : ∀ x y, Ok sort x → Ok sort y → Ok sort (.node op x y)) (hW : ∀ x y, W m (.node op x y) = max (W m x) (W (m + 1) y)) :
    ∀ (n : Nat) (s s1 : St) (y : List Int) (t : Tree) (k : Nat), s.deep = o → s.out = y ++ post t → Ok sort t → o + W m t ≤ 12 → k + wl (post t) ≤ sumTo l s.pos → loop l more w n s = (s1, 0) →
      s1.deep = o ∧ ∃ t', Ok sort t' ∧ s1.out = y ++ post t' ∧ o + W m t' ≤ 12 ∧ k + wl (post t') ≤ sumTo l s1.pos
  | 0, s, s1, y, t, k, h1, h2, h3, h4, h5, h => by
    injection h with h _
    subst h
    exact ⟨h1, t, h3, h2, h4, h5⟩
  | n + 1, s, s1, y, t, k, h1, h2, h3, h4, h5, h => by
    by_cases hn : isN l s.pos w = true
    · by_cases hr : (more (adv s)).2 = 0
      · by_cases hq : (put (opOf w) (more (adv s)).1).2 = 0
        · rw [loop, if_pos hn, if_pos hr, if_pos hq] at h
          obtain ⟨a1, u, a2, a3, a4, a5⟩ := hm (adv s) (more (adv s)).1 h1 (Rl.res_mk hr)
          have hp := put_inv (Rl.res_mk hq)
          have a5' : sumTo l (s.pos + 1) + wl (post u) ≤ sumTo l (more (adv s)).1.pos := a5
          rw [sum_isN hn] at a5'
          refine loop_makes hm hop hw hok hW n _ s1 y (.node op t u) k ?_ ?_ (hok _ _ h3 a2) (by rw [hW]; omega) ?_ h
          · rw [hp]; exact a1
          · rw [hp]
            show (more (adv s)).1.out ++ [opOf w] = _
            rw [a3, hop, show (adv s).out = s.out from rfl, h2]
            simp [post]
          · rw [hp]
            show k + wl (post t ++ post u ++ [op]) ≤ sumTo l (more (adv s)).1.pos
            rw [wl_append, wl_append, wl_one, hw]
            omega
        · rw [loop, if_pos hn, if_pos hr, if_neg hq] at h
          exact absurd (res_two h).1 hq
      · rw [loop, if_pos hn, if_neg hr] at h
        exact absurd (res_two h).1 hr
    · rw [loop, if_neg hn] at h
      injection h with h _
      subst h
      exact ⟨h1, t, h3, h2, h4, h5⟩
theorem rows_makes {part : St → Res} {ws : List ByteArray} (hm : Makes l o sort (m + 1) (rows l part ws)) (hop : opOf w = op) (hw : nameOf op = w) (hok : ∀ x y, Ok sort x → Ok sort y → Ok sort (.node op x y)) (hW : ∀ x y, W m (.node op x y) = max (W m x) (W (m + 1) y)) :
    Makes l o sort m (rows l part (w :: ws)) := by
  intro s s1 h1 h
  by_cases hr : (rows l part ws s).2 = 0
  · rw [rows, if_pos hr] at h
    obtain ⟨a1, t, a2, a3, a4, a5⟩ := hm s _ h1 (Rl.res_mk hr)
    exact loop_makes hm hop hw hok hW l.length _ s1 s.out t (sumTo l s.pos) a1 a3 a2 (by have := W_mono (show m ≤ m + 1 by omega) t; omega) a5 h
  · rw [rows, if_neg hr] at h
    exact absurd (res_two h).1 hr
end
theorem W_node (op : Int) (x y : Tree) (h5 : op ≠ 5) : W (binds op) (.node op x y) = max (W (binds op) x) (W (binds op + 1) y) := by
  unfold W
  rw [bt_node, decide_eq_false (by omega)]
  simp only [deep, lowL, lowR, ne_eq, h5, not_false_eq_true, true_and]
  rfl
theorem inside_makes {l : List Tk} {o : Nat} {sort : Bool} {p : St → Res} {fin beg : ByteArray} (hp : o < 12 → Makes l (o + 1) sort 1 p) {s s1 : St} (_ : isN l s.pos beg = true) (h1 : s.deep = o) (ho : o ≤ 12) (h : inside l p fin s = (s1, 0)) :
    s1.deep = o ∧ ∃ t, Ok sort t ∧ s1.out = s.out ++ post t ∧ o + W 3 t ≤ 12 ∧ sumTo l s.pos + wl (post t) ≤ sumTo l s1.pos := by
  by_cases hd : s.deep = 12
  · rw [inside, if_pos hd] at h
    injection h with _ h
    cases h
  · by_cases hr : (p (into s)).2 = 0
    · by_cases hf : isN l (p (into s)).1.pos fin = true
      · rw [inside, if_neg hd, if_pos hr, if_pos hf] at h
        injection h with h _
        subst h
        obtain ⟨a1, t, a2, a3, a4, a5⟩ := hp (by omega) (into s) _ (by show s.deep + 1 = _; omega) (Rl.res_mk hr)
        have hw1 : deep t ≤ W 1 t := by unfold W; omega
        have hw3 := W_le 3 t
        have a5' : sumTo l (s.pos + 1) + wl (post t) ≤ sumTo l (p (into s)).1.pos := a5
        have u1 := sumTo_up (l := l) s.pos
        have u2 := sumTo_up (l := l) (p (into s)).1.pos
        exact ⟨by show (p (into s)).1.deep - 1 = o; omega, t, a2, a3, by omega, by show _ ≤ sumTo l ((p (into s)).1.pos + 1); omega⟩
      · rw [inside, if_neg hd, if_pos hr, if_neg hf] at h
        injection h with _ h
        cases h
    · rw [inside, if_neg hd, if_neg hr] at h
      exact absurd (res_two h).1 hr
theorem look_mem (s : ByteArray) : ∀ l : List (ByteArray × Int), Rl.look s l ≠ 0 → (s, Rl.look s l) ∈ l
  | [], h => absurd rfl h
  | (k, n) :: r, h => by
    unfold Rl.look at h ⊢
    by_cases hk : k = s
    · rw [if_pos hk]
      subst hk
      exact .head _
    · rw [if_neg hk] at h ⊢
      exact .tail _ (look_mem s r h)
theorem table_name : ∀ p ∈ Rl.table, nameOf p.2 = p.1 := by decide
theorem name_opOf {s : ByteArray} (h : opOf s ≠ 0) : nameOf (opOf s) = s := table_name _ (look_mem s Rl.table h)
theorem atom_makes {l : List Tk} {o : Nat} (ho : o ≤ 12) {lab : St → Res} (hp : o < 12 → Makes l (o + 1) true 1 lab) : Makes l o true 3 (Rl.atom l lab) := by
  intro s s1 h1 h
  by_cases hn : isN l s.pos Rl.wOpenL = true
  · rw [Rl.atom, if_pos hn] at h
    exact inside_makes hp hn h1 ho h
  · by_cases hw : Rl.word l s.pos = 0
    · rw [Rl.atom, if_neg hn, if_pos hw] at h
      injection h with _ h
      cases h
    · rw [Rl.atom, if_neg hn, if_neg hw] at h
      have hs := put_inv h
      subst hs
      obtain ⟨t, ht, _, t3, t4, t5⟩ := Rl.word_some hw
      refine ⟨h1, .leaf (Rl.word l s.pos), by unfold Ok; exact .inl ⟨rfl, by omega, by omega⟩, rfl, ?_, ?_⟩
      · have hb : bt (.leaf (Rl.word l s.pos)) = 3 := by
          show (if Rl.word l s.pos = 4 ∨ Rl.word l s.pos = 12 then 1 else if Rl.word l s.pos = 3 ∨ Rl.word l s.pos = 13 then 2 else 3) = 3
          rw [if_neg (by omega), if_neg (by omega)]
        unfold W
        rw [hb]
        exact ho
      · show sumTo l s.pos + wl [Rl.word l s.pos] ≤ sumTo l (s.pos + 1)
        rw [wl_one, sumTo_next ht, t3, name_opOf (by omega)]
        exact Nat.le_refl _
theorem ok_join (x y : Tree) (hx : Ok true x) (hy : Ok true y) : Ok true (.node 12 x y) := by unfold Ok; exact .inr (.inr ⟨rfl, .inl rfl, hx, hy⟩)
theorem ok_meet (x y : Tree) (hx : Ok true x) (hy : Ok true y) : Ok true (.node 13 x y) := by unfold Ok; exact .inr (.inr ⟨rfl, .inr rfl, hx, hy⟩)
theorem ok_or (x y : Tree) (hx : Ok false x) (hy : Ok false y) : Ok false (.node 4 x y) := by unfold Ok; exact .inl ⟨rfl, .inr rfl, hx, hy⟩
theorem ok_and (x y : Tree) (hx : Ok false x) (hy : Ok false y) : Ok false (.node 3 x y) := by unfold Ok; exact .inl ⟨rfl, .inl rfl, hx, hy⟩
theorem label_makes {l : List Tk} : ∀ (d o : Nat), o + d = 12 → Makes l o true 1 (Rl.label l (d + 1))
  | 0, o, h => rows_makes (op := 12) (rows_makes (op := 13) (part := Rl.atom l (Rl.label l 0)) (ws := []) (atom_makes (by omega) fun h2 => absurd h2 (by omega)) Rl.op_meet rfl ok_meet (fun x y => W_node 13 x y (by decide))) Rl.op_join rfl ok_join (fun x y => W_node 12 x y (by decide))
  | d + 1, o, h => rows_makes (op := 12) (rows_makes (op := 13) (part := Rl.atom l (Rl.label l (d + 1))) (ws := []) (atom_makes (by omega) fun _ => label_makes d (o + 1) (by omega)) Rl.op_meet rfl ok_meet (fun x y => W_node 13 x y (by decide))) Rl.op_join rfl ok_join (fun x y => W_node 12 x y (by decide))
theorem flow_makes {l : List Tk} {o : Nat} {lab : St → Res} (hp : Makes l o true 1 lab) : Makes l o false 3 (Rl.flow l lab) := by
  intro s s1 h1 h
  by_cases hr : (lab s).2 = 0
  · by_cases hn : isN l (lab s).1.pos Rl.wFlows = true
    · by_cases hq : (lab (adv (lab s).1)).2 = 0
      · rw [Rl.flow, if_pos hr, if_pos hn, if_pos hq] at h
        obtain ⟨a1, t, a2, a3, a4, a5⟩ := hp s _ h1 (Rl.res_mk hr)
        obtain ⟨b1, u, b2, b3, b4, b5⟩ := hp (adv (lab s).1) _ a1 (Rl.res_mk hq)
        have hs := put_inv h
        subst hs
        have hw1 : deep t ≤ W 1 t := by unfold W; omega
        have hw2 : deep u ≤ W 1 u := by unfold W; omega
        have ed : W 3 (.node 5 t u) = max (deep t) (deep u) := rfl
        have b5' : sumTo l ((lab s).1.pos + 1) + wl (post u) ≤ sumTo l (lab (adv (lab s).1)).1.pos := b5
        rw [sum_isN hn] at b5'
        refine ⟨b1, .node 5 t u, by unfold Ok; exact .inr (.inl ⟨rfl, rfl, a2, b2⟩), ?_, by rw [ed]; omega, ?_⟩
        · show (lab (adv (lab s).1)).1.out ++ [5] = _
          rw [b3, show (adv (lab s).1).out = (lab s).1.out from rfl, a3]
          simp [post]
        · show sumTo l s.pos + wl (post t ++ post u ++ [5]) ≤ sumTo l (lab (adv (lab s).1)).1.pos
          rw [wl_append, wl_append, wl_one]
          have : (nameOf 5).size = Rl.wFlows.size := rfl
          omega
      · rw [Rl.flow, if_pos hr, if_pos hn, if_neg hq] at h
        exact absurd (res_two h).1 hq
    · rw [Rl.flow, if_pos hr, if_neg hn] at h
      injection h with _ h
      cases h
  · rw [Rl.flow, if_neg hr] at h
    exact absurd (res_two h).1 hr
theorem prim_makes {l : List Tk} {o : Nat} (ho : o ≤ 12) {cnd lab : St → Res} (hc : o < 12 → Makes l (o + 1) false 1 cnd) (hp : Makes l o true 1 lab) : Makes l o false 3 (Rl.prim l cnd lab) := by
  intro s s1 h1 h
  by_cases t1 : isN l s.pos Rl.wTrue = true
  · rw [Rl.prim, if_pos t1] at h
    have hs := put_inv h
    subst hs
    refine ⟨h1, .leaf 1, by unfold Ok; exact .inr ⟨rfl, .inl rfl⟩, rfl, ho, ?_⟩
    show sumTo l s.pos + wl [1] ≤ sumTo l (s.pos + 1)
    rw [sum_isN t1, wl_one]
    exact Nat.le_refl _
  · by_cases t2 : isN l s.pos Rl.wFalse = true
    · rw [Rl.prim, if_neg t1, if_pos t2] at h
      have hs := put_inv h
      subst hs
      refine ⟨h1, .leaf 2, by unfold Ok; exact .inr ⟨rfl, .inr rfl⟩, rfl, ho, ?_⟩
      show sumTo l s.pos + wl [2] ≤ sumTo l (s.pos + 1)
      rw [sum_isN t2, wl_one]
      exact Nat.le_refl _
    · by_cases t3 : isN l s.pos Rl.wOpen = true
      · rw [Rl.prim, if_neg t1, if_neg t2, if_pos t3] at h
        exact inside_makes hc t3 h1 ho h
      · rw [Rl.prim, if_neg t1, if_neg t2, if_neg t3] at h
        exact flow_makes hp s s1 h1 h
theorem cond_makes {l : List Tk} : ∀ (d o : Nat), o + d = 12 → Makes l o false 1 (Rl.cond l (d + 1))
  | 0, o, h => rows_makes (op := 4) (rows_makes (op := 3) (part := Rl.prim l (Rl.cond l 0) (Rl.label l 1)) (ws := []) (prim_makes (by omega) (fun h2 => absurd h2 (by omega)) (label_makes 0 o h)) Rl.op_and rfl ok_and (fun x y => W_node 3 x y (by decide))) Rl.op_or rfl ok_or (fun x y => W_node 4 x y (by decide))
  | d + 1, o, h => rows_makes (op := 4) (rows_makes (op := 3) (part := Rl.prim l (Rl.cond l (d + 1)) (Rl.label l (d + 1 + 1))) (ws := []) (prim_makes (by omega) (fun _ => cond_makes d (o + 1) (by omega)) (label_makes (d + 1) o h)) Rl.op_and rfl ok_and (fun x y => W_node 3 x y (by decide))) Rl.op_or rfl ok_or (fun x y => W_node 4 x y (by decide))
/-- What tokens tell is a tree that is not too deep, of words that stand there. -/
theorem read_tree {l : List Tk} {lab : Bool} {i : Nat} (h : (Rl.read l lab i).2 = 0) : ∃ t, Ok lab t ∧ (Rl.read l lab i).1.out = post t ∧ deep t ≤ 12 ∧ wl (post t) ≤ sumTo l (Rl.read l lab i).1.pos := by
  have key : ∀ {p : St → Res}, Makes l 0 lab 1 p → (p ⟨i, 0, []⟩).2 = 0 → ∃ t, Ok lab t ∧ (p ⟨i, 0, []⟩).1.out = post t ∧ deep t ≤ 12 ∧ wl (post t) ≤ sumTo l (p ⟨i, 0, []⟩).1.pos := fun hm hh => by
    obtain ⟨_, t, a2, a3, a4, a5⟩ := hm ⟨i, 0, []⟩ _ rfl (Rl.res_mk hh)
    have hw1 : deep t ≤ W 1 t := by unfold W; omega
    exact ⟨t, a2, by simpa using a3, by omega, by omega⟩
  cases lab
  · exact key (cond_makes 12 0 rfl) h
  · exact key (label_makes 12 0 rfl) h
/-- A text is little longer than its words. -/
theorem txt_words : ∀ (t : Tree), (txt t).length + 3 ≤ wl (post t) + 3 * (post t).length
  | .leaf op => by
    show (nameOf op).data.toList.length + 3 ≤ wl [op] + 3 * 1
    rw [wl_one, ← Lib.size_eq]
    omega
  | .node op x y => by
    have h1 := txt_words x
    have h2 := txt_words y
    have h3 := wrapT_len (lowL op x) (square op) (txt x)
    have h4 := wrapT_len (lowR op y) (square op) (txt y)
    have h5 : (nameOf op).data.toList.length = (nameOf op).size := (Lib.size_eq _).symm
    simp only [txt, post, List.length_append, List.length_cons, List.length_nil, wl_append, wl_one]
    omega
theorem lens_le_join : ∀ (l : List (List UInt8)), Lib.lens l ≤ (Lib.join l [32]).length := by
  intro l
  cases l with
  | nil => simp [Lib.join_nil, Lib.lens]
  | cons x r =>
    rw [Lib.join_cons, List.length_append, Lib.joinTail_length]
    simp only [Lib.lens, List.map_cons, List.sum_cons]
    omega
theorem lens_texts : ∀ (l : List Tk), Lib.lens ((Lx.texts l).map (·.data.toList)) = (l.map fun t => t.text.size).sum
  | [] => rfl
  | t :: l => by
    have ih := lens_texts l
    unfold Lx.texts at ih ⊢
    rw [List.map_cons, List.filter_cons]
    have hsz : t.text.size = t.text.data.toList.length := Lib.size_eq _
    by_cases h : (!t.text.data.toList.isEmpty) = true
    · rw [if_pos h, List.map_cons, List.map_cons, List.sum_cons, hsz, ← ih]
      simp [Lib.lens]
    · rw [if_neg h, List.map_cons, List.sum_cons, ih]
      have h0 : t.text.data.toList = [] := by
        cases e : t.text.data.toList with
        | nil => rfl
        | cons c r => rw [e] at h; exact absurd rfl h
      rw [hsz, h0]
      simp
theorem sumTo_le_joined {l : List Tk} (k : Nat) : sumTo l k ≤ (Lx.joined l).size := by
  have h1 : sumTo l k ≤ (l.map fun t => t.text.size).sum := by
    unfold sumTo
    have h2 := List.take_append_drop k l
    have h3 : (l.map fun t => t.text.size).sum = ((l.take k).map fun t => t.text.size).sum + ((l.drop k).map fun t => t.text.size).sum := by rw [← List.sum_append, ← List.map_append, h2]
    omega
  have h4 := lens_le_join ((Lx.texts l).map (·.data.toList))
  rw [lens_texts] at h4
  have h5 : (Lx.joined l).size = (Lib.join ((Lx.texts l).map (·.data.toList)) [32]).length := by unfold Lx.joined; rw [Lx.pack_size]
  omega
/-- What is read, written, is little longer than its tokens, joined. -/
theorem read_short {l : List Tk} {lab : Bool} {i : Nat} {t : Tree} (ht : wl (post t) ≤ sumTo l (Rl.read l lab i).1.pos) : (txt t).length ≤ (Lx.joined l).size + 4 * (post t).length := by
  have h1 := txt_words t
  have h2 := sumTo_le_joined (l := l) (Rl.read l lab i).1.pos
  omega
end Sh
end Go.Proofs.YtflagbglbhmheaaDoor
