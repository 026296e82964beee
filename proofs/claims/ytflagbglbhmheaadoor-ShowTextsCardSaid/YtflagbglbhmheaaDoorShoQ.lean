/- What is written is read as the same rule. Over no program. -/
import Derived.Test.YtflagbglbhmheaaDoorShoP
namespace Go.Proofs.YtflagbglbhmheaaDoor
set_option maxRecDepth 100000
namespace Sh
open Rl (St Res opOf isN loop rows adv put into outof inside)
open Lx (Tk kt)

/-- The tokens ks stand in l from k on. -/
def At (l : List Tk) (k : Nat) (ks : List (Int × ByteArray)) : Prop := ∀ j p, ks[j]? = some p → ∃ t, l[k + j]? = some t ∧ kt t = p
section
variable {l : List Tk} {k : Nat} {ks ks' : List (Int × ByteArray)} {p : Int × ByteArray}
theorem At.left (h : At l k (ks ++ ks')) : At l k ks := fun j p e => h j p (by rw [List.getElem?_append_left (List.getElem?_eq_some_iff.1 e).1]; exact e)
theorem At.right (h : At l k (ks ++ ks')) : At l (k + ks.length) ks' := fun j p e => by
  have := h (ks.length + j) p (by rw [List.getElem?_append_right (by omega), Nat.add_sub_cancel_left]; exact e)
  rwa [← Nat.add_assoc] at this
theorem At.tail (h : At l k (p :: ks)) : At l (k + 1) ks := At.right (ks := [p]) h
theorem At.head (h : At l k (p :: ks)) : ∃ t, l[k]? = some t ∧ kt t = p := h 0 p rfl
theorem At.lt (h : At l k (p :: ks)) : k < l.length := by
  obtain ⟨t, ht, _⟩ := h.head
  exact (List.getElem?_eq_some_iff.1 ht).1
theorem At.isN (h : At l k (p :: ks)) (w : ByteArray) : Rl.isN l k w = decide ((p.1 = 1 ∨ p.1 = 3) ∧ p.2 = w) := by
  obtain ⟨t, ht, e⟩ := h.head
  subst e
  unfold Rl.isN
  rw [ht]
  rfl
theorem At.word (h : At l k (p :: ks)) : Rl.word l k = if p.1 = 1 ∧ 6 ≤ opOf p.2 ∧ opOf p.2 ≤ 11 then opOf p.2 else 0 := by
  obtain ⟨t, ht, e⟩ := h.head
  subst e
  unfold Rl.word
  rw [ht]
  rfl
end
theorem loop_no {l : List Tk} {more : St → Res} {w : ByteArray} {n : Nat} {s : St} (h : isN l s.pos w = false) : loop l more w n s = (s, 0) := by
  cases n with
  | zero => rfl
  | succ n => rw [loop, if_neg (by rw [h]; decide)]
def after (s : St) (n : Nat) (x : List Int) : St := ⟨s.pos + n, s.deep, s.out ++ x⟩
/-- A tree's tokens where least m must bind, and how deep they are. -/
def tokW (sq : Bool) (m : Nat) (t : Tree) : List (Int × ByteArray) := wrapK (decide (bt t < m)) sq (toks t)
def W (m : Nat) (t : Tree) : Nat := deep t + (decide (bt t < m)).toNat
def fits (s : St) (t : Tree) : Prop := s.out.length + (post t).length ≤ 40
theorem put_ok {op : Int} {s : St} (h : s.out.length < 40) : put op s = ({ s with out := s.out ++ [op] }, 0) := by
  unfold put
  rw [if_neg (by omega)]

section
variable (l : List Tk) (part : St → Res) (sq : Bool) (w1 w2 : ByteArray) (o1 o2 : Int) (N3 : Nat → Prop) (o : Nat)
/-- A part tells a tree exactly; rows of them do, as far as a loop goes. -/
def E3 (t : Tree) : Prop := ∀ s : St, At l s.pos (tokW sq 3 t) → s.deep = o → o + W 3 t ≤ 12 → fits s t → N3 (s.pos + (tokW sq 3 t).length) → part s = (after s (tokW sq 3 t).length (post t), 0)
def L2 (t : Tree) : Prop := ∀ s : St, At l s.pos (tokW sq 2 t) → s.deep = o → o + W 2 t ≤ 12 → fits s t → N3 (s.pos + (tokW sq 2 t).length) →
  ∃ n, l.length ≤ n + (s.pos + (tokW sq 2 t).length) ∧ rows l part [w2] s = loop l part w2 n (after s (tokW sq 2 t).length (post t))
def L1 (t : Tree) : Prop := ∀ s : St, At l s.pos (tokW sq 1 t) → s.deep = o → o + W 1 t ≤ 12 → fits s t → N3 (s.pos + (tokW sq 1 t).length) ∧ isN l (s.pos + (tokW sq 1 t).length) w2 = false →
  ∃ n, l.length ≤ n + (s.pos + (tokW sq 1 t).length) ∧ rows l part [w1, w2] s = loop l (rows l part [w2]) w1 n (after s (tokW sq 1 t).length (post t))
end
section
variable {l : List Tk} {part : St → Res} {sq : Bool} {w1 w2 : ByteArray} {o1 o2 : Int} {N3 : Nat → Prop} {o : Nat}
theorem l2_of_e3 {t : Tree} (h : E3 l part sq N3 o t) (hb : bt t ≠ 2) : L2 l part sq w2 N3 o t := by
  have e : decide (bt t < 2) = decide (bt t < 3) := by
    have := binds_pos (top t)
    unfold bt at hb ⊢
    by_cases h1 : binds (top t) < 2
    · rw [decide_eq_true h1, decide_eq_true (by omega)]
    · rw [decide_eq_false h1, decide_eq_false (by omega)]
  unfold L2 tokW W
  rw [e]
  intro s h1 h2 h3 h4 h5
  have hp := h s h1 h2 h3 h4 h5
  refine ⟨l.length, by omega, ?_⟩
  show (if (part s).2 = 0 then loop l part w2 l.length (part s).1 else part s) = _
  rw [hp, if_pos rfl]
  rfl
theorem l1_of_l2 {t : Tree} (h : L2 l part sq w2 N3 o t) (hb : bt t ≠ 1) : L1 l part sq w1 w2 N3 o t := by
  have e : decide (bt t < 1) = decide (bt t < 2) := by
    have := binds_pos (top t)
    unfold bt at hb ⊢
    rw [decide_eq_false (by omega), decide_eq_false (by omega)]
  unfold L1 tokW W
  rw [e]
  intro s h1 h2 h3 h4 h5
  obtain ⟨n, _, hp⟩ := h s h1 h2 h3 h4 h5.1
  have hx : rows l part [w2] s = (after s (tokW sq 2 t).length (post t), 0) := by
    rw [hp]
    exact loop_no h5.2
  refine ⟨l.length, by omega, ?_⟩
  show (if (rows l part [w2] s).2 = 0 then loop l (rows l part [w2]) w1 l.length (rows l part [w2] s).1 else rows l part [w2] s) = _
  rw [hx, if_pos rfl]
  rfl
theorem bt_node (op : Int) (x y : Tree) : bt (.node op x y) = binds op := rfl
/-- A row's next word, and what stands behind it. -/
theorem row_on {more : St → Res} {w : ByteArray} {op : Int} {n i j : Nat} {s : St} {x y : List Int} (hop : opOf w = op) (hn : isN l (s.pos + i) w = true) (hlen : l.length ≤ n + (s.pos + i)) (hlt : s.pos + i < l.length)
    (hm : more (adv (after s i x)) = (after (adv (after s i x)) j y, 0)) (hf : s.out.length + x.length + y.length + 1 ≤ 40) :
    ∃ m, l.length ≤ m + (s.pos + (i + 1 + j)) ∧ loop l more w n (after s i x) = loop l more w m (after s (i + 1 + j) (x ++ y ++ [op])) := by
  obtain ⟨m, rfl⟩ : ∃ m, n = m + 1 := ⟨n - 1, by omega⟩
  refine ⟨m, by omega, ?_⟩
  have hn' : isN l (after s i x).pos w = true := hn
  have hput : put (opOf w) (after (adv (after s i x)) j y) = (after s (i + 1 + j) (x ++ y ++ [op]), 0) := by
    rw [put_ok (by simp [after, adv]; omega), hop]
    unfold after adv
    simp only [List.append_assoc]
    congr 2
    omega
  rw [loop, if_pos hn', hm, if_pos rfl, hput, if_pos rfl]
theorem l2_node {x y : Tree} (hw : nameOf o2 = w2) (hop : opOf w2 = o2) (hk : kindOf o2 = 1) (hb : binds o2 = 2) (h5 : o2 ≠ 5) (hsq : square o2 = sq) (hN : ∀ k, isN l k w2 = true → N3 k)
    (hx : L2 l part sq w2 N3 o x) (hy : E3 l part sq N3 o y) : L2 l part sq w2 N3 o (.node o2 x y) := by
  have et : tokW sq 2 (.node o2 x y) = tokW sq 2 x ++ (1, w2) :: tokW sq 3 y := by
    unfold tokW
    rw [bt_node, hb]
    simp only [toks, lowL, lowR, hb, hsq, tok1, hw, hk, ne_eq, h5, not_false_eq_true, true_and]
    rfl
  have ed : W 2 (.node o2 x y) = max (W 2 x) (W 3 y) := by
    unfold W
    rw [bt_node, hb]
    simp only [deep, lowL, lowR, hb, ne_eq, h5, not_false_eq_true, true_and]
    rfl
  intro s h1 h2 h3 h4 h6
  rw [et] at h1 h6 ⊢
  rw [ed] at h3
  unfold fits at h4
  simp only [post, List.length_append, List.length_cons, List.length_nil] at h4
  have hn : isN l (s.pos + (tokW sq 2 x).length) w2 = true := by
    rw [h1.right.isN]
    exact decide_eq_true ⟨.inl rfl, rfl⟩
  obtain ⟨n, a1, a2⟩ := hx s h1.left h2 (by omega) (by unfold fits; omega) (hN _ hn)
  have hlen : ((tokW sq 2 x) ++ (1, w2) :: tokW sq 3 y).length = (tokW sq 2 x).length + 1 + (tokW sq 3 y).length := by simp; omega
  have hyy := hy (adv (after s (tokW sq 2 x).length (post x))) h1.right.tail h2 (by omega) (by unfold fits; simp only [after, adv, List.length_append]; omega) (by
    rw [hlen] at h6
    show N3 (s.pos + (tokW sq 2 x).length + 1 + _)
    rw [show s.pos + (tokW sq 2 x).length + 1 + (tokW sq 3 y).length = s.pos + ((tokW sq 2 x).length + 1 + (tokW sq 3 y).length) by omega]
    exact h6)
  obtain ⟨m, b1, b2⟩ := row_on hop hn a1 h1.right.lt hyy (by omega)
  refine ⟨m, by rw [hlen]; exact b1, ?_⟩
  rw [a2, b2, hlen]
  rfl
theorem l1_node {x y : Tree} (hw : nameOf o1 = w1) (hop : opOf w1 = o1) (hk : kindOf o1 = 1) (hb : binds o1 = 1) (h5 : o1 ≠ 5) (hsq : square o1 = sq) (hN : ∀ k, isN l k w1 = true → N3 k ∧ isN l k w2 = false)
    (hx : L1 l part sq w1 w2 N3 o x) (hy : L2 l part sq w2 N3 o y) : L1 l part sq w1 w2 N3 o (.node o1 x y) := by
  have et : tokW sq 1 (.node o1 x y) = tokW sq 1 x ++ (1, w1) :: tokW sq 2 y := by
    unfold tokW
    rw [bt_node, hb]
    simp only [toks, lowL, lowR, hb, hsq, tok1, hw, hk, ne_eq, h5, not_false_eq_true, true_and]
    rfl
  have ed : W 1 (.node o1 x y) = max (W 1 x) (W 2 y) := by
    unfold W
    rw [bt_node, hb]
    simp only [deep, lowL, lowR, hb, ne_eq, h5, not_false_eq_true, true_and]
    rfl
  intro s h1 h2 h3 h4 h6
  rw [et] at h1 h6 ⊢
  rw [ed] at h3
  unfold fits at h4
  simp only [post, List.length_append, List.length_cons, List.length_nil] at h4
  have hn : isN l (s.pos + (tokW sq 1 x).length) w1 = true := by
    rw [h1.right.isN]
    exact decide_eq_true ⟨.inl rfl, rfl⟩
  obtain ⟨n, a1, a2⟩ := hx s h1.left h2 (by omega) (by unfold fits; omega) (hN _ hn)
  have hlen : ((tokW sq 1 x) ++ (1, w1) :: tokW sq 2 y).length = (tokW sq 1 x).length + 1 + (tokW sq 2 y).length := by simp; omega
  rw [hlen, show s.pos + ((tokW sq 1 x).length + 1 + (tokW sq 2 y).length) = s.pos + (tokW sq 1 x).length + 1 + (tokW sq 2 y).length by omega] at h6
  obtain ⟨n2, _, c2⟩ := hy (adv (after s (tokW sq 1 x).length (post x))) h1.right.tail h2 (by omega) (by unfold fits; simp only [after, adv, List.length_append]; omega) h6.1
  have hyy : rows l part [w2] (adv (after s (tokW sq 1 x).length (post x))) = (after (adv (after s (tokW sq 1 x).length (post x))) (tokW sq 2 y).length (post y), 0) := by
    rw [c2]
    exact loop_no h6.2
  obtain ⟨m, b1, b2⟩ := row_on hop hn a1 h1.right.lt hyy (by omega)
  refine ⟨m, by rw [hlen]; exact b1, ?_⟩
  rw [a2, b2, hlen]
  rfl
/-- Rows of both words, exactly. -/
theorem l1_exact {t : Tree} (h : L1 l part sq w1 w2 N3 o t) (s : St) (h1 : At l s.pos (toks t)) (h2 : s.deep = o) (h3 : o + deep t ≤ 12) (h4 : fits s t) (h5 : N3 (s.pos + (toks t).length)) (h6 : isN l (s.pos + (toks t).length) w2 = false) (h7 : isN l (s.pos + (toks t).length) w1 = false) :
    rows l part [w1, w2] s = (after s (toks t).length (post t), 0) := by
  have e0 : decide (bt t < 1) = false := by have := binds_pos (top t); unfold bt; rw [decide_eq_false (by omega)]
  have e1 : tokW sq 1 t = toks t := by unfold tokW; rw [e0]; rfl
  have e2 : W 1 t = deep t := by unfold W; rw [e0]; rfl
  have hh := h s
  rw [e1, e2] at hh
  obtain ⟨n, _, a⟩ := hh h1 h2 h3 h4 ⟨h5, h6⟩
  rw [a]
  exact loop_no h7
end

/- Labels. -/
abbrev partL (l : List Tk) (d : Nat) : St → Res := Rl.atom l (Rl.label l d)
def Tells (l : List Tk) (d : Nat) (t : Tree) : Prop :=
  E3 l (partL l d) true (fun _ => True) (12 - d) t ∧ L2 l (partL l d) true Rl.wMeet (fun _ => True) (12 - d) t ∧ L1 l (partL l d) true Rl.wJoin Rl.wMeet (fun _ => True) (12 - d) t
theorem join_not_meet {l : List Tk} {k : Nat} (h : isN l k Rl.wJoin = true) : isN l k Rl.wMeet = false := by
  obtain ⟨t, ht, _, e⟩ := Rl.isN_some h
  unfold Rl.isN
  rw [ht]
  exact decide_eq_false fun h1 => absurd (e.symm.trans h1.2) (by decide)
theorem opOf_name (op : Int) (h : 1 ≤ op ∧ op ≤ 13) : opOf (nameOf op) = op := by
  have hops : op = 1 ∨ op = 2 ∨ op = 3 ∨ op = 4 ∨ op = 5 ∨ op = 6 ∨ op = 7 ∨ op = 8 ∨ op = 9 ∨ op = 10 ∨ op = 11 ∨ op = 12 ∨ op = 13 := by omega
  rcases hops with rfl | rfl | rfl | rfl | rfl | rfl | rfl | rfl | rfl | rfl | rfl | rfl | rfl <;> decide
theorem name_mark (op : Int) (h : 6 ≤ op ∧ op ≤ 11) : nameOf op ≠ Rl.wOpenL := by
  have hops : op = 6 ∨ op = 7 ∨ op = 8 ∨ op = 9 ∨ op = 10 ∨ op = 11 := by omega
  rcases hops with rfl | rfl | rfl | rfl | rfl | rfl <;> decide
theorem wrap_len (sq : Bool) (ks : List (Int × ByteArray)) : (wrapK true sq ks).length = ks.length + 2 := by simp [wrapK]
theorem shut_no {l : List Tk} {k : Nat} {ks : List (Int × ByteArray)} {m w : ByteArray} (h : At l k ((3, m) :: ks)) (hne : m ≠ w) : isN l k w = false := by
  rw [h.isN]
  exact decide_eq_false fun h1 => hne h1.2
/-- What stands in brackets, exactly. -/
theorem inside_exact {l : List Tk} {p : St → Res} {fin beg : ByteArray} {s : St} {t : Tree} {o : Nat} (h1 : At l s.pos ((3, beg) :: (toks t ++ [(3, fin)]))) (hd : s.deep = o) (ho : o < 12) (hp : p (into s) = (after (into s) (toks t).length (post t), 0)) :
    inside l p fin s = (after s ((toks t).length + 2) (post t), 0) := by
  have hn : isN l (after (into s) (toks t).length (post t)).pos fin = true := by
    have h2 : At l (s.pos + 1 + (toks t).length) [(3, fin)] := h1.tail.right
    exact (h2.isN fin).trans (decide_eq_true ⟨.inr rfl, rfl⟩)
  rw [inside, if_neg (by omega), hp, if_pos rfl, if_pos hn]
  unfold outof after into
  simp only [Nat.add_sub_cancel]
  congr 2
  omega
theorem label_tells {l : List Tk} : ∀ (t : Tree), Ok true t → ∀ d, d ≤ 12 → Tells l d t
  | .leaf op, h, d, hd => by
    have hop : 6 ≤ op ∧ op ≤ 11 := by unfold Ok at h; rcases h with ⟨_, h⟩ | ⟨h, _⟩; exact h; cases h
    have hbt : bt (.leaf op) = 3 := by show (if op = 4 ∨ op = 12 then 1 else if op = 3 ∨ op = 13 then 2 else 3) = 3; rw [if_neg (by omega), if_neg (by omega)]
    have e3 : E3 l (partL l d) true (fun _ => True) (12 - d) (.leaf op) := by
      intro s h1 h2 h3 h4 _
      have et : tokW true 3 (.leaf op) = [(1, nameOf op)] := by
        unfold tokW
        rw [hbt]
        simp only [toks, tok1, kindOf, if_neg (show ¬ op = 5 by omega)]
        rfl
      rw [et] at h1 ⊢
      have hw : Rl.word l s.pos = op := by
        rw [h1.word]
        dsimp only
        rw [opOf_name op ⟨by omega, by omega⟩]
        exact if_pos ⟨rfl, hop.1, hop.2⟩
      have hn : ¬ isN l s.pos Rl.wOpenL = true := by
        rw [h1.isN]
        simp only [decide_eq_true_eq]
        exact fun hh => name_mark op hop hh.2
      unfold fits at h4
      simp only [post, List.length_cons, List.length_nil] at h4
      show Rl.atom l (Rl.label l d) s = _
      rw [Rl.atom, if_neg hn, hw, if_neg (by omega), put_ok (show (adv s).out.length < 40 by show s.out.length < 40; omega)]
      rfl
    exact ⟨e3, l2_of_e3 e3 (by rw [hbt]; decide), l1_of_l2 (l2_of_e3 e3 (by rw [hbt]; decide)) (by rw [hbt]; decide)⟩
  | .node op x y, h, d, hd => by
    have hx : Ok true x := by unfold Ok at h; rcases h with ⟨h, _⟩ | ⟨h, _⟩ | ⟨_, _, h, _⟩ <;> first | exact h | cases h
    have hy : Ok true y := by unfold Ok at h; rcases h with ⟨h, _⟩ | ⟨h, _⟩ | ⟨_, _, _, h⟩ <;> first | exact h | cases h
    have hop : op = 12 ∨ op = 13 := by unfold Ok at h; rcases h with ⟨h, _⟩ | ⟨h, _⟩ | ⟨_, h, _, _⟩ <;> first | exact h | cases h
    have ix := fun d hd => label_tells (l := l) x hx d hd
    have iy := fun d hd => label_tells (l := l) y hy d hd
    have core : ∀ d, d ≤ 12 → L1 l (partL l d) true Rl.wJoin Rl.wMeet (fun _ => True) (12 - d) (.node op x y) ∧ (op = 13 → L2 l (partL l d) true Rl.wMeet (fun _ => True) (12 - d) (.node op x y)) := by
      intro d hd
      rcases hop with rfl | rfl
      · exact ⟨l1_node (o1 := 12) (w1 := Rl.wJoin) rfl Rl.op_join rfl rfl (by decide) rfl (fun k hk => ⟨trivial, join_not_meet hk⟩) (ix d hd).2.2 (iy d hd).2.1, fun h => absurd h (by decide)⟩
      · have h2 := l2_node (o2 := 13) (w2 := Rl.wMeet) (sq := true) (part := partL l d) rfl Rl.op_meet rfl rfl (by decide) rfl (fun _ _ => trivial) (ix d hd).2.1 (iy d hd).1
        exact ⟨l1_of_l2 h2 (by rw [bt_node]; decide), fun _ => h2⟩
    have e3 : E3 l (partL l d) true (fun _ => True) (12 - d) (.node op x y) := by
      have hbt : decide (bt (.node op x y) < 3) = true := by rw [bt_node]; rcases hop with rfl | rfl <;> decide
      intro s h1 h2 h3 h4 _
      unfold tokW W at *
      rw [hbt] at h1 h3 ⊢
      rw [wrap_len]
      have h1' : At l s.pos ((3, Rl.wOpenL) :: (toks (.node op x y) ++ [(3, Rl.wShutL)])) := h1
      have hb1 : (true).toNat = 1 := rfl
      rw [hb1] at h3
      obtain ⟨d', rfl⟩ : ∃ d', d = d' + 1 := ⟨d - 1, by omega⟩
      have hshut := At.right (ks := toks (.node op x y)) h1'.tail
      have hin := l1_exact (core d' (by omega)).1 (into s) h1'.tail.left (by show s.deep + 1 = _; omega) (by omega) h4 trivial
        (shut_no hshut (by decide)) (shut_no hshut (by decide))
      have hn : isN l s.pos Rl.wOpenL = true := by rw [h1'.isN]; exact decide_eq_true ⟨.inr rfl, rfl⟩
      show Rl.atom l (Rl.label l (d' + 1)) s = _
      rw [Rl.atom, if_pos hn]
      exact inside_exact h1' h2 (by omega) hin
    refine ⟨e3, ?_, (core d hd).1⟩
    rcases hop with rfl | rfl
    · exact l2_of_e3 e3 (by rw [bt_node]; decide)
    · exact (core d hd).2 rfl

/- Conditions. -/
abbrev partC (l : List Tk) (d : Nat) : St → Res := Rl.prim l (Rl.cond l d) (Rl.label l (d + 1))
def NoL (l : List Tk) (k : Nat) : Prop := isN l k Rl.wJoin = false ∧ isN l k Rl.wMeet = false
def TellsC (l : List Tk) (d : Nat) (t : Tree) : Prop :=
  E3 l (partC l d) false (NoL l) (12 - d) t ∧ L2 l (partC l d) false Rl.wAnd (NoL l) (12 - d) t ∧ L1 l (partC l d) false Rl.wOr Rl.wAnd (NoL l) (12 - d) t
theorem isN_else {l : List Tk} {k : Nat} {w w' : ByteArray} (h : isN l k w = true) (hne : w ≠ w') : isN l k w' = false := by
  obtain ⟨t, ht, _, e⟩ := Rl.isN_some h
  unfold Rl.isN
  rw [ht]
  exact decide_eq_false fun h1 => hne (e.symm.trans h1.2)
/-- A label's first token begins no condition. -/
theorem label_head : ∀ (t : Tree), Ok true t → ∃ p ks, toks t = p :: ks ∧ p.2 ≠ Rl.wTrue ∧ p.2 ≠ Rl.wFalse ∧ p.2 ≠ Rl.wOpen
  | .leaf op, h => by
    have hop : op = 6 ∨ op = 7 ∨ op = 8 ∨ op = 9 ∨ op = 10 ∨ op = 11 := by
      unfold Ok at h
      rcases h with ⟨_, h⟩ | ⟨h, _⟩
      · omega
      · cases h
    refine ⟨_, _, rfl, ?_⟩
    rcases hop with rfl | rfl | rfl | rfl | rfl | rfl <;> decide
  | .node op x y, h => by
    have hx : Ok true x := by unfold Ok at h; rcases h with ⟨h, _⟩ | ⟨h, _⟩ | ⟨_, _, h, _⟩ <;> first | exact h | cases h
    have hop : op = 12 ∨ op = 13 := by unfold Ok at h; rcases h with ⟨h, _⟩ | ⟨h, _⟩ | ⟨_, h, _, _⟩ <;> first | exact h | cases h
    obtain ⟨p, ks, e, h1⟩ := label_head x hx
    simp only [toks]
    cases hb : lowL op x
    · refine ⟨p, _, by rw [wrapK, if_neg (by decide), e]; rfl, h1⟩
    · have hs : square op = true := by rcases hop with rfl | rfl <;> decide
      refine ⟨(3, Rl.wOpenL), _, by rw [wrapK, if_pos rfl, hs]; rfl, by decide⟩
theorem cond_tells {l : List Tk} : ∀ (t : Tree), Ok false t → ∀ d, d ≤ 12 → TellsC l d t
  | .leaf op, h, d, hd => by
    have hop : op = 1 ∨ op = 2 := by unfold Ok at h; rcases h with ⟨h, _⟩ | ⟨_, h⟩; cases h; exact h
    have hbt : bt (.leaf op) = 3 := by rcases hop with rfl | rfl <;> rfl
    have e3 : E3 l (partC l d) false (NoL l) (12 - d) (.leaf op) := by
      intro s h1 h2 h3 h4 _
      have et : tokW false 3 (.leaf op) = [(1, nameOf op)] := by
        unfold tokW
        rw [hbt]
        simp only [toks, tok1, kindOf, if_neg (show ¬ op = 5 by omega)]
        rfl
      rw [et] at h1 ⊢
      unfold fits at h4
      simp only [post, List.length_cons, List.length_nil] at h4
      show Rl.prim l (Rl.cond l d) (Rl.label l (d + 1)) s = _
      rcases hop with rfl | rfl
      · have hn : isN l s.pos Rl.wTrue = true := by rw [h1.isN]; exact decide_eq_true ⟨.inl rfl, rfl⟩
        rw [Rl.prim, if_pos hn, put_ok (show (adv s).out.length < 40 by show s.out.length < 40; omega)]
        rfl
      · have hn : isN l s.pos Rl.wFalse = true := by rw [h1.isN]; exact decide_eq_true ⟨.inl rfl, rfl⟩
        have hn0 : ¬ isN l s.pos Rl.wTrue = true := by rw [isN_else hn (by decide)]; decide
        rw [Rl.prim, if_neg hn0, if_pos hn, put_ok (show (adv s).out.length < 40 by show s.out.length < 40; omega)]
        rfl
    exact ⟨e3, l2_of_e3 e3 (by rw [hbt]; decide), l1_of_l2 (l2_of_e3 e3 (by rw [hbt]; decide)) (by rw [hbt]; decide)⟩
  | .node op x y, h, d, hd => by
    by_cases h5 : op = 5
    · subst h5
      have hx : Ok true x := by unfold Ok at h; rcases h with ⟨_, h, _⟩ | ⟨_, _, h, _⟩ | ⟨h, _⟩ <;> first | exact h | (exact absurd h (by decide))
      have hy : Ok true y := by unfold Ok at h; rcases h with ⟨_, h, _⟩ | ⟨_, _, _, h⟩ | ⟨h, _⟩ <;> first | exact h | (exact absurd h (by decide))
      have ix := label_tells (l := l) x hx d hd
      have iy := label_tells (l := l) y hy d hd
      have e3 : E3 l (partC l d) false (NoL l) (12 - d) (.node 5 x y) := by
        have et : tokW false 3 (.node 5 x y) = toks x ++ (3, Rl.wFlows) :: toks y := rfl
        have ed : W 3 (.node 5 x y) = max (deep x) (deep y) := rfl
        intro s h1 h2 h3 h4 h6
        rw [et] at h1 h6 ⊢
        rw [ed] at h3
        unfold fits at h4
        simp only [post, List.length_append, List.length_cons, List.length_nil] at h4
        obtain ⟨p, ks, ep, p1, p2, p3⟩ := label_head x hx
        have hhead := h1
        rw [ep] at hhead
        have hno : ∀ w, p.2 ≠ w → ¬ isN l s.pos w = true := fun w hw => by
          rw [At.isN hhead]
          simp only [decide_eq_true_eq]
          exact fun hh => hw hh.2
        have hfl : isN l (s.pos + (toks x).length) Rl.wFlows = true := by rw [h1.right.isN]; exact decide_eq_true ⟨.inr rfl, rfl⟩
        have hxx := l1_exact ix.2.2 s h1.left h2 (by omega) (by unfold fits; omega) trivial (isN_else hfl (by decide)) (isN_else hfl (by decide))
        have hlen : (toks x ++ (3, Rl.wFlows) :: toks y).length = (toks x).length + 1 + (toks y).length := by simp; omega
        rw [hlen, show s.pos + ((toks x).length + 1 + (toks y).length) = s.pos + (toks x).length + 1 + (toks y).length by omega] at h6
        have hyy := l1_exact iy.2.2 (adv (after s (toks x).length (post x))) h1.right.tail h2 (by omega) (by unfold fits; simp only [after, adv, List.length_append]; omega) trivial h6.2 h6.1
        have hl : ∀ u, Rl.label l (d + 1) u = rows l (partL l d) [Rl.wJoin, Rl.wMeet] u := fun _ => rfl
        show Rl.prim l (Rl.cond l d) (Rl.label l (d + 1)) s = _
        have hfl' : isN l (after s (toks x).length (post x)).pos Rl.wFlows = true := hfl
        rw [Rl.prim, if_neg (hno _ p1), if_neg (hno _ p2), if_neg (hno _ p3), Rl.flow, hl, hxx, if_pos rfl]
        refine (if_pos hfl').trans ?_
        show (if (Rl.label l (d + 1) (adv (after s (toks x).length (post x)))).2 = 0 then put 5 (Rl.label l (d + 1) (adv (after s (toks x).length (post x)))).1 else Rl.label l (d + 1) (adv (after s (toks x).length (post x)))) = _
        rw [hl, hyy, if_pos rfl, put_ok (by simp only [after, adv, List.length_append]; omega), hlen]
        unfold after adv
        simp only [post, List.append_assoc]
        congr 2
        omega
      exact ⟨e3, l2_of_e3 e3 (by rw [bt_node]; decide), l1_of_l2 (l2_of_e3 e3 (by rw [bt_node]; decide)) (by rw [bt_node]; decide)⟩
    · have hx : Ok false x := by unfold Ok at h; rcases h with ⟨_, _, h, _⟩ | ⟨_, h, _⟩ | ⟨h, _⟩ <;> first | exact h | (exact absurd h h5) | cases h
      have hy : Ok false y := by unfold Ok at h; rcases h with ⟨_, _, _, h⟩ | ⟨_, h, _⟩ | ⟨h, _⟩ <;> first | exact h | (exact absurd h h5) | cases h
      have hop : op = 4 ∨ op = 3 := by unfold Ok at h; rcases h with ⟨_, h, _, _⟩ | ⟨_, h, _⟩ | ⟨h, _⟩ <;> first | (exact h.symm) | (exact absurd h h5) | cases h
      have ix := fun d hd => cond_tells (l := l) x hx d hd
      have iy := fun d hd => cond_tells (l := l) y hy d hd
      have core : ∀ d, d ≤ 12 → L1 l (partC l d) false Rl.wOr Rl.wAnd (NoL l) (12 - d) (.node op x y) ∧ (op = 3 → L2 l (partC l d) false Rl.wAnd (NoL l) (12 - d) (.node op x y)) := by
        intro d hd
        rcases hop with rfl | rfl
        · exact ⟨l1_node (o1 := 4) (w1 := Rl.wOr) rfl Rl.op_or rfl rfl (by decide) rfl (fun k hk => ⟨⟨isN_else hk (by decide), isN_else hk (by decide)⟩, isN_else hk (by decide)⟩) (ix d hd).2.2 (iy d hd).2.1, fun h => absurd h (by decide)⟩
        · have h2 := l2_node (o2 := 3) (w2 := Rl.wAnd) (sq := false) (part := partC l d) rfl Rl.op_and rfl rfl (by decide) rfl (fun k hk => ⟨isN_else hk (by decide), isN_else hk (by decide)⟩) (ix d hd).2.1 (iy d hd).1
          exact ⟨l1_of_l2 h2 (by rw [bt_node]; decide), fun _ => h2⟩
      have e3 : E3 l (partC l d) false (NoL l) (12 - d) (.node op x y) := by
        have hbt : decide (bt (.node op x y) < 3) = true := by rw [bt_node]; rcases hop with rfl | rfl <;> decide
        intro s h1 h2 h3 h4 _
        unfold tokW W at *
        rw [hbt] at h1 h3 ⊢
        rw [wrap_len]
        have h1' : At l s.pos ((3, Rl.wOpen) :: (toks (.node op x y) ++ [(3, Rl.wShut)])) := h1
        have hb1 : (true).toNat = 1 := rfl
        rw [hb1] at h3
        obtain ⟨d', rfl⟩ : ∃ d', d = d' + 1 := ⟨d - 1, by omega⟩
        have hshut := At.right (ks := toks (.node op x y)) h1'.tail
        have hin := l1_exact (core d' (by omega)).1 (into s) h1'.tail.left (by show s.deep + 1 = _; omega) (by omega) h4 ⟨shut_no hshut (by decide), shut_no hshut (by decide)⟩
          (shut_no hshut (by decide)) (shut_no hshut (by decide))
        have hn : isN l s.pos Rl.wOpen = true := by rw [h1'.isN]; exact decide_eq_true ⟨.inr rfl, rfl⟩
        show Rl.prim l (Rl.cond l (d' + 1)) (Rl.label l (d' + 1 + 1)) s = _
        rw [Rl.prim, if_neg (by rw [isN_else hn (by decide)]; decide), if_neg (by rw [isN_else hn (by decide)]; decide), if_pos hn]
        exact inside_exact h1' h2 (by omega) hin
      refine ⟨e3, ?_, (core d hd).1⟩
      rcases hop with rfl | rfl
      · exact l2_of_e3 e3 (by rw [bt_node]; decide)
      · exact (core d hd).2 rfl
/-- What is written is read as the same rule. -/
theorem read_back {t : Tree} {b : Bool} (h : Ok b t) (hl : (post t).length ≤ 40) (hd : deep t ≤ 12) {l : List Tk} {e : Tk} (hk : l.map kt = toks t) (he : e.kind = 0) :
    Rl.read (l ++ [e]) b 0 = (⟨l.length, 0, post t⟩, 0) := by
  have hlen : (toks t).length = l.length := by rw [← hk, List.length_map]
  have h1 : At (l ++ [e]) 0 (toks t) := fun j p hp => by
    rw [← hk, List.getElem?_map] at hp
    obtain ⟨u, hu, e1⟩ := Option.map_eq_some_iff.1 hp
    exact ⟨u, by rw [Nat.zero_add, List.getElem?_append_left (List.getElem?_eq_some_iff.1 hu).1]; exact hu, e1⟩
  have hend : ∀ w, isN (l ++ [e]) (0 + (toks t).length) w = false := fun w => by
    unfold Rl.isN
    rw [Nat.zero_add, hlen, List.getElem?_append_right (Nat.le_refl _), Nat.sub_self]
    exact decide_eq_false fun h1 => by omega
  have ha : after ⟨0, 0, []⟩ (toks t).length (post t) = ⟨l.length, 0, post t⟩ := by
    unfold after
    rw [hlen]
    simp
  cases b
  · have := l1_exact (cond_tells (l := l ++ [e]) t h 12 (Nat.le_refl _)).2.2 ⟨0, 0, []⟩ h1 rfl (by omega) (by unfold fits; simpa using hl) ⟨hend _, hend _⟩ (hend _) (hend _)
    rw [ha] at this
    exact this
  · have := l1_exact (label_tells (l := l ++ [e]) t h 12 (Nat.le_refl _)).2.2 ⟨0, 0, []⟩ h1 rfl (by omega) (by unfold fits; simpa using hl) trivial (hend _) (hend _)
    rw [ha] at this
    exact this
end Sh
end Go.Proofs.YtflagbglbhmheaaDoor
