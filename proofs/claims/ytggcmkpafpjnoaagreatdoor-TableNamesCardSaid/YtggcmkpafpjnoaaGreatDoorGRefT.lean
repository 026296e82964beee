/- The reference's Parse: its rows, ahead of the reading. -/
import Derived.Test.YtggcmkpafpjnoaaGreatDoorGRefS
import Derived.Test.YtggcmkpafpjnoaaGreatDoorGTabN
namespace Go.Proofs.YtggcmkpafpjnoaaGreatDoor
set_option maxRecDepth 100000
open Go.RowKit Go.Shelf
attribute [local go_sem] Oper.semAt_some

theorem own_other {W W' : World} {v u : Value} {B sz sz' n m : Nat} {e e' : TypeId} {xs ys : List Value} {o : Obj} (h1 : W.ownsRow B e sz v n xs) (h2 : W.ownsRow B e' sz' u m ys) (hne : e ≠ e') (hg : (W.alloc o).grownBy W' v.ownBlock) : W'.ownsRow B e' sz' u m ys := by
  refine ⟨h2.1, h2.2.imp id fun ⟨g, cap, cur, he, hb, hh, r⟩ => ⟨g, cap, cur, he, hb, ?_, r⟩⟩
  have hlt := (Array.getElem?_eq_some_iff.1 hh).1
  rw [hg.block g (by simp; omega) (fun e => ?_), Below.heap_alloc _ _ _ hlt]
  · exact hh
  · rcases h1.2 with ⟨hv, _⟩ | ⟨g1, c1, cur1, hv, _, hh1, _⟩
    · rw [hv] at e; cases e
    · rw [hv] at e
      injection e with e
      subst e
      rw [hh] at hh1
      injection hh1 with hh1
      injection hh1 with _ hh1 _
      exact hne hh1.symm
theorem own_lies {W : World} {v : Value} {B sz n : Nat} {e : TypeId} {xs : List Value} (h : W.ownsRow B e sz v n xs) : ∀ k, v.ownBlock = some k → B ≤ k := fun k hk => by
  rcases h.2 with ⟨hv, _⟩ | ⟨g1, c1, cur1, hv, hb, _⟩
  · rw [hv] at hk; cases hk
  · rw [hv] at hk
    injection hk with hk
    exact hk ▸ hb
/-- Two rows that grow side by side. -/
structure Grow13 (wB : World) (k : Nat) (v u : Value) (W : World) : Prop where
  below : Below wB.heap.size wB W
  rows : W.ownsRow wB.heap.size 43 3 v k (nils (k * 3))
  done : W.ownsRow wB.heap.size 4 1 u k (List.replicate k (.bool false))
theorem Grow13.start (wB : World) : Grow13 wB 0 (.slice (some ⟨wB.heap.size, 0, none⟩) 0 0) (.slice (some ⟨wB.heap.size + 1, 0, none⟩) 0 0) ((wB.alloc (.cells #[] 43)).alloc (.cells #[] 4)) := by
  have h1 := World.ownsRow_made (e := 43) (size := 3) wB #[] 0 (Nat.le_refl _) (by decide) rfl
  have h2 := World.ownsRow_made (base := wB.heap.size) (e := 4) (size := 1) (wB.alloc (.cells #[] 43)) #[] 0 (by simp) (by decide) rfl
  rw [World.size_alloc] at h2
  exact ⟨((Below.refl _ _).alloc (Nat.le_refl _) _).alloc (by simp) _, h1.alloc _, h2⟩
theorem nils_more (k : Nat) : nils (k * 3) ++ [.slice none 0 0, .slice none 0 0, .slice none 0 0] = nils ((k + 1) * 3) := by
  have e : [(Value.slice none 0 0), .slice none 0 0, .slice none 0 0] = List.replicate 3 (.slice none 0 0) := rfl
  rw [e]
  unfold nils
  rw [List.replicate_append_replicate]
  congr 1
  omega
theorem Grow13.step {wB W W1 W2 : World} {k : Nat} {v u v' u' : Value} {o o2 : Obj} (h : Grow13 wB k v u W) (h1 : W1.ownsRow wB.heap.size 43 3 v' (k + 1) (nils (k * 3) ++ [.slice none 0 0, .slice none 0 0, .slice none 0 0])) (g1 : (W.alloc o).grownBy W1 v.ownBlock)
    (h2 : W2.ownsRow wB.heap.size 4 1 u' (k + 1) (List.replicate k (.bool false) ++ [.bool false])) (g2 : (W1.alloc o2).grownBy W2 u.ownBlock) : Grow13 wB (k + 1) v' u' W2 := by
  have b0 := h.below
  have d1 := own_other h.rows h.done (by decide) g1
  have r2 := own_other d1 h1 (by decide) g2
  rw [nils_more] at r2
  have b1 : Below wB.heap.size wB W1 := (b0.alloc b0.size o).grown g1 (by have := b0.size; simp; omega) (own_lies h.rows)
  have b2 : Below wB.heap.size wB W2 := (b1.alloc b1.size o2).grown g2 (by have := b1.size; simp; omega) (own_lies h.done)
  exact ⟨b2, r2, by rw [List.replicate_succ']; exact h2⟩
/-- Row k stands in cells. -/
def StandsAt (W : World) (hS : Nat) (cs : Array Value) (k : Nat) (x : Tb.PR) : Prop :=
  ∃ B0 m0 d0 B1 m1 d1 B2 m2 d2, cs[k * 3]? = some (Value.slice B0 m0 d0) ∧ cs[k * 3 + 1]? = some (.slice B1 m1 d1) ∧ cs[k * 3 + 2]? = some (.slice B2 m2 d2) ∧ Got W hS B0 m0 d0 x.m ∧ Got W hS B1 m1 d1 x.r ∧ Got W hS B2 m2 d2 x.p
theorem StandsAt.keep {W W' : World} {hS k : Nat} {cs : Array Value} {x : Tb.PR} (h : StandsAt W hS cs k x) (hb : ∀ k, hS < k → k < W.heap.size → W'.heap[k]? = W.heap[k]?) (hz : W.heap.size ≤ W'.heap.size) : StandsAt W' hS cs k x := by
  obtain ⟨B0, m0, d0, B1, m1, d1, B2, m2, d2, e0, e1, e2, g0, g1, g2⟩ := h
  exact ⟨B0, m0, d0, B1, m1, d1, B2, m2, d2, e0, e1, e2, g0.keep hb hz, g1.keep hb hz, g2.keep hb hz⟩
/-- A table that is being read: its rows at gq, which were had at gd. -/
structure InTab (wB : World) (hS gq gd : Nat) (rows : List Tb.PR) (had : List Bool) (W : World) : Prop where
  below : Below wB.heap.size wB W
  lo : wB.heap.size ≤ gq ∧ wB.heap.size ≤ gd ∧ gq < hS ∧ gd < hS ∧ hS ≤ W.heap.size ∧ gq ≠ gd
  q : ∃ cs, Blk W gq 43 cs ∧ 39 ≤ cs.size ∧ ∀ (k : Nat) (x : Tb.PR), rows[k]? = some x → StandsAt W hS cs k x
  d : ∃ cs, Blk W gd 4 cs ∧ 13 ≤ cs.size ∧ ∀ (k : Nat) (b : Bool), had[k]? = some b → cs[k]? = some (Value.bool b)
  len : rows.length = 13 ∧ had.length = 13
theorem InTab.call {wB W W' : World} {hS gq gd : Nat} {rows : List Tb.PR} {had : List Bool} (h : InTab wB hS gq gd rows had W) (hb : Below W.heap.size W W') : InTab wB hS gq gd rows had W' := by
  obtain ⟨cs, q1, q2, q3⟩ := h.q
  obtain ⟨ds, d1, d2, d3⟩ := h.d
  obtain ⟨l1, l2, l3, l4, l5, l6⟩ := h.lo
  exact ⟨h.below.trans (hb.mono h.below.size), ⟨l1, l2, l3, l4, Nat.le_trans l5 hb.size, l6⟩, ⟨cs, q1.below hb q1.lt, q2, fun k x hx => (q3 k x hx).keep (fun k _ hk => hb.block k hk) hb.size⟩, ⟨ds, d1.below hb d1.lt, d2, d3⟩, h.len⟩
theorem Grow13.tab {wB W : World} {v u : Value} (h : Grow13 wB 13 v u W) : ∃ gq capq gd capd, v = .slice (some ⟨gq, 0, none⟩) 13 capq ∧ u = .slice (some ⟨gd, 0, none⟩) 13 capd ∧ 13 ≤ capq ∧ InTab wB W.heap.size gq gd Tb.start.rows Tb.start.had W := by
  obtain ⟨q0, q | ⟨gq, cq, cur, eq, bq, hq, nq, mq, sq, tq⟩⟩ := h.rows
  · exact absurd q.2 (by decide)
  obtain ⟨d0, d | ⟨gd, cd, dur, ed, bd, hd, nd, md, sd, td⟩⟩ := h.done
  · exact absurd d.2 (by decide)
  have hne : gq ≠ gd := fun e => by
    subst e
    rw [hq] at hd
    injection hd with hd
    injection hd with _ hd _
    exact absurd hd (by decide)
  have hqc : ∀ j, j < 39 → cur[j]? = some (.slice none 0 0) := fun j hj => by
    have h1 : (nils 39)[j]? = some (.slice none 0 0) := nils_at hj
    rw [show nils 39 = nils (13 * 3) from rfl, ← tq, List.getElem?_take_of_lt (by omega)] at h1
    simpa using h1
  have hdc : ∀ j, j < 13 → dur[j]? = some (.bool false) := fun j hj => by
    have h1 : (List.replicate 13 (Value.bool false))[j]? = some (.bool false) := by rw [List.getElem?_replicate, if_pos hj]
    rw [← td, List.getElem?_take_of_lt (by omega)] at h1
    simpa using h1
  have hn : Got W W.heap.size none 0 0 [] := ⟨IsInts.nil _ _, fun ad e => by cases e⟩
  refine ⟨gq, cq, gd, cd, eq, ed, nq, h.below, ⟨bq, bd, (Array.getElem?_eq_some_iff.1 hq).1, (Array.getElem?_eq_some_iff.1 hd).1, Nat.le_refl _, hne⟩, ⟨cur, hq, by omega, fun k x hx => ?_⟩, ⟨dur, hd, by omega, fun k b hb => ?_⟩, by simp [Tb.start], by simp [Tb.start]⟩
  · have hk : k < 13 := by have := (List.getElem?_eq_some_iff.1 hx).1; simpa [Tb.start] using this
    have e : x = Tb.PR.none := by
      have h1 : (List.replicate 13 Tb.PR.none)[k]? = some x := hx
      rw [List.getElem?_replicate, if_pos hk] at h1
      injection h1 with h1
      exact h1.symm
    subst e
    exact ⟨none, 0, 0, none, 0, 0, none, 0, 0, hqc _ (by omega), hqc _ (by omega), hqc _ (by omega), hn, hn, hn⟩
  · have hk : k < 13 := by have := (List.getElem?_eq_some_iff.1 hb).1; simpa [Tb.start] using this
    have e : b = false := by
      have h1 : (List.replicate 13 false)[k]? = some b := hb
      rw [List.getElem?_replicate, if_pos hk] at h1
      injection h1 with h1
      exact h1.symm
    subst e
    exact hdc k hk
theorem InTab.put {wB W : World} {hS gq gd op : Nat} {rows : List Tb.PR} {had : List Bool} (h : InTab wB hS gq gd rows had W) (hop : op < 13) {x : Tb.PR} {B0 : Option Addr} {m0 d0 : Nat} {B1 : Option Addr} {m1 d1 : Nat} {B2 : Option Addr} {m2 d2 : Nat}
    (g0 : Got W hS B0 m0 d0 x.m) (g1 : Got W hS B1 m1 d1 x.r) (g2 : Got W hS B2 m2 d2 x.p) :
    InTab wB hS gq gd (rows.set op x) (had.set op true) ((((W.setCell ⟨gq, op * 3, none⟩ (.slice B0 m0 d0)).setCell ⟨gq, op * 3 + 1, none⟩ (.slice B1 m1 d1)).setCell ⟨gq, op * 3 + 2, none⟩ (.slice B2 m2 d2)).setCell ⟨gd, op, none⟩ (.bool true)) := by
  obtain ⟨cs, q1, q2, q3⟩ := h.q
  obtain ⟨ds, e1, e2, e3⟩ := h.d
  obtain ⟨l1, l2, l3, l4, l5, l6⟩ := h.lo
  have hkk : ∀ n, hS < n → n < W.heap.size → ((((W.setCell ⟨gq, op * 3, none⟩ (.slice B0 m0 d0)).setCell ⟨gq, op * 3 + 1, none⟩ (.slice B1 m1 d1)).setCell ⟨gq, op * 3 + 2, none⟩ (.slice B2 m2 d2)).setCell ⟨gd, op, none⟩ (.bool true)).heap[n]? = W.heap[n]? := fun n hn _ => by
    rw [Below.heap_setCell _ _ _ _ (by show n ≠ gd; omega), Below.heap_setCell _ _ _ _ (by show n ≠ gq; omega), Below.heap_setCell _ _ _ _ (by show n ≠ gq; omega), Below.heap_setCell _ _ _ _ (by show n ≠ gq; omega)]
  have hz : ((((W.setCell ⟨gq, op * 3, none⟩ (.slice B0 m0 d0)).setCell ⟨gq, op * 3 + 1, none⟩ (.slice B1 m1 d1)).setCell ⟨gq, op * 3 + 2, none⟩ (.slice B2 m2 d2)).setCell ⟨gd, op, none⟩ (.bool true)).heap.size = W.heap.size := by simp [World.setCell]
  refine ⟨(((h.below.setCell (p := ⟨gq, op * 3, none⟩) l1 _).setCell (p := ⟨gq, op * 3 + 1, none⟩) l1 _).setCell (p := ⟨gq, op * 3 + 2, none⟩) l1 _).setCell (p := ⟨gd, op, none⟩) l2 _, ⟨l1, l2, l3, l4, by rw [hz]; exact l5, l6⟩,
    ⟨_, (((q1.set_ (op * 3) _).set_ (op * 3 + 1) _).set_ (op * 3 + 2) _).other (p := ⟨gd, op, none⟩) (fun e => l6 e.symm) _, by simpa using q2, fun k y hy => ?_⟩,
    ⟨_, (((e1.other (p := ⟨gq, op * 3, none⟩) l6 _).other (p := ⟨gq, op * 3 + 1, none⟩) l6 _).other (p := ⟨gq, op * 3 + 2, none⟩) l6 _).set_ op _, by simpa using e2, fun k b hb => ?_⟩, by rw [List.length_set]; exact h.len.1, by rw [List.length_set]; exact h.len.2⟩
  · by_cases e : op = k
    · subst e
      rw [List.getElem?_set_self (by rw [h.len.1]; exact hop)] at hy
      injection hy with hy
      subst hy
      refine ⟨B0, m0, d0, B1, m1, d1, B2, m2, d2, ?_, ?_, ?_, g0.keep hkk (Nat.le_of_eq hz.symm), g1.keep hkk (Nat.le_of_eq hz.symm), g2.keep hkk (Nat.le_of_eq hz.symm)⟩
      · rw [Array.getElem?_setIfInBounds_ne (by omega), Array.getElem?_setIfInBounds_ne (by omega), Array.getElem?_setIfInBounds_self_of_lt (by omega)]
      · rw [Array.getElem?_setIfInBounds_ne (by omega), Array.getElem?_setIfInBounds_self_of_lt (by simp; omega)]
      · rw [Array.getElem?_setIfInBounds_self_of_lt (by simp; omega)]
    · rw [List.getElem?_set_ne e] at hy
      obtain ⟨A0, n0, c0, A1, n1, c1, A2, n2, c2, a0, a1, a2, r0, r1, r2⟩ := q3 k y hy
      refine ⟨A0, n0, c0, A1, n1, c1, A2, n2, c2, ?_, ?_, ?_, r0.keep hkk (Nat.le_of_eq hz.symm), r1.keep hkk (Nat.le_of_eq hz.symm), r2.keep hkk (Nat.le_of_eq hz.symm)⟩
      · rw [Array.getElem?_setIfInBounds_ne (by omega), Array.getElem?_setIfInBounds_ne (by omega), Array.getElem?_setIfInBounds_ne (by omega)]
        exact a0
      · rw [Array.getElem?_setIfInBounds_ne (by omega), Array.getElem?_setIfInBounds_ne (by omega), Array.getElem?_setIfInBounds_ne (by omega)]
        exact a1
      · rw [Array.getElem?_setIfInBounds_ne (by omega), Array.getElem?_setIfInBounds_ne (by omega), Array.getElem?_setIfInBounds_ne (by omega)]
        exact a2
  · by_cases e : op = k
    · subst e
      rw [List.getElem?_set_self (by rw [h.len.2]; exact hop)] at hb
      injection hb with hb
      subst hb
      rw [Array.getElem?_setIfInBounds_self_of_lt (by omega)]
    · rw [List.getElem?_set_ne e] at hb
      rw [Array.getElem?_setIfInBounds_ne e]
      exact e3 k b hb
end Go.Proofs.YtggcmkpafpjnoaaGreatDoor
