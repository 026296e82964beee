/- A law's box that few's answer is put into, in a region that draws its order: what holds on the way. kc is the call's place, ks the store's. -/
import Derived.Test.YtaingkjleelbfaaLawO
namespace Go.Proofs.Ytaingkjleelbfaa
open Go.RowKit Go.Shelf Go.Sort

/-- What the law holds of its box. -/
structure One (w : World) (x0 x1 : Value) (n1 : List ByteArray) (u1 : List Nat) (W : World) : Prop where
  a : Blk W w.heap.size 25 #[x0, x1]
  la : IsLat W W.heap.size (.agg #[x0, x1]) n1 u1
  below : Below w.heap.size w W
theorem one_stable (w : World) (x0 x1 : Value) (n1 : List ByteArray) (u1 : List Nat) : Stable (One w x0 x1 n1 u1) := fun _ _ h hb =>
  ⟨h.a.below hb h.a.lt, (h.la.below hb).more hb.size, h.below.trans (hb.mono h.below.size)⟩

def FewW (w : World) (W : World) (v : Value) : Prop := ∃ (names : List ByteArray) (up : List Nat), ∀ W2, Keeps w.heap.size (w.heap.size + 1) W W2 → IsLat W2 W2.heap.size v names up
theorem FewW.next {w W W2 : World} {v : Value} (h : FewW w W v) (k : Keeps w.heap.size (w.heap.size + 1) W W2) : FewW w W2 v := by
  obtain ⟨n, u, h⟩ := h
  exact ⟨n, u, fun W3 k3 => h W3 (k.trans_ k3)⟩
theorem FewW.two {w W : World} {v : Value} (h : FewW w W v) : ∃ A k c A' k' c', v = .agg #[.slice A k c, .slice A' k' c'] := by
  obtain ⟨n, u, h⟩ := h
  exact lat_two (h W ⟨Nat.le_refl _, fun _ _ _ => rfl⟩)

structure Box1 (w : World) (x0 x1 : Value) (kc ks : Nat) (done : Nat → Bool) (r : Nat → Value) (W : World) : Prop where
  below : Below w.heap.size w W
  a : Blk W w.heap.size 25 (if done ks then (r kc).cells else #[x0, x1])
  ra : done kc = true → FewW w W (r kc)
section
variable {w : World} {x0 x1 : Value} {kc ks : Nat} {done : Nat → Bool} {r : Nat → Value} {W : World}
theorem Box1.pass (h : Box1 w x0 x1 kc ks done r W) {k : Nat} {v : Value} (hk : (k != kc && k != ks) = true) : Box1 w x0 x1 kc ks (Free.upd done k) (Free.updR r k v) W := by
  simp only [Bool.and_eq_true, bne_iff_ne] at hk
  refine ⟨h.below, ?_, ?_⟩
  · rw [upd_ne (fun e => hk.2 e.symm), updR_ne (fun e => hk.1 e.symm)]; exact h.a
  · rw [upd_ne (fun e => hk.1 e.symm), updR_ne (fun e => hk.1 e.symm)]; exact h.ra
theorem Box1.old (h : Box1 w x0 x1 kc ks done r W) (hd : done ks = false) : Blk W w.heap.size 25 #[x0, x1] := by
  have := h.a
  rwa [hd] at this
theorem Box1.call (h : Box1 w x0 x1 kc ks done r W) (hne : ks ≠ kc) (hC : done ks = false) {v : Value} {names : List ByteArray} {up : List Nat} {w' : World} (hl : ∀ W2, Keeps w.heap.size W.heap.size w' W2 → IsLat W2 W2.heap.size v names up) (hb : Below W.heap.size W w') : Box1 w x0 x1 kc ks (Free.upd done kc) (Free.updR r kc v) w' := by
  refine ⟨h.below.trans (hb.mono h.below.size), ?_, fun _ => ?_⟩
  · rw [upd_ne hne, hC]; exact (h.old hC).below hb (h.old hC).lt
  · rw [updR_eq]; exact ⟨names, up, fun W2 k => hl W2 (k.mono_ (by have := (h.old hC).lt; omega))⟩
theorem Box1.set_ (h : Box1 w x0 x1 kc ks done r W) (hne : ks ≠ kc) (h6 : done kc = true) {z0 z1 : Value} (hy : r kc = .agg #[z0, z1]) (hd : done ks = false) : Box1 w x0 x1 kc ks (Free.upd done ks) (Free.updR r ks undef) ((W.setCell ⟨w.heap.size, 0, none⟩ z0).setCell ⟨w.heap.size, 1, none⟩ z1) := by
  have hk : Keeps w.heap.size (w.heap.size + 1) W ((W.setCell ⟨w.heap.size, 0, none⟩ z0).setCell ⟨w.heap.size, 1, none⟩ z1) := (Keeps.set_ (p := ⟨w.heap.size, 0, none⟩) (Nat.le_refl _) (by simp)).trans_ (Keeps.set_ (p := ⟨w.heap.size, 1, none⟩) (Nat.le_refl _) (by simp))
  refine ⟨(h.below.setCell (p := ⟨w.heap.size, 0, none⟩) (Nat.le_refl _) _).setCell (p := ⟨w.heap.size, 1, none⟩) (Nat.le_refl _) _, ?_, fun _ => ?_⟩
  · rw [upd_eq, updR_ne hne.symm, hy]
    exact ((h.old hd).set_ 0 z0).set_ 1 z1
  · rw [updR_ne hne.symm]; exact (h.ra h6).next hk
theorem Box1.start (r : Nat → Value) : Box1 w x0 x1 kc ks (fun _ => false) r (w.alloc (.cells #[x0, x1] 25)).drew :=
  ⟨((Below.refl _ w).alloc (Nat.le_refl _) _).drew, Blk.new _ _ _, (fun h => by cases h)⟩
theorem Box1.fin (h : Box1 w x0 x1 kc ks done r W) (h1 : done kc = true) (h2 : done ks = true) : ∃ A k c A' k' c' n1 u1, r kc = .agg #[.slice A k c, .slice A' k' c'] ∧ One w (.slice A k c) (.slice A' k' c') n1 u1 W := by
  have ha := h.ra h1
  obtain ⟨A, k, c, A', k', c', e6⟩ := ha.two
  have ka := h.a
  rw [h2, e6] at ka
  rw [e6] at ha
  obtain ⟨n1, u1, ha⟩ := ha
  exact ⟨A, k, c, A', k', c', n1, u1, e6, ⟨ka, ha W ⟨Nat.le_refl _, fun _ _ _ => rfl⟩, h.below⟩⟩
end
end Go.Proofs.Ytaingkjleelbfaa
