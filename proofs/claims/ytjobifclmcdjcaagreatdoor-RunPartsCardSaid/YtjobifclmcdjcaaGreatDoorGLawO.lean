/- What the laws of layer 2 share: alive; facts that calls keep. -/
import Derived.Deep.RegionHeld3
import Derived.Lib.QuietBelow
import Derived.Test.YtjobifclmcdjcaaGreatDoorGOrdH
import Derived.Test.YtjobifclmcdjcaaGreatDoorGFree
namespace Go.Proofs.YtjobifclmcdjcaaGreatDoor
set_option maxRecDepth 100000
open Go.RowKit Go.Shelf Go.Sort

/-- Facts of a world that a call which only lays new blocks keeps. -/
def Stable (F : World → Prop) : Prop := ∀ W W', F W → Below W.heap.size W W' → F W'
theorem Stable.and {F G : World → Prop} (h : Stable F) (k : Stable G) : Stable (fun W => F W ∧ G W) := fun W W' ⟨a, b⟩ hb => ⟨h W W' a hb, k W W' b hb⟩
/-- A contract that ends in Below, met where such facts hold. -/
theorem Stable.call {F : World → Prop} (hs : Stable F) {W : World} {f : FuncId} {args : Array Value} {r : Value} (h : F W) (hc : Calls Tryz.prog f args W fun e w' => e = .returned r ∧ Below W.heap.size W w') :
    Calls Tryz.prog f args W fun e w' => e = .returned r ∧ F w' := hc.mono fun _ _ ⟨he, hb⟩ => ⟨he, hs _ _ h hb⟩
theorem Stable.drewN {F : World → Prop} (hs : Stable F) {W : World} (h : F W) (n : Nat) : F (W.drewN n) := hs _ _ h (below_drewN_ (Below.refl _ _) n)
theorem Stable.grown {F : World → Prop} (hs : Stable F) {W : World} (h : F W) (d : Nat) (os : Array Obj) : F (grow (redrawn W d) os) := hs _ _ h (below_regrown W d os)

theorem lat_two {W : World} {B : Nat} {v : Value} {names : List ByteArray} {up : List Nat} (h : IsLat W B v names up) : ∃ A n c A' n' c', v = .agg #[.slice A n c, .slice A' n' c'] := by
  obtain ⟨A, A', c, c', rfl, _⟩ := h.form
  exact ⟨_, _, _, _, _, _, rfl⟩

/-- What the law holds of its two boxes. -/
structure Two (w : World) (x0 x1 y0 y1 : Value) (n1 : List ByteArray) (u1 : List Nat) (n2 : List ByteArray) (u2 : List Nat) (W : World) : Prop where
  a : Blk W w.heap.size 25 #[x0, x1]
  b : Blk W (w.heap.size + 1) 25 #[y0, y1]
  la : IsLat W W.heap.size (.agg #[x0, x1]) n1 u1
  lb : IsLat W W.heap.size (.agg #[y0, y1]) n2 u2
  below : Below w.heap.size w W
/-- What few made, whatever is done to the law's own boxes. -/
def FewV (w : World) (W : World) (v : Value) : Prop := ∃ (names : List ByteArray) (up : List Nat), ∀ W2, Keeps w.heap.size (w.heap.size + 2) W W2 → IsLat W2 W2.heap.size v names up
theorem Keeps.trans_ {B0 b : Nat} {W W2 W3 : World} (h : Keeps B0 b W W2) (k : Keeps B0 b W2 W3) : Keeps B0 b W W3 :=
  ⟨Nat.le_trans h.1 k.1, fun p hp ho => (k.2 p (Nat.lt_of_lt_of_le hp h.1) ho).trans (h.2 p hp ho)⟩
theorem Keeps.below {B0 b : Nat} {W W2 : World} (h : Below W.heap.size W W2) : Keeps B0 b W W2 := ⟨h.size, fun _ hp _ => h.cell hp⟩
theorem Keeps.set_ {B0 b : Nat} {W : World} {p : Addr} {u : Value} (h1 : B0 ≤ p.block) (h2 : p.block < b) : Keeps B0 b W (W.setCell p u) :=
  ⟨by simp [World.setCell], fun _ _ ho => World.cell?_setCell_other _ _ _ _ (fun e => by subst e; omega)⟩
theorem Keeps.mono_ {B0 b b' : Nat} {W W2 : World} (h : Keeps B0 b W W2) (hb : b ≤ b') : Keeps B0 b' W W2 := ⟨h.1, fun p hp ho => h.2 p hp (by omega)⟩
theorem FewV.next {w W W2 : World} {v : Value} (h : FewV w W v) (k : Keeps w.heap.size (w.heap.size + 2) W W2) : FewV w W2 v := by
  obtain ⟨n, u, h⟩ := h
  exact ⟨n, u, fun W3 k3 => h W3 (k.trans_ k3)⟩

/-- Where the law's two boxes are taken, and set anew. -/
structure Box2 (w : World) (x0 x1 y0 y1 : Value) (done : Nat → Bool) (r : Nat → Value) (W : World) : Prop where
  below : Below w.heap.size w W
  a : Blk W w.heap.size 25 (if done 10 then (r 6).cells else #[x0, x1])
  b : Blk W (w.heap.size + 1) 25 (if done 11 then (r 8).cells else #[y0, y1])
  ra : done 6 = true → FewV w W (r 6)
  rb : done 8 = true → FewV w W (r 8)

theorem FewV.two {w W : World} {v : Value} (h : FewV w W v) : ∃ A k c A' k' c', v = .agg #[.slice A k c, .slice A' k' c'] := by
  obtain ⟨n, u, h⟩ := h
  exact lat_two (h W ⟨Nat.le_refl _, fun _ _ _ => rfl⟩)
section
variable {w : World} {x0 x1 y0 y1 : Value} {done : Nat → Bool} {r : Nat → Value} {W : World}
theorem upd_ne {k j : Nat} (h : j ≠ k) : Free.upd done k j = done j := by unfold Free.upd; rw [if_neg h]
theorem upd_eq {k : Nat} : Free.upd done k k = true := by unfold Free.upd; rw [if_pos rfl]
theorem updR_ne {k j : Nat} {v : Value} (h : j ≠ k) : Free.updR r k v j = r j := by unfold Free.updR; rw [if_neg h]
theorem updR_eq {k : Nat} {v : Value} : Free.updR r k v k = v := by unfold Free.updR; rw [if_pos rfl]
theorem Box2.big (h : Box2 w x0 x1 y0 y1 done r W) : w.heap.size + 2 ≤ W.heap.size := by have := h.b.lt; omega
theorem Box2.start (x0 x1 y0 y1 : Value) (r : Nat → Value) : Box2 w x0 x1 y0 y1 (fun _ => false) r ((w.alloc (.cells #[x0, x1] 25)).alloc (.cells #[y0, y1] 25)).drew :=
  ⟨(((Below.refl _ w).alloc (Nat.le_refl _) _).alloc (by simp) _).drew, (Blk.new _ _ _).alloc _, Blk.new' _ _ _ _ (by simp), (fun h => by cases h), (fun h => by cases h)⟩
theorem Box2.fin (h : Box2 w x0 x1 y0 y1 done r W) (hall : ∀ k, k < 12 → done k = true) : ∃ z0 z1 t0 t1 n1 u1 n2 u2, r 6 = .agg #[z0, z1] ∧ r 8 = .agg #[t0, t1] ∧ Two w z0 z1 t0 t1 n1 u1 n2 u2 W := by
  have ha := h.ra (hall 6 (by decide))
  have hb := h.rb (hall 8 (by decide))
  obtain ⟨z0, z1, z2, z3, z4, z5, e6⟩ := ha.two
  obtain ⟨t0, t1, t2, t3, t4, t5, e8⟩ := hb.two
  have ka := h.a
  have kb := h.b
  rw [hall 10 (by decide), e6] at ka
  rw [hall 11 (by decide), e8] at kb
  rw [e6] at ha
  rw [e8] at hb
  obtain ⟨n1, u1, ha⟩ := ha
  obtain ⟨n2, u2, hb⟩ := hb
  exact ⟨_, _, _, _, n1, u1, n2, u2, e6, e8, ⟨ka, kb, ha W ⟨Nat.le_refl _, fun _ _ _ => rfl⟩, hb W ⟨Nat.le_refl _, fun _ _ _ => rfl⟩, h.below⟩⟩
end

end Go.Proofs.YtjobifclmcdjcaaGreatDoor

/- A law's box that few's answer is put into, in a region that draws its order: what holds on the way. kc is the call's place, ks the store's. -/
namespace Go.Proofs.YtjobifclmcdjcaaGreatDoor
set_option maxRecDepth 100000
open Go.RowKit Go.Shelf Go.Sort

/-- What the law holds of its box. -/
structure One (w : World) (x0 x1 : Value) (n1 : List ByteArray) (u1 : List Nat) (W : World) : Prop where
  a : Blk W w.heap.size 25 #[x0, x1]
  la : IsLat W W.heap.size (.agg #[x0, x1]) n1 u1
  below : Below w.heap.size w W
theorem one_stable (w : World) (x0 x1 : Value) (n1 : List ByteArray) (u1 : List Nat) : Stable (One w x0 x1 n1 u1) := fun _ _ h hb =>
  ⟨h.a.below hb h.a.lt, (h.la.below hb).more hb.size, h.below.trans (hb.mono h.below.size)⟩

def FewW (w : World) (W : World) (v : Value) : Prop := ∃ (names : List ByteArray) (up : List Nat), ∀ W2, Keeps w.heap.size (w.heap.size + 1) W W2 → IsLat W2 W2.heap.size v names up
theorem FewW.next {w W W2 : World} {v : Value} (h : FewW w W v) (k : Keeps w.heap.size (w.heap.size + 1) W W2) : FewW w W2 v := by
  obtain ⟨n, u, h⟩ := h
  exact ⟨n, u, fun W3 k3 => h W3 (k.trans_ k3)⟩
theorem FewW.two {w W : World} {v : Value} (h : FewW w W v) : ∃ A k c A' k' c', v = .agg #[.slice A k c, .slice A' k' c'] := by
  obtain ⟨n, u, h⟩ := h
  exact lat_two (h W ⟨Nat.le_refl _, fun _ _ _ => rfl⟩)

structure Box1 (w : World) (x0 x1 : Value) (kc ks : Nat) (done : Nat → Bool) (r : Nat → Value) (W : World) : Prop where
  below : Below w.heap.size w W
  a : Blk W w.heap.size 25 (if done ks then (r kc).cells else #[x0, x1])
  ra : done kc = true → FewW w W (r kc)
section
variable {w : World} {x0 x1 : Value} {kc ks : Nat} {done : Nat → Bool} {r : Nat → Value} {W : World}
theorem Box1.old (h : Box1 w x0 x1 kc ks done r W) (hd : done ks = false) : Blk W w.heap.size 25 #[x0, x1] := by
  have := h.a
  rwa [hd] at this
theorem Box1.call (h : Box1 w x0 x1 kc ks done r W) (hne : ks ≠ kc) (hC : done ks = false) {v : Value} {names : List ByteArray} {up : List Nat} {w' : World} (hl : ∀ W2, Keeps w.heap.size W.heap.size w' W2 → IsLat W2 W2.heap.size v names up) (hb : Below W.heap.size W w') : Box1 w x0 x1 kc ks (Free.upd done kc) (Free.updR r kc v) w' := by
  refine ⟨h.below.trans (hb.mono h.below.size), ?_, fun _ => ?_⟩
  · rw [upd_ne hne, hC]; exact (h.old hC).below hb (h.old hC).lt
  · rw [updR_eq]; exact ⟨names, up, fun W2 k => hl W2 (k.mono_ (by have := (h.old hC).lt; omega))⟩
theorem Box1.set_ (h : Box1 w x0 x1 kc ks done r W) (hne : ks ≠ kc) (h6 : done kc = true) {z0 z1 : Value} (hy : r kc = .agg #[z0, z1]) (hd : done ks = false) : Box1 w x0 x1 kc ks (Free.upd done ks) (Free.updR r ks undef) ((W.setCell ⟨w.heap.size, 0, none⟩ z0).setCell ⟨w.heap.size, 1, none⟩ z1) := by
  have hk : Keeps w.heap.size (w.heap.size + 1) W ((W.setCell ⟨w.heap.size, 0, none⟩ z0).setCell ⟨w.heap.size, 1, none⟩ z1) := (Keeps.set_ (p := ⟨w.heap.size, 0, none⟩) (Nat.le_refl _) (by simp)).trans_ (Keeps.set_ (p := ⟨w.heap.size, 1, none⟩) (Nat.le_refl _) (by simp))
  refine ⟨(h.below.setCell (p := ⟨w.heap.size, 0, none⟩) (Nat.le_refl _) _).setCell (p := ⟨w.heap.size, 1, none⟩) (Nat.le_refl _) _, ?_, fun _ => ?_⟩
  · rw [upd_eq, updR_ne hne.symm, hy]
    exact ((h.old hd).set_ 0 z0).set_ 1 z1
  · rw [updR_ne hne.symm]; exact (h.ra h6).next hk
theorem Box1.start (r : Nat → Value) : Box1 w x0 x1 kc ks (fun _ => false) r (w.alloc (.cells #[x0, x1] 25)).drew :=
  ⟨((Below.refl _ w).alloc (Nat.le_refl _) _).drew, Blk.new _ _ _, (fun h => by cases h)⟩
theorem Box1.fin (h : Box1 w x0 x1 kc ks done r W) (h1 : done kc = true) (h2 : done ks = true) : ∃ A k c A' k' c' n1 u1, r kc = .agg #[.slice A k c, .slice A' k' c'] ∧ One w (.slice A k c) (.slice A' k' c') n1 u1 W := by
  have ha := h.ra h1
  obtain ⟨A, k, c, A', k', c', e6⟩ := ha.two
  have ka := h.a
  rw [h2, e6] at ka
  rw [e6] at ha
  obtain ⟨n1, u1, ha⟩ := ha
  exact ⟨A, k, c, A', k', c', n1, u1, e6, ⟨ka, ha W ⟨Nat.le_refl _, fun _ _ _ => rfl⟩, h.below⟩⟩
end
end Go.Proofs.YtjobifclmcdjcaaGreatDoor
