/- What the laws of layer 2 share: alive; facts that calls keep. -/
import Derived.Test.YtaingkjleelbfaaOrdU
import Derived.Deep.RegionHeld3
import Derived.Lib.QuietBelow
import Derived.Test.YtaingkjleelbfaaFree
namespace Go.Proofs.Ytaingkjleelbfaa
open Go.RowKit Go.Shelf Go.Sort

/-- Facts of a world that a call which only lays new blocks keeps. -/
def Stable (F : World → Prop) : Prop := ∀ W W', F W → Below W.heap.size W W' → F W'
theorem Stable.and {F G : World → Prop} (h : Stable F) (k : Stable G) : Stable (fun W => F W ∧ G W) := fun W W' ⟨a, b⟩ hb => ⟨h W W' a hb, k W W' b hb⟩
theorem stable_lat (v : Value) (names : List ByteArray) (up : List Nat) : Stable (fun W => IsLat W W.heap.size v names up) := fun _ _ h hb => (h.below hb).more hb.size
theorem stable_blk (g : Nat) (t : TypeId) (cs : Array Value) : Stable (fun W => Blk W g t cs) := fun _ _ h hb => h.below hb h.lt
theorem stable_below (B : Nat) (w : World) : Stable (fun W => Below B w W ∧ B ≤ W.heap.size) := fun _ _ h hb => ⟨h.1.trans (hb.mono h.2), Nat.le_trans h.2 hb.size⟩
theorem stable_edges (v : Value) (es : List (Int × Int)) : Stable (fun W => IsEdges W W.heap.size v es) := fun _ _ h hb => (h.below hb).more hb.size
/-- A contract that ends in Below, met where such facts hold. -/
theorem Stable.call {F : World → Prop} (hs : Stable F) {W : World} {f : FuncId} {args : Array Value} {r : Value} (h : F W) (hc : Calls Try.prog f args W fun e w' => e = .returned r ∧ Below W.heap.size W w') :
    Calls Try.prog f args W fun e w' => e = .returned r ∧ F w' := hc.mono fun _ _ ⟨he, hb⟩ => ⟨he, hs _ _ h hb⟩
theorem Stable.drewN {F : World → Prop} (hs : Stable F) {W : World} (h : F W) (n : Nat) : F (W.drewN n) := hs _ _ h (below_drewN_ (Below.refl _ _) n)
theorem Stable.grown {F : World → Prop} (hs : Stable F) {W : World} (h : F W) (d : Nat) (os : Array Obj) : F (grow (redrawn W d) os) := hs _ _ h (below_regrown W d os)

theorem lat_two {W : World} {B : Nat} {v : Value} {names : List ByteArray} {up : List Nat} (h : IsLat W B v names up) : ∃ A n c A' n' c', v = .agg #[.slice A n c, .slice A' n' c'] := by
  obtain ⟨A, A', c, c', rfl, _⟩ := h.form
  exact ⟨_, _, _, _, _, _, rfl⟩

theorem up_power2 : makeUpR kPower 2 = [15, 10, 12, 8] := by decide +kernel
theorem n_power2 : makeN kPower 2 = 0 := by decide +kernel

set_option maxHeartbeats 1000000 in
theorem alive2_any (w : World) : Calls Try.prog 10 #[] w fun e w' => e = .returned (.bool true) ∧ Below w.heap.size w w' := by
  have hm := Make_any kPower 2 w
  rw [n_power2, up_power2] at hm
  have hm' : Calls Try.prog 8 #[.string ⟨#[112, 111, 119, 101, 114]⟩, .int .i64 2] w (LatRes w 0 (named 4) [15, 10, 12, 8]) := hm
  have HM := Lib.hid hm'
  clear hm hm'
  go_enter Try.func10, Try.ntmps10
  go_wp2_with (fail)
  refine HM.out.mono ?_
  rintro e w1 ⟨v, rfl, hlat, hb1⟩
  obtain ⟨A, A', c, c', rfl, -, hU⟩ := hlat.form
  obtain ⟨ad, x0, rfl, _, h0, _, hc0⟩ := hU.at_ (k := 0) (by simp)
  obtain ⟨ad', x1, he, _, h1, _, hc1⟩ := hU.at_ (k := 1) (by simp)
  injection he with he
  subst he
  simp only [List.getElem?_cons_zero, Option.some.injEq] at h0
  simp only [List.getElem?_cons_succ, List.getElem?_cons_zero, Option.some.injEq] at h1
  subst h0 h1
  have hlt : ad.block < w1.heap.size := block_lt_of_cell (by rw [← hc0]; rfl)
  have hd0 : w1.cell? ad = some (.int .u32 15) := by simpa [Addr.add] using hc0
  have hd1 : w1.cell? ⟨ad.block, ad.off + 1, none⟩ = some (.int .u32 10) := by simpa [Addr.add] using hc1
  have HB := Lib.hid hb1
  clear hlat hU hb1 hc0 hc1
  go_wp2
  go_ret
  exact ⟨rfl, HB.out.alloc HB.out.size _⟩

/-- What the law holds of its two boxes. -/
structure Two (w : World) (x0 x1 y0 y1 : Value) (n1 : List ByteArray) (u1 : List Nat) (n2 : List ByteArray) (u2 : List Nat) (W : World) : Prop where
  a : Blk W w.heap.size 25 #[x0, x1]
  b : Blk W (w.heap.size + 1) 25 #[y0, y1]
  la : IsLat W W.heap.size (.agg #[x0, x1]) n1 u1
  lb : IsLat W W.heap.size (.agg #[y0, y1]) n2 u2
  below : Below w.heap.size w W
theorem two_stable (w : World) (x0 x1 y0 y1 : Value) (n1 : List ByteArray) (u1 : List Nat) (n2 : List ByteArray) (u2 : List Nat) : Stable (Two w x0 x1 y0 y1 n1 u1 n2 u2) := fun _ _ h hb =>
  ⟨h.a.below hb h.a.lt, h.b.below hb h.b.lt, (h.la.below hb).more hb.size, (h.lb.below hb).more hb.size, h.below.trans (hb.mono h.below.size)⟩

/-- What OrderMakes holds ahead of its last statement. -/
structure Makes (w : World) (q0 q1 : Value) (k : Nat) (z0 z1 t0 t1 : Value) (n1 : List ByteArray) (u1 : List Nat) (n2 : List ByteArray) (u2 : List Nat) (x0 x1 : Value) (names : List ByteArray) (up : List Nat) (g g' : Nat) (W : World) : Prop where
  two : Two w z0 z1 t0 t1 n1 u1 n2 u2 W
  l : Blk W g 25 #[x0, x1]
  t : Blk W g' 31 #[q0, q1, .int .i64 (k : Int)]
  hl : IsLat W W.heap.size (.agg #[x0, x1]) names up
  ht : IsLat W W.heap.size (.agg #[q0, q1]) names up
theorem makes_stable (w : World) (q0 q1 : Value) (k : Nat) (z0 z1 t0 t1 : Value) (n1 : List ByteArray) (u1 : List Nat) (n2 : List ByteArray) (u2 : List Nat) (x0 x1 : Value) (names : List ByteArray) (up : List Nat) (g g' : Nat) : Stable (Makes w q0 q1 k z0 z1 t0 t1 n1 u1 n2 u2 x0 x1 names up g g') := fun _ _ h hb =>
  ⟨two_stable _ _ _ _ _ _ _ _ _ _ _ h.two hb, h.l.below hb h.l.lt, h.t.below hb h.t.lt, stable_lat _ _ _ _ _ h.hl hb, stable_lat _ _ _ _ _ h.ht hb⟩
theorem makes_new {w : World} {q0 q1 : Value} {k : Nat} {z0 z1 t0 t1 : Value} {n1 : List ByteArray} {u1 : List Nat} {n2 : List ByteArray} {u2 : List Nat} {x0 x1 : Value} {names : List ByteArray} {up : List Nat} {g : Nat} {w2 : World}
    (h1 : Two w z0 z1 t0 t1 n1 u1 n2 u2 w2) (h2 : Blk w2 g 25 #[x0, x1]) (h3 : IsLat w2 w2.heap.size (.agg #[x0, x1]) names up) (h4 : IsLat w2 w2.heap.size (.agg #[q0, q1]) names up) :
    Makes w q0 q1 k z0 z1 t0 t1 n1 u1 n2 u2 x0 x1 names up g w2.heap.size (w2.alloc (.cells #[q0, q1, .int .i64 (k : Int)] 31)) := by
  have hb := (Below.refl w2.heap.size w2).alloc (Nat.le_refl _) (.cells #[q0, q1, .int .i64 (k : Int)] 31)
  exact ⟨two_stable _ _ _ _ _ _ _ _ _ _ _ h1 hb, h2.alloc _, Blk.new _ _ _, stable_lat _ _ _ _ _ h3 hb, stable_lat _ _ _ _ _ h4 hb⟩

theorem cut15 (s : ByteArray) : (cut s).size ≤ 15 := cut_size s

/-- What few made, whatever is done to the law's own boxes. -/
def FewV (w : World) (W : World) (v : Value) : Prop := ∃ (names : List ByteArray) (up : List Nat), ∀ W2, Keeps w.heap.size (w.heap.size + 2) W W2 → IsLat W2 W2.heap.size v names up
theorem Keeps.trans_ {B0 b : Nat} {W W2 W3 : World} (h : Keeps B0 b W W2) (k : Keeps B0 b W2 W3) : Keeps B0 b W W3 :=
  ⟨Nat.le_trans h.1 k.1, fun p hp ho => (k.2 p (Nat.lt_of_lt_of_le hp h.1) ho).trans (h.2 p hp ho)⟩
theorem Keeps.below {B0 b : Nat} {W W2 : World} (h : Below W.heap.size W W2) : Keeps B0 b W W2 := ⟨h.size, fun _ hp _ => h.cell hp⟩
theorem Keeps.set_ {B0 b : Nat} {W : World} {p : Addr} {u : Value} (h1 : B0 ≤ p.block) (h2 : p.block < b) : Keeps B0 b W (W.setCell p u) :=
  ⟨by simp [World.setCell], fun _ _ ho => World.cell?_setCell_other _ _ _ _ (fun e => by subst e; omega)⟩
theorem Keeps.mono_ {B0 b b' : Nat} {W W2 : World} (h : Keeps B0 b W W2) (hb : b ≤ b') : Keeps B0 b' W W2 := ⟨h.1, fun p hp ho => h.2 p hp (by omega)⟩
theorem FewV.next {w W W2 : World} {v : Value} (h : FewV w W v) (k : Keeps w.heap.size (w.heap.size + 2) W W2) : FewV w W2 v := by
  obtain ⟨n, u, h⟩ := h
  exact ⟨n, u, fun W3 k3 => h W3 (k.trans_ k3)⟩

/-- Where the law's two boxes are taken, and set anew. -/
structure Box2 (w : World) (x0 x1 y0 y1 : Value) (done : Nat → Bool) (r : Nat → Value) (W : World) : Prop where
  below : Below w.heap.size w W
  a : Blk W w.heap.size 25 (if done 10 then (r 6).cells else #[x0, x1])
  b : Blk W (w.heap.size + 1) 25 (if done 11 then (r 8).cells else #[y0, y1])
  ra : done 6 = true → FewV w W (r 6)
  rb : done 8 = true → FewV w W (r 8)

theorem Box2.pass {w : World} {x0 x1 y0 y1 : Value} {done : Nat → Bool} {r : Nat → Value} {W : World} (h : Box2 w x0 x1 y0 y1 done r W) {k : Nat} {v : Value} (hk : (k != 6 && k != 8 && k != 10 && k != 11) = true) : Box2 w x0 x1 y0 y1 (Free.upd done k) (Free.updR r k v) W := by
  simp only [Bool.and_eq_true, bne_iff_ne] at hk
  have e : ∀ j, j ≠ k → Free.upd done k j = done j := fun j hj => by unfold Free.upd; rw [if_neg hj]
  have e2 : ∀ j, j ≠ k → Free.updR r k v j = r j := fun j hj => by unfold Free.updR; rw [if_neg hj]
  refine ⟨h.below, ?_, ?_, ?_, ?_⟩
  · rw [e 10 (by omega), e2 6 (by omega)]; exact h.a
  · rw [e 11 (by omega), e2 8 (by omega)]; exact h.b
  · rw [e 6 (by omega), e2 6 (by omega)]; exact h.ra
  · rw [e 8 (by omega), e2 8 (by omega)]; exact h.rb
theorem Box2.a_old {w : World} {x0 x1 y0 y1 : Value} {done : Nat → Bool} {r : Nat → Value} {W : World} (h : Box2 w x0 x1 y0 y1 done r W) (hd : done 10 = false) : Blk W w.heap.size 25 #[x0, x1] := by
  have := h.a
  rwa [hd] at this
theorem Box2.b_old {w : World} {x0 x1 y0 y1 : Value} {done : Nat → Bool} {r : Nat → Value} {W : World} (h : Box2 w x0 x1 y0 y1 done r W) (hd : done 11 = false) : Blk W (w.heap.size + 1) 25 #[y0, y1] := by
  have := h.b
  rwa [hd] at this

theorem FewV.two {w W : World} {v : Value} (h : FewV w W v) : ∃ A k c A' k' c', v = .agg #[.slice A k c, .slice A' k' c'] := by
  obtain ⟨n, u, h⟩ := h
  exact lat_two (h W ⟨Nat.le_refl _, fun _ _ _ => rfl⟩)
section
variable {w : World} {x0 x1 y0 y1 : Value} {done : Nat → Bool} {r : Nat → Value} {W : World}
theorem upd_ne {k j : Nat} (h : j ≠ k) : Free.upd done k j = done j := by unfold Free.upd; rw [if_neg h]
theorem upd_eq {k : Nat} : Free.upd done k k = true := by unfold Free.upd; rw [if_pos rfl]
theorem updR_ne {k j : Nat} {v : Value} (h : j ≠ k) : Free.updR r k v j = r j := by unfold Free.updR; rw [if_neg h]
theorem updR_eq {k : Nat} {v : Value} : Free.updR r k v k = v := by unfold Free.updR; rw [if_pos rfl]
theorem Box2.big (h : Box2 w x0 x1 y0 y1 done r W) : w.heap.size + 2 ≤ W.heap.size := by have := h.b.lt; omega
theorem Box2.call_a (h : Box2 w x0 x1 y0 y1 done r W) (hC : done 10 = false) {v : Value} {names : List ByteArray} {up : List Nat} {w' : World} (hl : ∀ W2, Keeps w.heap.size W.heap.size w' W2 → IsLat W2 W2.heap.size v names up) (hb : Below W.heap.size W w') : Box2 w x0 x1 y0 y1 (Free.upd done 6) (Free.updR r 6 v) w' := by
  have u10 : Free.upd done 6 10 = done 10 := upd_ne (by decide)
  have u11 : Free.upd done 6 11 = done 11 := upd_ne (by decide)
  have u8 : Free.upd done 6 8 = done 8 := upd_ne (by decide)
  have r8 : Free.updR r 6 v 8 = r 8 := updR_ne (by decide)
  refine ⟨h.below.trans (hb.mono h.below.size), ?_, ?_, fun _ => ?_, fun hdb => ?_⟩
  · rw [u10, hC]; exact (h.a_old hC).below hb (h.a_old hC).lt
  · rw [u11, r8]; exact h.b.below hb h.b.lt
  · rw [updR_eq]; exact ⟨names, up, fun W2 k => hl W2 (k.mono_ h.big)⟩
  · rw [u8] at hdb; rw [r8]; exact (h.rb hdb).next (Keeps.below hb)
theorem Box2.call_b (h : Box2 w x0 x1 y0 y1 done r W) (hC : done 11 = false) {v : Value} {names : List ByteArray} {up : List Nat} {w' : World} (hl : ∀ W2, Keeps w.heap.size W.heap.size w' W2 → IsLat W2 W2.heap.size v names up) (hb : Below W.heap.size W w') : Box2 w x0 x1 y0 y1 (Free.upd done 8) (Free.updR r 8 v) w' := by
  have u10 : Free.upd done 8 10 = done 10 := upd_ne (by decide)
  have u11 : Free.upd done 8 11 = done 11 := upd_ne (by decide)
  have u6 : Free.upd done 8 6 = done 6 := upd_ne (by decide)
  have r6 : Free.updR r 8 v 6 = r 6 := updR_ne (by decide)
  refine ⟨h.below.trans (hb.mono h.below.size), ?_, ?_, fun hda => ?_, fun _ => ?_⟩
  · rw [u10, r6]; exact h.a.below hb h.a.lt
  · rw [u11, hC]; exact (h.b_old hC).below hb (h.b_old hC).lt
  · rw [u6] at hda; rw [r6]; exact (h.ra hda).next (Keeps.below hb)
  · rw [updR_eq]; exact ⟨names, up, fun W2 k => hl W2 (k.mono_ h.big)⟩
theorem Box2.set_a (h : Box2 w x0 x1 y0 y1 done r W) (h6 : done 6 = true) {z0 z1 : Value} (hy : r 6 = .agg #[z0, z1]) (hd : done 10 = false) : Box2 w x0 x1 y0 y1 (Free.upd done 10) (Free.updR r 10 undef) ((W.setCell ⟨w.heap.size, 0, none⟩ z0).setCell ⟨w.heap.size, 1, none⟩ z1) := by
  have hk : Keeps w.heap.size (w.heap.size + 2) W ((W.setCell ⟨w.heap.size, 0, none⟩ z0).setCell ⟨w.heap.size, 1, none⟩ z1) := (Keeps.set_ (p := ⟨w.heap.size, 0, none⟩) (Nat.le_refl _) (by simp)).trans_ (Keeps.set_ (p := ⟨w.heap.size, 1, none⟩) (Nat.le_refl _) (by simp))
  have u11 : Free.upd done 10 11 = done 11 := upd_ne (by decide)
  have u8 : Free.upd done 10 8 = done 8 := upd_ne (by decide)
  have r6 : Free.updR r 10 undef 6 = r 6 := updR_ne (by decide)
  have r8 : Free.updR r 10 undef 8 = r 8 := updR_ne (by decide)
  refine ⟨(h.below.setCell (p := ⟨w.heap.size, 0, none⟩) (Nat.le_refl _) _).setCell (p := ⟨w.heap.size, 1, none⟩) (Nat.le_refl _) _, ?_, ?_, fun _ => ?_, fun hdb => ?_⟩
  · rw [upd_eq, r6, hy]
    exact ((h.a_old hd).set_ 0 z0).set_ 1 z1
  · rw [u11, r8]
    exact (h.b.other (p := ⟨w.heap.size, 0, none⟩) (by simp) _).other (p := ⟨w.heap.size, 1, none⟩) (by simp) _
  · rw [r6]; exact (h.ra h6).next hk
  · rw [u8] at hdb; rw [r8]; exact (h.rb hdb).next hk
theorem Box2.set_b (h : Box2 w x0 x1 y0 y1 done r W) (h8 : done 8 = true) {z0 z1 : Value} (hy : r 8 = .agg #[z0, z1]) (hd : done 11 = false) : Box2 w x0 x1 y0 y1 (Free.upd done 11) (Free.updR r 11 undef) ((W.setCell ⟨w.heap.size + 1, 0, none⟩ z0).setCell ⟨w.heap.size + 1, 1, none⟩ z1) := by
  have hk : Keeps w.heap.size (w.heap.size + 2) W ((W.setCell ⟨w.heap.size + 1, 0, none⟩ z0).setCell ⟨w.heap.size + 1, 1, none⟩ z1) := (Keeps.set_ (p := ⟨w.heap.size + 1, 0, none⟩) (by simp) (by simp)).trans_ (Keeps.set_ (p := ⟨w.heap.size + 1, 1, none⟩) (by simp) (by simp))
  have u10 : Free.upd done 11 10 = done 10 := upd_ne (by decide)
  have u6 : Free.upd done 11 6 = done 6 := upd_ne (by decide)
  have r6 : Free.updR r 11 undef 6 = r 6 := updR_ne (by decide)
  have r8 : Free.updR r 11 undef 8 = r 8 := updR_ne (by decide)
  refine ⟨(h.below.setCell (p := ⟨w.heap.size + 1, 0, none⟩) (by simp) _).setCell (p := ⟨w.heap.size + 1, 1, none⟩) (by simp) _, ?_, ?_, fun hda => ?_, fun _ => ?_⟩
  · rw [u10, r6]
    exact (h.a.other (p := ⟨w.heap.size + 1, 0, none⟩) (by simp) _).other (p := ⟨w.heap.size + 1, 1, none⟩) (by simp) _
  · rw [upd_eq, r8, hy]
    exact ((h.b_old hd).set_ 0 z0).set_ 1 z1
  · rw [u6] at hda; rw [r6]; exact (h.ra hda).next hk
  · rw [r8]; exact (h.rb h8).next hk
theorem Box2.start (x0 x1 y0 y1 : Value) (r : Nat → Value) : Box2 w x0 x1 y0 y1 (fun _ => false) r ((w.alloc (.cells #[x0, x1] 25)).alloc (.cells #[y0, y1] 25)).drew :=
  ⟨(((Below.refl _ w).alloc (Nat.le_refl _) _).alloc (by simp) _).drew, (Blk.new _ _ _).alloc _, Blk.new' _ _ _ _ (by simp), (fun h => by cases h), (fun h => by cases h)⟩
theorem Box2.fin (h : Box2 w x0 x1 y0 y1 done r W) (hall : ∀ k, k < 12 → done k = true) : ∃ z0 z1 t0 t1 n1 u1 n2 u2, r 6 = .agg #[z0, z1] ∧ r 8 = .agg #[t0, t1] ∧ Two w z0 z1 t0 t1 n1 u1 n2 u2 W := by
  have ha := h.ra (hall 6 (by decide))
  have hb := h.rb (hall 8 (by decide))
  obtain ⟨z0, z1, z2, z3, z4, z5, e6⟩ := ha.two
  obtain ⟨t0, t1, t2, t3, t4, t5, e8⟩ := hb.two
  have ka := h.a
  have kb := h.b
  rw [hall 10 (by decide), e6] at ka
  rw [hall 11 (by decide), e8] at kb
  rw [e6] at ha
  rw [e8] at hb
  obtain ⟨n1, u1, ha⟩ := ha
  obtain ⟨n2, u2, hb⟩ := hb
  exact ⟨_, _, _, _, n1, u1, n2, u2, e6, e8, ⟨ka, kb, ha W ⟨Nat.le_refl _, fun _ _ _ => rfl⟩, hb W ⟨Nat.le_refl _, fun _ _ _ => rfl⟩, h.below⟩⟩
end

set_option maxRecDepth 100000 in
set_option maxHeartbeats 4000000 in
theorem makes_any {A A' D D' : Option Addr} {n1 n2 : List ByteArray} {u1 u2 : List Nat} (kind : ByteArray) (n : Int) (c c' d d' : Nat) (w : World) (hk : kind.size ≤ maxLen)
    (hN : Row w w.heap.size A (strs n1)) (hU : Ups w w.heap.size A' u1) (hc : n1.length ≤ c) (hc' : u1.length ≤ c') (hm : c ≤ maxLen) (hm' : c' ≤ maxLen) (hs : ∀ s ∈ n1, s.size ≤ maxLen)
    (kN : Row w w.heap.size D (strs n2)) (kU : Ups w w.heap.size D' u2) (kc : n2.length ≤ d) (kc' : u2.length ≤ d') (km : d ≤ maxLen) (km' : d' ≤ maxLen) (ks : ∀ s ∈ n2, s.size ≤ maxLen) :
    Calls Try.prog 3 #[.string kind, .int .i64 n, .agg #[.slice A n1.length c, .slice A' u1.length c'], .agg #[.slice D n2.length d, .slice D' u2.length d']] w fun e w' => e = .returned (.bool true) ∧ Below w.heap.size w w' := by
  have hfa := fun W (hW : Below w.heap.size w W) => few_any w.heap.size c c' W hW.size (hN.below hW) (hU.below hW) hc hc' hm hm' hs
  have hfb := fun W (hW : Below w.heap.size w W) => few_any w.heap.size d d' W hW.size (kN.below hW) (kU.below hW) kc kc' km km' ks
  have HFA := Lib.hid hfa
  have HFB := Lib.hid hfb
  clear hfa hfb hN hU hs kN kU ks
  unfold maxLen at hk
  have hks : (kind.size : Int) ≤ 9223372036854775807 := by omega
  by_cases hs15 : (15 : Int) < kind.size
  · have hs16 : (15 : Int) ≤ kind.size := by omega
    go_enter Try.func3, Try.ntmps3
    go_wp2
    refine Free.region_each (by kernel_rfl) (by kernel_rfl)
      (fun k => [some (.string kind), some (.string kind), some (.int .i64 kind.size), some (.int .i64 15), some (.string (kind.extract 0 15)), some (.agg #[.slice A n1.length c, .slice A' u1.length c']), none, some (.agg #[.slice D n2.length d, .slice D' u2.length d']), none, some (.string (kind.extract 0 15)), none, none].getD k none)
      (Box2 w (.slice A n1.length c) (.slice A' u1.length c') (.slice D n2.length d) (.slice D' u2.length d')) (fun _ => undef) ?_ ?_ ?_
    · exact Box2.start _ _ _ _ _
    · refine ⟨?_, ?_, ?_, ?_, ?_, ?_, ?_, ?_, ?_, ?_, ?_, ?_, trivial⟩
      · refine Free.step_val _ rfl rfl fun done r W ρ hρ hcst hfun hJ hV hC hd hdeps => ?_
        have e0 : ρ (.tmp 0) = .string kind := by rw [hρ]; rfl
        clear hρ
        refine ⟨?_, hJ.pass (by decide)⟩
        go_simp
      · refine Free.step_val _ rfl rfl fun done r W ρ hρ hcst hfun hJ hV hC hd hdeps => ?_
        have e0 : ρ (.tmp 0) = .string kind := by rw [hρ]; rfl
        clear hρ
        refine ⟨?_, hJ.pass (by decide)⟩
        go_simp
      · refine Free.step_val _ rfl rfl fun done r W ρ hρ hcst hfun hJ hV hC hd hdeps => ?_
        have e0 : ρ (.tmp 13) = .string kind := by rw [hρ]; exact hV 1 _ (hdeps 1 (by decide)) rfl
        clear hρ
        refine ⟨?_, hJ.pass (by decide)⟩
        go_simp
      · refine Free.step_val _ rfl rfl fun done r W ρ hρ hcst hfun hJ hV hC hd hdeps => ?_
        have e0 : ρ (.tmp 14) = .int .i64 kind.size := by rw [hρ]; exact hV 2 _ (hdeps 2 (by decide)) rfl
        clear hρ
        refine ⟨?_, hJ.pass (by decide)⟩
        go_simp
      · refine Free.step_val _ rfl rfl fun done r W ρ hρ hcst hfun hJ hV hC hd hdeps => ?_
        have e0 : ρ (.tmp 12) = .string kind := by rw [hρ]; exact hV 0 _ (hdeps 0 (by decide)) rfl
        have e1 : ρ (.tmp 15) = .int .i64 15 := by rw [hρ]; exact hV 3 _ (hdeps 3 (by decide)) rfl
        clear hρ
        refine ⟨?_, hJ.pass (by decide)⟩
        go_simp
      · refine Free.step_val _ rfl rfl fun done r W ρ hρ hcst hfun hJ hV hC hd hdeps => ?_
        have e0 : ρ (.tmp 6) = .pointer (some ⟨w.heap.size, 0, none⟩) := by rw [hρ]; rfl
        have hold := hJ.a_old (Free.not_done hC 10 5 (by rfl) (by decide) hd)
        have c0 : W.cell? ⟨w.heap.size, 0, none⟩ = some (.slice A n1.length c) := by rw [hold.cell]; rfl
        have c1 : W.cell? ⟨w.heap.size, 1, none⟩ = some (.slice A' u1.length c') := by rw [hold.cell]; rfl
        clear hρ
        refine ⟨?_, hJ.pass (by decide)⟩
        go_simp
      · refine Free.step_any rfl rfl fun done r W ρ hρ hcst hfun hJ hV hC hd hdeps => ?_
        have e0 : ρ (.tmp 17) = .agg #[.slice A n1.length c, .slice A' u1.length c'] := by rw [hρ]; exact hV 5 _ (hdeps 5 (by decide)) rfl
        have hno := Free.not_done hC 10 6 (by rfl) (by decide) hd
        clear hρ
        go_simp
        exact (HFA.out W hJ.below).mono fun e w' ⟨v, _, _, he, hl, hb⟩ => ⟨v, he, hJ.call_a hno hl hb⟩
      · refine Free.step_val _ rfl rfl fun done r W ρ hρ hcst hfun hJ hV hC hd hdeps => ?_
        have e0 : ρ (.tmp 7) = .pointer (some ⟨w.heap.size + 1, 0, none⟩) := by rw [hρ]; rfl
        have hold := hJ.b_old (Free.not_done hC 11 7 (by rfl) (by decide) hd)
        have c0 : W.cell? ⟨w.heap.size + 1, 0, none⟩ = some (.slice D n2.length d) := by rw [hold.cell]; rfl
        have c1 : W.cell? ⟨w.heap.size + 1, 1, none⟩ = some (.slice D' u2.length d') := by rw [hold.cell]; rfl
        clear hρ
        refine ⟨?_, hJ.pass (by decide)⟩
        go_simp
      · refine Free.step_any rfl rfl fun done r W ρ hρ hcst hfun hJ hV hC hd hdeps => ?_
        have e0 : ρ (.tmp 19) = .agg #[.slice D n2.length d, .slice D' u2.length d'] := by rw [hρ]; exact hV 7 _ (hdeps 7 (by decide)) rfl
        have hno := Free.not_done hC 11 8 (by rfl) (by decide) hd
        clear hρ
        go_simp
        exact (HFB.out W hJ.below).mono fun e w' ⟨v, _, _, he, hl, hb⟩ => ⟨v, he, hJ.call_b hno hl hb⟩
      · refine Free.step_val _ rfl rfl fun done r W ρ hρ hcst hfun hJ hV hC hd hdeps => ?_
        have e0 : ρ (.tmp 16) = .string (kind.extract 0 15) := by rw [hρ]; exact hV 4 _ (hdeps 4 (by decide)) rfl
        clear hρ
        refine ⟨?_, hJ.pass (by decide)⟩
        go_simp
      · refine Free.step_any rfl rfl fun done r W ρ hρ hcst hfun hJ hV hC hd hdeps => ?_
        have e0 : ρ (.tmp 6) = .pointer (some ⟨w.heap.size, 0, none⟩) := by rw [hρ]; rfl
        have e1 : ρ (.tmp 18) = r 6 := by rw [hρ]; rfl
        have hold := hJ.a_old hd
        obtain ⟨y0, y1, y2, y3, y4, y5, hy⟩ := (hJ.ra (hdeps 6 (by decide))).two
        rw [hy] at e1
        have c0 : W.cell? ⟨w.heap.size, 0, none⟩ = some (.slice A n1.length c) := by rw [hold.cell]; rfl
        have c1 : W.cell? ⟨w.heap.size, 1, none⟩ = some (.slice A' u1.length c') := by rw [hold.cell]; rfl
        have f0 := hold.frozen 0
        have f1 := hold.frozen 1
        have hfin := hJ.set_a (hdeps 6 (by decide)) hy hd
        clear hρ hy
        go_simp
        exact hfin
      · refine Free.step_any rfl rfl fun done r W ρ hρ hcst hfun hJ hV hC hd hdeps => ?_
        have e0 : ρ (.tmp 7) = .pointer (some ⟨w.heap.size + 1, 0, none⟩) := by rw [hρ]; rfl
        have e1 : ρ (.tmp 20) = r 8 := by rw [hρ]; rfl
        have hold := hJ.b_old hd
        obtain ⟨y0, y1, y2, y3, y4, y5, hy⟩ := (hJ.rb (hdeps 8 (by decide))).two
        rw [hy] at e1
        have c0 : W.cell? ⟨w.heap.size + 1, 0, none⟩ = some (.slice D n2.length d) := by rw [hold.cell]; rfl
        have c1 : W.cell? ⟨w.heap.size + 1, 1, none⟩ = some (.slice D' u2.length d') := by rw [hold.cell]; rfl
        have f0 := hold.frozen 0
        have f1 := hold.frozen 1
        have hfin := hJ.set_b (hdeps 8 (by decide)) hy hd
        clear hρ hy
        go_simp
        exact hfin
    · intro done r W hall hJ hV
      obtain ⟨z0, z1, t0, t1, m1, v1, m2, v2, e6, e8, htwo⟩ := hJ.fin hall
      have e0 := hV 0 _ (hall 0 (by decide)) rfl
      have e1 := hV 1 _ (hall 1 (by decide)) rfl
      have e2 := hV 2 _ (hall 2 (by decide)) rfl
      have e3 := hV 3 _ (hall 3 (by decide)) rfl
      have e4 := hV 4 _ (hall 4 (by decide)) rfl
      have e5 := hV 5 _ (hall 5 (by decide)) rfl
      have e7 := hV 7 _ (hall 7 (by decide)) rfl
      have e9 := hV 9 _ (hall 9 (by decide)) rfl
      simp only [Free.putAll, Nat.zero_add, e0, e1, e2, e3, e4, e5, e6, e7, e8, e9]
      clear hJ hV hall e0 e1 e2 e3 e4 e5 e6 e7 e8 e9
      have hmk := Make_any (kind.extract 0 15) n W
      have hrm := fun W => rMake_any (kind.extract 0 15) n W
      have HMK := Lib.hid hmk
      have HRM := Lib.hid hrm
      have HT := Lib.hid htwo
      clear hmk hrm htwo
      go_wp2_with (go_at_call 8; refine HMK.out.mono ?_)
      rintro e w1 ⟨v, rfl, hl1, hb1⟩
      obtain ⟨A3, m3, c3, A4, m4, c4, rfl⟩ := lat_two hl1
      have ht1 := two_stable _ _ _ _ _ _ _ _ _ _ _ HT.out hb1
      have HT1 := Lib.hid (two_stable _ _ _ _ _ _ _ _ _ _ _ ht1 ((Below.refl _ w1).alloc (Nat.le_refl _) (.cells #[.slice A3 m3 c3, .slice A4 m4 c4] 25)))
      have HL1 := Lib.hid (stable_lat _ _ _ _ _ hl1 ((Below.refl _ w1).alloc (Nat.le_refl _) (.cells #[.slice A3 m3 c3, .slice A4 m4 c4] 25)))
      have P1 := Lib.hid (Blk.new w1 25 #[.slice A3 m3 c3, .slice A4 m4 c4])
      clear ht1 hl1 hb1
      go_wp2_with (go_at_call 9; refine (HRM.out _).mono ?_)
      rintro e w2 ⟨q0, q1, rfl, hl2, hb2⟩
      obtain ⟨A5, m5, c5, A6, m6, c6, he⟩ := lat_two hl2
      injection he with he
      injection he with he
      injection he with he1 he
      injection he with he2 he
      subst he1 he2
      have hst : Makes w (.slice A5 m5 c5) (.slice A6 m6 c6) (makeN (kind.extract 0 15) n) z0 z1 t0 t1 m1 v1 m2 v2 (.slice A3 m3 c3) (.slice A4 m4 c4) (named (makeUpR (kind.extract 0 15) n).length) (makeUpR (kind.extract 0 15) n) w1.heap.size w2.heap.size (w2.alloc (.cells #[.slice A5 m5 c5, .slice A6 m6 c6, .int .i64 (makeN (kind.extract 0 15) n : Nat)] 31)) :=
        makes_new (two_stable _ _ _ _ _ _ _ _ _ _ _ HT1.out hb2) (P1.out.below hb2 P1.out.lt) (stable_lat _ _ _ _ _ HL1.out hb2) hl2
      clear hl2 hb2 he HT HT1 HL1 P1 HMK HRM
      go_wp2_with (fail)
      obtain ⟨W3, hW3⟩ : ∃ W3, (w2.alloc (.cells #[.slice A5 m5 c5, .slice A6 m6 c6, .int .i64 (makeN (kind.extract 0 15) n : Nat)] 31)) = W3 := ⟨_, rfl⟩
      rw [hW3] at hst ⊢
      clear hW3
      have hg := fun d os => (makes_stable _ _ _ _ _ _ _ _ _ _ _ _ _ _ _ _ _ _).grown hst d os
      have c90 := fun d os => (hg d os).l.cell 0
      have c91 := fun d os => (hg d os).l.cell 1
      have ct0 := fun d os => (hg d os).t.cell 0
      have ct1 := fun d os => (hg d os).t.cell 1
      have ct2 := fun d os => (hg d os).t.cell 2
      have ca0 := fun d os => (hg d os).two.a.cell 0
      have ca1 := fun d os => (hg d os).two.a.cell 1
      have cb0 := fun d os => (hg d os).two.b.cell 0
      have cb1 := fun d os => (hg d os).two.b.cell 1
      have s1 := fun d os => rSame_any _ (hg d os).hl (hg d os).ht
      have s2 := fun d os => rSame_any _ (hg d os).two.la (hg d os).two.lb
      have k1 := fun d os => like_any _ (hg d os).two.la (hg d os).two.lb
      have k2 := fun d os => like_any _ (hg d os).two.la (hg d os).two.la
      rw [show sameLat (named (makeUpR (kind.extract 0 15) n).length) (makeUpR (kind.extract 0 15) n) (named (makeUpR (kind.extract 0 15) n).length) (makeUpR (kind.extract 0 15) n) = true by simp [sameLat]] at s1
      rw [show sameLat m1 v1 m1 v1 = true by simp [sameLat]] at k2
      obtain ⟨b, hb⟩ : ∃ b, sameLat m1 v1 m2 v2 = b := ⟨_, rfl⟩
      rw [hb] at s2 k1
      have HST := Lib.hid hst
      have S1 := Lib.hid s1
      have S2 := Lib.hid s2
      have K1 := Lib.hid k1
      have K2 := Lib.hid k2
      clear hb s1 s2 k1 k2 hst hg
      cases b
      all_goals
        refine wp_region_quiet_below (by kernel_rfl) (by kernel_rfl) ?_
        repeat (quiet_step ((first
          | (go_at_call 10; exact Calls.regrown_of (alive2_any _))
          | (go_at_call 11; first | (with_reducible exact Calls.regrown_of (S1.out _ _)) | (with_reducible exact Calls.regrown_of (S2.out _ _)))
          | (go_at_call 12; first | (with_reducible exact Calls.regrown_of (K1.out _ _)) | (with_reducible exact Calls.regrown_of (K2.out _ _))))))
        refine wpQuiet_nil ?_
        rintro _ ⟨⟨d, os⟩, rfl⟩
        go_wp2
        go_ret
        exact ⟨rfl, ((makes_stable _ _ _ _ _ _ _ _ _ _ _ _ _ _ _ _ _ _).grown HST.out d os).two.below⟩
  · have hp15 : ((15 : Int) < kind.size) = False := eq_false hs15
    have hs16 : (kind.size : Int) ≤ 15 := by omega
    have hex : kind.extract 0 kind.size = kind := by simp
    clear hs15
    go_enter Try.func3, Try.ntmps3
    go_wp2
    refine Free.region_each (by kernel_rfl) (by kernel_rfl)
      (fun k => [some (.string kind), some (.string kind), some (.int .i64 kind.size), some (.int .i64 kind.size), some (.string kind), some (.agg #[.slice A n1.length c, .slice A' u1.length c']), none, some (.agg #[.slice D n2.length d, .slice D' u2.length d']), none, some (.string kind), none, none].getD k none)
      (Box2 w (.slice A n1.length c) (.slice A' u1.length c') (.slice D n2.length d) (.slice D' u2.length d')) (fun _ => undef) ?_ ?_ ?_
    · exact Box2.start _ _ _ _ _
    · refine ⟨?_, ?_, ?_, ?_, ?_, ?_, ?_, ?_, ?_, ?_, ?_, ?_, trivial⟩
      · refine Free.step_val _ rfl rfl fun done r W ρ hρ hcst hfun hJ hV hC hd hdeps => ?_
        have e0 : ρ (.tmp 0) = .string kind := by rw [hρ]; rfl
        clear hρ
        refine ⟨?_, hJ.pass (by decide)⟩
        go_simp
      · refine Free.step_val _ rfl rfl fun done r W ρ hρ hcst hfun hJ hV hC hd hdeps => ?_
        have e0 : ρ (.tmp 0) = .string kind := by rw [hρ]; rfl
        clear hρ
        refine ⟨?_, hJ.pass (by decide)⟩
        go_simp
      · refine Free.step_val _ rfl rfl fun done r W ρ hρ hcst hfun hJ hV hC hd hdeps => ?_
        have e0 : ρ (.tmp 13) = .string kind := by rw [hρ]; exact hV 1 _ (hdeps 1 (by decide)) rfl
        clear hρ
        refine ⟨?_, hJ.pass (by decide)⟩
        go_simp
      · refine Free.step_val _ rfl rfl fun done r W ρ hρ hcst hfun hJ hV hC hd hdeps => ?_
        have e0 : ρ (.tmp 14) = .int .i64 kind.size := by rw [hρ]; exact hV 2 _ (hdeps 2 (by decide)) rfl
        clear hρ
        refine ⟨?_, hJ.pass (by decide)⟩
        go_simp
      · refine Free.step_val _ rfl rfl fun done r W ρ hρ hcst hfun hJ hV hC hd hdeps => ?_
        have e0 : ρ (.tmp 12) = .string kind := by rw [hρ]; exact hV 0 _ (hdeps 0 (by decide)) rfl
        have e1 : ρ (.tmp 15) = .int .i64 kind.size := by rw [hρ]; exact hV 3 _ (hdeps 3 (by decide)) rfl
        clear hρ
        refine ⟨?_, hJ.pass (by decide)⟩
        go_simp
      · refine Free.step_val _ rfl rfl fun done r W ρ hρ hcst hfun hJ hV hC hd hdeps => ?_
        have e0 : ρ (.tmp 6) = .pointer (some ⟨w.heap.size, 0, none⟩) := by rw [hρ]; rfl
        have hold := hJ.a_old (Free.not_done hC 10 5 (by rfl) (by decide) hd)
        have c0 : W.cell? ⟨w.heap.size, 0, none⟩ = some (.slice A n1.length c) := by rw [hold.cell]; rfl
        have c1 : W.cell? ⟨w.heap.size, 1, none⟩ = some (.slice A' u1.length c') := by rw [hold.cell]; rfl
        clear hρ
        refine ⟨?_, hJ.pass (by decide)⟩
        go_simp
      · refine Free.step_any rfl rfl fun done r W ρ hρ hcst hfun hJ hV hC hd hdeps => ?_
        have e0 : ρ (.tmp 17) = .agg #[.slice A n1.length c, .slice A' u1.length c'] := by rw [hρ]; exact hV 5 _ (hdeps 5 (by decide)) rfl
        have hno := Free.not_done hC 10 6 (by rfl) (by decide) hd
        clear hρ
        go_simp
        exact (HFA.out W hJ.below).mono fun e w' ⟨v, _, _, he, hl, hb⟩ => ⟨v, he, hJ.call_a hno hl hb⟩
      · refine Free.step_val _ rfl rfl fun done r W ρ hρ hcst hfun hJ hV hC hd hdeps => ?_
        have e0 : ρ (.tmp 7) = .pointer (some ⟨w.heap.size + 1, 0, none⟩) := by rw [hρ]; rfl
        have hold := hJ.b_old (Free.not_done hC 11 7 (by rfl) (by decide) hd)
        have c0 : W.cell? ⟨w.heap.size + 1, 0, none⟩ = some (.slice D n2.length d) := by rw [hold.cell]; rfl
        have c1 : W.cell? ⟨w.heap.size + 1, 1, none⟩ = some (.slice D' u2.length d') := by rw [hold.cell]; rfl
        clear hρ
        refine ⟨?_, hJ.pass (by decide)⟩
        go_simp
      · refine Free.step_any rfl rfl fun done r W ρ hρ hcst hfun hJ hV hC hd hdeps => ?_
        have e0 : ρ (.tmp 19) = .agg #[.slice D n2.length d, .slice D' u2.length d'] := by rw [hρ]; exact hV 7 _ (hdeps 7 (by decide)) rfl
        have hno := Free.not_done hC 11 8 (by rfl) (by decide) hd
        clear hρ
        go_simp
        exact (HFB.out W hJ.below).mono fun e w' ⟨v, _, _, he, hl, hb⟩ => ⟨v, he, hJ.call_b hno hl hb⟩
      · refine Free.step_val _ rfl rfl fun done r W ρ hρ hcst hfun hJ hV hC hd hdeps => ?_
        have e0 : ρ (.tmp 16) = .string kind := by rw [hρ]; exact hV 4 _ (hdeps 4 (by decide)) rfl
        clear hρ
        refine ⟨?_, hJ.pass (by decide)⟩
        go_simp
      · refine Free.step_any rfl rfl fun done r W ρ hρ hcst hfun hJ hV hC hd hdeps => ?_
        have e0 : ρ (.tmp 6) = .pointer (some ⟨w.heap.size, 0, none⟩) := by rw [hρ]; rfl
        have e1 : ρ (.tmp 18) = r 6 := by rw [hρ]; rfl
        have hold := hJ.a_old hd
        obtain ⟨y0, y1, y2, y3, y4, y5, hy⟩ := (hJ.ra (hdeps 6 (by decide))).two
        rw [hy] at e1
        have c0 : W.cell? ⟨w.heap.size, 0, none⟩ = some (.slice A n1.length c) := by rw [hold.cell]; rfl
        have c1 : W.cell? ⟨w.heap.size, 1, none⟩ = some (.slice A' u1.length c') := by rw [hold.cell]; rfl
        have f0 := hold.frozen 0
        have f1 := hold.frozen 1
        have hfin := hJ.set_a (hdeps 6 (by decide)) hy hd
        clear hρ hy
        go_simp
        exact hfin
      · refine Free.step_any rfl rfl fun done r W ρ hρ hcst hfun hJ hV hC hd hdeps => ?_
        have e0 : ρ (.tmp 7) = .pointer (some ⟨w.heap.size + 1, 0, none⟩) := by rw [hρ]; rfl
        have e1 : ρ (.tmp 20) = r 8 := by rw [hρ]; rfl
        have hold := hJ.b_old hd
        obtain ⟨y0, y1, y2, y3, y4, y5, hy⟩ := (hJ.rb (hdeps 8 (by decide))).two
        rw [hy] at e1
        have c0 : W.cell? ⟨w.heap.size + 1, 0, none⟩ = some (.slice D n2.length d) := by rw [hold.cell]; rfl
        have c1 : W.cell? ⟨w.heap.size + 1, 1, none⟩ = some (.slice D' u2.length d') := by rw [hold.cell]; rfl
        have f0 := hold.frozen 0
        have f1 := hold.frozen 1
        have hfin := hJ.set_b (hdeps 8 (by decide)) hy hd
        clear hρ hy
        go_simp
        exact hfin
    · intro done r W hall hJ hV
      obtain ⟨z0, z1, t0, t1, m1, v1, m2, v2, e6, e8, htwo⟩ := hJ.fin hall
      have e0 := hV 0 _ (hall 0 (by decide)) rfl
      have e1 := hV 1 _ (hall 1 (by decide)) rfl
      have e2 := hV 2 _ (hall 2 (by decide)) rfl
      have e3 := hV 3 _ (hall 3 (by decide)) rfl
      have e4 := hV 4 _ (hall 4 (by decide)) rfl
      have e5 := hV 5 _ (hall 5 (by decide)) rfl
      have e7 := hV 7 _ (hall 7 (by decide)) rfl
      have e9 := hV 9 _ (hall 9 (by decide)) rfl
      simp only [Free.putAll, Nat.zero_add, e0, e1, e2, e3, e4, e5, e6, e7, e8, e9]
      clear hJ hV hall e0 e1 e2 e3 e4 e5 e6 e7 e8 e9
      have hmk := Make_any kind n W
      have hrm := fun W => rMake_any kind n W
      have HMK := Lib.hid hmk
      have HRM := Lib.hid hrm
      have HT := Lib.hid htwo
      clear hmk hrm htwo
      go_wp2_with (go_at_call 8; refine HMK.out.mono ?_)
      rintro e w1 ⟨v, rfl, hl1, hb1⟩
      obtain ⟨A3, m3, c3, A4, m4, c4, rfl⟩ := lat_two hl1
      have ht1 := two_stable _ _ _ _ _ _ _ _ _ _ _ HT.out hb1
      have HT1 := Lib.hid (two_stable _ _ _ _ _ _ _ _ _ _ _ ht1 ((Below.refl _ w1).alloc (Nat.le_refl _) (.cells #[.slice A3 m3 c3, .slice A4 m4 c4] 25)))
      have HL1 := Lib.hid (stable_lat _ _ _ _ _ hl1 ((Below.refl _ w1).alloc (Nat.le_refl _) (.cells #[.slice A3 m3 c3, .slice A4 m4 c4] 25)))
      have P1 := Lib.hid (Blk.new w1 25 #[.slice A3 m3 c3, .slice A4 m4 c4])
      clear ht1 hl1 hb1
      go_wp2_with (go_at_call 9; refine (HRM.out _).mono ?_)
      rintro e w2 ⟨q0, q1, rfl, hl2, hb2⟩
      obtain ⟨A5, m5, c5, A6, m6, c6, he⟩ := lat_two hl2
      injection he with he
      injection he with he
      injection he with he1 he
      injection he with he2 he
      subst he1 he2
      have hst : Makes w (.slice A5 m5 c5) (.slice A6 m6 c6) (makeN kind n) z0 z1 t0 t1 m1 v1 m2 v2 (.slice A3 m3 c3) (.slice A4 m4 c4) (named (makeUpR kind n).length) (makeUpR kind n) w1.heap.size w2.heap.size (w2.alloc (.cells #[.slice A5 m5 c5, .slice A6 m6 c6, .int .i64 (makeN kind n : Nat)] 31)) :=
        makes_new (two_stable _ _ _ _ _ _ _ _ _ _ _ HT1.out hb2) (P1.out.below hb2 P1.out.lt) (stable_lat _ _ _ _ _ HL1.out hb2) hl2
      clear hl2 hb2 he HT HT1 HL1 P1 HMK HRM
      go_wp2_with (fail)
      obtain ⟨W3, hW3⟩ : ∃ W3, (w2.alloc (.cells #[.slice A5 m5 c5, .slice A6 m6 c6, .int .i64 (makeN kind n : Nat)] 31)) = W3 := ⟨_, rfl⟩
      rw [hW3] at hst ⊢
      clear hW3
      have hg := fun d os => (makes_stable _ _ _ _ _ _ _ _ _ _ _ _ _ _ _ _ _ _).grown hst d os
      have c90 := fun d os => (hg d os).l.cell 0
      have c91 := fun d os => (hg d os).l.cell 1
      have ct0 := fun d os => (hg d os).t.cell 0
      have ct1 := fun d os => (hg d os).t.cell 1
      have ct2 := fun d os => (hg d os).t.cell 2
      have ca0 := fun d os => (hg d os).two.a.cell 0
      have ca1 := fun d os => (hg d os).two.a.cell 1
      have cb0 := fun d os => (hg d os).two.b.cell 0
      have cb1 := fun d os => (hg d os).two.b.cell 1
      have s1 := fun d os => rSame_any _ (hg d os).hl (hg d os).ht
      have s2 := fun d os => rSame_any _ (hg d os).two.la (hg d os).two.lb
      have k1 := fun d os => like_any _ (hg d os).two.la (hg d os).two.lb
      have k2 := fun d os => like_any _ (hg d os).two.la (hg d os).two.la
      rw [show sameLat (named (makeUpR kind n).length) (makeUpR kind n) (named (makeUpR kind n).length) (makeUpR kind n) = true by simp [sameLat]] at s1
      rw [show sameLat m1 v1 m1 v1 = true by simp [sameLat]] at k2
      obtain ⟨b, hb⟩ : ∃ b, sameLat m1 v1 m2 v2 = b := ⟨_, rfl⟩
      rw [hb] at s2 k1
      have HST := Lib.hid hst
      have S1 := Lib.hid s1
      have S2 := Lib.hid s2
      have K1 := Lib.hid k1
      have K2 := Lib.hid k2
      clear hb s1 s2 k1 k2 hst hg
      cases b
      all_goals
        refine wp_region_quiet_below (by kernel_rfl) (by kernel_rfl) ?_
        repeat (quiet_step ((first
          | (go_at_call 10; exact Calls.regrown_of (alive2_any _))
          | (go_at_call 11; first | (with_reducible exact Calls.regrown_of (S1.out _ _)) | (with_reducible exact Calls.regrown_of (S2.out _ _)))
          | (go_at_call 12; first | (with_reducible exact Calls.regrown_of (K1.out _ _)) | (with_reducible exact Calls.regrown_of (K2.out _ _))))))
        refine wpQuiet_nil ?_
        rintro _ ⟨⟨d, os⟩, rfl⟩
        go_wp2
        go_ret
        exact ⟨rfl, ((makes_stable _ _ _ _ _ _ _ _ _ _ _ _ _ _ _ _ _ _).grown HST.out d os).two.below⟩
end Go.Proofs.Ytaingkjleelbfaa
