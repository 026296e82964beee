/- The reference's row. -/
import Derived.LoopTactic
import Derived.Test.YtggcmkpafpjnoaaGreatDoorGRefC
namespace Go.Proofs.YtggcmkpafpjnoaaGreatDoor
set_option maxRecDepth 100000
open Go.RowKit Go.Shelf

/-- One thing of a row is read as a plain part. -/
def OneOk (w0 : World) (A : Option Addr) (l : List Lx.Tk) (c : Nat) (thing : Int) (part : Rl.St → Rl.Res) (o : Nat) : Prop :=
  ∀ (s : Rl.St) (S : Nat → Prop) (A2 : Option Addr) (c2 : Nat) (W : World), Below w0.heap.size w0 W → s.pos < l.length → s.deep = o → s.out.length ≤ 40 → RIn W S A2 c2 s.out →
    Calls Tryz.prog 96 #[.agg #[.slice A l.length c, .int .i64 s.pos, .slice A2 s.out.length c2, .int .i64 s.deep, .int .i64 0], .int .i64 thing] W (RTold W S A l.length c (part s))
/-- What is left to read, in memory: none, if something is wrong. -/
def rleft (g n : Nat) (W : World) : Nat :=
  match W.cell? ⟨g, 4, none⟩, W.cell? ⟨g, 1, none⟩ with
  | some (.int _ e), some (.int _ p) => if e = 0 then n - p.toNat + 1 else 0
  | _, _ => 0
theorem rleft_eq {w W : World} {v1 v2 : Value} {p : Nat} {d : Int} {e : Nat} (h : PS w v1 v2 p d e W) (n : Nat) : rleft w.heap.size n W = if e = 0 then n - p + 1 else 0 := by
  unfold rleft
  rw [h.facts.2.1, h.facts.2.2.2.2.1]
  dsimp only
  by_cases h0 : e = 0
  · rw [if_pos (by omega), if_pos h0, Int.toNat_natCast]
  · rw [if_neg (by omega), if_neg h0]
/-- What holds at the head of row's rounds. -/
structure RefRow (w : World) (S : Nat → Prop) (A : Option Addr) (l : List Lx.Tk) (c o : Nat) (more : Rl.St → Rl.Res) (wd : ByteArray) (res r : Rl.Res) (A3 : Option Addr) (m3 c3 : Nat) (d3 : Int) (W : World) : Prop where
  ps : PS w (.slice A l.length c) (.slice A3 m3 c3) (r.1.pos : Nat) d3 (r.2 : Nat) W
  ok : r.2 = 0 → d3 = o ∧ r.1.deep = o ∧ m3 = r.1.out.length ∧ ROut w S W A3 c3 r.1.out ∧ (∀ ad, A3 = some ad → ad.block ≠ w.heap.size ∧ ad.block ≠ w.heap.size + 1) ∧ r.1.out.length ≤ 40 ∧ ∃ n, l.length ≤ n + r.1.pos ∧ res = Rl.loop l more wd n r.1
  bad : r.2 ≠ 0 → res.1.pos = r.1.pos ∧ res.2 = r.2
  lt : r.1.pos < l.length
/-- What a call leaves of a row's state, stored back. -/
theorem RefRow.store {w W W1 : World} {S S1 : Nat → Prop} {A A4 : Option Addr} {l : List Lx.Tk} {c o m4 c4 : Nat} {d4 : Int} {more : Rl.St → Rl.Res} {wd : ByteArray} {res r1 : Rl.Res} {v1 v2 : Value} {p0 d0 e0 : Int} (h : PS w v1 v2 p0 d0 e0 W)
    (hb : Below W.heap.size W W1) (hS : ∀ k, S1 k → (S k ∨ w.heap.size + 2 ≤ k)) (hok : r1.2 = 0 → d4 = r1.1.deep ∧ m4 = r1.1.out.length ∧ ROut W S1 W1 A4 c4 r1.1.out) (hSw : ∀ k, S k → k < w.heap.size)
    (h1 : r1.2 = 0 → r1.1.deep = o ∧ r1.1.out.length ≤ 40 ∧ ∃ n, l.length ≤ n + r1.1.pos ∧ res = Rl.loop l more wd n r1.1) (h2 : r1.2 ≠ 0 → res.1.pos = r1.1.pos ∧ res.2 = r1.2) (hlt : r1.1.pos < l.length) :
    RefRow w S A l c o more wd res r1 A4 m4 c4 d4 (((((W1.setCell ⟨w.heap.size, 0, none⟩ (.slice A l.length c)).setCell ⟨w.heap.size, 1, none⟩ (.int .i64 (r1.1.pos : Nat))).setCell ⟨w.heap.size, 2, none⟩ (.slice A4 m4 c4)).setCell ⟨w.heap.size, 3, none⟩ (.int .i64 d4)).setCell ⟨w.heap.size, 4, none⟩ (.int .i64 (r1.2 : Nat))) := by
  have hps := (h.call hb).setAll (.slice A l.length c) (.slice A4 m4 c4) (r1.1.pos : Nat) d4 (r1.2 : Nat)
  have hz := h.z.blk.lt
  refine ⟨hps, fun h0 => ?_, h2, hlt⟩
  obtain ⟨a1, a2, a3⟩ := hok h0
  obtain ⟨b1, b2, b3⟩ := h1 h0
  have hside : ∀ ad, A4 = some ad → S ad.block ∨ w.heap.size + 2 ≤ ad.block := fun ad e => by
    rcases a3.side ad e with h3 | h3
    · exact hS _ h3
    · exact .inr (by omega)
  have hne : ∀ ad, A4 = some ad → ad.block ≠ w.heap.size ∧ ad.block ≠ w.heap.size + 1 := fun ad e => by
    rcases hside ad e with h3 | h3
    · have := hSw _ h3; omega
    · omega
  refine ⟨by rw [a1, b1], b1, a2, ⟨a3.row.kept_at (Nat.le_of_eq (size_set5 _ _ _ _ _ _ _).symm) (fun ad e => heap_set5 _ _ _ _ _ _ _ _ (hne ad e).1), a3.cap, a3.nil, fun ad e => ?_⟩, hne, b2, b3⟩
  rcases hside ad e with h3 | h3
  · exact .inl h3
  · exact .inr (by omega)
section
variable {A A2 : Option Addr} {c c2 o : Nat} {l : List Lx.Tk} {S : Nat → Prop} {more : Rl.St → Rl.Res} {wd : ByteArray}
set_option maxHeartbeats 8000000 in
theorem rrow_or (sort : Bool) (s : Rl.St) (w : World) (ht : Row w w.heap.size A (tcells l)) (he : Rl.Ends l) (hl : l.length ≤ 1000000) (hp : s.pos < l.length) (hd : s.deep = o) (ho : s.out.length ≤ 40) (h : RIn w S A2 c2 s.out)
    (hg : Rl.Good l o sort more) (hw : ∀ q, Rl.step q (Rl.opOf Rl.wOr) = Rl.two q sort sort) (h1 : OneOk w A l c 0 more o) :
    Calls Tryz.prog 71 #[.agg #[.slice A l.length c, .int .i64 s.pos, .slice A2 s.out.length c2, .int .i64 s.deep, .int .i64 0], .int .i64 0] w (RTold w S A l.length c (if (more s).2 = 0 then Rl.loop l more Rl.wOr l.length (more s).1 else more s)) := by
  have _ := hw
  obtain ⟨res, hres⟩ : ∃ res, (if (more s).2 = 0 then Rl.loop l more Rl.wOr l.length (more s).1 else more s) = res := ⟨_, rfl⟩
  rw [hres]
  obtain ⟨g1, g2, g3⟩ := hg s hp hd ho
  have H := Lib.hid h
  have HT := Lib.hid ht
  have HE := Lib.hid he
  have HG := Lib.hid hg
  have H1 := Lib.hid h1
  obtain ⟨r, hr⟩ : ∃ r, more s = r := ⟨_, rfl⟩
  rw [hr] at hres g1 g2 g3
  have HR := Lib.hid hr
  have HRES := Lib.hid hres
  have HG3 := Lib.hid g3
  obtain ⟨p, d, out⟩ := s
  dsimp only at h hp hd ho ⊢
  subst hd
  have hone : ∀ W, Below w.heap.size w W → Calls Tryz.prog 96 #[.agg #[.slice A l.length c, .int .i64 p, .slice A2 out.length c2, .int .i64 d, .int .i64 0], .int .i64 0] W (RTold W S A l.length c r) := fun W hb => by
    have := h1 ⟨p, d, out⟩ S A2 c2 W hb hp rfl ho (h.below hb)
    rw [hr] at this
    exact this
  have HONE := Lib.hid hone
  clear hone h ht he hg hw h1 hr hres g3
  go_enter Tryz.func71, Tryz.ntmps71
  go_wp2_with (fail)
  have hb0 : Below w.heap.size w ((((w.alloc (.cells #[.slice A l.length c, .int .i64 p, .slice A2 out.length c2, .int .i64 d, .int .i64 0] 107)).alloc (.cells #[.slice none 0 0, .int .i64 0, .slice none 0 0, .int .i64 0, .int .i64 0] 107)).alloc (.cells #[.string { data := #[111, 114] }, .string { data := #[97, 110, 100] }, .string { data := #[106, 111, 105, 110] }, .string { data := #[109, 101, 101, 116] }] 9)).alloc (.cells #[.int .i64 4, .int .i64 3, .int .i64 12, .int .i64 13] 3)) := ((((Below.refl _ w).alloc (Nat.le_refl _) _).alloc (by simp) _).alloc (by simp; omega) _).alloc (by simp; omega) _
  refine (HONE.out _ hb0).mono ?_
  rintro e w1 ⟨A4, m4, c4, d4, rfl, hok, hb1⟩
  have hps := PS.start w (.slice A l.length c) (.slice A2 out.length c2) p d 0 ((((Below.refl _ _).alloc (Nat.le_refl _) (.cells #[.string { data := #[111, 114] }, .string { data := #[97, 110, 100] }, .string { data := #[106, 111, 105, 110] }, .string { data := #[109, 101, 101, 116] }] 9)).alloc (by simp) (.cells #[.int .i64 4, .int .i64 3, .int .i64 12, .int .i64 13] 3)))
  have hst := RefRow.store (S := S) (S1 := S) (A := A) (l := l) (c := c) (o := d) (more := more) (wd := Rl.wOr) (res := res) (r1 := r) hps hb1 (fun k hk => .inl hk) hok H.out.lt
    (fun h0 => ⟨(HG3.out h0).1, g2, l.length, by omega, by rw [← HRES.out, if_pos h0]⟩) (fun h0 => by rw [← HRES.out, if_neg h0]; exact ⟨rfl, rfl⟩) g1
  have HST := Lib.hid hst
  obtain ⟨⟨x0, x1, x2, x3, x4⟩, f0, f1, f2, f3, f4⟩ := (hps.call hb1).all
  clear hps hst hok hb1 hb0
  go_wp2
  obtain ⟨W, hW⟩ : ∃ W, (((((w1.setCell ⟨w.heap.size, 0, none⟩ (.slice A l.length c)).setCell ⟨w.heap.size, 1, none⟩ (.int .i64 (r.1.pos : Nat))).setCell ⟨w.heap.size, 2, none⟩ (.slice A4 m4 c4)).setCell ⟨w.heap.size, 3, none⟩ (.int .i64 d4)).setCell ⟨w.heap.size, 4, none⟩ (.int .i64 (r.2 : Nat))) = W := ⟨_, rfl⟩
  rw [hW] at HST ⊢
  clear hW x0 x1 x2 x3 x4 f0 f1 f2 f3 f4
  go_loopw [18] (fun _ wr => ∃ (r : Rl.Res) (A3 : Option Addr) (m3 c3 : Nat) (d3 : Int), Hid (RefRow w S A l c d more Rl.wOr res r A3 m3 c3 d3 wr)) (fun _ wr => rleft w.heap.size l.length wr)
  case atStart => exact ⟨r, A4, m4, c4, d4, HST⟩
  case round =>
    obtain ⟨r, A3, m3, c3, d3, HI⟩ := hrel
    obtain ⟨⟨x0, x1, x2, x3, x4⟩, f0, f1, f2, f3, f4⟩ := HI.out.ps.all
    have htw : Row wr wr.heap.size A (tcells l) := (HT.out.below HI.out.ps.z.below).more HI.out.ps.z.below.size
    by_cases hr0 : r.2 = 0
    · obtain ⟨k1, k2, k3, k4, k5, k6, n, k7, k8⟩ := HI.out.ok hr0
      have hh := here_ok (c := c) (d := d3) (A2 := A3) (m := m3) (c2 := c3) Rl.wOr wr htw HI.out.lt
      cases hn : Rl.isN l r.1.pos Rl.wOr
      · rw [hn] at hh
        have hres : res = (r.1, 0) := by rw [k8]; cases n with
          | zero => rfl
          | succ n => rw [Rl.loop, if_neg (by rw [hn]; decide)]
        have hh2 : Calls Tryz.prog 97 #[.agg #[.slice A l.length c, .int .i64 (r.1.pos : Nat), .slice A3 m3 c3, .int .i64 d3, .int .i64 (r.2 : Nat)], .string Rl.wOr] wr (Tells wr false) := by rw [hr0]; exact hh
        have HH := Lib.hid hh2
        have HRS := Lib.hid hres
        have HR0 := Lib.hid hr0
        have HK := Lib.hid (And.intro k1 (And.intro k2 (And.intro k3 (And.intro k4 k5))))
        clear hh hh2 htw hr0 hres k1 k2 k3 k4 k5 k6 k7 k8 hn
        go_wp2_with (fail)
        refine HH.out.mono ?_
        rintro e w2 ⟨rfl, hb2⟩
        have HB2 := Lib.hid hb2
        have hs2 := HI.out.ps.call hb2
        clear x0 x1 x2 x3 x4 f0 f1 f2 f3 f4
        obtain ⟨⟨x0, x1, x2, x3, x4⟩, f0, f1, f2, f3, f4⟩ := hs2.all
        obtain ⟨z0, z1, z2, z3, z4, y0, y1, y2, y3, y4⟩ := hs2.z.facts
        have HS2 := Lib.hid hs2
        clear hs2 hb2
        go_wp2
        obtain ⟨q0, q1, q2, q3, q4, rB⟩ := HS2.out.z.set_ (.slice A l.length c) (.slice A3 m3 c3) (r.1.pos : Nat) d3 (r.2 : Nat)
        have RB := Lib.hid rB
        clear rB
        refine bodyPost_ret (v := .agg #[.slice A l.length c, .int .i64 (r.1.pos : Nat), .slice A3 m3 c3, .int .i64 d3, .int .i64 (r.2 : Nat)]) (by simp [results, Tryz.results71, go_sem, q0, q1, q2, q3, q4]) rfl ?_
        obtain ⟨k1, k2, k3, k4, k5⟩ := HK.out
        unfold RTold
        have RBB := RB.out
        rw [HR0.out] at RBB
        rw [HRS.out, HR0.out]
        refine ⟨_, _, _, _, rfl, fun _ => ⟨by rw [k1, k2], k3, ?_⟩, RBB⟩
        refine ⟨k4.row.kept_at (by have := HB2.out.size; have := size_set5 w2 (w.heap.size + 1) (.slice A l.length c) (.slice A3 m3 c3) (r.1.pos : Nat) d3 ((0 : Nat) : Int); omega) (fun ad e => ?_), k4.cap, k4.nil, k4.side⟩
        exact (heap_set5 _ _ _ _ _ _ _ _ (k5 ad e).2).trans (HB2.out.block _ (k4.inside ad e))
      · rw [hn] at hh
        have hlt1 := Rl.isN_lt HE.out hn
        obtain ⟨n, rfl⟩ : ∃ n', n = n' + 1 := ⟨n - 1, by have := HI.out.lt; omega⟩
        rw [Rl.loop, if_pos hn] at k8
        obtain ⟨g1, g2, g3⟩ := HG.out (Rl.adv r.1) hlt1 k2 k6
        obtain ⟨m, hm⟩ : ∃ m, more (Rl.adv r.1) = m := ⟨_, rfl⟩
        rw [hm] at g1 g2 g3 k8
        have hh2 : Calls Tryz.prog 97 #[.agg #[.slice A l.length c, .int .i64 (r.1.pos : Nat), .slice A3 m3 c3, .int .i64 d3, .int .i64 (r.2 : Nat)], .string Rl.wOr] wr (Tells wr true) := by rw [hr0]; exact hh
        have hnx : ∀ W, Calls Tryz.prog 98 #[.agg #[.slice A l.length c, .int .i64 (r.1.pos : Nat), .slice A3 m3 c3, .int .i64 d3, .int .i64 (r.2 : Nat)]] W (Gave W A l.length c (r.1.pos + 1) A3 m3 c3 d3 r.2) := fun W => next_ok (A2 := A3) (m := m3) (c2 := c3) (d := d3) l.length r.2 W hlt1 hl
        have hon : ∀ W, Below wr.heap.size wr W → Calls Tryz.prog 96 #[.agg #[.slice A l.length c, .int .i64 ((r.1.pos : Nat) + 1), .slice A3 m3 c3, .int .i64 d3, .int .i64 (r.2 : Nat)], .int .i64 0] W (RTold W (fun k => (S k ∨ w.heap.size + 2 ≤ k) ∧ k < W.heap.size) A l.length c m) := fun W hb => by
          have hsz := hb.size
          have hin : RIn W (fun k => (S k ∨ w.heap.size + 2 ≤ k) ∧ k < W.heap.size) A3 c3 r.1.out := by
            refine ⟨(k4.row.below hb).more hsz, k4.cap, k4.nil, fun ad e => ⟨?_, by have := k4.inside ad e; omega⟩, fun k hk => hk.2⟩
            rcases k4.side ad e with h5 | h5
            · exact .inl h5
            · have := k5 ad e; exact .inr (by omega)
          have h9 := H1.out (Rl.adv r.1) _ A3 c3 W (HI.out.ps.z.below.trans (hb.mono HI.out.ps.z.below.size)) hlt1 k2 k6 hin
          rw [hm] at h9
          rw [hr0, k1, ← k2, k3]
          exact h9
        have HH := Lib.hid hh2
        have HNX := Lib.hid hnx
        have HON := Lib.hid hon
        have HM := Lib.hid (And.intro g1 (And.intro g2 g3))
        have HK8 := Lib.hid k8
        have HK7 := Lib.hid k7
        have HR0 := Lib.hid hr0
        clear hh hh2 hnx hon htw hr0 k1 k2 k3 k4 k5 k6 k7 k8 hn hm g1 g2 g3
        go_wp2_with (fail)
        refine HH.out.mono ?_
        rintro e w2 ⟨rfl, hb2⟩
        have hs2 := HI.out.ps.call hb2
        clear x0 x1 x2 x3 x4 f0 f1 f2 f3 f4
        obtain ⟨⟨x0, x1, x2, x3, x4⟩, f0, f1, f2, f3, f4⟩ := hs2.all
        have HS2 := Lib.hid hs2
        have HB2 := Lib.hid hb2
        clear hs2 hb2
        go_wp2_with (fail)
        refine (HNX.out w2).mono ?_
        rintro e w3 ⟨rfl, hb3⟩
        have hb23 := HB2.out.trans (hb3.mono HB2.out.size)
        have hs3 := HS2.out.call hb3
        clear x0 x1 x2 x3 x4 f0 f1 f2 f3 f4
        obtain ⟨⟨x0, x1, x2, x3, x4⟩, f0, f1, f2, f3, f4⟩ := hs3.all
        have HS3 := Lib.hid hs3
        have HON3 := Lib.hid (HON.out w3 hb23)
        clear hs3 hb3 hb23 HON
        go_wp2_with (fail)
        refine HON3.out.mono ?_
        rintro e w4 ⟨A4, m4, c4, d4, rfl, hok4, hb4⟩
        have HOK4 := Lib.hid hok4
        have HB4 := Lib.hid hb4
        have hs4 := HS3.out.call hb4
        clear x0 x1 x2 x3 x4 f0 f1 f2 f3 f4
        obtain ⟨⟨x0, x1, x2, x3, x4⟩, f0, f1, f2, f3, f4⟩ := hs4.all
        have HS4 := Lib.hid hs4
        clear hs4 hok4 hb4
        go_upto_region 6 with (fail)
        have hs5 := HS4.out.setAll (.slice A l.length c) (.slice A4 m4 c4) (m.1.pos : Nat) d4 (m.2 : Nat)
        obtain ⟨W5, hW⟩ : ∃ W5, (((((w4.setCell ⟨w.heap.size, 0, none⟩ (.slice A l.length c)).setCell ⟨w.heap.size, 1, none⟩ (.int .i64 (m.1.pos : Nat))).setCell ⟨w.heap.size, 2, none⟩ (.slice A4 m4 c4)).setCell ⟨w.heap.size, 3, none⟩ (.int .i64 d4)).setCell ⟨w.heap.size, 4, none⟩ (.int .i64 (m.2 : Nat))) = W5 := ⟨_, rfl⟩
        have hk5 : (∀ k, k ≠ w.heap.size → W5.heap[k]? = w4.heap[k]?) ∧ W5.heap.size = w4.heap.size := by rw [← hW]; exact ⟨fun k hk => heap_set5 _ _ _ _ _ _ _ _ hk, size_set5 _ _ _ _ _ _ _⟩
        have HK5 := Lib.hid hk5
        rw [hW] at hs5 ⊢
        clear hW hk5
        clear x0 x1 x2 x3 x4 f0 f1 f2 f3 f4
        obtain ⟨⟨x0, x1, x2, x3, x4⟩, f0, f1, f2, f3, f4⟩ := hs5.all
        have HS5 := Lib.hid hs5
        clear hs5
        obtain ⟨g1, g2, g3⟩ := HM.out
        by_cases hm0 : m.2 = 0
        · obtain ⟨j1, j2, j3⟩ := HOK4.out hm0
          obtain ⟨g4, g5, -⟩ := g3 hm0
          have hz3 := HS3.out.z.blk.lt
          have hz4 := HB4.out.size
          have hz5 := HK5.out.2
          have hside : ∀ ad, A4 = some ad → S ad.block ∨ w.heap.size + 2 ≤ ad.block := fun ad e => by
            rcases j3.side ad e with h5 | h5
            · exact h5.1
            · exact .inr (by omega)
          have hin : RIn W5 (fun k => (S k ∨ w.heap.size + 2 ≤ k) ∧ k < W5.heap.size) A4 c4 m.1.out := by
            refine ⟨j3.row.kept_at (by omega) (fun ad e => HK5.out.1 _ ?_), j3.cap, j3.nil, fun ad e => ⟨hside ad e, by have := j3.inside ad e; omega⟩, fun k hk => hk.2⟩
            rcases hside ad e with h5 | h5
            · have := H.out.lt _ h5; omega
            · omega
          have hp0 := rput_any (A := A) (c := c) l.length m.1 4 W5 hin g2
          obtain ⟨q, hq⟩ : ∃ q, Rl.put 4 m.1 = q := ⟨_, rfl⟩
          obtain ⟨t1, t2, t3, t4⟩ := Rl.put_good 4 m.1 g2
          rw [hq] at hp0 t1 t2 t3 t4
          have hp : Calls Tryz.prog 99 #[.agg #[.slice A l.length c, .int .i64 (m.1.pos : Nat), .slice A4 m4 c4, .int .i64 d4, .int .i64 (m.2 : Nat)], .int .i64 4] W5 (RTold W5 (fun k => (S k ∨ w.heap.size + 2 ≤ k) ∧ k < W5.heap.size) A l.length c q) := by
            rw [hm0, j1, j2]
            exact hp0
          have hres : res = if q.2 = 0 then Rl.loop l more Rl.wOr n q.1 else q := by
            have := HK8.out
            rw [if_pos hm0, Rl.op_or, hq] at this
            exact this
          have HP := Lib.hid hp
          have HRS := Lib.hid hres
          have HT1 := Lib.hid (And.intro t1 (And.intro t2 (And.intro t3 (And.intro g4 g5))))
          clear hp hp0 hq hres hin hside j1 j2 j3 g3 g4 g5 hm0 hz3 hz4 hz5 t1 t2 t3 t4
          go_wp2_with (fail)
          refine HP.out.mono ?_
          rintro e w6 ⟨A6, m6, c6, d6, rfl, hok6, hb6⟩
          obtain ⟨t1, t2, t3, g4, g5⟩ := HT1.out
          have g5' : r.1.pos + 1 < m.1.pos := g5
          have hst := RefRow.store (S := S) (A := A) (l := l) (c := c) (o := d) (more := more) (wd := Rl.wOr) (res := res) (r1 := q) HS5.out hb6 (fun k hk => hk.1) hok6 H.out.lt
            (fun h0 => ⟨by rw [t2, g4], t3, n, by have := HK7.out; omega, by rw [HRS.out, if_pos h0]⟩) (fun h0 => by rw [HRS.out, if_neg h0]; exact ⟨rfl, rfl⟩) (by rw [t1]; exact g1)
          have HST := Lib.hid hst
          have hs6 := HS5.out.call hb6
          clear x0 x1 x2 x3 x4 f0 f1 f2 f3 f4
          obtain ⟨⟨x0, x1, x2, x3, x4⟩, f0, f1, f2, f3, f4⟩ := hs6.all
          have HLT := Lib.hid (show q.2 = 0 → r.1.pos < q.1.pos from fun _ => by rw [t1]; omega)
          clear hst hs6 hok6 hb6 t1 t2 t3 g4 g5 g5'
          go_wp2
          go_roundw
          case rel => exact ⟨q, A6, m6, c6, d6, HST⟩
          case measure =>
            rw [rleft_eq HST.out.ps, rleft_eq HI.out.ps, if_pos HR0.out]
            have := HI.out.lt
            have := HST.out.lt
            by_cases h0 : q.2 = 0
            · have := HLT.out h0
              rw [if_pos h0]
              omega
            · rw [if_neg h0]
              omega
        · have hp := fun W => put_err (A := A) (c := c) (p := m.1.pos) (A2 := A4) (m := m4) (c2 := c4) (d := d4) l.length m.2 4 hm0 W
          have HP := Lib.hid hp
          have HRS : Hid (res = m) := by unfold Hid; have := HK8.out; rw [if_neg hm0] at this; exact this
          have HM0 := Lib.hid hm0
          clear hp hm0 g3
          go_wp2_with (fail)
          refine (HP.out W5).mono ?_
          rintro e w6 ⟨rfl, hb6⟩
          have hst := RefRow.store (S := S) (S1 := S) (A := A) (A4 := A4) (l := l) (c := c) (o := d) (m4 := m4) (c4 := c4) (d4 := d4) (more := more) (wd := Rl.wOr) (res := res) (r1 := m) HS5.out hb6 (fun k hk => .inl hk) (fun h0 => absurd h0 HM0.out) H.out.lt
            (fun h0 => absurd h0 HM0.out) (fun h0 => by rw [HRS.out]; exact ⟨rfl, rfl⟩) g1
          have HST := Lib.hid hst
          have hs6 := HS5.out.call hb6
          clear x0 x1 x2 x3 x4 f0 f1 f2 f3 f4
          obtain ⟨⟨x0, x1, x2, x3, x4⟩, f0, f1, f2, f3, f4⟩ := hs6.all
          clear hst hs6 hb6
          go_wp2
          go_roundw
          case rel => exact ⟨m, A4, m4, c4, d4, HST⟩
          case measure =>
            rw [rleft_eq HST.out.ps, rleft_eq HI.out.ps, if_pos HR0.out, if_neg HM0.out]
            omega
    · have hh := here_err (c := c) (d := d3) (A2 := A3) (m := m3) (c2 := c3) Rl.wOr r.2 hr0 wr htw HI.out.lt
      have HH := Lib.hid hh
      have HBAD := Lib.hid (HI.out.bad hr0)
      have HR0 := Lib.hid hr0
      clear hh htw hr0
      go_wp2_with (fail)
      refine HH.out.mono ?_
      rintro e w2 ⟨rfl, hb2⟩
      have hs2 := HI.out.ps.call hb2
      clear x0 x1 x2 x3 x4 f0 f1 f2 f3 f4
      obtain ⟨⟨x0, x1, x2, x3, x4⟩, f0, f1, f2, f3, f4⟩ := hs2.all
      obtain ⟨z0, z1, z2, z3, z4, y0, y1, y2, y3, y4⟩ := hs2.z.facts
      have HS2 := Lib.hid hs2
      clear hs2 hb2
      go_wp2
      obtain ⟨q0, q1, q2, q3, q4, rB⟩ := HS2.out.z.set_ (.slice A l.length c) (.slice A3 m3 c3) (r.1.pos : Nat) d3 (r.2 : Nat)
      have RB := Lib.hid rB
      clear rB
      refine bodyPost_ret (v := .agg #[.slice A l.length c, .int .i64 (r.1.pos : Nat), .slice A3 m3 c3, .int .i64 d3, .int .i64 (r.2 : Nat)]) (by simp [results, Tryz.results71, go_sem, q0, q1, q2, q3, q4]) rfl ?_
      unfold RTold
      rw [HBAD.out.1, HBAD.out.2]
      exact ⟨_, _, _, _, rfl, (fun h0 => absurd h0 HR0.out), RB.out⟩
set_option maxHeartbeats 8000000 in
theorem rrow_and (sort : Bool) (s : Rl.St) (w : World) (ht : Row w w.heap.size A (tcells l)) (he : Rl.Ends l) (hl : l.length ≤ 1000000) (hp : s.pos < l.length) (hd : s.deep = o) (ho : s.out.length ≤ 40) (h : RIn w S A2 c2 s.out)
    (hg : Rl.Good l o sort more) (hw : ∀ q, Rl.step q (Rl.opOf Rl.wAnd) = Rl.two q sort sort) (h1 : OneOk w A l c 1 more o) :
    Calls Tryz.prog 71 #[.agg #[.slice A l.length c, .int .i64 s.pos, .slice A2 s.out.length c2, .int .i64 s.deep, .int .i64 0], .int .i64 1] w (RTold w S A l.length c (if (more s).2 = 0 then Rl.loop l more Rl.wAnd l.length (more s).1 else more s)) := by
  have _ := hw
  obtain ⟨res, hres⟩ : ∃ res, (if (more s).2 = 0 then Rl.loop l more Rl.wAnd l.length (more s).1 else more s) = res := ⟨_, rfl⟩
  rw [hres]
  obtain ⟨g1, g2, g3⟩ := hg s hp hd ho
  have H := Lib.hid h
  have HT := Lib.hid ht
  have HE := Lib.hid he
  have HG := Lib.hid hg
  have H1 := Lib.hid h1
  obtain ⟨r, hr⟩ : ∃ r, more s = r := ⟨_, rfl⟩
  rw [hr] at hres g1 g2 g3
  have HR := Lib.hid hr
  have HRES := Lib.hid hres
  have HG3 := Lib.hid g3
  obtain ⟨p, d, out⟩ := s
  dsimp only at h hp hd ho ⊢
  subst hd
  have hone : ∀ W, Below w.heap.size w W → Calls Tryz.prog 96 #[.agg #[.slice A l.length c, .int .i64 p, .slice A2 out.length c2, .int .i64 d, .int .i64 0], .int .i64 1] W (RTold W S A l.length c r) := fun W hb => by
    have := h1 ⟨p, d, out⟩ S A2 c2 W hb hp rfl ho (h.below hb)
    rw [hr] at this
    exact this
  have HONE := Lib.hid hone
  clear hone h ht he hg hw h1 hr hres g3
  go_enter Tryz.func71, Tryz.ntmps71
  go_wp2_with (fail)
  have hb0 : Below w.heap.size w ((((w.alloc (.cells #[.slice A l.length c, .int .i64 p, .slice A2 out.length c2, .int .i64 d, .int .i64 0] 107)).alloc (.cells #[.slice none 0 0, .int .i64 0, .slice none 0 0, .int .i64 0, .int .i64 0] 107)).alloc (.cells #[.string { data := #[111, 114] }, .string { data := #[97, 110, 100] }, .string { data := #[106, 111, 105, 110] }, .string { data := #[109, 101, 101, 116] }] 9)).alloc (.cells #[.int .i64 4, .int .i64 3, .int .i64 12, .int .i64 13] 3)) := ((((Below.refl _ w).alloc (Nat.le_refl _) _).alloc (by simp) _).alloc (by simp; omega) _).alloc (by simp; omega) _
  refine (HONE.out _ hb0).mono ?_
  rintro e w1 ⟨A4, m4, c4, d4, rfl, hok, hb1⟩
  have hps := PS.start w (.slice A l.length c) (.slice A2 out.length c2) p d 0 ((((Below.refl _ _).alloc (Nat.le_refl _) (.cells #[.string { data := #[111, 114] }, .string { data := #[97, 110, 100] }, .string { data := #[106, 111, 105, 110] }, .string { data := #[109, 101, 101, 116] }] 9)).alloc (by simp) (.cells #[.int .i64 4, .int .i64 3, .int .i64 12, .int .i64 13] 3)))
  have hst := RefRow.store (S := S) (S1 := S) (A := A) (l := l) (c := c) (o := d) (more := more) (wd := Rl.wAnd) (res := res) (r1 := r) hps hb1 (fun k hk => .inl hk) hok H.out.lt
    (fun h0 => ⟨(HG3.out h0).1, g2, l.length, by omega, by rw [← HRES.out, if_pos h0]⟩) (fun h0 => by rw [← HRES.out, if_neg h0]; exact ⟨rfl, rfl⟩) g1
  have HST := Lib.hid hst
  obtain ⟨⟨x0, x1, x2, x3, x4⟩, f0, f1, f2, f3, f4⟩ := (hps.call hb1).all
  clear hps hst hok hb1 hb0
  go_wp2
  obtain ⟨W, hW⟩ : ∃ W, (((((w1.setCell ⟨w.heap.size, 0, none⟩ (.slice A l.length c)).setCell ⟨w.heap.size, 1, none⟩ (.int .i64 (r.1.pos : Nat))).setCell ⟨w.heap.size, 2, none⟩ (.slice A4 m4 c4)).setCell ⟨w.heap.size, 3, none⟩ (.int .i64 d4)).setCell ⟨w.heap.size, 4, none⟩ (.int .i64 (r.2 : Nat))) = W := ⟨_, rfl⟩
  rw [hW] at HST ⊢
  clear hW x0 x1 x2 x3 x4 f0 f1 f2 f3 f4
  go_loopw [18] (fun _ wr => ∃ (r : Rl.Res) (A3 : Option Addr) (m3 c3 : Nat) (d3 : Int), Hid (RefRow w S A l c d more Rl.wAnd res r A3 m3 c3 d3 wr)) (fun _ wr => rleft w.heap.size l.length wr)
  case atStart => exact ⟨r, A4, m4, c4, d4, HST⟩
  case round =>
    obtain ⟨r, A3, m3, c3, d3, HI⟩ := hrel
    obtain ⟨⟨x0, x1, x2, x3, x4⟩, f0, f1, f2, f3, f4⟩ := HI.out.ps.all
    have htw : Row wr wr.heap.size A (tcells l) := (HT.out.below HI.out.ps.z.below).more HI.out.ps.z.below.size
    by_cases hr0 : r.2 = 0
    · obtain ⟨k1, k2, k3, k4, k5, k6, n, k7, k8⟩ := HI.out.ok hr0
      have hh := here_ok (c := c) (d := d3) (A2 := A3) (m := m3) (c2 := c3) Rl.wAnd wr htw HI.out.lt
      cases hn : Rl.isN l r.1.pos Rl.wAnd
      · rw [hn] at hh
        have hres : res = (r.1, 0) := by rw [k8]; cases n with
          | zero => rfl
          | succ n => rw [Rl.loop, if_neg (by rw [hn]; decide)]
        have hh2 : Calls Tryz.prog 97 #[.agg #[.slice A l.length c, .int .i64 (r.1.pos : Nat), .slice A3 m3 c3, .int .i64 d3, .int .i64 (r.2 : Nat)], .string Rl.wAnd] wr (Tells wr false) := by rw [hr0]; exact hh
        have HH := Lib.hid hh2
        have HRS := Lib.hid hres
        have HR0 := Lib.hid hr0
        have HK := Lib.hid (And.intro k1 (And.intro k2 (And.intro k3 (And.intro k4 k5))))
        clear hh hh2 htw hr0 hres k1 k2 k3 k4 k5 k6 k7 k8 hn
        go_wp2_with (fail)
        refine HH.out.mono ?_
        rintro e w2 ⟨rfl, hb2⟩
        have HB2 := Lib.hid hb2
        have hs2 := HI.out.ps.call hb2
        clear x0 x1 x2 x3 x4 f0 f1 f2 f3 f4
        obtain ⟨⟨x0, x1, x2, x3, x4⟩, f0, f1, f2, f3, f4⟩ := hs2.all
        obtain ⟨z0, z1, z2, z3, z4, y0, y1, y2, y3, y4⟩ := hs2.z.facts
        have HS2 := Lib.hid hs2
        clear hs2 hb2
        go_wp2
        obtain ⟨q0, q1, q2, q3, q4, rB⟩ := HS2.out.z.set_ (.slice A l.length c) (.slice A3 m3 c3) (r.1.pos : Nat) d3 (r.2 : Nat)
        have RB := Lib.hid rB
        clear rB
        refine bodyPost_ret (v := .agg #[.slice A l.length c, .int .i64 (r.1.pos : Nat), .slice A3 m3 c3, .int .i64 d3, .int .i64 (r.2 : Nat)]) (by simp [results, Tryz.results71, go_sem, q0, q1, q2, q3, q4]) rfl ?_
        obtain ⟨k1, k2, k3, k4, k5⟩ := HK.out
        unfold RTold
        have RBB := RB.out
        rw [HR0.out] at RBB
        rw [HRS.out, HR0.out]
        refine ⟨_, _, _, _, rfl, fun _ => ⟨by rw [k1, k2], k3, ?_⟩, RBB⟩
        refine ⟨k4.row.kept_at (by have := HB2.out.size; have := size_set5 w2 (w.heap.size + 1) (.slice A l.length c) (.slice A3 m3 c3) (r.1.pos : Nat) d3 ((0 : Nat) : Int); omega) (fun ad e => ?_), k4.cap, k4.nil, k4.side⟩
        exact (heap_set5 _ _ _ _ _ _ _ _ (k5 ad e).2).trans (HB2.out.block _ (k4.inside ad e))
      · rw [hn] at hh
        have hlt1 := Rl.isN_lt HE.out hn
        obtain ⟨n, rfl⟩ : ∃ n', n = n' + 1 := ⟨n - 1, by have := HI.out.lt; omega⟩
        rw [Rl.loop, if_pos hn] at k8
        obtain ⟨g1, g2, g3⟩ := HG.out (Rl.adv r.1) hlt1 k2 k6
        obtain ⟨m, hm⟩ : ∃ m, more (Rl.adv r.1) = m := ⟨_, rfl⟩
        rw [hm] at g1 g2 g3 k8
        have hh2 : Calls Tryz.prog 97 #[.agg #[.slice A l.length c, .int .i64 (r.1.pos : Nat), .slice A3 m3 c3, .int .i64 d3, .int .i64 (r.2 : Nat)], .string Rl.wAnd] wr (Tells wr true) := by rw [hr0]; exact hh
        have hnx : ∀ W, Calls Tryz.prog 98 #[.agg #[.slice A l.length c, .int .i64 (r.1.pos : Nat), .slice A3 m3 c3, .int .i64 d3, .int .i64 (r.2 : Nat)]] W (Gave W A l.length c (r.1.pos + 1) A3 m3 c3 d3 r.2) := fun W => next_ok (A2 := A3) (m := m3) (c2 := c3) (d := d3) l.length r.2 W hlt1 hl
        have hon : ∀ W, Below wr.heap.size wr W → Calls Tryz.prog 96 #[.agg #[.slice A l.length c, .int .i64 ((r.1.pos : Nat) + 1), .slice A3 m3 c3, .int .i64 d3, .int .i64 (r.2 : Nat)], .int .i64 1] W (RTold W (fun k => (S k ∨ w.heap.size + 2 ≤ k) ∧ k < W.heap.size) A l.length c m) := fun W hb => by
          have hsz := hb.size
          have hin : RIn W (fun k => (S k ∨ w.heap.size + 2 ≤ k) ∧ k < W.heap.size) A3 c3 r.1.out := by
            refine ⟨(k4.row.below hb).more hsz, k4.cap, k4.nil, fun ad e => ⟨?_, by have := k4.inside ad e; omega⟩, fun k hk => hk.2⟩
            rcases k4.side ad e with h5 | h5
            · exact .inl h5
            · have := k5 ad e; exact .inr (by omega)
          have h9 := H1.out (Rl.adv r.1) _ A3 c3 W (HI.out.ps.z.below.trans (hb.mono HI.out.ps.z.below.size)) hlt1 k2 k6 hin
          rw [hm] at h9
          rw [hr0, k1, ← k2, k3]
          exact h9
        have HH := Lib.hid hh2
        have HNX := Lib.hid hnx
        have HON := Lib.hid hon
        have HM := Lib.hid (And.intro g1 (And.intro g2 g3))
        have HK8 := Lib.hid k8
        have HK7 := Lib.hid k7
        have HR0 := Lib.hid hr0
        clear hh hh2 hnx hon htw hr0 k1 k2 k3 k4 k5 k6 k7 k8 hn hm g1 g2 g3
        go_wp2_with (fail)
        refine HH.out.mono ?_
        rintro e w2 ⟨rfl, hb2⟩
        have hs2 := HI.out.ps.call hb2
        clear x0 x1 x2 x3 x4 f0 f1 f2 f3 f4
        obtain ⟨⟨x0, x1, x2, x3, x4⟩, f0, f1, f2, f3, f4⟩ := hs2.all
        have HS2 := Lib.hid hs2
        have HB2 := Lib.hid hb2
        clear hs2 hb2
        go_wp2_with (fail)
        refine (HNX.out w2).mono ?_
        rintro e w3 ⟨rfl, hb3⟩
        have hb23 := HB2.out.trans (hb3.mono HB2.out.size)
        have hs3 := HS2.out.call hb3
        clear x0 x1 x2 x3 x4 f0 f1 f2 f3 f4
        obtain ⟨⟨x0, x1, x2, x3, x4⟩, f0, f1, f2, f3, f4⟩ := hs3.all
        have HS3 := Lib.hid hs3
        have HON3 := Lib.hid (HON.out w3 hb23)
        clear hs3 hb3 hb23 HON
        go_wp2_with (fail)
        refine HON3.out.mono ?_
        rintro e w4 ⟨A4, m4, c4, d4, rfl, hok4, hb4⟩
        have HOK4 := Lib.hid hok4
        have HB4 := Lib.hid hb4
        have hs4 := HS3.out.call hb4
        clear x0 x1 x2 x3 x4 f0 f1 f2 f3 f4
        obtain ⟨⟨x0, x1, x2, x3, x4⟩, f0, f1, f2, f3, f4⟩ := hs4.all
        have HS4 := Lib.hid hs4
        clear hs4 hok4 hb4
        go_upto_region 6 with (fail)
        have hs5 := HS4.out.setAll (.slice A l.length c) (.slice A4 m4 c4) (m.1.pos : Nat) d4 (m.2 : Nat)
        obtain ⟨W5, hW⟩ : ∃ W5, (((((w4.setCell ⟨w.heap.size, 0, none⟩ (.slice A l.length c)).setCell ⟨w.heap.size, 1, none⟩ (.int .i64 (m.1.pos : Nat))).setCell ⟨w.heap.size, 2, none⟩ (.slice A4 m4 c4)).setCell ⟨w.heap.size, 3, none⟩ (.int .i64 d4)).setCell ⟨w.heap.size, 4, none⟩ (.int .i64 (m.2 : Nat))) = W5 := ⟨_, rfl⟩
        have hk5 : (∀ k, k ≠ w.heap.size → W5.heap[k]? = w4.heap[k]?) ∧ W5.heap.size = w4.heap.size := by rw [← hW]; exact ⟨fun k hk => heap_set5 _ _ _ _ _ _ _ _ hk, size_set5 _ _ _ _ _ _ _⟩
        have HK5 := Lib.hid hk5
        rw [hW] at hs5 ⊢
        clear hW hk5
        clear x0 x1 x2 x3 x4 f0 f1 f2 f3 f4
        obtain ⟨⟨x0, x1, x2, x3, x4⟩, f0, f1, f2, f3, f4⟩ := hs5.all
        have HS5 := Lib.hid hs5
        clear hs5
        obtain ⟨g1, g2, g3⟩ := HM.out
        by_cases hm0 : m.2 = 0
        · obtain ⟨j1, j2, j3⟩ := HOK4.out hm0
          obtain ⟨g4, g5, -⟩ := g3 hm0
          have hz3 := HS3.out.z.blk.lt
          have hz4 := HB4.out.size
          have hz5 := HK5.out.2
          have hside : ∀ ad, A4 = some ad → S ad.block ∨ w.heap.size + 2 ≤ ad.block := fun ad e => by
            rcases j3.side ad e with h5 | h5
            · exact h5.1
            · exact .inr (by omega)
          have hin : RIn W5 (fun k => (S k ∨ w.heap.size + 2 ≤ k) ∧ k < W5.heap.size) A4 c4 m.1.out := by
            refine ⟨j3.row.kept_at (by omega) (fun ad e => HK5.out.1 _ ?_), j3.cap, j3.nil, fun ad e => ⟨hside ad e, by have := j3.inside ad e; omega⟩, fun k hk => hk.2⟩
            rcases hside ad e with h5 | h5
            · have := H.out.lt _ h5; omega
            · omega
          have hp0 := rput_any (A := A) (c := c) l.length m.1 3 W5 hin g2
          obtain ⟨q, hq⟩ : ∃ q, Rl.put 3 m.1 = q := ⟨_, rfl⟩
          obtain ⟨t1, t2, t3, t4⟩ := Rl.put_good 3 m.1 g2
          rw [hq] at hp0 t1 t2 t3 t4
          have hp : Calls Tryz.prog 99 #[.agg #[.slice A l.length c, .int .i64 (m.1.pos : Nat), .slice A4 m4 c4, .int .i64 d4, .int .i64 (m.2 : Nat)], .int .i64 3] W5 (RTold W5 (fun k => (S k ∨ w.heap.size + 2 ≤ k) ∧ k < W5.heap.size) A l.length c q) := by
            rw [hm0, j1, j2]
            exact hp0
          have hres : res = if q.2 = 0 then Rl.loop l more Rl.wAnd n q.1 else q := by
            have := HK8.out
            rw [if_pos hm0, Rl.op_and, hq] at this
            exact this
          have HP := Lib.hid hp
          have HRS := Lib.hid hres
          have HT1 := Lib.hid (And.intro t1 (And.intro t2 (And.intro t3 (And.intro g4 g5))))
          clear hp hp0 hq hres hin hside j1 j2 j3 g3 g4 g5 hm0 hz3 hz4 hz5 t1 t2 t3 t4
          go_wp2_with (fail)
          refine HP.out.mono ?_
          rintro e w6 ⟨A6, m6, c6, d6, rfl, hok6, hb6⟩
          obtain ⟨t1, t2, t3, g4, g5⟩ := HT1.out
          have g5' : r.1.pos + 1 < m.1.pos := g5
          have hst := RefRow.store (S := S) (A := A) (l := l) (c := c) (o := d) (more := more) (wd := Rl.wAnd) (res := res) (r1 := q) HS5.out hb6 (fun k hk => hk.1) hok6 H.out.lt
            (fun h0 => ⟨by rw [t2, g4], t3, n, by have := HK7.out; omega, by rw [HRS.out, if_pos h0]⟩) (fun h0 => by rw [HRS.out, if_neg h0]; exact ⟨rfl, rfl⟩) (by rw [t1]; exact g1)
          have HST := Lib.hid hst
          have hs6 := HS5.out.call hb6
          clear x0 x1 x2 x3 x4 f0 f1 f2 f3 f4
          obtain ⟨⟨x0, x1, x2, x3, x4⟩, f0, f1, f2, f3, f4⟩ := hs6.all
          have HLT := Lib.hid (show q.2 = 0 → r.1.pos < q.1.pos from fun _ => by rw [t1]; omega)
          clear hst hs6 hok6 hb6 t1 t2 t3 g4 g5 g5'
          go_wp2
          go_roundw
          case rel => exact ⟨q, A6, m6, c6, d6, HST⟩
          case measure =>
            rw [rleft_eq HST.out.ps, rleft_eq HI.out.ps, if_pos HR0.out]
            have := HI.out.lt
            have := HST.out.lt
            by_cases h0 : q.2 = 0
            · have := HLT.out h0
              rw [if_pos h0]
              omega
            · rw [if_neg h0]
              omega
        · have hp := fun W => put_err (A := A) (c := c) (p := m.1.pos) (A2 := A4) (m := m4) (c2 := c4) (d := d4) l.length m.2 3 hm0 W
          have HP := Lib.hid hp
          have HRS : Hid (res = m) := by unfold Hid; have := HK8.out; rw [if_neg hm0] at this; exact this
          have HM0 := Lib.hid hm0
          clear hp hm0 g3
          go_wp2_with (fail)
          refine (HP.out W5).mono ?_
          rintro e w6 ⟨rfl, hb6⟩
          have hst := RefRow.store (S := S) (S1 := S) (A := A) (A4 := A4) (l := l) (c := c) (o := d) (m4 := m4) (c4 := c4) (d4 := d4) (more := more) (wd := Rl.wAnd) (res := res) (r1 := m) HS5.out hb6 (fun k hk => .inl hk) (fun h0 => absurd h0 HM0.out) H.out.lt
            (fun h0 => absurd h0 HM0.out) (fun h0 => by rw [HRS.out]; exact ⟨rfl, rfl⟩) g1
          have HST := Lib.hid hst
          have hs6 := HS5.out.call hb6
          clear x0 x1 x2 x3 x4 f0 f1 f2 f3 f4
          obtain ⟨⟨x0, x1, x2, x3, x4⟩, f0, f1, f2, f3, f4⟩ := hs6.all
          clear hst hs6 hb6
          go_wp2
          go_roundw
          case rel => exact ⟨m, A4, m4, c4, d4, HST⟩
          case measure =>
            rw [rleft_eq HST.out.ps, rleft_eq HI.out.ps, if_pos HR0.out, if_neg HM0.out]
            omega
    · have hh := here_err (c := c) (d := d3) (A2 := A3) (m := m3) (c2 := c3) Rl.wAnd r.2 hr0 wr htw HI.out.lt
      have HH := Lib.hid hh
      have HBAD := Lib.hid (HI.out.bad hr0)
      have HR0 := Lib.hid hr0
      clear hh htw hr0
      go_wp2_with (fail)
      refine HH.out.mono ?_
      rintro e w2 ⟨rfl, hb2⟩
      have hs2 := HI.out.ps.call hb2
      clear x0 x1 x2 x3 x4 f0 f1 f2 f3 f4
      obtain ⟨⟨x0, x1, x2, x3, x4⟩, f0, f1, f2, f3, f4⟩ := hs2.all
      obtain ⟨z0, z1, z2, z3, z4, y0, y1, y2, y3, y4⟩ := hs2.z.facts
      have HS2 := Lib.hid hs2
      clear hs2 hb2
      go_wp2
      obtain ⟨q0, q1, q2, q3, q4, rB⟩ := HS2.out.z.set_ (.slice A l.length c) (.slice A3 m3 c3) (r.1.pos : Nat) d3 (r.2 : Nat)
      have RB := Lib.hid rB
      clear rB
      refine bodyPost_ret (v := .agg #[.slice A l.length c, .int .i64 (r.1.pos : Nat), .slice A3 m3 c3, .int .i64 d3, .int .i64 (r.2 : Nat)]) (by simp [results, Tryz.results71, go_sem, q0, q1, q2, q3, q4]) rfl ?_
      unfold RTold
      rw [HBAD.out.1, HBAD.out.2]
      exact ⟨_, _, _, _, rfl, (fun h0 => absurd h0 HR0.out), RB.out⟩
set_option maxHeartbeats 8000000 in
theorem rrow_join (sort : Bool) (s : Rl.St) (w : World) (ht : Row w w.heap.size A (tcells l)) (he : Rl.Ends l) (hl : l.length ≤ 1000000) (hp : s.pos < l.length) (hd : s.deep = o) (ho : s.out.length ≤ 40) (h : RIn w S A2 c2 s.out)
    (hg : Rl.Good l o sort more) (hw : ∀ q, Rl.step q (Rl.opOf Rl.wJoin) = Rl.two q sort sort) (h1 : OneOk w A l c 2 more o) :
    Calls Tryz.prog 71 #[.agg #[.slice A l.length c, .int .i64 s.pos, .slice A2 s.out.length c2, .int .i64 s.deep, .int .i64 0], .int .i64 2] w (RTold w S A l.length c (if (more s).2 = 0 then Rl.loop l more Rl.wJoin l.length (more s).1 else more s)) := by
  have _ := hw
  obtain ⟨res, hres⟩ : ∃ res, (if (more s).2 = 0 then Rl.loop l more Rl.wJoin l.length (more s).1 else more s) = res := ⟨_, rfl⟩
  rw [hres]
  obtain ⟨g1, g2, g3⟩ := hg s hp hd ho
  have H := Lib.hid h
  have HT := Lib.hid ht
  have HE := Lib.hid he
  have HG := Lib.hid hg
  have H1 := Lib.hid h1
  obtain ⟨r, hr⟩ : ∃ r, more s = r := ⟨_, rfl⟩
  rw [hr] at hres g1 g2 g3
  have HR := Lib.hid hr
  have HRES := Lib.hid hres
  have HG3 := Lib.hid g3
  obtain ⟨p, d, out⟩ := s
  dsimp only at h hp hd ho ⊢
  subst hd
  have hone : ∀ W, Below w.heap.size w W → Calls Tryz.prog 96 #[.agg #[.slice A l.length c, .int .i64 p, .slice A2 out.length c2, .int .i64 d, .int .i64 0], .int .i64 2] W (RTold W S A l.length c r) := fun W hb => by
    have := h1 ⟨p, d, out⟩ S A2 c2 W hb hp rfl ho (h.below hb)
    rw [hr] at this
    exact this
  have HONE := Lib.hid hone
  clear hone h ht he hg hw h1 hr hres g3
  go_enter Tryz.func71, Tryz.ntmps71
  go_wp2_with (fail)
  have hb0 : Below w.heap.size w ((((w.alloc (.cells #[.slice A l.length c, .int .i64 p, .slice A2 out.length c2, .int .i64 d, .int .i64 0] 107)).alloc (.cells #[.slice none 0 0, .int .i64 0, .slice none 0 0, .int .i64 0, .int .i64 0] 107)).alloc (.cells #[.string { data := #[111, 114] }, .string { data := #[97, 110, 100] }, .string { data := #[106, 111, 105, 110] }, .string { data := #[109, 101, 101, 116] }] 9)).alloc (.cells #[.int .i64 4, .int .i64 3, .int .i64 12, .int .i64 13] 3)) := ((((Below.refl _ w).alloc (Nat.le_refl _) _).alloc (by simp) _).alloc (by simp; omega) _).alloc (by simp; omega) _
  refine (HONE.out _ hb0).mono ?_
  rintro e w1 ⟨A4, m4, c4, d4, rfl, hok, hb1⟩
  have hps := PS.start w (.slice A l.length c) (.slice A2 out.length c2) p d 0 ((((Below.refl _ _).alloc (Nat.le_refl _) (.cells #[.string { data := #[111, 114] }, .string { data := #[97, 110, 100] }, .string { data := #[106, 111, 105, 110] }, .string { data := #[109, 101, 101, 116] }] 9)).alloc (by simp) (.cells #[.int .i64 4, .int .i64 3, .int .i64 12, .int .i64 13] 3)))
  have hst := RefRow.store (S := S) (S1 := S) (A := A) (l := l) (c := c) (o := d) (more := more) (wd := Rl.wJoin) (res := res) (r1 := r) hps hb1 (fun k hk => .inl hk) hok H.out.lt
    (fun h0 => ⟨(HG3.out h0).1, g2, l.length, by omega, by rw [← HRES.out, if_pos h0]⟩) (fun h0 => by rw [← HRES.out, if_neg h0]; exact ⟨rfl, rfl⟩) g1
  have HST := Lib.hid hst
  obtain ⟨⟨x0, x1, x2, x3, x4⟩, f0, f1, f2, f3, f4⟩ := (hps.call hb1).all
  clear hps hst hok hb1 hb0
  go_wp2
  obtain ⟨W, hW⟩ : ∃ W, (((((w1.setCell ⟨w.heap.size, 0, none⟩ (.slice A l.length c)).setCell ⟨w.heap.size, 1, none⟩ (.int .i64 (r.1.pos : Nat))).setCell ⟨w.heap.size, 2, none⟩ (.slice A4 m4 c4)).setCell ⟨w.heap.size, 3, none⟩ (.int .i64 d4)).setCell ⟨w.heap.size, 4, none⟩ (.int .i64 (r.2 : Nat))) = W := ⟨_, rfl⟩
  rw [hW] at HST ⊢
  clear hW x0 x1 x2 x3 x4 f0 f1 f2 f3 f4
  go_loopw [18] (fun _ wr => ∃ (r : Rl.Res) (A3 : Option Addr) (m3 c3 : Nat) (d3 : Int), Hid (RefRow w S A l c d more Rl.wJoin res r A3 m3 c3 d3 wr)) (fun _ wr => rleft w.heap.size l.length wr)
  case atStart => exact ⟨r, A4, m4, c4, d4, HST⟩
  case round =>
    obtain ⟨r, A3, m3, c3, d3, HI⟩ := hrel
    obtain ⟨⟨x0, x1, x2, x3, x4⟩, f0, f1, f2, f3, f4⟩ := HI.out.ps.all
    have htw : Row wr wr.heap.size A (tcells l) := (HT.out.below HI.out.ps.z.below).more HI.out.ps.z.below.size
    by_cases hr0 : r.2 = 0
    · obtain ⟨k1, k2, k3, k4, k5, k6, n, k7, k8⟩ := HI.out.ok hr0
      have hh := here_ok (c := c) (d := d3) (A2 := A3) (m := m3) (c2 := c3) Rl.wJoin wr htw HI.out.lt
      cases hn : Rl.isN l r.1.pos Rl.wJoin
      · rw [hn] at hh
        have hres : res = (r.1, 0) := by rw [k8]; cases n with
          | zero => rfl
          | succ n => rw [Rl.loop, if_neg (by rw [hn]; decide)]
        have hh2 : Calls Tryz.prog 97 #[.agg #[.slice A l.length c, .int .i64 (r.1.pos : Nat), .slice A3 m3 c3, .int .i64 d3, .int .i64 (r.2 : Nat)], .string Rl.wJoin] wr (Tells wr false) := by rw [hr0]; exact hh
        have HH := Lib.hid hh2
        have HRS := Lib.hid hres
        have HR0 := Lib.hid hr0
        have HK := Lib.hid (And.intro k1 (And.intro k2 (And.intro k3 (And.intro k4 k5))))
        clear hh hh2 htw hr0 hres k1 k2 k3 k4 k5 k6 k7 k8 hn
        go_wp2_with (fail)
        refine HH.out.mono ?_
        rintro e w2 ⟨rfl, hb2⟩
        have HB2 := Lib.hid hb2
        have hs2 := HI.out.ps.call hb2
        clear x0 x1 x2 x3 x4 f0 f1 f2 f3 f4
        obtain ⟨⟨x0, x1, x2, x3, x4⟩, f0, f1, f2, f3, f4⟩ := hs2.all
        obtain ⟨z0, z1, z2, z3, z4, y0, y1, y2, y3, y4⟩ := hs2.z.facts
        have HS2 := Lib.hid hs2
        clear hs2 hb2
        go_wp2
        obtain ⟨q0, q1, q2, q3, q4, rB⟩ := HS2.out.z.set_ (.slice A l.length c) (.slice A3 m3 c3) (r.1.pos : Nat) d3 (r.2 : Nat)
        have RB := Lib.hid rB
        clear rB
        refine bodyPost_ret (v := .agg #[.slice A l.length c, .int .i64 (r.1.pos : Nat), .slice A3 m3 c3, .int .i64 d3, .int .i64 (r.2 : Nat)]) (by simp [results, Tryz.results71, go_sem, q0, q1, q2, q3, q4]) rfl ?_
        obtain ⟨k1, k2, k3, k4, k5⟩ := HK.out
        unfold RTold
        have RBB := RB.out
        rw [HR0.out] at RBB
        rw [HRS.out, HR0.out]
        refine ⟨_, _, _, _, rfl, fun _ => ⟨by rw [k1, k2], k3, ?_⟩, RBB⟩
        refine ⟨k4.row.kept_at (by have := HB2.out.size; have := size_set5 w2 (w.heap.size + 1) (.slice A l.length c) (.slice A3 m3 c3) (r.1.pos : Nat) d3 ((0 : Nat) : Int); omega) (fun ad e => ?_), k4.cap, k4.nil, k4.side⟩
        exact (heap_set5 _ _ _ _ _ _ _ _ (k5 ad e).2).trans (HB2.out.block _ (k4.inside ad e))
      · rw [hn] at hh
        have hlt1 := Rl.isN_lt HE.out hn
        obtain ⟨n, rfl⟩ : ∃ n', n = n' + 1 := ⟨n - 1, by have := HI.out.lt; omega⟩
        rw [Rl.loop, if_pos hn] at k8
        obtain ⟨g1, g2, g3⟩ := HG.out (Rl.adv r.1) hlt1 k2 k6
        obtain ⟨m, hm⟩ : ∃ m, more (Rl.adv r.1) = m := ⟨_, rfl⟩
        rw [hm] at g1 g2 g3 k8
        have hh2 : Calls Tryz.prog 97 #[.agg #[.slice A l.length c, .int .i64 (r.1.pos : Nat), .slice A3 m3 c3, .int .i64 d3, .int .i64 (r.2 : Nat)], .string Rl.wJoin] wr (Tells wr true) := by rw [hr0]; exact hh
        have hnx : ∀ W, Calls Tryz.prog 98 #[.agg #[.slice A l.length c, .int .i64 (r.1.pos : Nat), .slice A3 m3 c3, .int .i64 d3, .int .i64 (r.2 : Nat)]] W (Gave W A l.length c (r.1.pos + 1) A3 m3 c3 d3 r.2) := fun W => next_ok (A2 := A3) (m := m3) (c2 := c3) (d := d3) l.length r.2 W hlt1 hl
        have hon : ∀ W, Below wr.heap.size wr W → Calls Tryz.prog 96 #[.agg #[.slice A l.length c, .int .i64 ((r.1.pos : Nat) + 1), .slice A3 m3 c3, .int .i64 d3, .int .i64 (r.2 : Nat)], .int .i64 2] W (RTold W (fun k => (S k ∨ w.heap.size + 2 ≤ k) ∧ k < W.heap.size) A l.length c m) := fun W hb => by
          have hsz := hb.size
          have hin : RIn W (fun k => (S k ∨ w.heap.size + 2 ≤ k) ∧ k < W.heap.size) A3 c3 r.1.out := by
            refine ⟨(k4.row.below hb).more hsz, k4.cap, k4.nil, fun ad e => ⟨?_, by have := k4.inside ad e; omega⟩, fun k hk => hk.2⟩
            rcases k4.side ad e with h5 | h5
            · exact .inl h5
            · have := k5 ad e; exact .inr (by omega)
          have h9 := H1.out (Rl.adv r.1) _ A3 c3 W (HI.out.ps.z.below.trans (hb.mono HI.out.ps.z.below.size)) hlt1 k2 k6 hin
          rw [hm] at h9
          rw [hr0, k1, ← k2, k3]
          exact h9
        have HH := Lib.hid hh2
        have HNX := Lib.hid hnx
        have HON := Lib.hid hon
        have HM := Lib.hid (And.intro g1 (And.intro g2 g3))
        have HK8 := Lib.hid k8
        have HK7 := Lib.hid k7
        have HR0 := Lib.hid hr0
        clear hh hh2 hnx hon htw hr0 k1 k2 k3 k4 k5 k6 k7 k8 hn hm g1 g2 g3
        go_wp2_with (fail)
        refine HH.out.mono ?_
        rintro e w2 ⟨rfl, hb2⟩
        have hs2 := HI.out.ps.call hb2
        clear x0 x1 x2 x3 x4 f0 f1 f2 f3 f4
        obtain ⟨⟨x0, x1, x2, x3, x4⟩, f0, f1, f2, f3, f4⟩ := hs2.all
        have HS2 := Lib.hid hs2
        have HB2 := Lib.hid hb2
        clear hs2 hb2
        go_wp2_with (fail)
        refine (HNX.out w2).mono ?_
        rintro e w3 ⟨rfl, hb3⟩
        have hb23 := HB2.out.trans (hb3.mono HB2.out.size)
        have hs3 := HS2.out.call hb3
        clear x0 x1 x2 x3 x4 f0 f1 f2 f3 f4
        obtain ⟨⟨x0, x1, x2, x3, x4⟩, f0, f1, f2, f3, f4⟩ := hs3.all
        have HS3 := Lib.hid hs3
        have HON3 := Lib.hid (HON.out w3 hb23)
        clear hs3 hb3 hb23 HON
        go_wp2_with (fail)
        refine HON3.out.mono ?_
        rintro e w4 ⟨A4, m4, c4, d4, rfl, hok4, hb4⟩
        have HOK4 := Lib.hid hok4
        have HB4 := Lib.hid hb4
        have hs4 := HS3.out.call hb4
        clear x0 x1 x2 x3 x4 f0 f1 f2 f3 f4
        obtain ⟨⟨x0, x1, x2, x3, x4⟩, f0, f1, f2, f3, f4⟩ := hs4.all
        have HS4 := Lib.hid hs4
        clear hs4 hok4 hb4
        go_upto_region 6 with (fail)
        have hs5 := HS4.out.setAll (.slice A l.length c) (.slice A4 m4 c4) (m.1.pos : Nat) d4 (m.2 : Nat)
        obtain ⟨W5, hW⟩ : ∃ W5, (((((w4.setCell ⟨w.heap.size, 0, none⟩ (.slice A l.length c)).setCell ⟨w.heap.size, 1, none⟩ (.int .i64 (m.1.pos : Nat))).setCell ⟨w.heap.size, 2, none⟩ (.slice A4 m4 c4)).setCell ⟨w.heap.size, 3, none⟩ (.int .i64 d4)).setCell ⟨w.heap.size, 4, none⟩ (.int .i64 (m.2 : Nat))) = W5 := ⟨_, rfl⟩
        have hk5 : (∀ k, k ≠ w.heap.size → W5.heap[k]? = w4.heap[k]?) ∧ W5.heap.size = w4.heap.size := by rw [← hW]; exact ⟨fun k hk => heap_set5 _ _ _ _ _ _ _ _ hk, size_set5 _ _ _ _ _ _ _⟩
        have HK5 := Lib.hid hk5
        rw [hW] at hs5 ⊢
        clear hW hk5
        clear x0 x1 x2 x3 x4 f0 f1 f2 f3 f4
        obtain ⟨⟨x0, x1, x2, x3, x4⟩, f0, f1, f2, f3, f4⟩ := hs5.all
        have HS5 := Lib.hid hs5
        clear hs5
        obtain ⟨g1, g2, g3⟩ := HM.out
        by_cases hm0 : m.2 = 0
        · obtain ⟨j1, j2, j3⟩ := HOK4.out hm0
          obtain ⟨g4, g5, -⟩ := g3 hm0
          have hz3 := HS3.out.z.blk.lt
          have hz4 := HB4.out.size
          have hz5 := HK5.out.2
          have hside : ∀ ad, A4 = some ad → S ad.block ∨ w.heap.size + 2 ≤ ad.block := fun ad e => by
            rcases j3.side ad e with h5 | h5
            · exact h5.1
            · exact .inr (by omega)
          have hin : RIn W5 (fun k => (S k ∨ w.heap.size + 2 ≤ k) ∧ k < W5.heap.size) A4 c4 m.1.out := by
            refine ⟨j3.row.kept_at (by omega) (fun ad e => HK5.out.1 _ ?_), j3.cap, j3.nil, fun ad e => ⟨hside ad e, by have := j3.inside ad e; omega⟩, fun k hk => hk.2⟩
            rcases hside ad e with h5 | h5
            · have := H.out.lt _ h5; omega
            · omega
          have hp0 := rput_any (A := A) (c := c) l.length m.1 12 W5 hin g2
          obtain ⟨q, hq⟩ : ∃ q, Rl.put 12 m.1 = q := ⟨_, rfl⟩
          obtain ⟨t1, t2, t3, t4⟩ := Rl.put_good 12 m.1 g2
          rw [hq] at hp0 t1 t2 t3 t4
          have hp : Calls Tryz.prog 99 #[.agg #[.slice A l.length c, .int .i64 (m.1.pos : Nat), .slice A4 m4 c4, .int .i64 d4, .int .i64 (m.2 : Nat)], .int .i64 12] W5 (RTold W5 (fun k => (S k ∨ w.heap.size + 2 ≤ k) ∧ k < W5.heap.size) A l.length c q) := by
            rw [hm0, j1, j2]
            exact hp0
          have hres : res = if q.2 = 0 then Rl.loop l more Rl.wJoin n q.1 else q := by
            have := HK8.out
            rw [if_pos hm0, Rl.op_join, hq] at this
            exact this
          have HP := Lib.hid hp
          have HRS := Lib.hid hres
          have HT1 := Lib.hid (And.intro t1 (And.intro t2 (And.intro t3 (And.intro g4 g5))))
          clear hp hp0 hq hres hin hside j1 j2 j3 g3 g4 g5 hm0 hz3 hz4 hz5 t1 t2 t3 t4
          go_wp2_with (fail)
          refine HP.out.mono ?_
          rintro e w6 ⟨A6, m6, c6, d6, rfl, hok6, hb6⟩
          obtain ⟨t1, t2, t3, g4, g5⟩ := HT1.out
          have g5' : r.1.pos + 1 < m.1.pos := g5
          have hst := RefRow.store (S := S) (A := A) (l := l) (c := c) (o := d) (more := more) (wd := Rl.wJoin) (res := res) (r1 := q) HS5.out hb6 (fun k hk => hk.1) hok6 H.out.lt
            (fun h0 => ⟨by rw [t2, g4], t3, n, by have := HK7.out; omega, by rw [HRS.out, if_pos h0]⟩) (fun h0 => by rw [HRS.out, if_neg h0]; exact ⟨rfl, rfl⟩) (by rw [t1]; exact g1)
          have HST := Lib.hid hst
          have hs6 := HS5.out.call hb6
          clear x0 x1 x2 x3 x4 f0 f1 f2 f3 f4
          obtain ⟨⟨x0, x1, x2, x3, x4⟩, f0, f1, f2, f3, f4⟩ := hs6.all
          have HLT := Lib.hid (show q.2 = 0 → r.1.pos < q.1.pos from fun _ => by rw [t1]; omega)
          clear hst hs6 hok6 hb6 t1 t2 t3 g4 g5 g5'
          go_wp2
          go_roundw
          case rel => exact ⟨q, A6, m6, c6, d6, HST⟩
          case measure =>
            rw [rleft_eq HST.out.ps, rleft_eq HI.out.ps, if_pos HR0.out]
            have := HI.out.lt
            have := HST.out.lt
            by_cases h0 : q.2 = 0
            · have := HLT.out h0
              rw [if_pos h0]
              omega
            · rw [if_neg h0]
              omega
        · have hp := fun W => put_err (A := A) (c := c) (p := m.1.pos) (A2 := A4) (m := m4) (c2 := c4) (d := d4) l.length m.2 12 hm0 W
          have HP := Lib.hid hp
          have HRS : Hid (res = m) := by unfold Hid; have := HK8.out; rw [if_neg hm0] at this; exact this
          have HM0 := Lib.hid hm0
          clear hp hm0 g3
          go_wp2_with (fail)
          refine (HP.out W5).mono ?_
          rintro e w6 ⟨rfl, hb6⟩
          have hst := RefRow.store (S := S) (S1 := S) (A := A) (A4 := A4) (l := l) (c := c) (o := d) (m4 := m4) (c4 := c4) (d4 := d4) (more := more) (wd := Rl.wJoin) (res := res) (r1 := m) HS5.out hb6 (fun k hk => .inl hk) (fun h0 => absurd h0 HM0.out) H.out.lt
            (fun h0 => absurd h0 HM0.out) (fun h0 => by rw [HRS.out]; exact ⟨rfl, rfl⟩) g1
          have HST := Lib.hid hst
          have hs6 := HS5.out.call hb6
          clear x0 x1 x2 x3 x4 f0 f1 f2 f3 f4
          obtain ⟨⟨x0, x1, x2, x3, x4⟩, f0, f1, f2, f3, f4⟩ := hs6.all
          clear hst hs6 hb6
          go_wp2
          go_roundw
          case rel => exact ⟨m, A4, m4, c4, d4, HST⟩
          case measure =>
            rw [rleft_eq HST.out.ps, rleft_eq HI.out.ps, if_pos HR0.out, if_neg HM0.out]
            omega
    · have hh := here_err (c := c) (d := d3) (A2 := A3) (m := m3) (c2 := c3) Rl.wJoin r.2 hr0 wr htw HI.out.lt
      have HH := Lib.hid hh
      have HBAD := Lib.hid (HI.out.bad hr0)
      have HR0 := Lib.hid hr0
      clear hh htw hr0
      go_wp2_with (fail)
      refine HH.out.mono ?_
      rintro e w2 ⟨rfl, hb2⟩
      have hs2 := HI.out.ps.call hb2
      clear x0 x1 x2 x3 x4 f0 f1 f2 f3 f4
      obtain ⟨⟨x0, x1, x2, x3, x4⟩, f0, f1, f2, f3, f4⟩ := hs2.all
      obtain ⟨z0, z1, z2, z3, z4, y0, y1, y2, y3, y4⟩ := hs2.z.facts
      have HS2 := Lib.hid hs2
      clear hs2 hb2
      go_wp2
      obtain ⟨q0, q1, q2, q3, q4, rB⟩ := HS2.out.z.set_ (.slice A l.length c) (.slice A3 m3 c3) (r.1.pos : Nat) d3 (r.2 : Nat)
      have RB := Lib.hid rB
      clear rB
      refine bodyPost_ret (v := .agg #[.slice A l.length c, .int .i64 (r.1.pos : Nat), .slice A3 m3 c3, .int .i64 d3, .int .i64 (r.2 : Nat)]) (by simp [results, Tryz.results71, go_sem, q0, q1, q2, q3, q4]) rfl ?_
      unfold RTold
      rw [HBAD.out.1, HBAD.out.2]
      exact ⟨_, _, _, _, rfl, (fun h0 => absurd h0 HR0.out), RB.out⟩
set_option maxHeartbeats 8000000 in
theorem rrow_meet (sort : Bool) (s : Rl.St) (w : World) (ht : Row w w.heap.size A (tcells l)) (he : Rl.Ends l) (hl : l.length ≤ 1000000) (hp : s.pos < l.length) (hd : s.deep = o) (ho : s.out.length ≤ 40) (h : RIn w S A2 c2 s.out)
    (hg : Rl.Good l o sort more) (hw : ∀ q, Rl.step q (Rl.opOf Rl.wMeet) = Rl.two q sort sort) (h1 : OneOk w A l c 3 more o) :
    Calls Tryz.prog 71 #[.agg #[.slice A l.length c, .int .i64 s.pos, .slice A2 s.out.length c2, .int .i64 s.deep, .int .i64 0], .int .i64 3] w (RTold w S A l.length c (if (more s).2 = 0 then Rl.loop l more Rl.wMeet l.length (more s).1 else more s)) := by
  have _ := hw
  obtain ⟨res, hres⟩ : ∃ res, (if (more s).2 = 0 then Rl.loop l more Rl.wMeet l.length (more s).1 else more s) = res := ⟨_, rfl⟩
  rw [hres]
  obtain ⟨g1, g2, g3⟩ := hg s hp hd ho
  have H := Lib.hid h
  have HT := Lib.hid ht
  have HE := Lib.hid he
  have HG := Lib.hid hg
  have H1 := Lib.hid h1
  obtain ⟨r, hr⟩ : ∃ r, more s = r := ⟨_, rfl⟩
  rw [hr] at hres g1 g2 g3
  have HR := Lib.hid hr
  have HRES := Lib.hid hres
  have HG3 := Lib.hid g3
  obtain ⟨p, d, out⟩ := s
  dsimp only at h hp hd ho ⊢
  subst hd
  have hone : ∀ W, Below w.heap.size w W → Calls Tryz.prog 96 #[.agg #[.slice A l.length c, .int .i64 p, .slice A2 out.length c2, .int .i64 d, .int .i64 0], .int .i64 3] W (RTold W S A l.length c r) := fun W hb => by
    have := h1 ⟨p, d, out⟩ S A2 c2 W hb hp rfl ho (h.below hb)
    rw [hr] at this
    exact this
  have HONE := Lib.hid hone
  clear hone h ht he hg hw h1 hr hres g3
  go_enter Tryz.func71, Tryz.ntmps71
  go_wp2_with (fail)
  have hb0 : Below w.heap.size w ((((w.alloc (.cells #[.slice A l.length c, .int .i64 p, .slice A2 out.length c2, .int .i64 d, .int .i64 0] 107)).alloc (.cells #[.slice none 0 0, .int .i64 0, .slice none 0 0, .int .i64 0, .int .i64 0] 107)).alloc (.cells #[.string { data := #[111, 114] }, .string { data := #[97, 110, 100] }, .string { data := #[106, 111, 105, 110] }, .string { data := #[109, 101, 101, 116] }] 9)).alloc (.cells #[.int .i64 4, .int .i64 3, .int .i64 12, .int .i64 13] 3)) := ((((Below.refl _ w).alloc (Nat.le_refl _) _).alloc (by simp) _).alloc (by simp; omega) _).alloc (by simp; omega) _
  refine (HONE.out _ hb0).mono ?_
  rintro e w1 ⟨A4, m4, c4, d4, rfl, hok, hb1⟩
  have hps := PS.start w (.slice A l.length c) (.slice A2 out.length c2) p d 0 ((((Below.refl _ _).alloc (Nat.le_refl _) (.cells #[.string { data := #[111, 114] }, .string { data := #[97, 110, 100] }, .string { data := #[106, 111, 105, 110] }, .string { data := #[109, 101, 101, 116] }] 9)).alloc (by simp) (.cells #[.int .i64 4, .int .i64 3, .int .i64 12, .int .i64 13] 3)))
  have hst := RefRow.store (S := S) (S1 := S) (A := A) (l := l) (c := c) (o := d) (more := more) (wd := Rl.wMeet) (res := res) (r1 := r) hps hb1 (fun k hk => .inl hk) hok H.out.lt
    (fun h0 => ⟨(HG3.out h0).1, g2, l.length, by omega, by rw [← HRES.out, if_pos h0]⟩) (fun h0 => by rw [← HRES.out, if_neg h0]; exact ⟨rfl, rfl⟩) g1
  have HST := Lib.hid hst
  obtain ⟨⟨x0, x1, x2, x3, x4⟩, f0, f1, f2, f3, f4⟩ := (hps.call hb1).all
  clear hps hst hok hb1 hb0
  go_wp2
  obtain ⟨W, hW⟩ : ∃ W, (((((w1.setCell ⟨w.heap.size, 0, none⟩ (.slice A l.length c)).setCell ⟨w.heap.size, 1, none⟩ (.int .i64 (r.1.pos : Nat))).setCell ⟨w.heap.size, 2, none⟩ (.slice A4 m4 c4)).setCell ⟨w.heap.size, 3, none⟩ (.int .i64 d4)).setCell ⟨w.heap.size, 4, none⟩ (.int .i64 (r.2 : Nat))) = W := ⟨_, rfl⟩
  rw [hW] at HST ⊢
  clear hW x0 x1 x2 x3 x4 f0 f1 f2 f3 f4
  go_loopw [18] (fun _ wr => ∃ (r : Rl.Res) (A3 : Option Addr) (m3 c3 : Nat) (d3 : Int), Hid (RefRow w S A l c d more Rl.wMeet res r A3 m3 c3 d3 wr)) (fun _ wr => rleft w.heap.size l.length wr)
  case atStart => exact ⟨r, A4, m4, c4, d4, HST⟩
  case round =>
    obtain ⟨r, A3, m3, c3, d3, HI⟩ := hrel
    obtain ⟨⟨x0, x1, x2, x3, x4⟩, f0, f1, f2, f3, f4⟩ := HI.out.ps.all
    have htw : Row wr wr.heap.size A (tcells l) := (HT.out.below HI.out.ps.z.below).more HI.out.ps.z.below.size
    by_cases hr0 : r.2 = 0
    · obtain ⟨k1, k2, k3, k4, k5, k6, n, k7, k8⟩ := HI.out.ok hr0
      have hh := here_ok (c := c) (d := d3) (A2 := A3) (m := m3) (c2 := c3) Rl.wMeet wr htw HI.out.lt
      cases hn : Rl.isN l r.1.pos Rl.wMeet
      · rw [hn] at hh
        have hres : res = (r.1, 0) := by rw [k8]; cases n with
          | zero => rfl
          | succ n => rw [Rl.loop, if_neg (by rw [hn]; decide)]
        have hh2 : Calls Tryz.prog 97 #[.agg #[.slice A l.length c, .int .i64 (r.1.pos : Nat), .slice A3 m3 c3, .int .i64 d3, .int .i64 (r.2 : Nat)], .string Rl.wMeet] wr (Tells wr false) := by rw [hr0]; exact hh
        have HH := Lib.hid hh2
        have HRS := Lib.hid hres
        have HR0 := Lib.hid hr0
        have HK := Lib.hid (And.intro k1 (And.intro k2 (And.intro k3 (And.intro k4 k5))))
        clear hh hh2 htw hr0 hres k1 k2 k3 k4 k5 k6 k7 k8 hn
        go_wp2_with (fail)
        refine HH.out.mono ?_
        rintro e w2 ⟨rfl, hb2⟩
        have HB2 := Lib.hid hb2
        have hs2 := HI.out.ps.call hb2
        clear x0 x1 x2 x3 x4 f0 f1 f2 f3 f4
        obtain ⟨⟨x0, x1, x2, x3, x4⟩, f0, f1, f2, f3, f4⟩ := hs2.all
        obtain ⟨z0, z1, z2, z3, z4, y0, y1, y2, y3, y4⟩ := hs2.z.facts
        have HS2 := Lib.hid hs2
        clear hs2 hb2
        go_wp2
        obtain ⟨q0, q1, q2, q3, q4, rB⟩ := HS2.out.z.set_ (.slice A l.length c) (.slice A3 m3 c3) (r.1.pos : Nat) d3 (r.2 : Nat)
        have RB := Lib.hid rB
        clear rB
        refine bodyPost_ret (v := .agg #[.slice A l.length c, .int .i64 (r.1.pos : Nat), .slice A3 m3 c3, .int .i64 d3, .int .i64 (r.2 : Nat)]) (by simp [results, Tryz.results71, go_sem, q0, q1, q2, q3, q4]) rfl ?_
        obtain ⟨k1, k2, k3, k4, k5⟩ := HK.out
        unfold RTold
        have RBB := RB.out
        rw [HR0.out] at RBB
        rw [HRS.out, HR0.out]
        refine ⟨_, _, _, _, rfl, fun _ => ⟨by rw [k1, k2], k3, ?_⟩, RBB⟩
        refine ⟨k4.row.kept_at (by have := HB2.out.size; have := size_set5 w2 (w.heap.size + 1) (.slice A l.length c) (.slice A3 m3 c3) (r.1.pos : Nat) d3 ((0 : Nat) : Int); omega) (fun ad e => ?_), k4.cap, k4.nil, k4.side⟩
        exact (heap_set5 _ _ _ _ _ _ _ _ (k5 ad e).2).trans (HB2.out.block _ (k4.inside ad e))
      · rw [hn] at hh
        have hlt1 := Rl.isN_lt HE.out hn
        obtain ⟨n, rfl⟩ : ∃ n', n = n' + 1 := ⟨n - 1, by have := HI.out.lt; omega⟩
        rw [Rl.loop, if_pos hn] at k8
        obtain ⟨g1, g2, g3⟩ := HG.out (Rl.adv r.1) hlt1 k2 k6
        obtain ⟨m, hm⟩ : ∃ m, more (Rl.adv r.1) = m := ⟨_, rfl⟩
        rw [hm] at g1 g2 g3 k8
        have hh2 : Calls Tryz.prog 97 #[.agg #[.slice A l.length c, .int .i64 (r.1.pos : Nat), .slice A3 m3 c3, .int .i64 d3, .int .i64 (r.2 : Nat)], .string Rl.wMeet] wr (Tells wr true) := by rw [hr0]; exact hh
        have hnx : ∀ W, Calls Tryz.prog 98 #[.agg #[.slice A l.length c, .int .i64 (r.1.pos : Nat), .slice A3 m3 c3, .int .i64 d3, .int .i64 (r.2 : Nat)]] W (Gave W A l.length c (r.1.pos + 1) A3 m3 c3 d3 r.2) := fun W => next_ok (A2 := A3) (m := m3) (c2 := c3) (d := d3) l.length r.2 W hlt1 hl
        have hon : ∀ W, Below wr.heap.size wr W → Calls Tryz.prog 96 #[.agg #[.slice A l.length c, .int .i64 ((r.1.pos : Nat) + 1), .slice A3 m3 c3, .int .i64 d3, .int .i64 (r.2 : Nat)], .int .i64 3] W (RTold W (fun k => (S k ∨ w.heap.size + 2 ≤ k) ∧ k < W.heap.size) A l.length c m) := fun W hb => by
          have hsz := hb.size
          have hin : RIn W (fun k => (S k ∨ w.heap.size + 2 ≤ k) ∧ k < W.heap.size) A3 c3 r.1.out := by
            refine ⟨(k4.row.below hb).more hsz, k4.cap, k4.nil, fun ad e => ⟨?_, by have := k4.inside ad e; omega⟩, fun k hk => hk.2⟩
            rcases k4.side ad e with h5 | h5
            · exact .inl h5
            · have := k5 ad e; exact .inr (by omega)
          have h9 := H1.out (Rl.adv r.1) _ A3 c3 W (HI.out.ps.z.below.trans (hb.mono HI.out.ps.z.below.size)) hlt1 k2 k6 hin
          rw [hm] at h9
          rw [hr0, k1, ← k2, k3]
          exact h9
        have HH := Lib.hid hh2
        have HNX := Lib.hid hnx
        have HON := Lib.hid hon
        have HM := Lib.hid (And.intro g1 (And.intro g2 g3))
        have HK8 := Lib.hid k8
        have HK7 := Lib.hid k7
        have HR0 := Lib.hid hr0
        clear hh hh2 hnx hon htw hr0 k1 k2 k3 k4 k5 k6 k7 k8 hn hm g1 g2 g3
        go_wp2_with (fail)
        refine HH.out.mono ?_
        rintro e w2 ⟨rfl, hb2⟩
        have hs2 := HI.out.ps.call hb2
        clear x0 x1 x2 x3 x4 f0 f1 f2 f3 f4
        obtain ⟨⟨x0, x1, x2, x3, x4⟩, f0, f1, f2, f3, f4⟩ := hs2.all
        have HS2 := Lib.hid hs2
        have HB2 := Lib.hid hb2
        clear hs2 hb2
        go_wp2_with (fail)
        refine (HNX.out w2).mono ?_
        rintro e w3 ⟨rfl, hb3⟩
        have hb23 := HB2.out.trans (hb3.mono HB2.out.size)
        have hs3 := HS2.out.call hb3
        clear x0 x1 x2 x3 x4 f0 f1 f2 f3 f4
        obtain ⟨⟨x0, x1, x2, x3, x4⟩, f0, f1, f2, f3, f4⟩ := hs3.all
        have HS3 := Lib.hid hs3
        have HON3 := Lib.hid (HON.out w3 hb23)
        clear hs3 hb3 hb23 HON
        go_wp2_with (fail)
        refine HON3.out.mono ?_
        rintro e w4 ⟨A4, m4, c4, d4, rfl, hok4, hb4⟩
        have HOK4 := Lib.hid hok4
        have HB4 := Lib.hid hb4
        have hs4 := HS3.out.call hb4
        clear x0 x1 x2 x3 x4 f0 f1 f2 f3 f4
        obtain ⟨⟨x0, x1, x2, x3, x4⟩, f0, f1, f2, f3, f4⟩ := hs4.all
        have HS4 := Lib.hid hs4
        clear hs4 hok4 hb4
        go_upto_region 6 with (fail)
        have hs5 := HS4.out.setAll (.slice A l.length c) (.slice A4 m4 c4) (m.1.pos : Nat) d4 (m.2 : Nat)
        obtain ⟨W5, hW⟩ : ∃ W5, (((((w4.setCell ⟨w.heap.size, 0, none⟩ (.slice A l.length c)).setCell ⟨w.heap.size, 1, none⟩ (.int .i64 (m.1.pos : Nat))).setCell ⟨w.heap.size, 2, none⟩ (.slice A4 m4 c4)).setCell ⟨w.heap.size, 3, none⟩ (.int .i64 d4)).setCell ⟨w.heap.size, 4, none⟩ (.int .i64 (m.2 : Nat))) = W5 := ⟨_, rfl⟩
        have hk5 : (∀ k, k ≠ w.heap.size → W5.heap[k]? = w4.heap[k]?) ∧ W5.heap.size = w4.heap.size := by rw [← hW]; exact ⟨fun k hk => heap_set5 _ _ _ _ _ _ _ _ hk, size_set5 _ _ _ _ _ _ _⟩
        have HK5 := Lib.hid hk5
        rw [hW] at hs5 ⊢
        clear hW hk5
        clear x0 x1 x2 x3 x4 f0 f1 f2 f3 f4
        obtain ⟨⟨x0, x1, x2, x3, x4⟩, f0, f1, f2, f3, f4⟩ := hs5.all
        have HS5 := Lib.hid hs5
        clear hs5
        obtain ⟨g1, g2, g3⟩ := HM.out
        by_cases hm0 : m.2 = 0
        · obtain ⟨j1, j2, j3⟩ := HOK4.out hm0
          obtain ⟨g4, g5, -⟩ := g3 hm0
          have hz3 := HS3.out.z.blk.lt
          have hz4 := HB4.out.size
          have hz5 := HK5.out.2
          have hside : ∀ ad, A4 = some ad → S ad.block ∨ w.heap.size + 2 ≤ ad.block := fun ad e => by
            rcases j3.side ad e with h5 | h5
            · exact h5.1
            · exact .inr (by omega)
          have hin : RIn W5 (fun k => (S k ∨ w.heap.size + 2 ≤ k) ∧ k < W5.heap.size) A4 c4 m.1.out := by
            refine ⟨j3.row.kept_at (by omega) (fun ad e => HK5.out.1 _ ?_), j3.cap, j3.nil, fun ad e => ⟨hside ad e, by have := j3.inside ad e; omega⟩, fun k hk => hk.2⟩
            rcases hside ad e with h5 | h5
            · have := H.out.lt _ h5; omega
            · omega
          have hp0 := rput_any (A := A) (c := c) l.length m.1 13 W5 hin g2
          obtain ⟨q, hq⟩ : ∃ q, Rl.put 13 m.1 = q := ⟨_, rfl⟩
          obtain ⟨t1, t2, t3, t4⟩ := Rl.put_good 13 m.1 g2
          rw [hq] at hp0 t1 t2 t3 t4
          have hp : Calls Tryz.prog 99 #[.agg #[.slice A l.length c, .int .i64 (m.1.pos : Nat), .slice A4 m4 c4, .int .i64 d4, .int .i64 (m.2 : Nat)], .int .i64 13] W5 (RTold W5 (fun k => (S k ∨ w.heap.size + 2 ≤ k) ∧ k < W5.heap.size) A l.length c q) := by
            rw [hm0, j1, j2]
            exact hp0
          have hres : res = if q.2 = 0 then Rl.loop l more Rl.wMeet n q.1 else q := by
            have := HK8.out
            rw [if_pos hm0, Rl.op_meet, hq] at this
            exact this
          have HP := Lib.hid hp
          have HRS := Lib.hid hres
          have HT1 := Lib.hid (And.intro t1 (And.intro t2 (And.intro t3 (And.intro g4 g5))))
          clear hp hp0 hq hres hin hside j1 j2 j3 g3 g4 g5 hm0 hz3 hz4 hz5 t1 t2 t3 t4
          go_wp2_with (fail)
          refine HP.out.mono ?_
          rintro e w6 ⟨A6, m6, c6, d6, rfl, hok6, hb6⟩
          obtain ⟨t1, t2, t3, g4, g5⟩ := HT1.out
          have g5' : r.1.pos + 1 < m.1.pos := g5
          have hst := RefRow.store (S := S) (A := A) (l := l) (c := c) (o := d) (more := more) (wd := Rl.wMeet) (res := res) (r1 := q) HS5.out hb6 (fun k hk => hk.1) hok6 H.out.lt
            (fun h0 => ⟨by rw [t2, g4], t3, n, by have := HK7.out; omega, by rw [HRS.out, if_pos h0]⟩) (fun h0 => by rw [HRS.out, if_neg h0]; exact ⟨rfl, rfl⟩) (by rw [t1]; exact g1)
          have HST := Lib.hid hst
          have hs6 := HS5.out.call hb6
          clear x0 x1 x2 x3 x4 f0 f1 f2 f3 f4
          obtain ⟨⟨x0, x1, x2, x3, x4⟩, f0, f1, f2, f3, f4⟩ := hs6.all
          have HLT := Lib.hid (show q.2 = 0 → r.1.pos < q.1.pos from fun _ => by rw [t1]; omega)
          clear hst hs6 hok6 hb6 t1 t2 t3 g4 g5 g5'
          go_wp2
          go_roundw
          case rel => exact ⟨q, A6, m6, c6, d6, HST⟩
          case measure =>
            rw [rleft_eq HST.out.ps, rleft_eq HI.out.ps, if_pos HR0.out]
            have := HI.out.lt
            have := HST.out.lt
            by_cases h0 : q.2 = 0
            · have := HLT.out h0
              rw [if_pos h0]
              omega
            · rw [if_neg h0]
              omega
        · have hp := fun W => put_err (A := A) (c := c) (p := m.1.pos) (A2 := A4) (m := m4) (c2 := c4) (d := d4) l.length m.2 13 hm0 W
          have HP := Lib.hid hp
          have HRS : Hid (res = m) := by unfold Hid; have := HK8.out; rw [if_neg hm0] at this; exact this
          have HM0 := Lib.hid hm0
          clear hp hm0 g3
          go_wp2_with (fail)
          refine (HP.out W5).mono ?_
          rintro e w6 ⟨rfl, hb6⟩
          have hst := RefRow.store (S := S) (S1 := S) (A := A) (A4 := A4) (l := l) (c := c) (o := d) (m4 := m4) (c4 := c4) (d4 := d4) (more := more) (wd := Rl.wMeet) (res := res) (r1 := m) HS5.out hb6 (fun k hk => .inl hk) (fun h0 => absurd h0 HM0.out) H.out.lt
            (fun h0 => absurd h0 HM0.out) (fun h0 => by rw [HRS.out]; exact ⟨rfl, rfl⟩) g1
          have HST := Lib.hid hst
          have hs6 := HS5.out.call hb6
          clear x0 x1 x2 x3 x4 f0 f1 f2 f3 f4
          obtain ⟨⟨x0, x1, x2, x3, x4⟩, f0, f1, f2, f3, f4⟩ := hs6.all
          clear hst hs6 hb6
          go_wp2
          go_roundw
          case rel => exact ⟨m, A4, m4, c4, d4, HST⟩
          case measure =>
            rw [rleft_eq HST.out.ps, rleft_eq HI.out.ps, if_pos HR0.out, if_neg HM0.out]
            omega
    · have hh := here_err (c := c) (d := d3) (A2 := A3) (m := m3) (c2 := c3) Rl.wMeet r.2 hr0 wr htw HI.out.lt
      have HH := Lib.hid hh
      have HBAD := Lib.hid (HI.out.bad hr0)
      have HR0 := Lib.hid hr0
      clear hh htw hr0
      go_wp2_with (fail)
      refine HH.out.mono ?_
      rintro e w2 ⟨rfl, hb2⟩
      have hs2 := HI.out.ps.call hb2
      clear x0 x1 x2 x3 x4 f0 f1 f2 f3 f4
      obtain ⟨⟨x0, x1, x2, x3, x4⟩, f0, f1, f2, f3, f4⟩ := hs2.all
      obtain ⟨z0, z1, z2, z3, z4, y0, y1, y2, y3, y4⟩ := hs2.z.facts
      have HS2 := Lib.hid hs2
      clear hs2 hb2
      go_wp2
      obtain ⟨q0, q1, q2, q3, q4, rB⟩ := HS2.out.z.set_ (.slice A l.length c) (.slice A3 m3 c3) (r.1.pos : Nat) d3 (r.2 : Nat)
      have RB := Lib.hid rB
      clear rB
      refine bodyPost_ret (v := .agg #[.slice A l.length c, .int .i64 (r.1.pos : Nat), .slice A3 m3 c3, .int .i64 d3, .int .i64 (r.2 : Nat)]) (by simp [results, Tryz.results71, go_sem, q0, q1, q2, q3, q4]) rfl ?_
      unfold RTold
      rw [HBAD.out.1, HBAD.out.2]
      exact ⟨_, _, _, _, rfl, (fun h0 => absurd h0 HR0.out), RB.out⟩
end
end Go.Proofs.YtggcmkpafpjnoaaGreatDoor

/- The reference's one, of what it calls. -/
namespace Go.Proofs.YtggcmkpafpjnoaaGreatDoor
set_option maxRecDepth 100000
open Go.RowKit Go.Shelf

/-- What is answered, stored into a result's block, and read again. -/
theorem RTold.stored {w w0 w1 w' : World} {S : Nat → Prop} {A : Option Addr} {n c : Nat} {r : Rl.Res} {A2 : Option Addr} {m c2 : Nat} {d : Int} (h0 : w.heap.size + 2 ≤ w0.heap.size) (hok : r.2 = 0 → d = r.1.deep ∧ m = r.1.out.length ∧ ROut w0 S w1 A2 c2 r.1.out) (hS : ∀ k, S k → k < w.heap.size)
    (hw : (∀ k, k ≠ w.heap.size + 1 → w'.heap[k]? = w1.heap[k]?) ∧ w'.heap.size = w1.heap.size) (hb : Below w.heap.size w w') : RTold w S A n c r (.returned (.agg #[.slice A n c, .int .i64 r.1.pos, .slice A2 m c2, .int .i64 d, .int .i64 r.2])) w' := by
  refine ⟨_, _, _, _, rfl, fun h => ?_, hb⟩
  obtain ⟨a1, a2, a3⟩ := hok h
  refine ⟨a1, a2, a3.row.kept_at (Nat.le_of_eq hw.2.symm) (fun ad e => hw.1 _ ?_), a3.cap, a3.nil, fun ad e => ?_⟩
  · rcases a3.side ad e with h1 | h1
    · have := hS _ h1; omega
    · omega
  · rcases a3.side ad e with h1 | h1
    · exact .inl h1
    · exact .inr (by omega)
section
variable {A : Option Addr} {l : List Lx.Tk} {c o : Nat} {part : Rl.St → Rl.Res} {w0 : World}
set_option maxHeartbeats 2000000 in
theorem one_cond (hr : RowOk w0 A l c 1 part o) : OneOk w0 A l c 0 part o := by
  intro s S A2 c2 w hb hp hd ho h
  have hb0 := (((Below.refl _ w).alloc (Nat.le_refl _) (.cells #[.slice A l.length c, .int .i64 s.pos, .slice A2 s.out.length c2, .int .i64 s.deep, .int .i64 0] 107)).alloc (by simp) (.cells #[.slice none 0 0, .int .i64 0, .slice none 0 0, .int .i64 0, .int .i64 0] 107))
  have hc := hr s S A2 c2 _ (hb.trans (hb0.mono hb.size)) hp hd ho (h.below hb0)
  have HC := Lib.hid hc
  have HS := Lib.hid h.lt
  obtain ⟨p, d, out⟩ := s
  dsimp only at HC ⊢
  generalize part ⟨p, d, out⟩ = r at *
  clear hc hb0 h hb hp hd ho hr
  go_enter Tryz.func96, Tryz.ntmps96
  go_wp2_with (fail)
  refine HC.out.mono ?_
  rintro e w1 ⟨A4, m4, c4, d4, rfl, hok, hb1⟩
  have hz := PZ.start w w1 _ hb1
  obtain ⟨z0, z1, z2, z3, z4, y0, y1, y2, y3, y4⟩ := hz.facts
  have HZ := Lib.hid hz
  have HOK := Lib.hid hok
  clear hz hok hb1
  go_wp2
  obtain ⟨q0, q1, q2, q3, q4, rB⟩ := HZ.out.set_ (.slice A l.length c) (.slice A4 m4 c4) (r.1.pos : Nat) d4 (r.2 : Nat)
  have RB := Lib.hid rB
  clear rB
  exact bodyPost_ret (v := .agg #[.slice A l.length c, .int .i64 (r.1.pos : Nat), .slice A4 m4 c4, .int .i64 d4, .int .i64 (r.2 : Nat)]) (by simp [results, Tryz.results96, go_sem, q0, q1, q2, q3, q4]) rfl
    (RTold.stored (by simp) HOK.out HS.out ⟨fun k hk => heap_set5 _ _ _ _ _ _ _ _ hk, size_set5 _ _ _ _ _ _ _⟩ RB.out)
set_option maxHeartbeats 2000000 in
theorem one_label (hr : RowOk w0 A l c 3 part o) : OneOk w0 A l c 2 part o := by
  intro s S A2 c2 w hb hp hd ho h
  have hb0 := (((Below.refl _ w).alloc (Nat.le_refl _) (.cells #[.slice A l.length c, .int .i64 s.pos, .slice A2 s.out.length c2, .int .i64 s.deep, .int .i64 0] 107)).alloc (by simp) (.cells #[.slice none 0 0, .int .i64 0, .slice none 0 0, .int .i64 0, .int .i64 0] 107))
  have hc := hr s S A2 c2 _ (hb.trans (hb0.mono hb.size)) hp hd ho (h.below hb0)
  have HC := Lib.hid hc
  have HS := Lib.hid h.lt
  obtain ⟨p, d, out⟩ := s
  dsimp only at HC ⊢
  generalize part ⟨p, d, out⟩ = r at *
  clear hc hb0 h hb hp hd ho hr
  go_enter Tryz.func96, Tryz.ntmps96
  go_wp2_with (fail)
  refine HC.out.mono ?_
  rintro e w1 ⟨A4, m4, c4, d4, rfl, hok, hb1⟩
  have hz := PZ.start w w1 _ hb1
  obtain ⟨z0, z1, z2, z3, z4, y0, y1, y2, y3, y4⟩ := hz.facts
  have HZ := Lib.hid hz
  have HOK := Lib.hid hok
  clear hz hok hb1
  go_wp2
  obtain ⟨q0, q1, q2, q3, q4, rB⟩ := HZ.out.set_ (.slice A l.length c) (.slice A4 m4 c4) (r.1.pos : Nat) d4 (r.2 : Nat)
  have RB := Lib.hid rB
  clear rB
  exact bodyPost_ret (v := .agg #[.slice A l.length c, .int .i64 (r.1.pos : Nat), .slice A4 m4 c4, .int .i64 d4, .int .i64 (r.2 : Nat)]) (by simp [results, Tryz.results96, go_sem, q0, q1, q2, q3, q4]) rfl
    (RTold.stored (by simp) HOK.out HS.out ⟨fun k hk => heap_set5 _ _ _ _ _ _ _ _ hk, size_set5 _ _ _ _ _ _ _⟩ RB.out)
set_option maxHeartbeats 2000000 in
theorem one_prim (hr : ∀ (s : Rl.St) (S : Nat → Prop) (A2 : Option Addr) (c2 : Nat) (W : World), Below w0.heap.size w0 W → s.pos < l.length → s.deep = o → s.out.length ≤ 40 → RIn W S A2 c2 s.out → Calls Tryz.prog 120 #[.agg #[.slice A l.length c, .int .i64 s.pos, .slice A2 s.out.length c2, .int .i64 s.deep, .int .i64 0]] W (RTold W S A l.length c (part s))) : OneOk w0 A l c 1 part o := by
  intro s S A2 c2 w hb hp hd ho h
  have hb0 := (((Below.refl _ w).alloc (Nat.le_refl _) (.cells #[.slice A l.length c, .int .i64 s.pos, .slice A2 s.out.length c2, .int .i64 s.deep, .int .i64 0] 107)).alloc (by simp) (.cells #[.slice none 0 0, .int .i64 0, .slice none 0 0, .int .i64 0, .int .i64 0] 107))
  have hc := hr s S A2 c2 _ (hb.trans (hb0.mono hb.size)) hp hd ho (h.below hb0)
  have HC := Lib.hid hc
  have HS := Lib.hid h.lt
  obtain ⟨p, d, out⟩ := s
  dsimp only at HC ⊢
  generalize part ⟨p, d, out⟩ = r at *
  clear hc hb0 h hb hp hd ho hr
  go_enter Tryz.func96, Tryz.ntmps96
  go_wp2_with (fail)
  refine HC.out.mono ?_
  rintro e w1 ⟨A4, m4, c4, d4, rfl, hok, hb1⟩
  have hz := PZ.start w w1 _ hb1
  obtain ⟨z0, z1, z2, z3, z4, y0, y1, y2, y3, y4⟩ := hz.facts
  have HZ := Lib.hid hz
  have HOK := Lib.hid hok
  clear hz hok hb1
  go_wp2
  obtain ⟨q0, q1, q2, q3, q4, rB⟩ := HZ.out.set_ (.slice A l.length c) (.slice A4 m4 c4) (r.1.pos : Nat) d4 (r.2 : Nat)
  have RB := Lib.hid rB
  clear rB
  exact bodyPost_ret (v := .agg #[.slice A l.length c, .int .i64 (r.1.pos : Nat), .slice A4 m4 c4, .int .i64 d4, .int .i64 (r.2 : Nat)]) (by simp [results, Tryz.results96, go_sem, q0, q1, q2, q3, q4]) rfl
    (RTold.stored (by simp) HOK.out HS.out ⟨fun k hk => heap_set5 _ _ _ _ _ _ _ _ hk, size_set5 _ _ _ _ _ _ _⟩ RB.out)
set_option maxHeartbeats 2000000 in
theorem one_atom (hr : ∀ (s : Rl.St) (S : Nat → Prop) (A2 : Option Addr) (c2 : Nat) (W : World), Below w0.heap.size w0 W → s.pos < l.length → s.deep = o → s.out.length ≤ 40 → RIn W S A2 c2 s.out → Calls Tryz.prog 121 #[.agg #[.slice A l.length c, .int .i64 s.pos, .slice A2 s.out.length c2, .int .i64 s.deep, .int .i64 0]] W (RTold W S A l.length c (part s))) : OneOk w0 A l c 3 part o := by
  intro s S A2 c2 w hb hp hd ho h
  have hb0 := (((Below.refl _ w).alloc (Nat.le_refl _) (.cells #[.slice A l.length c, .int .i64 s.pos, .slice A2 s.out.length c2, .int .i64 s.deep, .int .i64 0] 107)).alloc (by simp) (.cells #[.slice none 0 0, .int .i64 0, .slice none 0 0, .int .i64 0, .int .i64 0] 107))
  have hc := hr s S A2 c2 _ (hb.trans (hb0.mono hb.size)) hp hd ho (h.below hb0)
  have HC := Lib.hid hc
  have HS := Lib.hid h.lt
  obtain ⟨p, d, out⟩ := s
  dsimp only at HC ⊢
  generalize part ⟨p, d, out⟩ = r at *
  clear hc hb0 h hb hp hd ho hr
  go_enter Tryz.func96, Tryz.ntmps96
  go_wp2_with (fail)
  refine HC.out.mono ?_
  rintro e w1 ⟨A4, m4, c4, d4, rfl, hok, hb1⟩
  have hz := PZ.start w w1 _ hb1
  obtain ⟨z0, z1, z2, z3, z4, y0, y1, y2, y3, y4⟩ := hz.facts
  have HZ := Lib.hid hz
  have HOK := Lib.hid hok
  clear hz hok hb1
  go_wp2
  obtain ⟨q0, q1, q2, q3, q4, rB⟩ := HZ.out.set_ (.slice A l.length c) (.slice A4 m4 c4) (r.1.pos : Nat) d4 (r.2 : Nat)
  have RB := Lib.hid rB
  clear rB
  exact bodyPost_ret (v := .agg #[.slice A l.length c, .int .i64 (r.1.pos : Nat), .slice A4 m4 c4, .int .i64 d4, .int .i64 (r.2 : Nat)]) (by simp [results, Tryz.results96, go_sem, q0, q1, q2, q3, q4]) rfl
    (RTold.stored (by simp) HOK.out HS.out ⟨fun k hk => heap_set5 _ _ _ _ _ _ _ _ hk, size_set5 _ _ _ _ _ _ _⟩ RB.out)
end
end Go.Proofs.YtggcmkpafpjnoaaGreatDoor

/- The reference's atom, one and row, at a state with an error: it is handed back. -/
namespace Go.Proofs.YtggcmkpafpjnoaaGreatDoor
set_option maxRecDepth 100000
open Go.RowKit Go.Shelf

section
variable {A A2 : Option Addr} {l : List Lx.Tk} {c p m c2 : Nat} {d : Int}
theorem atom_err (en : Nat) (he : en ≠ 0) (w : World) (_ : Row w w.heap.size A (tcells l)) (_ : p < l.length) : Calls Tryz.prog 121 #[.agg #[.slice A l.length c, .int .i64 p, .slice A2 m c2, .int .i64 d, .int .i64 en]] w (Gave w A l.length c p A2 m c2 d en) := by
  have he1 : ((en : Int) != 0) = true := by rw [bne_iff_ne]; omega
  clear he
  go_enter Tryz.func121, Tryz.ntmps121
  go_wp2
  go_returns
  exact ⟨rfl, (((Below.refl _ w).alloc (Nat.le_refl _) _).alloc (by simp) _)⟩
theorem one3_err (en : Nat) (he : en ≠ 0) (w : World) (ht : Row w w.heap.size A (tcells l)) (hp : p < l.length) : Calls Tryz.prog 96 #[.agg #[.slice A l.length c, .int .i64 p, .slice A2 m c2, .int .i64 d, .int .i64 en], .int .i64 3] w (Gave w A l.length c p A2 m c2 d en) := by
  have hb0 := (((Below.refl _ w).alloc (Nat.le_refl _) (.cells #[.slice A l.length c, .int .i64 p, .slice A2 m c2, .int .i64 d, .int .i64 en] 107)).alloc (by simp) (.cells #[.slice none 0 0, .int .i64 0, .slice none 0 0, .int .i64 0, .int .i64 0] 107))
  have hc := atom_err (A := A) (A2 := A2) (c := c) (p := p) (m := m) (c2 := c2) (d := d) en he _ ((ht.below hb0).more hb0.size) hp
  have HC := Lib.hid hc
  clear hc hb0 ht hp he
  go_enter Tryz.func96, Tryz.ntmps96
  go_wp2_with (fail)
  refine HC.out.mono ?_
  rintro e w1 ⟨rfl, hb1⟩
  have hz := PZ.start w w1 _ hb1
  obtain ⟨z0, z1, z2, z3, z4, y0, y1, y2, y3, y4⟩ := hz.facts
  have HZ := Lib.hid hz
  clear hz hb1
  go_wp2
  obtain ⟨q0, q1, q2, q3, q4, rB⟩ := HZ.out.set_ (.slice A l.length c) (.slice A2 m c2) (p : Nat) d (en : Nat)
  have RB := Lib.hid rB
  clear rB
  exact bodyPost_ret (v := .agg #[.slice A l.length c, .int .i64 p, .slice A2 m c2, .int .i64 d, .int .i64 en]) (by simp [results, Tryz.results96, go_sem, q0, q1, q2, q3, q4]) rfl ⟨rfl, RB.out⟩
set_option maxHeartbeats 4000000 in
theorem row3_err (en : Nat) (he : en ≠ 0) (w : World) (ht : Row w w.heap.size A (tcells l)) (hp : p < l.length) : Calls Tryz.prog 71 #[.agg #[.slice A l.length c, .int .i64 p, .slice A2 m c2, .int .i64 d, .int .i64 en], .int .i64 3] w (Gave w A l.length c p A2 m c2 d en) := by
  have hb0 := ((((Below.refl _ w).alloc (Nat.le_refl _) (.cells #[.slice A l.length c, .int .i64 p, .slice A2 m c2, .int .i64 d, .int .i64 en] 107)).alloc (by simp) (.cells #[.slice none 0 0, .int .i64 0, .slice none 0 0, .int .i64 0, .int .i64 0] 107)).alloc (by simp; omega) (.cells #[.string { data := #[111, 114] }, .string { data := #[97, 110, 100] }, .string { data := #[106, 111, 105, 110] }, .string { data := #[109, 101, 101, 116] }] 9)).alloc (by simp; omega) (.cells #[.int .i64 4, .int .i64 3, .int .i64 12, .int .i64 13] 3)
  have hc := one3_err (A := A) (A2 := A2) (c := c) (p := p) (m := m) (c2 := c2) (d := d) en he _ ((ht.below hb0).more hb0.size) hp
  have HC := Lib.hid hc
  have HB0 := Lib.hid hb0
  have HT := Lib.hid ht
  have HE := Lib.hid he
  clear hc hb0 ht he
  go_enter Tryz.func71, Tryz.ntmps71
  go_wp2_with (fail)
  refine HC.out.mono ?_
  rintro e w1 ⟨rfl, hb1⟩
  have hps := PS.start w (.slice A l.length c) (.slice A2 m c2) p d en ((((Below.refl _ _).alloc (Nat.le_refl _) (.cells #[.string { data := #[111, 114] }, .string { data := #[97, 110, 100] }, .string { data := #[106, 111, 105, 110] }, .string { data := #[109, 101, 101, 116] }] 9)).alloc (by simp) (.cells #[.int .i64 4, .int .i64 3, .int .i64 12, .int .i64 13] 3)).trans (hb1.mono (by simp)))
  obtain ⟨⟨x0, x1, x2, x3, x4⟩, f0, f1, f2, f3, f4⟩ := hps.all
  have HPS := Lib.hid hps
  clear hps hb1
  go_wp2
  have hs := HPS.out.setAll (.slice A l.length c) (.slice A2 m c2) (p : Nat) d (en : Nat)
  obtain ⟨W, hW⟩ : ∃ W, (((((w1.setCell ⟨w.heap.size, 0, none⟩ (.slice A l.length c)).setCell ⟨w.heap.size, 1, none⟩ (.int .i64 (p : Nat))).setCell ⟨w.heap.size, 2, none⟩ (.slice A2 m c2)).setCell ⟨w.heap.size, 3, none⟩ (.int .i64 d)).setCell ⟨w.heap.size, 4, none⟩ (.int .i64 (en : Nat))) = W := ⟨_, rfl⟩
  rw [hW] at hs ⊢
  clear hW x0 x1 x2 x3 x4 f0 f1 f2 f3 f4 HPS
  have HS := Lib.hid hs
  clear hs
  go_loopw [18] (fun _ wr => Hid (PS w (.slice A l.length c) (.slice A2 m c2) (p : Nat) d (en : Nat) wr)) (fun _ wr => 0)
  case atStart => exact HS
  case round =>
    have HR : Hid (PS w (.slice A l.length c) (.slice A2 m c2) (p : Nat) d (en : Nat) wr) := hrel
    clear hrel HS
    obtain ⟨⟨x0, x1, x2, x3, x4⟩, f0, f1, f2, f3, f4⟩ := HR.out.all
    have hh := here_err (A := A) (l := l) (c := c) (p := p) (d := d) (A2 := A2) (m := m) (c2 := c2) Rl.wMeet en HE.out wr ((HT.out.below HR.out.z.below).more HR.out.z.below.size) hp
    have HH := Lib.hid hh
    clear hh
    go_wp2_with (fail)
    refine HH.out.mono ?_
    rintro e w2 ⟨rfl, hb2⟩
    have hs2 := HR.out.call hb2
    clear x0 x1 x2 x3 x4 f0 f1 f2 f3 f4
    obtain ⟨⟨x0, x1, x2, x3, x4⟩, f0, f1, f2, f3, f4⟩ := hs2.all
    obtain ⟨z0, z1, z2, z3, z4, y0, y1, y2, y3, y4⟩ := hs2.z.facts
    have HS2 := Lib.hid hs2
    clear hs2 hb2
    go_wp2
    obtain ⟨q0, q1, q2, q3, q4, rB⟩ := HS2.out.z.set_ (.slice A l.length c) (.slice A2 m c2) (p : Nat) d (en : Nat)
    have RB := Lib.hid rB
    clear rB
    exact bodyPost_ret (v := .agg #[.slice A l.length c, .int .i64 p, .slice A2 m c2, .int .i64 d, .int .i64 en]) (by simp [results, Tryz.results71, go_sem, q0, q1, q2, q3, q4]) rfl ⟨rfl, RB.out⟩
theorem one2_err (en : Nat) (he : en ≠ 0) (w : World) (ht : Row w w.heap.size A (tcells l)) (hp : p < l.length) : Calls Tryz.prog 96 #[.agg #[.slice A l.length c, .int .i64 p, .slice A2 m c2, .int .i64 d, .int .i64 en], .int .i64 2] w (Gave w A l.length c p A2 m c2 d en) := by
  have hb0 := (((Below.refl _ w).alloc (Nat.le_refl _) (.cells #[.slice A l.length c, .int .i64 p, .slice A2 m c2, .int .i64 d, .int .i64 en] 107)).alloc (by simp) (.cells #[.slice none 0 0, .int .i64 0, .slice none 0 0, .int .i64 0, .int .i64 0] 107))
  have hc := row3_err (A := A) (A2 := A2) (c := c) (p := p) (m := m) (c2 := c2) (d := d) en he _ ((ht.below hb0).more hb0.size) hp
  have HC := Lib.hid hc
  clear hc hb0 ht hp he
  go_enter Tryz.func96, Tryz.ntmps96
  go_wp2_with (fail)
  refine HC.out.mono ?_
  rintro e w1 ⟨rfl, hb1⟩
  have hz := PZ.start w w1 _ hb1
  obtain ⟨z0, z1, z2, z3, z4, y0, y1, y2, y3, y4⟩ := hz.facts
  have HZ := Lib.hid hz
  clear hz hb1
  go_wp2
  obtain ⟨q0, q1, q2, q3, q4, rB⟩ := HZ.out.set_ (.slice A l.length c) (.slice A2 m c2) (p : Nat) d (en : Nat)
  have RB := Lib.hid rB
  clear rB
  exact bodyPost_ret (v := .agg #[.slice A l.length c, .int .i64 p, .slice A2 m c2, .int .i64 d, .int .i64 en]) (by simp [results, Tryz.results96, go_sem, q0, q1, q2, q3, q4]) rfl ⟨rfl, RB.out⟩
set_option maxHeartbeats 4000000 in
theorem row2_err (en : Nat) (he : en ≠ 0) (w : World) (ht : Row w w.heap.size A (tcells l)) (hp : p < l.length) : Calls Tryz.prog 71 #[.agg #[.slice A l.length c, .int .i64 p, .slice A2 m c2, .int .i64 d, .int .i64 en], .int .i64 2] w (Gave w A l.length c p A2 m c2 d en) := by
  have hb0 := ((((Below.refl _ w).alloc (Nat.le_refl _) (.cells #[.slice A l.length c, .int .i64 p, .slice A2 m c2, .int .i64 d, .int .i64 en] 107)).alloc (by simp) (.cells #[.slice none 0 0, .int .i64 0, .slice none 0 0, .int .i64 0, .int .i64 0] 107)).alloc (by simp; omega) (.cells #[.string { data := #[111, 114] }, .string { data := #[97, 110, 100] }, .string { data := #[106, 111, 105, 110] }, .string { data := #[109, 101, 101, 116] }] 9)).alloc (by simp; omega) (.cells #[.int .i64 4, .int .i64 3, .int .i64 12, .int .i64 13] 3)
  have hc := one2_err (A := A) (A2 := A2) (c := c) (p := p) (m := m) (c2 := c2) (d := d) en he _ ((ht.below hb0).more hb0.size) hp
  have HC := Lib.hid hc
  have HB0 := Lib.hid hb0
  have HT := Lib.hid ht
  have HE := Lib.hid he
  clear hc hb0 ht he
  go_enter Tryz.func71, Tryz.ntmps71
  go_wp2_with (fail)
  refine HC.out.mono ?_
  rintro e w1 ⟨rfl, hb1⟩
  have hps := PS.start w (.slice A l.length c) (.slice A2 m c2) p d en ((((Below.refl _ _).alloc (Nat.le_refl _) (.cells #[.string { data := #[111, 114] }, .string { data := #[97, 110, 100] }, .string { data := #[106, 111, 105, 110] }, .string { data := #[109, 101, 101, 116] }] 9)).alloc (by simp) (.cells #[.int .i64 4, .int .i64 3, .int .i64 12, .int .i64 13] 3)).trans (hb1.mono (by simp)))
  obtain ⟨⟨x0, x1, x2, x3, x4⟩, f0, f1, f2, f3, f4⟩ := hps.all
  have HPS := Lib.hid hps
  clear hps hb1
  go_wp2
  have hs := HPS.out.setAll (.slice A l.length c) (.slice A2 m c2) (p : Nat) d (en : Nat)
  obtain ⟨W, hW⟩ : ∃ W, (((((w1.setCell ⟨w.heap.size, 0, none⟩ (.slice A l.length c)).setCell ⟨w.heap.size, 1, none⟩ (.int .i64 (p : Nat))).setCell ⟨w.heap.size, 2, none⟩ (.slice A2 m c2)).setCell ⟨w.heap.size, 3, none⟩ (.int .i64 d)).setCell ⟨w.heap.size, 4, none⟩ (.int .i64 (en : Nat))) = W := ⟨_, rfl⟩
  rw [hW] at hs ⊢
  clear hW x0 x1 x2 x3 x4 f0 f1 f2 f3 f4 HPS
  have HS := Lib.hid hs
  clear hs
  go_loopw [18] (fun _ wr => Hid (PS w (.slice A l.length c) (.slice A2 m c2) (p : Nat) d (en : Nat) wr)) (fun _ wr => 0)
  case atStart => exact HS
  case round =>
    have HR : Hid (PS w (.slice A l.length c) (.slice A2 m c2) (p : Nat) d (en : Nat) wr) := hrel
    clear hrel HS
    obtain ⟨⟨x0, x1, x2, x3, x4⟩, f0, f1, f2, f3, f4⟩ := HR.out.all
    have hh := here_err (A := A) (l := l) (c := c) (p := p) (d := d) (A2 := A2) (m := m) (c2 := c2) Rl.wJoin en HE.out wr ((HT.out.below HR.out.z.below).more HR.out.z.below.size) hp
    have HH := Lib.hid hh
    clear hh
    go_wp2_with (fail)
    refine HH.out.mono ?_
    rintro e w2 ⟨rfl, hb2⟩
    have hs2 := HR.out.call hb2
    clear x0 x1 x2 x3 x4 f0 f1 f2 f3 f4
    obtain ⟨⟨x0, x1, x2, x3, x4⟩, f0, f1, f2, f3, f4⟩ := hs2.all
    obtain ⟨z0, z1, z2, z3, z4, y0, y1, y2, y3, y4⟩ := hs2.z.facts
    have HS2 := Lib.hid hs2
    clear hs2 hb2
    go_wp2
    obtain ⟨q0, q1, q2, q3, q4, rB⟩ := HS2.out.z.set_ (.slice A l.length c) (.slice A2 m c2) (p : Nat) d (en : Nat)
    have RB := Lib.hid rB
    clear rB
    exact bodyPost_ret (v := .agg #[.slice A l.length c, .int .i64 p, .slice A2 m c2, .int .i64 d, .int .i64 en]) (by simp [results, Tryz.results71, go_sem, q0, q1, q2, q3, q4]) rfl ⟨rfl, RB.out⟩
end
end Go.Proofs.YtggcmkpafpjnoaaGreatDoor

/- The reference's atom. -/
namespace Go.Proofs.YtggcmkpafpjnoaaGreatDoor
set_option maxRecDepth 100000
open Go.RowKit Go.Shelf
attribute [local go_sem] Oper.semAt_some

theorem blk_atG {W : World} {t : TypeId} {cs : Array Value} {g : Nat} (h : W.heap.size = g) : Blk (W.alloc (.cells cs t)) g t cs := h ▸ Blk.new W t cs
/-- The atoms' words. -/
def atomW (k : Nat) : ByteArray := [({ data := #[98, 111, 116] } : ByteArray), { data := #[116, 111, 112] }, { data := #[112, 99] }, { data := #[111, 110, 101] }, { data := #[116, 119, 111] }, { data := #[116, 104, 114, 101, 101] }].getD k ByteArray.empty
theorem op_atom {k : Nat} (h : k < 6) : Rl.opOf (atomW k) = 6 + (k : Int) := by
  rcases (by omega : k = 0 ∨ k = 1 ∨ k = 2 ∨ k = 3 ∨ k = 4 ∨ k = 5) with rfl | rfl | rfl | rfl | rfl | rfl <;> decide
theorem atom_not_open {k : Nat} (h : k < 6) : atomW k ≠ Rl.wOpenL := by
  rcases (by omega : k = 0 ∨ k = 1 ∨ k = 2 ∨ k = 3 ∨ k = 4 ∨ k = 5) with rfl | rfl | rfl | rfl | rfl | rfl <;> decide
theorem op_none {y : ByteArray} (h : ∀ k, k < 6 → y ≠ atomW k) : ¬ (6 ≤ Rl.opOf y ∧ Rl.opOf y ≤ 11) := by
  have h0 := h 0 (by decide)
  have h1 := h 1 (by decide)
  have h2 := h 2 (by decide)
  have h3 := h 3 (by decide)
  have h4 := h 4 (by decide)
  have h5 := h 5 (by decide)
  have e : Rl.opOf y = Rl.look y Rl.table := rfl
  rw [e]
  unfold Rl.table
  simp only [Rl.look]
  by_cases c0 : Rl.wTrue = y
  · rw [if_pos c0]; decide
  rw [if_neg c0]
  by_cases c1 : Rl.wFalse = y
  · rw [if_pos c1]; decide
  rw [if_neg c1]
  by_cases c2 : Rl.wAnd = y
  · rw [if_pos c2]; decide
  rw [if_neg c2]
  by_cases c3 : Rl.wOr = y
  · rw [if_pos c3]; decide
  rw [if_neg c3]
  by_cases c4 : Rl.wFlows = y
  · rw [if_pos c4]; decide
  rw [if_neg c4]
  rw [if_neg (fun e => h0 e.symm)]
  rw [if_neg (fun e => h1 e.symm)]
  rw [if_neg (fun e => h2 e.symm)]
  rw [if_neg (fun e => h3 e.symm)]
  rw [if_neg (fun e => h4 e.symm)]
  rw [if_neg (fun e => h5 e.symm)]
  by_cases c11 : Rl.wJoin = y
  · rw [if_pos c11]; decide
  rw [if_neg c11]
  by_cases c12 : Rl.wMeet = y
  · rw [if_pos c12]; decide
  rw [if_neg c12]
  decide
theorem atom_cell {k : Nat} (h : k < 6) : (#[.string { data := #[98, 111, 116] }, .string { data := #[116, 111, 112] }, .string { data := #[112, 99] }, .string { data := #[111, 110, 101] }, .string { data := #[116, 119, 111] }, .string { data := #[116, 104, 114, 101, 101] }] : Array Value)[k]? = some (.string (atomW k)) := by
  rcases (by omega : k = 0 ∨ k = 1 ∨ k = 2 ∨ k = 3 ∨ k = 4 ∨ k = 5) with rfl | rfl | rfl | rfl | rfl | rfl <;> rfl
section
variable {A A2 : Option Addr} {c c2 : Nat} {l : List Lx.Tk} {S : Nat → Prop}
theorem atom_word {lab : Rl.St → Rl.Res} {s : Rl.St} {t : Lx.Tk} (h : l[s.pos]? = some t) {k : Nat} (hk : k < 6) (h1 : t.kind = 1) (h2 : t.text = atomW k) : Rl.atom l lab s = Rl.put (6 + (k : Int)) (Rl.adv s) := by
  unfold Rl.atom
  have hn : Rl.isN l s.pos Rl.wOpenL = false := by
    unfold Rl.isN
    rw [h]
    simp only [decide_eq_false_iff_not]
    rintro ⟨_, e⟩
    exact atom_not_open hk (h2.symm.trans e)
  have hw : Rl.word l s.pos = 6 + (k : Int) := by
    unfold Rl.word
    rw [h]
    simp only [h2, op_atom hk]
    rw [if_pos ⟨h1, by omega, by omega⟩]
  rw [hn, hw, if_neg (by decide), if_neg (by omega)]
theorem atom_other {lab : Rl.St → Rl.Res} {s : Rl.St} {t : Lx.Tk} (h : l[s.pos]? = some t) (h1 : ∀ k, k < 6 → ¬ (t.kind = 1 ∧ t.text = atomW k)) : Rl.atom l lab s = if Rl.isN l s.pos Rl.wOpenL = true then Rl.inside l lab Rl.wShutL s else (s, 4) := by
  unfold Rl.atom
  have hw : Rl.word l s.pos = 0 := by
    unfold Rl.word
    rw [h]
    simp only
    rw [if_neg]
    rintro ⟨e1, e2⟩
    exact op_none (y := t.text) (fun k hk e => h1 k hk ⟨e1, e⟩) e2
  rw [hw, if_pos rfl]
set_option maxHeartbeats 16000000 in
theorem ratom_any {lab : Rl.St → Rl.Res} (s : Rl.St) (w : World) (ht : Row w w.heap.size A (tcells l)) (he : Rl.Ends l) (hl : l.length ≤ 1000000) (hp : s.pos < l.length) (h : RIn w S A2 c2 s.out) (ho : s.out.length ≤ 40) (hd : s.deep ≤ 12)
    (hg : s.deep < 12 → Rl.Good l (s.deep + 1) true lab) (hr : s.deep < 12 → RowOk w A l c 2 lab (s.deep + 1)) :
    Calls Tryz.prog 121 #[.agg #[.slice A l.length c, .int .i64 s.pos, .slice A2 s.out.length c2, .int .i64 s.deep, .int .i64 0]] w (RTold w S A l.length c (Rl.atom l lab s)) := by
  obtain ⟨p, d, out⟩ := s
  dsimp only at h ho hd hp hg hr ⊢
  obtain ⟨t, htk⟩ : ∃ t, l[p]? = some t := ⟨_, List.getElem?_eq_getElem hp⟩
  have hword := fun k (hk : k < 6) (h1 : t.kind = 1) (h2 : t.text = atomW k) => atom_word (lab := lab) (s := ⟨p, d, out⟩) htk hk h1 h2
  have hother := atom_other (lab := lab) (s := ⟨p, d, out⟩) htk
  obtain ⟨res, hres⟩ : ∃ res, Rl.atom l lab ⟨p, d, out⟩ = res := ⟨_, rfl⟩
  rw [hres] at hother ⊢
  simp only [hres] at hword
  have hb0 := (((Below.refl _ w).alloc (Nat.le_refl _) (.cells #[.slice A l.length c, .int .i64 p, .slice A2 out.length c2, .int .i64 d, .int .i64 0] 107)).alloc (by simp) (.cells #[.slice none 0 0, .int .i64 0, .slice none 0 0, .int .i64 0, .int .i64 0] 107))
  obtain ⟨w1, hw1⟩ : ∃ w1, (((w.alloc (.cells #[.slice A l.length c, .int .i64 p, .slice A2 out.length c2, .int .i64 d, .int .i64 0] 107)).alloc (.cells #[.slice none 0 0, .int .i64 0, .slice none 0 0, .int .i64 0, .int .i64 0] 107)).alloc (.cells #[.string { data := #[98, 111, 116] }, .string { data := #[116, 111, 112] }, .string { data := #[112, 99] }, .string { data := #[111, 110, 101] }, .string { data := #[116, 119, 111] }, .string { data := #[116, 104, 114, 101, 101] }] 9)) = w1 := ⟨_, rfl⟩
  have hps : PS w (.slice A l.length c) (.slice A2 out.length c2) p d 0 w1 := PS.start w (.slice A l.length c) (.slice A2 out.length c2) p d 0 (hw1 ▸ (Below.refl _ _).alloc (Nat.le_refl _) _)
  have hwd : Blk w1 (w.heap.size + 1 + 1) 9 #[.string { data := #[98, 111, 116] }, .string { data := #[116, 111, 112] }, .string { data := #[112, 99] }, .string { data := #[111, 110, 101] }, .string { data := #[116, 119, 111] }, .string { data := #[116, 104, 114, 101, 101] }] := hw1 ▸ blk_atG (by simp)
  have hbw : Below w.heap.size w w1 := hps.z.below
  obtain ⟨ad, t', hA, hb, ht', t0, t1, t2⟩ := trow_at (ht.below hbw) hp
  rw [htk] at ht'
  injection ht' with ht'
  subst ht'
  have hadb : (ad.add (p * 3)).block < w.heap.size := by rw [add_block]; exact hb
  obtain ⟨x0, x1, x2, x3, x4, fx⟩ := hps.facts
  have HPS := Lib.hid hps
  have HWD := Lib.hid hwd
  have H := Lib.hid h
  have HT := Lib.hid ht
  have HG := Lib.hid hg
  have HR := Lib.hid hr
  have HWO := Lib.hid hword
  have HOT := Lib.hid hother
  have HTK := Lib.hid htk
  have HSZ := Lib.hid (show w.heap.size + 2 ≤ w1.heap.size from by have := hwd.lt; omega)
  obtain ⟨kd, y, ps⟩ := t
  dsimp only at t0 t1 t2
  clear hb0 hps hwd h ht hg hr hword hother hbw hres htk
  subst hA
  generalize hn : l.length = n at *
  go_enter Tryz.func121, Tryz.ntmps121
  go_wp2
  go_loop [11] (fun i => ∃ k : Nat, k ≤ 6 ∧ i = .int .i64 k ∧ Hid (∀ j, j < k → ¬ (kd = 1 ∧ y = atomW j))) (fun i => 6 - (intOf i).toNat)
  case atStart => exact ⟨0, by decide, rfl, fun j hj => absurd hj (by omega)⟩
  case round =>
    obtain ⟨k, hk, rfl, HK⟩ := hrel
    by_cases hlt : k < 6
    · have hwc : w1.cell? ⟨w.heap.size + 1 + 1, k, none⟩ = some (.string (atomW k)) := (HWD.out.cell k).trans (atom_cell hlt)
      by_cases hm : kd = 1 ∧ y = atomW k
      · obtain ⟨rfl, rfl⟩ := hm
        have hres := HWO.out k hlt rfl rfl
        have hpn : p + 1 < n := by
          have := he p _ HTK.out (.inl rfl)
          omega
        have hnx := next_ok (A := some ad) (c := c) (p := p) (d := (d : Int)) (A2 := A2) (m := out.length) (c2 := c2) n 0 w1 hpn hl
        have HNX := Lib.hid hnx
        have HRES := Lib.hid hres
        clear hnx hres HWO HOT HG HR HT HTK
        go_wp2_with (fail)
        refine HNX.out.mono ?_
        rintro e w2 ⟨rfl, hb2⟩
        have hps2 := HPS.out.call hb2
        have hpt := rput_any (A := some ad) (c := c) n (Rl.adv ⟨p, d, out⟩) (6 + (k : Int)) w2 (H.out.below hps2.z.below) ho
        rw [← HRES.out] at hpt
        have HPT := Lib.hid hpt
        have HPS2 := Lib.hid hps2
        have HSZ2 := Lib.hid (Nat.le_trans HSZ.out hb2.size)
        clear hps2 hpt hb2 HNX HPS x0 x1 x2 x3 x4 fx t0 t1 t2 hwc
        have hpt2 : Calls Tryz.prog 99 #[.agg #[.slice (some ad) n c, .int .i64 ((p : Int) + 1), .slice A2 out.length c2, .int .i64 d, .int .i64 0], .int .i64 (6 + (k : Int))] w2 (RTold w2 S (some ad) n c res) := HPT.out
        have HPT2 := Lib.hid hpt2
        clear hpt2 HPT
        go_wp2_with (fail)
        refine HPT2.out.mono ?_
        rintro e w3 ⟨A4, m4, c4, d4, rfl, hok, hb3⟩
        have hz := HPS2.out.z.call hb3
        have HZ := Lib.hid hz
        have HOK := Lib.hid hok
        obtain ⟨z0, z1, z2, z3, z4, y0, y1, y2, y3, y4⟩ := hz.facts
        clear hz hok hb3 HPT2
        go_wp2
        obtain ⟨q0, q1, q2, q3, q4, rB⟩ := HZ.out.set_ (.slice (some ad) n c) (.slice A4 m4 c4) (res.1.pos : Nat) d4 (res.2 : Nat)
        have RB := Lib.hid rB
        clear rB
        exact bodyPost_ret (v := .agg #[.slice (some ad) n c, .int .i64 (res.1.pos : Nat), .slice A4 m4 c4, .int .i64 d4, .int .i64 (res.2 : Nat)]) (by simp [results, Tryz.results121, go_sem, q0, q1, q2, q3, q4]) rfl
          (RTold.stored HSZ2.out HOK.out H.out.lt ⟨fun k hk => heap_set5 _ _ _ _ _ _ _ _ hk, size_set5 _ _ _ _ _ _ _⟩ RB.out)
      · have HM := Lib.hid hm
        by_cases hkd : kd = 1
        · subst hkd
          have hy : (y.toList == (atomW k).toList) = false := by
            rw [str_beq, decide_eq_false_iff_not]
            exact fun e => HM.out ⟨rfl, e⟩
          clear hm
          go_wp2
          go_round
          case rel => exact ⟨k + 1, by omega, by go_num, fun j hj => by
            by_cases e : j = k
            · subst e; simpa using HM.out
            · simpa using HK.out j (by omega)⟩
          case measure => simp [intOf]; omega
        · have hkb : (kd == 1) = false := by rw [beq_eq_false_iff_ne]; exact hkd
          clear hm
          go_wp2
          go_round
          case rel => exact ⟨k + 1, by omega, by go_num, fun j hj => by
            by_cases e : j = k
            · subst e; exact HM.out
            · exact HK.out j (by omega)⟩
          case measure => simp [intOf]; omega
    · obtain rfl : k = 6 := by omega
      have hres := HOT.out HK.out
      have hh := here_ok (A := some ad) (l := l) (c := c) (p := p) (d := (d : Int)) (A2 := A2) (m := out.length) (c2 := c2) Rl.wOpenL w1 ((HT.out.below HPS.out.z.below).more HPS.out.z.below.size) (by rw [hn]; exact hp)
      rw [hn] at hh
      obtain ⟨b, hbn⟩ : ∃ b, Rl.isN l p Rl.wOpenL = b := ⟨_, rfl⟩
      rw [hbn] at hh hres
      have HH := Lib.hid hh
      have HBN := Lib.hid hbn
      clear hh hbn HWO HOT t0 t1 t2
      cases b
      · rw [if_neg (by decide)] at hres
        subst hres
        have hf := fun W => fail_ok (A := some ad) (c := c) (p := p) (d := (d : Int)) (A2 := A2) (m := out.length) (c2 := c2) n 4 W
        have HF := Lib.hid hf
        clear hf
        go_wp2_with (fail)
        refine HH.out.mono ?_
        rintro e w2 ⟨rfl, hb2⟩
        have hps2 := HPS.out.call hb2
        have HPS2 := Lib.hid hps2
        clear x0 x1 x2 x3 x4 fx
        obtain ⟨x0, x1, x2, x3, x4, fx⟩ := hps2.facts
        clear hps2 hb2 HH
        go_wp2_with (fail)
        refine (HF.out w2).mono ?_
        rintro e w3 ⟨rfl, hb3⟩
        have hz := HPS2.out.z.call hb3
        have HZ := Lib.hid hz
        obtain ⟨z0, z1, z2, z3, z4, y0, y1, y2, y3, y4⟩ := hz.facts
        clear hz hb3 x0 x1 x2 x3 x4 fx
        go_wp2
        obtain ⟨q0, q1, q2, q3, q4, rB⟩ := HZ.out.set_ (.slice (some ad) n c) (.slice A2 out.length c2) p d 4
        have RB := Lib.hid rB
        clear rB
        exact bodyPost_ret (v := .agg #[.slice (some ad) n c, .int .i64 p, .slice A2 out.length c2, .int .i64 d, .int .i64 4]) (by simp [results, Tryz.results121, go_sem, q0, q1, q2, q3, q4]) rfl ⟨_, _, _, _, rfl, (fun h0 => by cases h0), RB.out⟩
      · rw [if_pos rfl] at hres
        have HRS := Lib.hid hres
        clear hres
        go_wp2_with (fail)
        refine HH.out.mono ?_
        rintro e w2 ⟨rfl, hb2⟩
        have hps2 := HPS.out.call hb2
        have HPS2 := Lib.hid hps2
        have HSZ2 := Lib.hid (Nat.le_trans HSZ.out hb2.size)
        clear x0 x1 x2 x3 x4 fx
        obtain ⟨x0, x1, x2, x3, x4, fx⟩ := hps2.facts
        have hin := rinside_any (A := some ad) (c := c) (sort := true) (part := lab) 2 Rl.wOpenL Rl.wShutL ⟨p, d, out⟩ w2 ((HT.out.below hps2.z.below).more hps2.z.below.size) he (by omega) (H.out.below hps2.z.below) ho hd HBN.out HG.out
          (fun hd2 s' S' B2 e2 W hbW hp' hd' ho' hi' => HR.out hd2 s' S' B2 e2 W (hps2.z.below.trans (hbW.mono hps2.z.below.size)) hp' hd' ho' hi')
        rw [← HRS.out, hn] at hin
        have HIN := Lib.hid hin
        clear hps2 hb2 HH hin
        go_wp2_with (fail)
        refine HIN.out.mono ?_
        rintro e w3 ⟨A4, m4, c4, d4, rfl, hok, hb3⟩
        have hz := HPS2.out.z.call hb3
        have HZ := Lib.hid hz
        have HOK := Lib.hid hok
        obtain ⟨z0, z1, z2, z3, z4, y0, y1, y2, y3, y4⟩ := hz.facts
        clear hz hok hb3 HIN x0 x1 x2 x3 x4 fx
        go_wp2
        obtain ⟨q0, q1, q2, q3, q4, rB⟩ := HZ.out.set_ (.slice (some ad) n c) (.slice A4 m4 c4) (res.1.pos : Nat) d4 (res.2 : Nat)
        have RB := Lib.hid rB
        clear rB
        exact bodyPost_ret (v := .agg #[.slice (some ad) n c, .int .i64 (res.1.pos : Nat), .slice A4 m4 c4, .int .i64 d4, .int .i64 (res.2 : Nat)]) (by simp [results, Tryz.results121, go_sem, q0, q1, q2, q3, q4]) rfl
          (RTold.stored HSZ2.out HOK.out H.out.lt ⟨fun k hk => heap_set5 _ _ _ _ _ _ _ _ hk, size_set5 _ _ _ _ _ _ _⟩ RB.out)
end
end Go.Proofs.YtggcmkpafpjnoaaGreatDoor

/- The reference's prim (by gen_refh.py). -/
namespace Go.Proofs.YtggcmkpafpjnoaaGreatDoor
set_option maxRecDepth 100000
open Go.RowKit Go.Shelf
attribute [local go_sem] Oper.semAt_some

/-- A part, behind what may be wrong. -/
def Rl.bnd (r : Rl.Res) (f : Rl.St → Rl.Res) : Rl.Res := if r.2 = 0 then f r.1 else r
/-- A state that is handed on by value: what it tells is r; if nothing is wrong, its rule lies in a block of S, or from b on. -/
def TV (b : Nat) (S : Nat → Prop) (A : Option Addr) (n c : Nat) (r : Rl.Res) (W : World) (v : Value) : Prop :=
  ∃ (A2 : Option Addr) (m c2 : Nat) (d : Int), v = .agg #[.slice A n c, .int .i64 r.1.pos, .slice A2 m c2, .int .i64 d, .int .i64 r.2] ∧ (r.2 = 0 → d = r.1.deep ∧ m = r.1.out.length ∧ RIn W (fun k => (S k ∨ b ≤ k) ∧ k < W.heap.size) A2 c2 r.1.out)
/-- What a call answers. -/
def Hands (b : Nat) (S : Nat → Prop) (A : Option Addr) (n c : Nat) (r : Rl.Res) (W : World) (e : Ending) (W' : World) : Prop := ∃ v, e = .returned v ∧ TV b S A n c r W' v ∧ Below W.heap.size W W'
section
variable {b : Nat} {S : Nat → Prop} {A : Option Addr} {c : Nat} {r : Rl.Res} {W W' : World} {v : Value} {l : List Lx.Tk}
theorem TV.told {n : Nat} {e : Ending} (h : RTold W (fun k => (S k ∨ b ≤ k) ∧ k < W.heap.size) A n c r e W') (hb : b ≤ W.heap.size) : Hands b S A n c r W e W' := by
  obtain ⟨A2, m, c2, d, rfl, hok, hbl⟩ := h
  refine ⟨_, rfl, ⟨A2, m, c2, d, rfl, fun h0 => ?_⟩, hbl⟩
  obtain ⟨h1, h2, h3⟩ := hok h0
  refine ⟨h1, h2, h3.row, h3.cap, h3.nil, fun ad e => ⟨?_, h3.inside ad e⟩, fun k hk => hk.2⟩
  rcases h3.side ad e with h4 | h4
  · exact h4.1
  · exact .inr (Nat.le_trans hb h4)
theorem TV.below {n : Nat} (h : TV b S A n c r W v) (hb : Below W.heap.size W W') : TV b S A n c r W' v := by
  obtain ⟨A2, m, c2, d, e, hok⟩ := h
  refine ⟨A2, m, c2, d, e, fun h0 => ?_⟩
  obtain ⟨h1, h2, h3⟩ := hok h0
  exact ⟨h1, h2, (h3.row.below hb).more hb.size, h3.cap, h3.nil, fun ad e => ⟨(h3.side ad e).1, Nat.lt_of_lt_of_le (h3.side ad e).2 hb.size⟩, fun k hk => hk.2⟩
theorem TV.keep {n g : Nat} (h : TV b S A n c r W v) (hk : (∀ k, k ≠ g → W'.heap[k]? = W.heap[k]?) ∧ W'.heap.size = W.heap.size) (hg : ∀ k, (S k ∨ b ≤ k) → k ≠ g) : TV b S A n c r W' v := by
  obtain ⟨A2, m, c2, d, e, hok⟩ := h
  refine ⟨A2, m, c2, d, e, fun h0 => ?_⟩
  obtain ⟨h1, h2, h3⟩ := hok h0
  exact ⟨h1, h2, h3.row.kept_at (Nat.le_of_eq hk.2.symm) (fun ad e => hk.1 _ (hg _ (h3.side ad e).1)), h3.cap, h3.nil, fun ad e => ⟨(h3.side ad e).1, by rw [hk.2]; exact (h3.side ad e).2⟩, fun k hk => hk.2⟩
theorem Hands.gave {n m c2 : Nat} {A2 : Option Addr} {d : Int} {e : Ending} (hr : r.2 ≠ 0) (h : Gave W A n c r.1.pos A2 m c2 d r.2 e W') : Hands b S A n c r W e W' := ⟨_, h.1, ⟨A2, m, c2, d, rfl, fun h0 => absurd h0 hr⟩, h.2⟩
theorem must_tv (x : ByteArray) (h : TV b S A l.length c r W v) (hb : b ≤ W.heap.size) (ht : Row W W.heap.size A (tcells l)) (he : Rl.Ends l) (hl : l.length ≤ 1000000) (hp : r.1.pos < l.length) :
    Calls Tryz.prog 138 #[v, .string x] W (Hands b S A l.length c (Rl.bnd r (Rl.must l x)) W) := by
  obtain ⟨A2, m, c2, d, rfl, hok⟩ := h
  unfold Rl.bnd
  by_cases h0 : r.2 = 0
  · obtain ⟨rfl, rfl, h3⟩ := hok h0
    rw [if_pos h0, h0]
    exact (rmust_any x r.1 W ht he hl hp h3).mono fun e w' h => TV.told h hb
  · rw [if_neg h0]
    exact (must_err l.length r.2 x h0 W).mono fun e w' h => Hands.gave h0 h
theorem put_tv {n : Nat} (o : Int) (h : TV b S A n c r W v) (hb : b ≤ W.heap.size) (ho : r.2 = 0 → r.1.out.length ≤ 40) :
    Calls Tryz.prog 99 #[v, .int .i64 o] W (Hands b S A n c (Rl.bnd r (Rl.put o)) W) := by
  obtain ⟨A2, m, c2, d, rfl, hok⟩ := h
  unfold Rl.bnd
  by_cases h0 : r.2 = 0
  · obtain ⟨rfl, rfl, h3⟩ := hok h0
    rw [if_pos h0, h0]
    exact (rput_any n r.1 o W h3 (ho h0)).mono fun e w' h => TV.told h hb
  · rw [if_neg h0]
    exact (put_err n r.2 o h0 W).mono fun e w' h => Hands.gave h0 h
theorem row_tv {w0 : World} {part : Rl.St → Rl.Res} {o : Nat} (hr : RowOk w0 A l c 2 part o) (h0b : Below w0.heap.size w0 W) (h : TV b S A l.length c r W v) (hb : b ≤ W.heap.size) (ht : Row W W.heap.size A (tcells l)) (hp : r.1.pos < l.length) (ho : r.2 = 0 → r.1.deep = o ∧ r.1.out.length ≤ 40) :
    Calls Tryz.prog 71 #[v, .int .i64 2] W (Hands b S A l.length c (Rl.bnd r part) W) := by
  obtain ⟨A2, m, c2, d, rfl, hok⟩ := h
  unfold Rl.bnd
  by_cases h0 : r.2 = 0
  · obtain ⟨rfl, rfl, h3⟩ := hok h0
    rw [if_pos h0, h0]
    exact (hr r.1 _ A2 c2 W h0b hp (ho h0).1 (ho h0).2 h3).mono fun e w' h => TV.told h hb
  · rw [if_neg h0]
    exact (row2_err r.2 h0 W ht hp).mono fun e w' h => Hands.gave h0 h
/-- A state, stored into a result's block, and read again. -/
theorem TV.end_ {w : World} {n m c2 : Nat} {A2 : Option Addr} {d : Int} (h : TV (w.heap.size + 2) S A n c r W (.agg #[.slice A n c, .int .i64 r.1.pos, .slice A2 m c2, .int .i64 d, .int .i64 r.2])) (hS : ∀ k, S k → k < w.heap.size)
    (hw : (∀ k, k ≠ w.heap.size + 1 → W'.heap[k]? = W.heap[k]?) ∧ W'.heap.size = W.heap.size) (hb : Below w.heap.size w W') : RTold w S A n c r (.returned (.agg #[.slice A n c, .int .i64 r.1.pos, .slice A2 m c2, .int .i64 d, .int .i64 r.2])) W' := by
  obtain ⟨A3, m3, c3, d3, e, hok⟩ := h
  injection e with e
  injection e with e
  injection e with _ e
  injection e with _ e
  injection e with e1 e
  injection e with e2 _
  injection e1 with e11 e12 e13
  injection e2 with _ e2
  subst e11 e12 e13 e2
  refine ⟨_, _, _, _, rfl, fun h0 => ?_, hb⟩
  obtain ⟨h1, h2, h3⟩ := hok h0
  refine ⟨h1, h2, h3.row.kept_at (Nat.le_of_eq hw.2.symm) (fun ad e => hw.1 _ ?_), h3.cap, h3.nil, fun ad e => ?_⟩
  · rcases (h3.side ad e).1 with h4 | h4
    · have := hS _ h4; omega
    · omega
  · rcases (h3.side ad e).1 with h4 | h4
    · exact .inl h4
    · exact .inr (by omega)
end
theorem Rl.flow_bnd (l : List Lx.Tk) (lab : Rl.St → Rl.Res) (s : Rl.St) : Rl.flow l lab s = Rl.bnd (Rl.bnd (Rl.bnd (lab s) (Rl.must l Rl.wFlows)) lab) (Rl.put 5) := by
  unfold Rl.flow Rl.bnd Rl.must
  by_cases h1 : (lab s).2 = 0
  · rw [if_pos h1, if_pos h1]
    by_cases h2 : Rl.isN l (lab s).1.pos Rl.wFlows = true
    · rw [if_pos h2, if_pos h2]
      rfl
    · rw [if_neg h2, if_neg h2]
      rfl
  · rw [if_neg h1, if_neg h1, if_neg h1, if_neg h1]
section
variable {A A2 : Option Addr} {c c2 : Nat} {l : List Lx.Tk} {S : Nat → Prop}
set_option maxHeartbeats 16000000 in
theorem rprim_any {cnd lab : Rl.St → Rl.Res} (s : Rl.St) (w : World) (ht : Row w w.heap.size A (tcells l)) (he : Rl.Ends l) (hl : l.length ≤ 1000000) (hp : s.pos < l.length) (h : RIn w S A2 c2 s.out) (ho : s.out.length ≤ 40) (hd : s.deep ≤ 12)
    (hgc : s.deep < 12 → Rl.Good l (s.deep + 1) false cnd) (hrc : s.deep < 12 → RowOk w A l c 0 cnd (s.deep + 1)) (hgl : Rl.Good l s.deep true lab) (hrl : RowOk w A l c 2 lab s.deep) :
    Calls Tryz.prog 120 #[.agg #[.slice A l.length c, .int .i64 s.pos, .slice A2 s.out.length c2, .int .i64 s.deep, .int .i64 0]] w (RTold w S A l.length c (Rl.prim l cnd lab s)) := by
  obtain ⟨p, d, out⟩ := s
  dsimp only at h ho hd hp hgc hrc hgl hrl ⊢
  obtain ⟨w1, hw1⟩ : ∃ w1, ((w.alloc (.cells #[.slice A l.length c, .int .i64 p, .slice A2 out.length c2, .int .i64 d, .int .i64 0] 107)).alloc (.cells #[.slice none 0 0, .int .i64 0, .slice none 0 0, .int .i64 0, .int .i64 0] 107)) = w1 := ⟨_, rfl⟩
  have hps : PS w (.slice A l.length c) (.slice A2 out.length c2) p d 0 w1 := PS.start w (.slice A l.length c) (.slice A2 out.length c2) p d 0 (hw1 ▸ Below.refl _ _)
  have hh := fun x W (hb : Below w.heap.size w W) => here_ok (A := A) (l := l) (c := c) (p := p) (d := (d : Int)) (A2 := A2) (m := out.length) (c2 := c2) x W ((ht.below hb).more hb.size) hp
  have hnx := fun W (hlt : p + 1 < l.length) => next_ok (A := A) (c := c) (p := p) (d := (d : Int)) (A2 := A2) (m := out.length) (c2 := c2) l.length 0 W hlt hl
  obtain ⟨res, hres⟩ : ∃ res, Rl.prim l cnd lab ⟨p, d, out⟩ = res := ⟨_, rfl⟩
  have hres2 : res = if Rl.isN l p Rl.wTrue = true then Rl.put 1 (Rl.adv ⟨p, d, out⟩) else if Rl.isN l p Rl.wFalse = true then Rl.put 2 (Rl.adv ⟨p, d, out⟩) else if Rl.isN l p Rl.wOpen = true then Rl.inside l cnd Rl.wShut ⟨p, d, out⟩ else Rl.flow l lab ⟨p, d, out⟩ := hres.symm
  rw [hres]
  obtain ⟨b1, hb1⟩ : ∃ b1, Rl.isN l p Rl.wTrue = b1 := ⟨_, rfl⟩
  obtain ⟨b2, hb2⟩ : ∃ b2, Rl.isN l p Rl.wFalse = b2 := ⟨_, rfl⟩
  obtain ⟨b3, hb3⟩ : ∃ b3, Rl.isN l p Rl.wOpen = b3 := ⟨_, rfl⟩
  have h1 := fun W hb => hh Rl.wTrue W hb
  have h2 := fun W hb => hh Rl.wFalse W hb
  have h3 := fun W hb => hh Rl.wOpen W hb
  simp only [hb1] at h1
  simp only [hb2] at h2
  simp only [hb3] at h3
  rw [hb1, hb2, hb3] at hres2
  have HB1 := Lib.hid hb1
  have HB2 := Lib.hid hb2
  have HB3 := Lib.hid hb3
  have H1 := Lib.hid h1
  have H2 := Lib.hid h2
  have H3 := Lib.hid h3
  have HNX := Lib.hid hnx
  have HRES := Lib.hid hres2
  have H := Lib.hid h
  have HT := Lib.hid ht
  have HGC := Lib.hid hgc
  have HRC := Lib.hid hrc
  have HGL := Lib.hid hgl
  have HRL := Lib.hid hrl
  have HPSw1 := Lib.hid hps
  have HSZw1 := Lib.hid (show w.heap.size + 2 ≤ w1.heap.size from by have := hps.z.blk.lt; omega)
  clear hh hnx hres hres2 hb1 hb2 hb3 h1 h2 h3 h ht hgc hrc hgl hrl hps
  go_enter Tryz.func120, Tryz.ntmps120
  cases b1
  · cases b2
    · cases b3
      · have HC := Lib.hid (H1.out w1 HPSw1.out.z.below)
        obtain ⟨x0, x1, x2, x3, x4, fx⟩ := HPSw1.out.facts
        go_wp2_with (fail)
        refine HC.out.mono ?_
        rintro e w2 ⟨rfl, hbb⟩
        have HPSw2 := Lib.hid (HPSw1.out.call hbb)
        have HSZw2 := Lib.hid (Nat.le_trans HSZw1.out hbb.size)
        clear hbb HC x0 x1 x2 x3 x4 fx
        have HC := Lib.hid (H2.out w2 HPSw2.out.z.below)
        obtain ⟨x0, x1, x2, x3, x4, fx⟩ := HPSw2.out.facts
        go_wp2_with (fail)
        refine HC.out.mono ?_
        rintro e w3 ⟨rfl, hbb⟩
        have HPSw3 := Lib.hid (HPSw2.out.call hbb)
        have HSZw3 := Lib.hid (Nat.le_trans HSZw2.out hbb.size)
        clear hbb HC x0 x1 x2 x3 x4 fx
        have HC := Lib.hid (H3.out w3 HPSw3.out.z.below)
        obtain ⟨x0, x1, x2, x3, x4, fx⟩ := HPSw3.out.facts
        go_wp2_with (fail)
        refine HC.out.mono ?_
        rintro e w4 ⟨rfl, hbb⟩
        have HPSw4 := Lib.hid (HPSw3.out.call hbb)
        have HSZw4 := Lib.hid (Nat.le_trans HSZw3.out hbb.size)
        clear hbb HC x0 x1 x2 x3 x4 fx
        have hres : res = Rl.flow l lab ⟨p, d, out⟩ := HRES.out
        rw [Rl.flow_bnd] at hres
        obtain ⟨g1, g2, g3⟩ := HGL.out ⟨p, d, out⟩ hp rfl ho
        obtain ⟨r1, hr1⟩ : ∃ r1, lab ⟨p, d, out⟩ = r1 := ⟨_, rfl⟩
        rw [hr1] at hres g1 g2 g3
        have hbl := HPSw4.out.z.below
        have htv0 : TV (w.heap.size + 2) S A l.length c (⟨p, d, out⟩, 0) w4 (.agg #[.slice A l.length c, .int .i64 p, .slice A2 out.length c2, .int .i64 d, .int .i64 0]) :=
          ⟨A2, out.length, c2, d, rfl, fun _ => ⟨rfl, rfl, ⟨(H.out.below hbl).row, (H.out.below hbl).cap, (H.out.below hbl).nil, fun ad e => ⟨.inl ((H.out.below hbl).side ad e), (H.out.below hbl).lt _ ((H.out.below hbl).side ad e)⟩, fun k hk => hk.2⟩⟩⟩
        have hc1 := row_tv (w0 := w) (r := (⟨p, d, out⟩, 0)) HRL.out hbl htv0 HSZw4.out ((HT.out.below hbl).more hbl.size) hp (fun _ => ⟨rfl, ho⟩)
        have e1 : Rl.bnd ((⟨p, d, out⟩, 0) : Rl.Res) lab = r1 := by rw [← hr1]; rfl
        rw [e1] at hc1
        obtain ⟨r2, hr2⟩ : ∃ r2, Rl.bnd r1 (Rl.must l Rl.wFlows) = r2 := ⟨_, rfl⟩
        have k1 : r2.1.pos < l.length ∧ (r2.2 = 0 → r2.1.deep = d ∧ r2.1.out.length ≤ 40) := by
          rw [← hr2]
          unfold Rl.bnd
          by_cases h0 : r1.2 = 0
          · rw [if_pos h0]
            unfold Rl.must
            by_cases hn : Rl.isN l r1.1.pos Rl.wFlows = true
            · rw [if_pos hn]
              exact ⟨Rl.isN_lt he hn, fun _ => ⟨(g3 h0).1, g2⟩⟩
            · rw [if_neg hn]
              exact ⟨g1, fun h => by cases h⟩
          · rw [if_neg h0]
            exact ⟨g1, fun h => absurd h h0⟩
        obtain ⟨r3, hr3⟩ : ∃ r3, Rl.bnd r2 lab = r3 := ⟨_, rfl⟩
        have k2 : r3.2 = 0 → r3.1.out.length ≤ 40 := by
          rw [← hr3]
          unfold Rl.bnd
          by_cases h0 : r2.2 = 0
          · rw [if_pos h0]
            exact fun _ => (HGL.out r2.1 k1.1 (k1.2 h0).1 (k1.2 h0).2).2.1
          · rw [if_neg h0]
            exact fun h => absurd h h0
        rw [hr2, hr3] at hres
        have HRS := Lib.hid hres
        have HR2 := Lib.hid hr2
        have HR3 := Lib.hid hr3
        have K1 := Lib.hid k1
        have K2 := Lib.hid k2
        have G1 := Lib.hid g1
        have HC1 := Lib.hid hc1
        obtain ⟨x0, x1, x2, x3, x4, fx⟩ := HPSw4.out.facts
        clear hres hr2 hr3 k1 k2 g1 g2 g3 hr1 e1 htv0 hc1 hbl
        go_wp2_with (fail)
        refine HC1.out.mono ?_
        rintro e wa ⟨v1, rfl, htv1, hbb⟩
        have HPSwa := Lib.hid (HPSw4.out.call hbb)
        have HSZwa := Lib.hid (Nat.le_trans HSZw4.out hbb.size)
        have hbl := HPSwa.out.z.below
        have hc2 := must_tv Rl.wFlows htv1 HSZwa.out ((HT.out.below hbl).more hbl.size) he hl G1.out
        rw [HR2.out] at hc2
        have HC2 := Lib.hid hc2
        obtain ⟨B1, n1, e1, d1, rfl, -⟩ := htv1
        clear hbb hbl hc2 HC1 x0 x1 x2 x3 x4 fx
        go_wp2_with (fail)
        refine HC2.out.mono ?_
        rintro e wb ⟨v2, rfl, htv2, hbb⟩
        have hpsb := HPSwa.out.call hbb
        have hszb := Nat.le_trans HSZwa.out hbb.size
        obtain ⟨B2, n2, e2, d2, rfl, -⟩ := id htv2
        obtain ⟨⟨x0, x1, x2, x3, x4⟩, f0, f1, f2, f3, f4⟩ := hpsb.all
        have hs := hpsb.setAll (.slice A l.length c) (.slice B2 n2 e2) (r2.1.pos : Nat) d2 (r2.2 : Nat)
        obtain ⟨wc, hwc⟩ : ∃ wc, (((((wb.setCell ⟨w.heap.size, 0, none⟩ (.slice A l.length c)).setCell ⟨w.heap.size, 1, none⟩ (.int .i64 (r2.1.pos : Nat))).setCell ⟨w.heap.size, 2, none⟩ (.slice B2 n2 e2)).setCell ⟨w.heap.size, 3, none⟩ (.int .i64 d2)).setCell ⟨w.heap.size, 4, none⟩ (.int .i64 (r2.2 : Nat))) = wc := ⟨_, rfl⟩
        rw [hwc] at hs
        have hk5 : (∀ k, k ≠ w.heap.size → wc.heap[k]? = wb.heap[k]?) ∧ wc.heap.size = wb.heap.size := by rw [← hwc]; exact ⟨fun k hk => heap_set5 _ _ _ _ _ _ _ _ hk, size_set5 _ _ _ _ _ _ _⟩
        have htv3 := htv2.keep hk5 (fun k hk => by
          rcases hk with h1 | h1
          · have := H.out.lt k h1; omega
          · omega)
        have HPSwc := Lib.hid hs
        have HSZwc := Lib.hid (show w.heap.size + 2 ≤ wc.heap.size by rw [hk5.2]; exact hszb)
        have hbl := hs.z.below
        have hc3 := row_tv (w0 := w) HRL.out hbl htv3 HSZwc.out ((HT.out.below hbl).more hbl.size) K1.out.1 K1.out.2
        rw [HR3.out] at hc3
        have HC3 := Lib.hid hc3
        clear hbb hbl hc3 HC2 htv3 htv2 hk5 hs hpsb hszb
        go_upto_region 8 with (fail)
        clear x0 x1 x2 x3 x4 f0 f1 f2 f3 f4
        obtain ⟨x0, x1, x2, x3, x4, fx⟩ := HPSwc.out.facts
        go_wp2_with (fail)
        refine HC3.out.mono ?_
        rintro e wd ⟨v3, rfl, htv3, hbb⟩
        have HPSwd := Lib.hid (HPSwc.out.call hbb)
        have HSZwd := Lib.hid (Nat.le_trans HSZwc.out hbb.size)
        have hc4 := put_tv 5 htv3 HSZwd.out K2.out
        rw [← HRS.out] at hc4
        have HC4 := Lib.hid hc4
        obtain ⟨B3, n3, e3, d3, rfl, -⟩ := htv3
        clear hbb hc4 HC3 x0 x1 x2 x3 x4 fx
        go_wp2_with (fail)
        refine HC4.out.mono ?_
        rintro e we ⟨v4, rfl, htv4, hbb⟩
        have HPSwe := Lib.hid (HPSwd.out.call hbb)
        obtain ⟨A4, m4, c4, d4, rfl, -⟩ := id htv4
        have HTV := Lib.hid htv4
        clear hbb HC4 htv4
        obtain ⟨z0, z1, z2, z3, z4, y0, y1, y2, y3, y4⟩ := HPSwe.out.z.facts
        go_wp2
        obtain ⟨q0, q1, q2, q3, q4, rB⟩ := HPSwe.out.z.set_ (.slice A l.length c) (.slice A4 m4 c4) (res.1.pos : Nat) d4 (res.2 : Nat)
        have RB := Lib.hid rB
        clear rB
        exact bodyPost_ret (v := .agg #[.slice A l.length c, .int .i64 (res.1.pos : Nat), .slice A4 m4 c4, .int .i64 d4, .int .i64 (res.2 : Nat)]) (by simp [results, Tryz.results120, go_sem, q0, q1, q2, q3, q4]) rfl
          (TV.end_ HTV.out H.out.lt ⟨fun k hk => heap_set5 _ _ _ _ _ _ _ _ hk, size_set5 _ _ _ _ _ _ _⟩ RB.out)
      · have HC := Lib.hid (H1.out w1 HPSw1.out.z.below)
        obtain ⟨x0, x1, x2, x3, x4, fx⟩ := HPSw1.out.facts
        go_wp2_with (fail)
        refine HC.out.mono ?_
        rintro e w2 ⟨rfl, hbb⟩
        have HPSw2 := Lib.hid (HPSw1.out.call hbb)
        have HSZw2 := Lib.hid (Nat.le_trans HSZw1.out hbb.size)
        clear hbb HC x0 x1 x2 x3 x4 fx
        have HC := Lib.hid (H2.out w2 HPSw2.out.z.below)
        obtain ⟨x0, x1, x2, x3, x4, fx⟩ := HPSw2.out.facts
        go_wp2_with (fail)
        refine HC.out.mono ?_
        rintro e w3 ⟨rfl, hbb⟩
        have HPSw3 := Lib.hid (HPSw2.out.call hbb)
        have HSZw3 := Lib.hid (Nat.le_trans HSZw2.out hbb.size)
        clear hbb HC x0 x1 x2 x3 x4 fx
        have HC := Lib.hid (H3.out w3 HPSw3.out.z.below)
        obtain ⟨x0, x1, x2, x3, x4, fx⟩ := HPSw3.out.facts
        go_wp2_with (fail)
        refine HC.out.mono ?_
        rintro e w4 ⟨rfl, hbb⟩
        have HPSw4 := Lib.hid (HPSw3.out.call hbb)
        have HSZw4 := Lib.hid (Nat.le_trans HSZw3.out hbb.size)
        clear hbb HC x0 x1 x2 x3 x4 fx
        have hres : res = Rl.inside l cnd Rl.wShut ⟨p, d, out⟩ := HRES.out
        have hbl := HPSw4.out.z.below
        have hin := rinside_any (A := A) (c := c) (sort := false) (part := cnd) 0 Rl.wOpen Rl.wShut ⟨p, d, out⟩ w4 ((HT.out.below hbl).more hbl.size) he hl (H.out.below hbl) ho hd HB3.out HGC.out
          (fun hd2 s' S' B2 e2 W hbW hp' hd' ho' hi' => HRC.out hd2 s' S' B2 e2 W (hbl.trans (hbW.mono hbl.size)) hp' hd' ho' hi')
        rw [← hres] at hin
        have HIN := Lib.hid hin
        obtain ⟨x0, x1, x2, x3, x4, fx⟩ := HPSw4.out.facts
        clear hin hres hbl
        go_wp2_with (fail)
        refine HIN.out.mono ?_
        rintro e w4a ⟨A4, m4, c4, d4, rfl, hok, hbb⟩
        have HPSw4a := Lib.hid (HPSw4.out.call hbb)
        have HOK := Lib.hid hok
        clear hok hbb HIN x0 x1 x2 x3 x4 fx
        obtain ⟨z0, z1, z2, z3, z4, y0, y1, y2, y3, y4⟩ := HPSw4a.out.z.facts
        go_wp2
        obtain ⟨q0, q1, q2, q3, q4, rB⟩ := HPSw4a.out.z.set_ (.slice A l.length c) (.slice A4 m4 c4) (res.1.pos : Nat) d4 (res.2 : Nat)
        have RB := Lib.hid rB
        clear rB
        exact bodyPost_ret (v := .agg #[.slice A l.length c, .int .i64 (res.1.pos : Nat), .slice A4 m4 c4, .int .i64 d4, .int .i64 (res.2 : Nat)]) (by simp [results, Tryz.results120, go_sem, q0, q1, q2, q3, q4]) rfl
          (RTold.stored HSZw4.out HOK.out H.out.lt ⟨fun k hk => heap_set5 _ _ _ _ _ _ _ _ hk, size_set5 _ _ _ _ _ _ _⟩ RB.out)
    · have HC := Lib.hid (H1.out w1 HPSw1.out.z.below)
      obtain ⟨x0, x1, x2, x3, x4, fx⟩ := HPSw1.out.facts
      go_wp2_with (fail)
      refine HC.out.mono ?_
      rintro e w2 ⟨rfl, hbb⟩
      have HPSw2 := Lib.hid (HPSw1.out.call hbb)
      have HSZw2 := Lib.hid (Nat.le_trans HSZw1.out hbb.size)
      clear hbb HC x0 x1 x2 x3 x4 fx
      have HC := Lib.hid (H2.out w2 HPSw2.out.z.below)
      obtain ⟨x0, x1, x2, x3, x4, fx⟩ := HPSw2.out.facts
      go_wp2_with (fail)
      refine HC.out.mono ?_
      rintro e w3 ⟨rfl, hbb⟩
      have HPSw3 := Lib.hid (HPSw2.out.call hbb)
      have HSZw3 := Lib.hid (Nat.le_trans HSZw2.out hbb.size)
      clear hbb HC x0 x1 x2 x3 x4 fx
      have hres : res = Rl.put 2 (Rl.adv ⟨p, d, out⟩) := HRES.out
      have hlt := Rl.isN_lt he HB2.out
      have HN := Lib.hid (HNX.out w3 hlt)
      have HRS := Lib.hid hres
      obtain ⟨x0, x1, x2, x3, x4, fx⟩ := HPSw3.out.facts
      clear hres hlt
      go_wp2_with (fail)
      refine HN.out.mono ?_
      rintro e w3a ⟨rfl, hbb⟩
      have HPSw3a := Lib.hid (HPSw3.out.call hbb)
      have HSZw3a := Lib.hid (Nat.le_trans HSZw3.out hbb.size)
      have hpt := rput_any (A := A) (c := c) l.length (Rl.adv ⟨p, d, out⟩) 2 w3a (H.out.below HPSw3a.out.z.below) ho
      rw [← HRS.out] at hpt
      have hpt2 : Calls Tryz.prog 99 #[.agg #[.slice A l.length c, .int .i64 ((p : Int) + 1), .slice A2 out.length c2, .int .i64 d, .int .i64 0], .int .i64 2] w3a (RTold w3a S A l.length c res) := hpt
      have HPT := Lib.hid hpt2
      clear hpt hpt2 hbb HN x0 x1 x2 x3 x4 fx
      go_wp2_with (fail)
      refine HPT.out.mono ?_
      rintro e w3b ⟨A4, m4, c4, d4, rfl, hok, hbb⟩
      have HPSw3b := Lib.hid (HPSw3a.out.call hbb)
      have HOK := Lib.hid hok
      clear hok hbb HPT
      obtain ⟨z0, z1, z2, z3, z4, y0, y1, y2, y3, y4⟩ := HPSw3b.out.z.facts
      go_wp2
      obtain ⟨q0, q1, q2, q3, q4, rB⟩ := HPSw3b.out.z.set_ (.slice A l.length c) (.slice A4 m4 c4) (res.1.pos : Nat) d4 (res.2 : Nat)
      have RB := Lib.hid rB
      clear rB
      exact bodyPost_ret (v := .agg #[.slice A l.length c, .int .i64 (res.1.pos : Nat), .slice A4 m4 c4, .int .i64 d4, .int .i64 (res.2 : Nat)]) (by simp [results, Tryz.results120, go_sem, q0, q1, q2, q3, q4]) rfl
        (RTold.stored HSZw3a.out HOK.out H.out.lt ⟨fun k hk => heap_set5 _ _ _ _ _ _ _ _ hk, size_set5 _ _ _ _ _ _ _⟩ RB.out)
  · have HC := Lib.hid (H1.out w1 HPSw1.out.z.below)
    obtain ⟨x0, x1, x2, x3, x4, fx⟩ := HPSw1.out.facts
    go_wp2_with (fail)
    refine HC.out.mono ?_
    rintro e w2 ⟨rfl, hbb⟩
    have HPSw2 := Lib.hid (HPSw1.out.call hbb)
    have HSZw2 := Lib.hid (Nat.le_trans HSZw1.out hbb.size)
    clear hbb HC x0 x1 x2 x3 x4 fx
    have hres : res = Rl.put 1 (Rl.adv ⟨p, d, out⟩) := HRES.out
    have hlt := Rl.isN_lt he HB1.out
    have HN := Lib.hid (HNX.out w2 hlt)
    have HRS := Lib.hid hres
    obtain ⟨x0, x1, x2, x3, x4, fx⟩ := HPSw2.out.facts
    clear hres hlt
    go_wp2_with (fail)
    refine HN.out.mono ?_
    rintro e w2a ⟨rfl, hbb⟩
    have HPSw2a := Lib.hid (HPSw2.out.call hbb)
    have HSZw2a := Lib.hid (Nat.le_trans HSZw2.out hbb.size)
    have hpt := rput_any (A := A) (c := c) l.length (Rl.adv ⟨p, d, out⟩) 1 w2a (H.out.below HPSw2a.out.z.below) ho
    rw [← HRS.out] at hpt
    have hpt2 : Calls Tryz.prog 99 #[.agg #[.slice A l.length c, .int .i64 ((p : Int) + 1), .slice A2 out.length c2, .int .i64 d, .int .i64 0], .int .i64 1] w2a (RTold w2a S A l.length c res) := hpt
    have HPT := Lib.hid hpt2
    clear hpt hpt2 hbb HN x0 x1 x2 x3 x4 fx
    go_wp2_with (fail)
    refine HPT.out.mono ?_
    rintro e w2b ⟨A4, m4, c4, d4, rfl, hok, hbb⟩
    have HPSw2b := Lib.hid (HPSw2a.out.call hbb)
    have HOK := Lib.hid hok
    clear hok hbb HPT
    obtain ⟨z0, z1, z2, z3, z4, y0, y1, y2, y3, y4⟩ := HPSw2b.out.z.facts
    go_wp2
    obtain ⟨q0, q1, q2, q3, q4, rB⟩ := HPSw2b.out.z.set_ (.slice A l.length c) (.slice A4 m4 c4) (res.1.pos : Nat) d4 (res.2 : Nat)
    have RB := Lib.hid rB
    clear rB
    exact bodyPost_ret (v := .agg #[.slice A l.length c, .int .i64 (res.1.pos : Nat), .slice A4 m4 c4, .int .i64 d4, .int .i64 (res.2 : Nat)]) (by simp [results, Tryz.results120, go_sem, q0, q1, q2, q3, q4]) rfl
      (RTold.stored HSZw2a.out HOK.out H.out.lt ⟨fun k hk => heap_set5 _ _ _ _ _ _ _ _ hk, size_set5 _ _ _ _ _ _ _⟩ RB.out)
end
end Go.Proofs.YtggcmkpafpjnoaaGreatDoor

/- The reference's rows by their depth; and its From. -/
namespace Go.Proofs.YtggcmkpafpjnoaaGreatDoor
set_option maxRecDepth 100000
open Go.RowKit Go.Shelf
attribute [local go_sem] Oper.semAt_some

theorem blk5_facts {W : World} {g : Nat} {t : TypeId} {v0 v1 v2 v3 v4 : Value} (h : Blk W g t #[v0, v1, v2, v3, v4]) : (W.cell? ⟨g, 0, none⟩ = some v0 ∧ W.cell? ⟨g, 1, none⟩ = some v1 ∧ W.cell? ⟨g, 2, none⟩ = some v2 ∧ W.cell? ⟨g, 3, none⟩ = some v3 ∧ W.cell? ⟨g, 4, none⟩ = some v4) ∧
    (W.frozen? ⟨g, 0, none⟩ = false ∧ W.frozen? ⟨g, 1, none⟩ = false ∧ W.frozen? ⟨g, 2, none⟩ = false ∧ W.frozen? ⟨g, 3, none⟩ = false ∧ W.frozen? ⟨g, 4, none⟩ = false) :=
  ⟨⟨by rw [h.cell]; rfl, by rw [h.cell]; rfl, by rw [h.cell]; rfl, by rw [h.cell]; rfl, by rw [h.cell]; rfl⟩, h.frozen _, h.frozen _, h.frozen _, h.frozen _, h.frozen _⟩
theorem blk5_set {W : World} {g : Nat} {t : TypeId} {v0 v1 v2 v3 v4 : Value} (h : Blk W g t #[v0, v1, v2, v3, v4]) (u0 u1 u2 u3 u4 : Value) : Blk (((((W.setCell ⟨g, 0, none⟩ u0).setCell ⟨g, 1, none⟩ u1).setCell ⟨g, 2, none⟩ u2).setCell ⟨g, 3, none⟩ u3).setCell ⟨g, 4, none⟩ u4) g t #[u0, u1, u2, u3, u4] :=
  ((((h.set_ 0 _).set_ 1 _).set_ 2 _).set_ 3 _).set_ 4 _
section
variable {A : Option Addr} {l : List Lx.Tk} {c : Nat} {w0 : World}
theorem RowOk.up {t : Int} {part : Rl.St → Rl.Res} {o : Nat} {W : World} (h : RowOk w0 A l c t part o) (hb : Below w0.heap.size w0 W) : RowOk W A l c t part o := fun s S A2 c2 W' hb' => h s S A2 c2 W' (hb.trans (hb'.mono hb.size))
theorem OneOk.up {t : Int} {part : Rl.St → Rl.Res} {o : Nat} {W : World} (h : OneOk w0 A l c t part o) (hb : Below w0.heap.size w0 W) : OneOk W A l c t part o := fun s S A2 c2 W' hb' => h s S A2 c2 W' (hb.trans (hb'.mono hb.size))
theorem Row.up {W : World} {xs : List Value} (ht : Row w0 w0.heap.size A xs) (hb : Below w0.heap.size w0 W) : Row W W.heap.size A xs := (ht.below hb).more hb.size
theorem rows_last (part : Rl.St → Rl.Res) (wd : ByteArray) : Rl.rows l part [wd] = fun s => if (part s).2 = 0 then Rl.loop l part wd l.length (part s).1 else part s := rfl
theorem rows_first (part : Rl.St → Rl.Res) (w1 w2 : ByteArray) : Rl.rows l part [w1, w2] = fun s => if (Rl.rows l part [w2] s).2 = 0 then Rl.loop l (Rl.rows l part [w2]) w1 l.length (Rl.rows l part [w2] s).1 else Rl.rows l part [w2] s := rfl
theorem label_row {o : Nat} {part : Rl.St → Rl.Res} (ht : Row w0 w0.heap.size A (tcells l)) (he : Rl.Ends l) (hl : l.length ≤ 1000000) (hg : Rl.Good l o true part)
    (h : ∀ (s : Rl.St) (S : Nat → Prop) (A2 : Option Addr) (c2 : Nat) (W : World), Below w0.heap.size w0 W → s.pos < l.length → s.deep = o → s.out.length ≤ 40 → RIn W S A2 c2 s.out → Calls Tryz.prog 121 #[.agg #[.slice A l.length c, .int .i64 s.pos, .slice A2 s.out.length c2, .int .i64 s.deep, .int .i64 0]] W (RTold W S A l.length c (part s))) :
    RowOk w0 A l c 2 (Rl.rows l part [Rl.wJoin, Rl.wMeet]) o := by
  have h3 := one_atom h
  have r3 : RowOk w0 A l c 3 (Rl.rows l part [Rl.wMeet]) o := fun s S A2 c2 W hb hp hd ho hi => rrow_meet true s W (Row.up ht hb) he hl hp hd ho hi hg Rl.step_meet (h3.up hb)
  have hg2 := Rl.rows_good he hg [Rl.wMeet] (fun w hw => by simp only [List.mem_singleton] at hw; subst hw; exact Rl.step_meet)
  have h2 := one_label r3
  exact fun s S A2 c2 W hb hp hd ho hi => rrow_join true s W (Row.up ht hb) he hl hp hd ho hi hg2 Rl.step_join (h2.up hb)
theorem cond_row {o : Nat} {part : Rl.St → Rl.Res} (ht : Row w0 w0.heap.size A (tcells l)) (he : Rl.Ends l) (hl : l.length ≤ 1000000) (hg : Rl.Good l o false part)
    (h : ∀ (s : Rl.St) (S : Nat → Prop) (A2 : Option Addr) (c2 : Nat) (W : World), Below w0.heap.size w0 W → s.pos < l.length → s.deep = o → s.out.length ≤ 40 → RIn W S A2 c2 s.out → Calls Tryz.prog 120 #[.agg #[.slice A l.length c, .int .i64 s.pos, .slice A2 s.out.length c2, .int .i64 s.deep, .int .i64 0]] W (RTold W S A l.length c (part s))) :
    RowOk w0 A l c 0 (Rl.rows l part [Rl.wOr, Rl.wAnd]) o := by
  have h3 := one_prim h
  have r3 : RowOk w0 A l c 1 (Rl.rows l part [Rl.wAnd]) o := fun s S A2 c2 W hb hp hd ho hi => rrow_and false s W (Row.up ht hb) he hl hp hd ho hi hg Rl.step_and (h3.up hb)
  have hg2 := Rl.rows_good he hg [Rl.wAnd] (fun w hw => by simp only [List.mem_singleton] at hw; subst hw; exact Rl.step_and)
  have h2 := one_cond r3
  exact fun s S A2 c2 W hb hp hd ho hi => rrow_or false s W (Row.up ht hb) he hl hp hd ho hi hg2 Rl.step_or (h2.up hb)
theorem rlabel_all (ht : Row w0 w0.heap.size A (tcells l)) (he : Rl.Ends l) (hl : l.length ≤ 1000000) : ∀ (d o : Nat), o + d = 12 → RowOk w0 A l c 2 (Rl.label l (d + 1)) o
  | 0, o, h => label_row ht he hl (Rl.atom_good he (by omega) fun h2 => absurd h2 (by omega)) fun s S A2 c2 W hb hp hd ho hi =>
      ratom_any s W (Row.up ht hb) he hl hp hi ho (by omega) (fun h2 => absurd h2 (by omega)) fun h2 => absurd h2 (by omega)
  | d + 1, o, h => label_row ht he hl (Rl.atom_good he (by omega) fun _ => Rl.label_good he d (o + 1) (by omega)) fun s S A2 c2 W hb hp hd ho hi =>
      ratom_any s W (Row.up ht hb) he hl hp hi ho (by omega) (fun _ => Rl.label_good he d _ (by omega)) fun _ => (rlabel_all ht he hl d _ (by omega)).up hb
theorem rcond_all (ht : Row w0 w0.heap.size A (tcells l)) (he : Rl.Ends l) (hl : l.length ≤ 1000000) : ∀ (d o : Nat), o + d = 12 → RowOk w0 A l c 0 (Rl.cond l (d + 1)) o
  | 0, o, h => cond_row ht he hl (Rl.prim_good he (by omega) (fun h2 => absurd h2 (by omega)) (Rl.label_good he 0 o h)) fun s S A2 c2 W hb hp hd ho hi =>
      rprim_any s W (Row.up ht hb) he hl hp hi ho (by omega) (fun h2 => absurd h2 (by omega)) (fun h2 => absurd h2 (by omega)) (hd ▸ Rl.label_good he 0 o h) ((hd ▸ rlabel_all ht he hl 0 o h).up hb)
  | d + 1, o, h => cond_row ht he hl (Rl.prim_good he (by omega) (fun _ => Rl.cond_good he d (o + 1) (by omega)) (Rl.label_good he (d + 1) o h)) fun s S A2 c2 W hb hp hd ho hi =>
      rprim_any s W (Row.up ht hb) he hl hp hi ho (by omega) (fun _ => Rl.cond_good he d _ (by omega)) (fun _ => (rcond_all ht he hl d _ (by omega)).up hb) (hd ▸ Rl.label_good he (d + 1) o h) ((hd ▸ rlabel_all ht he hl (d + 1) o h).up hb)
set_option maxHeartbeats 4000000 in
theorem rFrom_any {w : World} (i : Nat) (lab : Bool) (ht : Row w w.heap.size A (tcells l)) (he : Rl.Ends l) (hl : l.length ≤ 1000000) (hi : i < l.length) :
    Calls Tryz.prog 52 #[.slice A l.length c, .int .i64 i, .bool lab] w (RTold w (fun _ => False) A l.length c (Rl.read l lab i)) := by
  have hbw : Below w.heap.size w ((w.alloc (.cells #[.slice none 0 0, .int .i64 0, .slice none 0 0, .int .i64 0, .int .i64 0] 107)).alloc (.cells #[.slice A l.length c, .int .i64 i, .slice none 0 0, .int .i64 0, .int .i64 0] 107)) := ((Below.refl _ w).alloc (Nat.le_refl _) _).alloc (by simp) _
  have hrin : RIn ((w.alloc (.cells #[.slice none 0 0, .int .i64 0, .slice none 0 0, .int .i64 0, .int .i64 0] 107)).alloc (.cells #[.slice A l.length c, .int .i64 i, .slice none 0 0, .int .i64 0, .int .i64 0] 107)) (fun _ => False) none 0 [] := ⟨Row.nil, Nat.le_refl _, fun _ => ⟨rfl, rfl⟩, fun ad e => (by cases e), fun k hk => hk.elim⟩
  have h1 := rlabel_all (c := c) ht he hl 12 0 rfl ⟨i, 0, []⟩ _ none 0 _ hbw hi rfl (by simp) hrin
  have h2 := rcond_all (c := c) ht he hl 12 0 rfl ⟨i, 0, []⟩ _ none 0 _ hbw hi rfl (by simp) hrin
  obtain ⟨res, hres⟩ : ∃ res, Rl.read l lab i = res := ⟨_, rfl⟩
  rw [hres]
  have hfin : ∀ (w1 : World) (A2 : Option Addr) (m c2 : Nat) (d : Int), (res.2 = 0 → d = res.1.deep ∧ m = res.1.out.length ∧ ROut ((w.alloc (.cells #[.slice none 0 0, .int .i64 0, .slice none 0 0, .int .i64 0, .int .i64 0] 107)).alloc (.cells #[.slice A l.length c, .int .i64 i, .slice none 0 0, .int .i64 0, .int .i64 0] 107)) (fun _ => False) w1 A2 c2 res.1.out) →
      Below ((w.alloc (.cells #[.slice none 0 0, .int .i64 0, .slice none 0 0, .int .i64 0, .int .i64 0] 107)).alloc (.cells #[.slice A l.length c, .int .i64 i, .slice none 0 0, .int .i64 0, .int .i64 0] 107)).heap.size ((w.alloc (.cells #[.slice none 0 0, .int .i64 0, .slice none 0 0, .int .i64 0, .int .i64 0] 107)).alloc (.cells #[.slice A l.length c, .int .i64 i, .slice none 0 0, .int .i64 0, .int .i64 0] 107)) w1 →
      RTold w (fun _ => False) A l.length c res (.returned (.agg #[.slice A l.length c, .int .i64 (res.1.pos : Nat), .slice A2 m c2, .int .i64 d, .int .i64 (res.2 : Nat)])) (((((w1.setCell ⟨w.heap.size, 0, none⟩ (.slice A l.length c)).setCell ⟨w.heap.size, 1, none⟩ (.int .i64 (res.1.pos : Nat))).setCell ⟨w.heap.size, 2, none⟩ (.slice A2 m c2)).setCell ⟨w.heap.size, 3, none⟩ (.int .i64 d)).setCell ⟨w.heap.size, 4, none⟩ (.int .i64 (res.2 : Nat))) := fun w1 A2 m c2 d hok hb1 => by
    refine ⟨_, _, _, _, rfl, fun h0 => ?_, ?_⟩
    · obtain ⟨k1, k2, k3⟩ := hok h0
      have hne : ∀ ad, A2 = some ad → ad.block ≠ w.heap.size ∧ w.heap.size ≤ ad.block := fun ad e => by
        rcases k3.side ad e with h | h
        · exact h.elim
        · simp at h; omega
      exact ⟨k1, k2, k3.row.kept_at (Nat.le_of_eq (size_set5 _ _ _ _ _ _ _).symm) (fun ad e => heap_set5 _ _ _ _ _ _ _ _ (hne ad e).1), k3.cap, k3.nil, fun ad e => .inr (hne ad e).2⟩
    · have hb2 := hbw.trans (hb1.mono hbw.size)
      exact ((((hb2.setCell (Nat.le_refl _) _).setCell (Nat.le_refl _) _).setCell (Nat.le_refl _) _).setCell (Nat.le_refl _) _).setCell (Nat.le_refl _) _
  have HFIN := Lib.hid hfin
  have hz : ∀ (w1 : World), Below ((w.alloc (.cells #[.slice none 0 0, .int .i64 0, .slice none 0 0, .int .i64 0, .int .i64 0] 107)).alloc (.cells #[.slice A l.length c, .int .i64 i, .slice none 0 0, .int .i64 0, .int .i64 0] 107)).heap.size ((w.alloc (.cells #[.slice none 0 0, .int .i64 0, .slice none 0 0, .int .i64 0, .int .i64 0] 107)).alloc (.cells #[.slice A l.length c, .int .i64 i, .slice none 0 0, .int .i64 0, .int .i64 0] 107)) w1 → Blk w1 w.heap.size 107 #[.slice none 0 0, .int .i64 0, .slice none 0 0, .int .i64 0, .int .i64 0] := fun w1 hb => ((Blk.new w 107 #[.slice none 0 0, .int .i64 0, .slice none 0 0, .int .i64 0, .int .i64 0]).alloc _).below hb (by simp; omega)
  have HZ := Lib.hid hz
  clear hz hfin hrin hbw ht he
  cases lab
  · have e : Rl.read l false i = Rl.cond l 13 ⟨i, 0, []⟩ := rfl
    rw [e] at hres
    rw [hres] at h2
    have HC := Lib.hid h2
    clear e h1 h2 hres
    go_enter Tryz.func52, Tryz.ntmps52
    go_wp2_with (fail)
    refine HC.out.mono ?_
    rintro e w1 ⟨A2, m, c2, d, rfl, hok, hb⟩
    have hzz := HZ.out w1 hb
    obtain ⟨⟨z0, z1, z2, z3, z4⟩, y0, y1, y2, y3, y4⟩ := blk5_facts hzz
    have HF := Lib.hid (HFIN.out w1 A2 m c2 d hok hb)
    have HZ1 := Lib.hid hzz
    clear hzz hok hb HC HZ HFIN
    go_wp2
    obtain ⟨q0, q1, q2, q3, q4⟩ := (blk5_facts (blk5_set HZ1.out (.slice A l.length c) (.int .i64 (res.1.pos : Nat)) (.slice A2 m c2) (.int .i64 d) (.int .i64 (res.2 : Nat)))).1
    exact bodyPost_ret (v := .agg #[.slice A l.length c, .int .i64 (res.1.pos : Nat), .slice A2 m c2, .int .i64 d, .int .i64 (res.2 : Nat)]) (by simp [results, Tryz.results52, go_sem, q0, q1, q2, q3, q4]) rfl HF.out
  · have e : Rl.read l true i = Rl.label l 13 ⟨i, 0, []⟩ := rfl
    rw [e] at hres
    rw [hres] at h1
    have HC := Lib.hid h1
    clear e h1 h2 hres
    go_enter Tryz.func52, Tryz.ntmps52
    go_wp2_with (fail)
    refine HC.out.mono ?_
    rintro e w1 ⟨A2, m, c2, d, rfl, hok, hb⟩
    have hzz := HZ.out w1 hb
    obtain ⟨⟨z0, z1, z2, z3, z4⟩, y0, y1, y2, y3, y4⟩ := blk5_facts hzz
    have HF := Lib.hid (HFIN.out w1 A2 m c2 d hok hb)
    have HZ1 := Lib.hid hzz
    clear hzz hok hb HC HZ HFIN
    go_wp2
    obtain ⟨q0, q1, q2, q3, q4⟩ := (blk5_facts (blk5_set HZ1.out (.slice A l.length c) (.int .i64 (res.1.pos : Nat)) (.slice A2 m c2) (.int .i64 d) (.int .i64 (res.2 : Nat)))).1
    exact bodyPost_ret (v := .agg #[.slice A l.length c, .int .i64 (res.1.pos : Nat), .slice A2 m c2, .int .i64 d, .int .i64 (res.2 : Nat)]) (by simp [results, Tryz.results52, go_sem, q0, q1, q2, q3, q4]) rfl HF.out
end
end Go.Proofs.YtggcmkpafpjnoaaGreatDoor
