/- The reference's inside. -/
import Derived.Deep.Cut
import Derived.Test.YtggcmkpafpjnoaaGreatDoorGRefB
namespace Go.Proofs.YtggcmkpafpjnoaaGreatDoor
set_option maxRecDepth 100000
open Go.RowKit Go.Shelf

section
variable {w W : World} {v1 v2 : Value} {p d e : Int}
theorem PS.setAll (h : PS w v1 v2 p d e W) (u1 u2 : Value) (p' d' e' : Int) : PS w u1 u2 p' d' e' (((((W.setCell ⟨w.heap.size, 0, none⟩ u1).setCell ⟨w.heap.size, 1, none⟩ (.int .i64 p')).setCell ⟨w.heap.size, 2, none⟩ u2).setCell ⟨w.heap.size, 3, none⟩ (.int .i64 d')).setCell ⟨w.heap.size, 4, none⟩ (.int .i64 e')) :=
  ⟨((((h.blk.set_ 0 _).set_ 1 _).set_ 2 _).set_ 3 _).set_ 4 _, ⟨((((h.z.blk.other (by simp) _).other (by simp) _).other (by simp) _).other (by simp) _).other (by simp) _,
    ((((h.z.below.setCell (p := ⟨w.heap.size, 0, none⟩) (Nat.le_refl _) _).setCell (p := ⟨w.heap.size, 1, none⟩) (Nat.le_refl _) _).setCell (p := ⟨w.heap.size, 2, none⟩) (Nat.le_refl _) _).setCell (p := ⟨w.heap.size, 3, none⟩) (Nat.le_refl _) _).setCell (p := ⟨w.heap.size, 4, none⟩) (Nat.le_refl _) _⟩⟩
theorem PS.setDeep (h : PS w v1 v2 p d e W) (d' : Int) : PS w v1 v2 p d' e (W.setCell ⟨w.heap.size, 3, none⟩ (.int .i64 d')) :=
  ⟨h.blk.set_ 3 _, ⟨h.z.blk.other (by simp) _, h.z.below.setCell (p := ⟨w.heap.size, 3, none⟩) (Nat.le_refl _) _⟩⟩
theorem PS.all (h : PS w v1 v2 p d e W) : (W.cell? ⟨w.heap.size, 0, none⟩ = some v1 ∧ W.cell? ⟨w.heap.size, 1, none⟩ = some (.int .i64 p) ∧ W.cell? ⟨w.heap.size, 2, none⟩ = some v2 ∧ W.cell? ⟨w.heap.size, 3, none⟩ = some (.int .i64 d) ∧ W.cell? ⟨w.heap.size, 4, none⟩ = some (.int .i64 e)) ∧
    (W.frozen? ⟨w.heap.size, 0, none⟩ = false ∧ W.frozen? ⟨w.heap.size, 1, none⟩ = false ∧ W.frozen? ⟨w.heap.size, 2, none⟩ = false ∧ W.frozen? ⟨w.heap.size, 3, none⟩ = false ∧ W.frozen? ⟨w.heap.size, 4, none⟩ = false) :=
  ⟨⟨by rw [h.blk.cell]; rfl, by rw [h.blk.cell]; rfl, by rw [h.blk.cell]; rfl, by rw [h.blk.cell]; rfl, by rw [h.blk.cell]; rfl⟩, h.blk.frozen _, h.blk.frozen _, h.blk.frozen _, h.blk.frozen _, h.blk.frozen _⟩
end
theorem heap_set5 (W : World) (g k : Nat) (u1 u2 : Value) (p' d' e' : Int) (hk : k ≠ g) : (((((W.setCell ⟨g, 0, none⟩ u1).setCell ⟨g, 1, none⟩ (.int .i64 p')).setCell ⟨g, 2, none⟩ u2).setCell ⟨g, 3, none⟩ (.int .i64 d')).setCell ⟨g, 4, none⟩ (.int .i64 e')).heap[k]? = W.heap[k]? := by
  rw [Below.heap_setCell _ _ _ _ hk, Below.heap_setCell _ _ _ _ hk, Below.heap_setCell _ _ _ _ hk, Below.heap_setCell _ _ _ _ hk, Below.heap_setCell _ _ _ _ hk]
theorem size_set5 (W : World) (g : Nat) (u1 u2 : Value) (p' d' e' : Int) : (((((W.setCell ⟨g, 0, none⟩ u1).setCell ⟨g, 1, none⟩ (.int .i64 p')).setCell ⟨g, 2, none⟩ u2).setCell ⟨g, 3, none⟩ (.int .i64 d')).setCell ⟨g, 4, none⟩ (.int .i64 e')).heap.size = W.heap.size := by simp [World.setCell]
theorem Row.kept_at {w w' : World} {B B' : Nat} {A : Option Addr} {xs : List Value} (h : Row w B A xs) (hB : B ≤ B') (hk : ∀ ad, A = some ad → w'.heap[ad.block]? = w.heap[ad.block]?) : Row w' B' A xs := fun hn => by
  obtain ⟨ad, e, hb, hc⟩ := h hn
  exact ⟨ad, e, Nat.lt_of_lt_of_le hb hB, fun j u hu => (World.cell?_of_block (w := w) (by rw [add_block]; exact hk ad e)).trans (hc j u hu)⟩
theorem ROut.inside {w w' : World} {S : Nat → Prop} {A2 : Option Addr} {c2 : Nat} {x : List Int} (h : ROut w S w' A2 c2 x) : ∀ ad, A2 = some ad → ad.block < w'.heap.size := fun ad e => by
  by_cases hx : x = []
  · rw [(h.nil hx).1] at e
    cases e
  · obtain ⟨ad', e', hb, _⟩ := h.row (by intro e0; have h1 := ints_length x; rw [e0] at h1; exact hx (List.eq_nil_of_length_eq_zero h1.symm))
    rw [e] at e'
    injection e' with e'
    subst e'
    exact hb
/-- A row of a thing is read as a plain part, by whoever lies behind w0. -/
def RowOk (w0 : World) (A : Option Addr) (l : List Lx.Tk) (c : Nat) (thing : Int) (part : Rl.St → Rl.Res) (o : Nat) : Prop :=
  ∀ (s : Rl.St) (S : Nat → Prop) (A2 : Option Addr) (c2 : Nat) (W : World), Below w0.heap.size w0 W → s.pos < l.length → s.deep = o → s.out.length ≤ 40 → RIn W S A2 c2 s.out →
    Calls Tryz.prog 71 #[.agg #[.slice A l.length c, .int .i64 s.pos, .slice A2 s.out.length c2, .int .i64 s.deep, .int .i64 0], .int .i64 thing] W (RTold W S A l.length c (part s))
section
variable {A A2 : Option Addr} {c c2 : Nat} {l : List Lx.Tk} {S : Nat → Prop}
set_option maxHeartbeats 8000000 in
theorem rinside_any {sort : Bool} {part : Rl.St → Rl.Res} (thing : Int) (beg fin : ByteArray) (s : Rl.St) (w : World) (ht : Row w w.heap.size A (tcells l)) (he : Rl.Ends l) (hl : l.length ≤ 1000000) (h : RIn w S A2 c2 s.out) (ho : s.out.length ≤ 40) (hd : s.deep ≤ 12) (hb : Rl.isN l s.pos beg = true)
    (hg : s.deep < 12 → Rl.Good l (s.deep + 1) sort part) (hr : s.deep < 12 → RowOk w A l c thing part (s.deep + 1)) :
    Calls Tryz.prog 137 #[.agg #[.slice A l.length c, .int .i64 s.pos, .slice A2 s.out.length c2, .int .i64 s.deep, .int .i64 0], .int .i64 thing, .string fin] w (RTold w S A l.length c (Rl.inside l part fin s)) := by
  have hpl := Rl.isN_lt he hb
  obtain ⟨p, d, out⟩ := s
  dsimp only at h ho hd hb hg hr hpl ⊢
  have H := Lib.hid h
  have hb0 := (((Below.refl _ w).alloc (Nat.le_refl _) (.cells #[.slice A l.length c, .int .i64 p, .slice A2 out.length c2, .int .i64 d, .int .i64 0] 107)).alloc (by simp) (.cells #[.slice none 0 0, .int .i64 0, .slice none 0 0, .int .i64 0, .int .i64 0] 107))
  by_cases h12 : d = 12
  · subst h12
    have e : Rl.inside l part fin ⟨p, 12, out⟩ = (⟨p, 12, out⟩, 5) := by rw [Rl.inside, if_pos rfl]
    rw [e]
    have hf := fun W => fail_ok (A := A) (c := c) (p := p) (d := 12) (A2 := A2) (m := out.length) (c2 := c2) l.length 5 W
    have HF := Lib.hid hf
    clear hf hb0 h ht he hb hg hr e
    go_enter Tryz.func137, Tryz.ntmps137
    go_wp2_with (fail)
    refine (HF.out _).mono ?_
    rintro e w2 ⟨rfl, hb2⟩
    have hz := PZ.start w w2 _ hb2
    have HZ := Lib.hid hz
    obtain ⟨z0, z1, z2, z3, z4, y0, y1, y2, y3, y4⟩ := hz.facts
    clear hz hb2
    go_wp2
    obtain ⟨r0, r1, r2, r3, r4, rB⟩ := HZ.out.set_ (.slice A l.length c) (.slice A2 out.length c2) p 12 5
    have RB := Lib.hid rB
    clear rB
    exact bodyPost_ret (v := .agg #[.slice A l.length c, .int .i64 p, .slice A2 out.length c2, .int .i64 12, .int .i64 5]) (by simp [results, Tryz.results137, go_sem, r0, r1, r2, r3, r4]) rfl ⟨_, _, _, _, rfl, (fun h0 => by cases h0), RB.out⟩
  · have hd12 : d < 12 := by omega
    have hn12 : ((d : Int) == 12) = false := by rw [beq_eq_false_iff_ne]; omega
    have hG := hg hd12 (Rl.into ⟨p, d, out⟩) hpl rfl ho
    have hR := hr hd12
    have hf := fun W => next_ok (A := A) (c := c) (p := p) (d := (d : Int)) (A2 := A2) (m := out.length) (c2 := c2) l.length 0 W hpl hl
    have HF := Lib.hid hf
    have HR := Lib.hid hR
    have HT := Lib.hid ht
    have HE := Lib.hid he
    have e1 : Rl.inside l part fin ⟨p, d, out⟩ = if (part (Rl.into ⟨p, d, out⟩)).2 = 0 then (if Rl.isN l (part (Rl.into ⟨p, d, out⟩)).1.pos fin = true then (Rl.outof (part (Rl.into ⟨p, d, out⟩)).1, 0) else ((part (Rl.into ⟨p, d, out⟩)).1, 4)) else part (Rl.into ⟨p, d, out⟩) := by
      rw [Rl.inside, if_neg h12]
    obtain ⟨res, hres⟩ : ∃ res, Rl.inside l part fin ⟨p, d, out⟩ = res := ⟨_, rfl⟩
    obtain ⟨r, hrr⟩ : ∃ r, part (Rl.into ⟨p, d, out⟩) = r := ⟨_, rfl⟩
    rw [hres, hrr] at e1
    rw [hres]
    rw [hrr] at hG
    have HRR := Lib.hid hrr
    have HG := Lib.hid hG
    have HE1 := Lib.hid e1
    clear hf hb0 h ht he hb hg hr hG hR h12 e1 hres hrr
    go_enter Tryz.func137, Tryz.ntmps137
    go_wp2_with (fail)
    refine (HF.out _).mono ?_
    rintro e w1 ⟨rfl, hb1⟩
    have hps := PS.start w (.slice A l.length c) (.slice A2 out.length c2) p d 0 hb1
    have HPS := Lib.hid hps
    obtain ⟨⟨x0, x1, x2, x3, x4⟩, f0, f1, f2, f3, f4⟩ := hps.all
    clear hps hb1
    go_upto_region 4 with (fail)
    have hs := HPS.out.setAll (.slice A l.length c) (.slice A2 out.length c2) ((p : Int) + 1) d 0
    obtain ⟨W, hW⟩ : ∃ W, (((((w1.setCell ⟨w.heap.size, 0, none⟩ (.slice A l.length c)).setCell ⟨w.heap.size, 1, none⟩ (.int .i64 ((p : Int) + 1))).setCell ⟨w.heap.size, 2, none⟩ (.slice A2 out.length c2)).setCell ⟨w.heap.size, 3, none⟩ (.int .i64 d)).setCell ⟨w.heap.size, 4, none⟩ (.int .i64 0)) = W := ⟨_, rfl⟩
    rw [hW] at hs ⊢
    clear hW HPS
    clear x0 x1 x2 x3 x4 f0 f1 f2 f3 f4
    obtain ⟨⟨x0, x1, x2, x3, x4⟩, f0, f1, f2, f3, f4⟩ := hs.all
    have HS := Lib.hid hs
    clear hs
    go_upto_region 5 with (fail)
    have hs2 := HS.out.setDeep ((d : Int) + 1)
    obtain ⟨W2, hW⟩ : ∃ W2, W.setCell ⟨w.heap.size, 3, none⟩ (.int .i64 ((d : Int) + 1)) = W2 := ⟨_, rfl⟩
    rw [hW] at hs2 ⊢
    clear hW HS
    clear x0 x1 x2 x3 x4 f0 f1 f2 f3 f4
    obtain ⟨⟨x0, x1, x2, x3, x4⟩, f0, f1, f2, f3, f4⟩ := hs2.all
    have hcall : Calls Tryz.prog 71 #[.agg #[.slice A l.length c, .int .i64 ((p : Int) + 1), .slice A2 out.length c2, .int .i64 ((d : Int) + 1), .int .i64 0], .int .i64 thing] W2 (RTold W2 S A l.length c r) := by
      have h9 := HR.out (Rl.into ⟨p, d, out⟩) S A2 c2 W2 hs2.z.below hpl rfl ho (H.out.below hs2.z.below)
      rw [HRR.out] at h9
      exact h9
    have HCALL := Lib.hid hcall
    have HS2 := Lib.hid hs2
    have HZ2 := Lib.hid (show w.heap.size + 2 ≤ W2.heap.size by have := hs2.z.blk.lt; omega)
    clear hs2 hcall HR
    go_wp2_with (fail)
    refine HCALL.out.mono ?_
    rintro e w3 ⟨A3, m3, c3, d3, rfl, hok, hb3⟩
    have hs3 := HS2.out.call hb3
    have HOK := Lib.hid hok
    clear x0 x1 x2 x3 x4 f0 f1 f2 f3 f4
    obtain ⟨⟨x0, x1, x2, x3, x4⟩, f0, f1, f2, f3, f4⟩ := hs3.all
    have HS3 := Lib.hid hs3
    have HZ3 := Lib.hid hb3.size
    clear hs3 hok hb3 HS2 HCALL
    go_upto_region 6 with (fail)
    have hs4 := HS3.out.setAll (.slice A l.length c) (.slice A3 m3 c3) r.1.pos d3 r.2
    obtain ⟨W4, hW⟩ : ∃ W4, (((((w3.setCell ⟨w.heap.size, 0, none⟩ (.slice A l.length c)).setCell ⟨w.heap.size, 1, none⟩ (.int .i64 r.1.pos)).setCell ⟨w.heap.size, 2, none⟩ (.slice A3 m3 c3)).setCell ⟨w.heap.size, 3, none⟩ (.int .i64 d3)).setCell ⟨w.heap.size, 4, none⟩ (.int .i64 r.2)) = W4 := ⟨_, rfl⟩
    have hk4 : (∀ k, k ≠ w.heap.size → W4.heap[k]? = w3.heap[k]?) ∧ W4.heap.size = w3.heap.size := by rw [← hW]; exact ⟨fun k hk => heap_set5 _ _ _ _ _ _ _ _ hk, size_set5 _ _ _ _ _ _ _⟩
    have HK4 := Lib.hid hk4
    rw [hW] at hs4 ⊢
    clear hW hk4
    clear x0 x1 x2 x3 x4 f0 f1 f2 f3 f4
    obtain ⟨⟨x0, x1, x2, x3, x4⟩, f0, f1, f2, f3, f4⟩ := hs4.all
    have HS4 := Lib.hid hs4
    clear hs4
    go_upto_region 7 with (fail)
    obtain ⟨dd, hdd⟩ : ∃ dd, wrap64 (d3 - 1) = dd := ⟨_, rfl⟩
    rw [hdd]
    have hs5 := HS4.out.setDeep dd
    obtain ⟨W5, hW⟩ : ∃ W5, W4.setCell ⟨w.heap.size, 3, none⟩ (.int .i64 dd) = W5 := ⟨_, rfl⟩
    have hk5 : (∀ k, k ≠ w.heap.size → W5.heap[k]? = w3.heap[k]?) ∧ W5.heap.size = w3.heap.size := by
      rw [← hW]
      exact ⟨fun k hk => (Below.heap_setCell _ _ _ _ hk).trans (HK4.out.1 k hk), by have := HK4.out.2; simpa [World.setCell] using this⟩
    have HK5 := Lib.hid hk5
    rw [hW] at hs5 ⊢
    clear hW HS4 hk5 HK4
    clear x0 x1 x2 x3 x4 f0 f1 f2 f3 f4
    obtain ⟨⟨x0, x1, x2, x3, x4⟩, f0, f1, f2, f3, f4⟩ := hs5.all
    have HS5 := Lib.hid hs5
    clear hs5
    by_cases hr0 : r.2 = 0
    · obtain ⟨k1, k2, k3⟩ := HOK.out hr0
      obtain ⟨g1, g2, g3⟩ := HG.out
      obtain ⟨g4, -, -⟩ := g3 hr0
      have hdd2 : dd = (d : Int) := by
        rw [← hdd, k1, g4]
        unfold wrap64
        show ((((d + 1 : Nat) : Int) - 1 + 9223372036854775808) % 18446744073709551616 - 9223372036854775808 : Int) = d
        omega
      subst hdd2
      subst k2
      have hsz5 := HK5.out.2
      have hz2 := HZ2.out
      have hz3 := HZ3.out
      have hin : RIn W5 (fun k => (S k ∨ W2.heap.size ≤ k) ∧ k < W5.heap.size) A3 c3 r.1.out := by
        refine ⟨k3.row.kept_at (by omega) (fun ad e => HK5.out.1 _ ?_), k3.cap, k3.nil, fun ad e => ⟨k3.side ad e, ?_⟩, fun k hk => hk.2⟩
        · rcases k3.side ad e with h1 | h1
          · have := H.out.lt _ h1; omega
          · omega
        · have := k3.inside ad e; omega
      have hm0 := rmust_any (A := A) (c := c) fin ⟨r.1.pos, d, r.1.out⟩ W5 ((HT.out.below (HS5.out.z.below)).more HS5.out.z.below.size) HE.out hl g1 hin
      obtain ⟨mres, hmres⟩ : ∃ mres, Rl.must l fin ⟨r.1.pos, d, r.1.out⟩ = mres := ⟨_, rfl⟩
      have hm : Calls Tryz.prog 138 #[.agg #[.slice A l.length c, .int .i64 r.1.pos, .slice A3 r.1.out.length c3, .int .i64 d, .int .i64 r.2], .string fin] W5 (RTold W5 (fun k => (S k ∨ W2.heap.size ≤ k) ∧ k < W5.heap.size) A l.length c mres) := by
        rw [hr0, ← hmres]
        exact hm0
      have hpos : res.1.pos = mres.1.pos ∧ res.2 = mres.2 ∧ (mres.2 = 0 → res.1.deep = mres.1.deep ∧ res.1.out = mres.1.out) := by
        rw [HE1.out, if_pos hr0, ← hmres]
        unfold Rl.must
        dsimp only
        by_cases hn : Rl.isN l r.1.pos fin = true
        · rw [if_pos hn, if_pos hn]
          exact ⟨rfl, rfl, fun _ => ⟨by show r.1.deep - 1 = d; omega, rfl⟩⟩
        · rw [if_neg hn, if_neg hn]
          exact ⟨rfl, rfl, fun h0 => by cases h0⟩
      have HM := Lib.hid hm
      have HPOS := Lib.hid hpos
      have HIN := Lib.hid hin
      clear hm0 hm hpos hmres hin k1 k3 g1 g2 g3 g4 hsz5 hr0 hdd hz2 hz3
      go_wp2_with (fail)
      refine HM.out.mono ?_
      rintro e w6 ⟨A6, m6, c6, d6, rfl, hok6, hb6⟩
      have hs6 := HS5.out.call hb6
      have HOK6 := Lib.hid hok6
      have HZ6 := Lib.hid hb6.size
      clear x0 x1 x2 x3 x4 f0 f1 f2 f3 f4
      obtain ⟨z0, z1, z2, z3, z4, y0, y1, y2, y3, y4⟩ := hs6.z.facts
      have HS6 := Lib.hid hs6
      clear hs6 hok6 hb6 HM
      go_wp2
      obtain ⟨r0, r1, r2, r3, r4, rB⟩ := HS6.out.z.set_ (.slice A l.length c) (.slice A6 m6 c6) mres.1.pos d6 mres.2
      have RB := Lib.hid rB
      clear rB
      obtain ⟨p1, p2, p3⟩ := HPOS.out
      refine bodyPost_ret (v := .agg #[.slice A l.length c, .int .i64 mres.1.pos, .slice A6 m6 c6, .int .i64 d6, .int .i64 mres.2]) (by simp [results, Tryz.results137, go_sem, r0, r1, r2, r3, r4]) rfl ?_
      unfold RTold
      rw [p1, p2]
      refine ⟨_, _, _, _, rfl, fun h0 => ?_, RB.out⟩
      obtain ⟨q1, q2, q3⟩ := HOK6.out h0
      obtain ⟨p4, p5⟩ := p3 h0
      rw [p4, p5]
      have hz5 := HS5.out.z.blk.lt
      have hz6 := HZ6.out
      have hz2 := HZ2.out
      refine ⟨q1, q2, q3.row.kept_at (Nat.le_of_eq (size_set5 _ _ _ _ _ _ _).symm) (fun ad e => heap_set5 _ _ _ _ _ _ _ _ ?_), q3.cap, q3.nil, fun ad e => ?_⟩
      · rcases q3.side ad e with h1 | h1
        · rcases h1.1 with h2 | h2
          · have := H.out.lt _ h2; omega
          · omega
        · omega
      · rcases q3.side ad e with h1 | h1
        · rcases h1.1 with h2 | h2
          · exact .inl h2
          · exact .inr (by omega)
        · exact .inr (by omega)
    · have hm := fun W => must_err (A := A) (c := c) (p := r.1.pos) (d := dd) (A2 := A3) (m := m3) (c2 := c3) l.length r.2 fin hr0 W
      have HM := Lib.hid hm
      clear hm
      have hres : res = r := by rw [HE1.out, if_neg hr0]
      have HRES := Lib.hid hres
      have HR0 := Lib.hid hr0
      clear hres hr0
      go_wp2_with (fail)
      refine (HM.out W5).mono ?_
      rintro e w6 ⟨rfl, hb6⟩
      have hs6 := HS5.out.call hb6
      clear x0 x1 x2 x3 x4 f0 f1 f2 f3 f4
      obtain ⟨z0, z1, z2, z3, z4, y0, y1, y2, y3, y4⟩ := hs6.z.facts
      have HS6 := Lib.hid hs6
      clear hs6 hb6 HS5
      go_wp2
      obtain ⟨r0, r1, r2, r3, r4, rB⟩ := HS6.out.z.set_ (.slice A l.length c) (.slice A3 m3 c3) r.1.pos dd r.2
      have RB := Lib.hid rB
      clear rB
      rw [HRES.out]
      exact bodyPost_ret (v := .agg #[.slice A l.length c, .int .i64 r.1.pos, .slice A3 m3 c3, .int .i64 dd, .int .i64 r.2]) (by simp [results, Tryz.results137, go_sem, r0, r1, r2, r3, r4]) rfl ⟨_, _, _, _, rfl, (fun h0 => absurd h0 HR0.out), RB.out⟩
end
end Go.Proofs.YtggcmkpafpjnoaaGreatDoor
