/- The laws' boxes of layer 12. -/
import Derived.Test.YtlddglhjpiahfaaGEqvL
import Derived.Test.YtlddglhjpiahfaaGEqvC
import Derived.Test.YtlddglhjpiahfaaGStpR
import Derived.Test.YtlddglhjpiahfaaGFew
import Derived.Test.YtlddglhjpiahfaaGLawO
namespace Go.Proofs.Ytlddglhjpiahfaa
set_option maxRecDepth 100000
open Go.RowKit Go.Shelf Go.Sort
attribute [local go_sem] Oper.semAt_some
/-- What a law holds of its boxes: its lattice, its states, cut. -/
structure LW (w : World) (x0 x1 : Value) (names : List ByteArray) (up : List Nat) (L : List (Array Value)) (W : World) : Prop where
  lat : IsLat W W.heap.size (.agg #[x0, x1]) names up
  box : Blk W w.heap.size 25 #[x0, x1]
  sts : ∀ k cs, L[k]? = some cs → Blk W (w.heap.size + (k + 1)) 32 cs
  below : Below w.heap.size w W
theorem LW.next {w : World} {x0 x1 : Value} {names : List ByteArray} {up : List Nat} {L : List (Array Value)} {W W' : World} (h : LW w x0 x1 names up L W) (hb : Below W.heap.size W W') : LW w x0 x1 names up L W' :=
  ⟨(h.lat.below hb).more hb.size, h.box.below hb h.box.lt, fun k cs hk => (h.sts k cs hk).below hb (h.sts k cs hk).lt, h.below.trans (hb.mono h.below.size)⟩
theorem two_putE {W : World} {g b b2 : Nat} {c0 c1 : Value} (h : Blk W g 25 #[c0, c1]) (a0 a1 : Value) (h1 : b ≤ g) (h2 : g < b2) :
    ∃ WF, ((W.setCell ⟨g, 0, none⟩ a0).setCell ⟨g, 1, none⟩ a1) = WF ∧ Blk WF g 25 #[a0, a1] ∧ (∀ (g' : Nat) (t : TypeId) (cs : Array Value), g' ≠ g → Blk W g' t cs → Blk WF g' t cs) ∧ (∀ w0, Below b w0 W → Below b w0 WF) ∧ Keeps b b2 W WF :=
  ⟨_, rfl, ((h.set_ 0 a0).set_ 1 a1), fun _ _ _ hne hb => ((hb.other (p := ⟨g, 0, none⟩) (fun e => hne e.symm) a0).other (p := ⟨g, 1, none⟩) (fun e => hne e.symm) a1), fun _ hB => ((hB.setCell (p := ⟨g, 0, none⟩) h1 a0).setCell (p := ⟨g, 1, none⟩) h1 a1), ((Keeps.set_ (B0 := b) (b := b2) (W := W) (p := ⟨g, 0, none⟩) (u := a0) h1 h2).trans_ (Keeps.set_ (p := ⟨g, 1, none⟩) h1 h2))⟩
theorem six_putE {W : World} {g b b2 : Nat} {c0 c1 c2 c3 c4 c5 : Value} (h : Blk W g 32 #[c0, c1, c2, c3, c4, c5]) (a0 a1 a2 a3 a4 a5 : Value) (h1 : b ≤ g) (h2 : g < b2) :
    ∃ WF, ((((((W.setCell ⟨g, 0, none⟩ a0).setCell ⟨g, 1, none⟩ a1).setCell ⟨g, 2, none⟩ a2).setCell ⟨g, 3, none⟩ a3).setCell ⟨g, 4, none⟩ a4).setCell ⟨g, 5, none⟩ a5) = WF ∧ Blk WF g 32 #[a0, a1, a2, a3, a4, a5] ∧ (∀ (g' : Nat) (t : TypeId) (cs : Array Value), g' ≠ g → Blk W g' t cs → Blk WF g' t cs) ∧ (∀ w0, Below b w0 W → Below b w0 WF) ∧ Keeps b b2 W WF :=
  ⟨_, rfl, ((((((h.set_ 0 a0).set_ 1 a1).set_ 2 a2).set_ 3 a3).set_ 4 a4).set_ 5 a5), fun _ _ _ hne hb => ((((((hb.other (p := ⟨g, 0, none⟩) (fun e => hne e.symm) a0).other (p := ⟨g, 1, none⟩) (fun e => hne e.symm) a1).other (p := ⟨g, 2, none⟩) (fun e => hne e.symm) a2).other (p := ⟨g, 3, none⟩) (fun e => hne e.symm) a3).other (p := ⟨g, 4, none⟩) (fun e => hne e.symm) a4).other (p := ⟨g, 5, none⟩) (fun e => hne e.symm) a5), fun _ hB => ((((((hB.setCell (p := ⟨g, 0, none⟩) h1 a0).setCell (p := ⟨g, 1, none⟩) h1 a1).setCell (p := ⟨g, 2, none⟩) h1 a2).setCell (p := ⟨g, 3, none⟩) h1 a3).setCell (p := ⟨g, 4, none⟩) h1 a4).setCell (p := ⟨g, 5, none⟩) h1 a5), ((((((Keeps.set_ (B0 := b) (b := b2) (W := W) (p := ⟨g, 0, none⟩) (u := a0) h1 h2).trans_ (Keeps.set_ (p := ⟨g, 1, none⟩) h1 h2)).trans_ (Keeps.set_ (p := ⟨g, 2, none⟩) h1 h2)).trans_ (Keeps.set_ (p := ⟨g, 3, none⟩) h1 h2)).trans_ (Keeps.set_ (p := ⟨g, 4, none⟩) h1 h2)).trans_ (Keeps.set_ (p := ⟨g, 5, none⟩) h1 h2))⟩
end Go.Proofs.Ytlddglhjpiahfaa

/- The walk of the law EquivParts (by gen_eqvu.py). -/
namespace Go.Proofs.Ytlddglhjpiahfaa
set_option maxRecDepth 100000
open Go.RowKit Go.Shelf Go.Sort
attribute [local go_sem] Oper.semAt_some
theorem lab_of_labNP {names : List ByteArray} {up : List Nat} {o : Int} (h : labN names up o o = 0) : isLab up o = true := by
  obtain ⟨-, ⟨a, rfl, ha⟩, -⟩ := labN_zero h
  unfold isLab
  rw [decide_eq_true_eq]; omega
/-- What only labels ask, and 0 beside. -/
theorem look_zerosP {names : List ByteArray} {up : List Nat} {o : Int} {ls ls' : List Int} (h : ∀ l, l ∈ ls' ↔ l = 0 ∨ l ∈ ls) : Ev.lookN names up o ls' = Ev.lookN names up o ls := by
  unfold Ev.lookN
  by_cases hz : labN names up o o = 0
  · have h0 := Ev.lab_zero (labN_zero hz).1
    have e : ls'.all (isLab up) = ls.all (isLab up) := by
      rw [Bool.eq_iff_iff, List.all_eq_true, List.all_eq_true]
      exact ⟨fun k l hl => k l ((h l).2 (.inr hl)), fun k l hl => ((h l).1 hl).elim (fun e => e ▸ h0) (k l)⟩
    rw [e]
  · rw [if_neg hz, if_neg hz]
theorem isSt_rows {W : World} {B : Nat} {p q : Int} {cA mA sA oA : Option Addr} {n1 n2 n3 n4 c1 c2 c3 c4 : Nat} {s : St.State} (h : IsSt W B (.agg #[.int .i64 p, .int .i64 q, .slice cA n1 c1, .slice mA n2 c2, .slice sA n3 c3, .slice oA n4 c4]) s) :
    (s.code.length = n1 ∧ Row W B cA (icells s.code) ∧ n1 ≤ c1) ∧ (s.mem.length = n2 ∧ Row W B mA (fcells avs s.mem) ∧ n2 ≤ c2) ∧ (s.stack.length = n3 ∧ Row W B sA (fcells svs s.stack) ∧ n3 ≤ c3) ∧ (s.out.length = n4 ∧ Row W B oA (fcells avs s.out) ∧ n4 ≤ c4) := by
  obtain ⟨cv, mv, sv, ov, e, ⟨A1, k1, e1, r1, l1⟩, ⟨A2, k2, e2, r2, l2⟩, ⟨A3, k3, e3, r3, l3⟩, ⟨A4, k4, e4, r4, l4⟩⟩ := h
  unfold stv at e
  injection e with e
  simp only [Array.mk.injEq, List.cons.injEq, and_true] at e
  obtain ⟨-, -, q1, q2, q3, q4⟩ := e
  rw [e1] at q1
  rw [e2] at q2
  rw [e3] at q3
  rw [e4] at q4
  injection q1 with a1 b1 d1
  injection q2 with a2 b2 d2
  injection q3 with a3 b3 d3
  injection q4 with a4 b4 d4
  subst a1 a2 a3 a4 b1 b2 b3 b4 d1 d2 d3 d4
  exact ⟨⟨rfl, r1, l1⟩, ⟨rfl, r2, l2⟩, ⟨rfl, r3, l3⟩, ⟨rfl, r4, l4⟩⟩
/-- A law's boxes, and the row of its four questions. -/
structure PW (w : World) (x0 x1 : Value) (names : List ByteArray) (up : List Nat) (L : List (Array Value)) (g : Nat) (cs : Array Value) (W : World) : Prop where
  lw : LW w x0 x1 names up L W
  row : Blk W g 40 cs
theorem PW.next {w : World} {x0 x1 : Value} {names : List ByteArray} {up : List Nat} {L : List (Array Value)} {g : Nat} {cs : Array Value} {W W' : World} (h : PW w x0 x1 names up L g cs W) (hb : Below W.heap.size W W') : PW w x0 x1 names up L g cs W' := ⟨h.lw.next hb, h.row.below hb h.row.lt⟩
set_option maxRecDepth 100000 in
set_option maxHeartbeats 64000000 in
theorem equivParts_any {A A' : Option Addr} {n1 : List ByteArray} {u1 : List Nat} {s0 : St.State} {cA mA sA oA : Option Addr} {cc0 mc0 sc0 oc0 : Nat} {s1 : St.State} {cB mB sB oB : Option Addr} {cc1 mc1 sc1 oc1 : Nat} (c c' : Nat) (o : Int) (w : World) (hN : Row w w.heap.size A (strs n1)) (hU : Ups w w.heap.size A' u1) (hs0 : StIn w w.heap.size s0 cA cc0 mA mc0 sA sc0 oA oc0) (hs1 : StIn w w.heap.size s1 cB cc1 mB mc1 sB sc1 oB oc1) (hc : n1.length ≤ c) (hc' : u1.length ≤ c') (hm : c ≤ maxLen) (hm' : c' ≤ maxLen) (hs : ∀ s ∈ n1, s.size ≤ maxLen) :
    Calls Try.prog 3 #[.agg #[.slice A n1.length c, .slice A' u1.length c'], .int .i64 o, incv s0 cA cc0 mA mc0 sA sc0 oA oc0, incv s1 cB cc1 mB mc1 sB sc1 oB oc1] w (Tells w true) := by
  have hfa := fun W (hW : Below w.heap.size w W) => few_any w.heap.size c c' W hW.size (hN.below hW) (hU.below hW) hc hc' hm hm' hs
  have hcut0 := fun W => scut_any10 W hs0
  have his0 := fun W (hb : Below w.heap.size w W) => ((hs0.cut.below hb).more hb.size).isSt
  have HF0 : Hid (Fif (cutS s0)) := Lib.hid (by refine ⟨?_, ?_, ?_, ?_⟩ <;> (unfold cutS; dsimp only; rw [List.length_take]; omega))
  have hlc0 : (cutS s0).code.length = min 15 s0.code.length := by unfold cutS; simp
  have hlm0 : (cutS s0).mem.length = min 15 s0.mem.length := by unfold cutS; simp
  have hls0 : (cutS s0).stack.length = min 15 s0.stack.length := by unfold cutS; simp
  have hlo0 : (cutS s0).out.length = min 15 s0.out.length := by unfold cutS; simp
  have hpv0 : (cutS s0).pc.v = s0.pc.v := rfl
  have hpl0 : (cutS s0).pc.l = s0.pc.l := rfl
  rw [incv_cut] at his0 hcut0
  obtain ⟨a0, ha0⟩ : ∃ a, cutS s0 = a := ⟨_, rfl⟩
  rw [ha0] at his0 HF0 hlc0 hlm0 hls0 hlo0 hpv0 hpl0
  have hcut1 := fun W => scut_any10 W hs1
  have his1 := fun W (hb : Below w.heap.size w W) => ((hs1.cut.below hb).more hb.size).isSt
  have HF1 : Hid (Fif (cutS s1)) := Lib.hid (by refine ⟨?_, ?_, ?_, ?_⟩ <;> (unfold cutS; dsimp only; rw [List.length_take]; omega))
  have hlc1 : (cutS s1).code.length = min 15 s1.code.length := by unfold cutS; simp
  have hlm1 : (cutS s1).mem.length = min 15 s1.mem.length := by unfold cutS; simp
  have hls1 : (cutS s1).stack.length = min 15 s1.stack.length := by unfold cutS; simp
  have hlo1 : (cutS s1).out.length = min 15 s1.out.length := by unfold cutS; simp
  have hpv1 : (cutS s1).pc.v = s1.pc.v := rfl
  have hpl1 : (cutS s1).pc.l = s1.pc.l := rfl
  rw [incv_cut] at his1 hcut1
  obtain ⟨a1, ha1⟩ : ∃ a, cutS s1 = a := ⟨_, rfl⟩
  rw [ha1] at his1 HF1 hlc1 hlm1 hls1 hlo1 hpv1 hpl1
  unfold incv at hcut0 hcut1 ⊢
  clear hs0 ha0 hs1 ha1 hN hU hc hc' hm hm' hs
  generalize s0.pc.v = pv0 at *
  generalize s0.pc.l = pl0 at *
  generalize hcn0 : min 15 s0.code.length = cN0 at *
  generalize s0.code.length = cn0 at *
  generalize hmn0 : min 15 s0.mem.length = mN0 at *
  generalize s0.mem.length = mn0 at *
  generalize hsn0 : min 15 s0.stack.length = sN0 at *
  generalize s0.stack.length = sn0 at *
  generalize hon0 : min 15 s0.out.length = oN0 at *
  generalize s0.out.length = on0 at *
  clear hcn0 hmn0 hsn0 hon0
  have HLL0 := Lib.hid (show a0.code.length = cN0 ∧ a0.mem.length = mN0 ∧ a0.stack.length = sN0 ∧ a0.out.length = oN0 ∧ a0.pc.v = pv0 ∧ a0.pc.l = pl0 from ⟨hlc0, hlm0, hls0, hlo0, hpv0, hpl0⟩)
  clear hlc0 hlm0 hls0 hlo0 hpv0 hpl0
  generalize s1.pc.v = pv1 at *
  generalize s1.pc.l = pl1 at *
  generalize hcn1 : min 15 s1.code.length = cN1 at *
  generalize s1.code.length = cn1 at *
  generalize hmn1 : min 15 s1.mem.length = mN1 at *
  generalize s1.mem.length = mn1 at *
  generalize hsn1 : min 15 s1.stack.length = sN1 at *
  generalize s1.stack.length = sn1 at *
  generalize hon1 : min 15 s1.out.length = oN1 at *
  generalize s1.out.length = on1 at *
  clear hcn1 hmn1 hsn1 hon1
  have HLL1 := Lib.hid (show a1.code.length = cN1 ∧ a1.mem.length = mN1 ∧ a1.stack.length = sN1 ∧ a1.out.length = oN1 ∧ a1.pc.v = pv1 ∧ a1.pc.l = pl1 from ⟨hlc1, hlm1, hls1, hlo1, hpv1, hpl1⟩)
  clear hlc1 hlm1 hls1 hlo1 hpv1 hpl1
  obtain ⟨W0, hW0⟩ : ∃ W0, (((w.alloc (.cells #[.slice A n1.length c, .slice A' u1.length c'] 25)).alloc (.cells #[.int .i64 pv0, .int .i64 pl0, .slice cA cn0 cc0, .slice mA mn0 mc0, .slice sA sn0 sc0, .slice oA on0 oc0] 32)).alloc (.cells #[.int .i64 pv1, .int .i64 pl1, .slice cB cn1 cc1, .slice mB mn1 mc1, .slice sB sn1 sc1, .slice oB on1 oc1] 32)) = W0 := ⟨_, rfl⟩
  have hb0 : Below w.heap.size w W0 := by rw [← hW0]; exact ((((Below.refl _ w).alloc (by simp <;> omega) _).alloc (by simp <;> omega) _).alloc (by simp <;> omega) _)
  have hz0 : W0.heap.size = w.heap.size + 3 := by rw [← hW0]; simp
  have hk0 : Blk W0 (w.heap.size) 25 #[.slice A n1.length c, .slice A' u1.length c'] := by rw [← hW0]; exact (((Blk.new' _ _ _ _ (by simp)).alloc _).alloc _)
  have hk1 : Blk W0 (w.heap.size + 1) 32 #[.int .i64 pv0, .int .i64 pl0, .slice cA cn0 cc0, .slice mA mn0 mc0, .slice sA sn0 sc0, .slice oA on0 oc0] := by rw [← hW0]; exact ((Blk.new' _ _ _ _ (by simp)).alloc _)
  have hk2 : Blk W0 (w.heap.size + 2) 32 #[.int .i64 pv1, .int .i64 pl1, .slice cB cn1 cc1, .slice mB mn1 mc1, .slice sB sn1 sc1, .slice oB on1 oc1] := by rw [← hW0]; exact (Blk.new' _ _ _ _ (by simp))
  have HFA := Lib.hid hfa
  have HB0 := Lib.hid hb0.drew
  have HZ0 := Lib.hid hz0
  have HCUT0 := Lib.hid hcut0
  have HIS0 := Lib.hid his0
  have HCUT1 := Lib.hid hcut1
  have HIS1 := Lib.hid his1
  have HK0 := Lib.hid hk0
  have HK1 := Lib.hid hk1
  have HK2 := Lib.hid hk2
  have l0 : W0.cell? ⟨w.heap.size, 0, none⟩ = some (.slice A n1.length c) := hk0.cell 0
  have l1 : W0.cell? ⟨w.heap.size, 1, none⟩ = some (.slice A' u1.length c') := hk0.cell 1
  have x0_0 : W0.cell? ⟨w.heap.size + 1, 0, none⟩ = some (.int .i64 pv0) := hk1.cell 0
  have x0_1 : W0.cell? ⟨w.heap.size + 1, 1, none⟩ = some (.int .i64 pl0) := hk1.cell 1
  have x0_2 : W0.cell? ⟨w.heap.size + 1, 2, none⟩ = some (.slice cA cn0 cc0) := hk1.cell 2
  have x0_3 : W0.cell? ⟨w.heap.size + 1, 3, none⟩ = some (.slice mA mn0 mc0) := hk1.cell 3
  have x0_4 : W0.cell? ⟨w.heap.size + 1, 4, none⟩ = some (.slice sA sn0 sc0) := hk1.cell 4
  have x0_5 : W0.cell? ⟨w.heap.size + 1, 5, none⟩ = some (.slice oA on0 oc0) := hk1.cell 5
  have x1_0 : W0.cell? ⟨w.heap.size + 2, 0, none⟩ = some (.int .i64 pv1) := hk2.cell 0
  have x1_1 : W0.cell? ⟨w.heap.size + 2, 1, none⟩ = some (.int .i64 pl1) := hk2.cell 1
  have x1_2 : W0.cell? ⟨w.heap.size + 2, 2, none⟩ = some (.slice cB cn1 cc1) := hk2.cell 2
  have x1_3 : W0.cell? ⟨w.heap.size + 2, 3, none⟩ = some (.slice mB mn1 mc1) := hk2.cell 3
  have x1_4 : W0.cell? ⟨w.heap.size + 2, 4, none⟩ = some (.slice sB sn1 sc1) := hk2.cell 4
  have x1_5 : W0.cell? ⟨w.heap.size + 2, 5, none⟩ = some (.slice oB on1 oc1) := hk2.cell 5
  clear hfa hb0 hz0 hcut0 his0 hk0 hcut1 his1 hk1 hk2
  go_enter Try.func3, Try.ntmps3
  go_wp2_with (fail)
  clear hW0
  refine Free.region_seq [1, 3, 5, 6, 7, 8] [0, 2, 4] 5 (fun W' => W'.cell? ⟨w.heap.size, 0, none⟩ = some (.slice A n1.length c) ∧ W'.cell? ⟨w.heap.size, 1, none⟩ = some (.slice A' u1.length c') ∧ W'.cell? ⟨w.heap.size + 1, 0, none⟩ = some (.int .i64 pv0) ∧ W'.cell? ⟨w.heap.size + 1, 1, none⟩ = some (.int .i64 pl0) ∧ W'.cell? ⟨w.heap.size + 1, 2, none⟩ = some (.slice cA cn0 cc0) ∧ W'.cell? ⟨w.heap.size + 1, 3, none⟩ = some (.slice mA mn0 mc0) ∧ W'.cell? ⟨w.heap.size + 1, 4, none⟩ = some (.slice sA sn0 sc0) ∧ W'.cell? ⟨w.heap.size + 1, 5, none⟩ = some (.slice oA on0 oc0) ∧ W'.cell? ⟨w.heap.size + 2, 0, none⟩ = some (.int .i64 pv1) ∧ W'.cell? ⟨w.heap.size + 2, 1, none⟩ = some (.int .i64 pl1) ∧ W'.cell? ⟨w.heap.size + 2, 2, none⟩ = some (.slice cB cn1 cc1) ∧ W'.cell? ⟨w.heap.size + 2, 3, none⟩ = some (.slice mB mn1 mc1) ∧ W'.cell? ⟨w.heap.size + 2, 4, none⟩ = some (.slice sB sn1 sc1) ∧ W'.cell? ⟨w.heap.size + 2, 5, none⟩ = some (.slice oB on1 oc1)) (by kernel_rfl) (by kernel_rfl) (by kernel_rfl) (by kernel_rfl) (⟨l0, l1, x0_0, x0_1, x0_2, x0_3, x0_4, x0_5, x1_0, x1_1, x1_2, x1_3, x1_4, x1_5⟩) (fun ops hops => ?_)
  clear hops
  clear l0 l1 x0_0 x0_1 x0_2 x0_3 x0_4 x0_5 x1_0 x1_1 x1_2 x1_3 x1_4 x1_5
  iterate 1
    refine Free.Seq.quiet (v := ?_) (a' := ?_) rfl rfl (fun W' hW' => ?_) ?_ ?_
    rotate_left 2
    · first | obtain ⟨q0, q1, q2, q3, q4, q5, q6, q7, q8, q9, q10, q11, q12, q13⟩ := hW' rfl | skip
      go_simp
      try with_reducible rfl
    · simp only [Act.put, List.setIfInBounds_toArray, List.set_cons_zero, List.set_cons_succ]
      try with_reducible rfl
  refine Free.Seq.loud_ rfl (.inl rfl) (fun K hK => ?_)
  go_simp
  refine (HFA.out _ HB0.out).mono ?_
  rintro e w1 ⟨v, names, up, rfl, hlw, hb1⟩
  have hlat : ∀ W2, Keeps w.heap.size (w.heap.size + 3) w1 W2 → IsLat W2 W2.heap.size v names up := fun W2 k => hlw W2 (k.mono_ (by show w.heap.size + 3 ≤ W0.heap.size; rw [HZ0.out]; exact Nat.le_refl _))
  obtain ⟨A1, k1, c1, A2, k2, c2, rfl⟩ := lat_two (hlat w1 ⟨Nat.le_refl _, fun _ _ _ => rfl⟩)
  have HB1 := Lib.hid (HB0.out.trans (hb1.mono HB0.out.size))
  have HLAT := Lib.hid hlat
  have HK0_1 := Lib.hid ((HK0.out.drew).below hb1 HK0.out.lt)
  have HK1_1 := Lib.hid ((HK1.out.drew).below hb1 HK1.out.lt)
  have HK2_1 := Lib.hid ((HK2.out.drew).below hb1 HK2.out.lt)
  refine hK.out _ _ rfl (fun _ => ⟨HK0_1.out.cell 0, HK0_1.out.cell 1, HK1_1.out.cell 0, HK1_1.out.cell 1, HK1_1.out.cell 2, HK1_1.out.cell 3, HK1_1.out.cell 4, HK1_1.out.cell 5, HK2_1.out.cell 0, HK2_1.out.cell 1, HK2_1.out.cell 2, HK2_1.out.cell 3, HK2_1.out.cell 4, HK2_1.out.cell 5⟩) ?_
  clear hK K hb1 hlw hlat HK0 HK1 HK2 HFA HB0
  have HKP1 : Hid (Keeps w.heap.size (w.heap.size + 3) w1 w1) := Lib.hid ⟨Nat.le_refl _, fun _ _ _ => rfl⟩
  iterate 1
    refine Free.Seq.quiet (v := ?_) (a' := ?_) rfl rfl (fun W' hW' => ?_) ?_ ?_
    rotate_left 2
    · first | obtain ⟨q0, q1, q2, q3, q4, q5, q6, q7, q8, q9, q10, q11, q12, q13⟩ := hW' rfl | skip
      go_simp
      try with_reducible rfl
    · simp only [Act.put, List.setIfInBounds_toArray, List.set_cons_zero, List.set_cons_succ]
      try with_reducible rfl
  refine Free.Seq.loud_ rfl (.inl rfl) (fun K hK => ?_)
  go_simp
  refine (HCUT0.out w1).mono ?_
  rintro e w2 ⟨rfl, hb2⟩
  have HB2 := Lib.hid (HB1.out.trans (hb2.mono HB1.out.size))
  have HKP2 := Lib.hid (HKP1.out.trans_ (Keeps.below hb2))
  have HK0_2 := Lib.hid (HK0_1.out.below hb2 HK0_1.out.lt)
  have HK1_2 := Lib.hid (HK1_1.out.below hb2 HK1_1.out.lt)
  have HK2_2 := Lib.hid (HK2_1.out.below hb2 HK2_1.out.lt)
  refine hK.out _ _ rfl (fun _ => ⟨HK0_2.out.cell 0, HK0_2.out.cell 1, HK1_2.out.cell 0, HK1_2.out.cell 1, HK1_2.out.cell 2, HK1_2.out.cell 3, HK1_2.out.cell 4, HK1_2.out.cell 5, HK2_2.out.cell 0, HK2_2.out.cell 1, HK2_2.out.cell 2, HK2_2.out.cell 3, HK2_2.out.cell 4, HK2_2.out.cell 5⟩) ?_
  clear hK K hb2 HK0_1 HK1_1 HK2_1 HB1 HKP1 HCUT0
  iterate 1
    refine Free.Seq.quiet (v := ?_) (a' := ?_) rfl rfl (fun W' hW' => ?_) ?_ ?_
    rotate_left 2
    · first | obtain ⟨q0, q1, q2, q3, q4, q5, q6, q7, q8, q9, q10, q11, q12, q13⟩ := hW' rfl | skip
      go_simp
      try with_reducible rfl
    · simp only [Act.put, List.setIfInBounds_toArray, List.set_cons_zero, List.set_cons_succ]
      try with_reducible rfl
  refine Free.Seq.loud_ rfl (.inl rfl) (fun K hK => ?_)
  go_simp
  refine (HCUT1.out w2).mono ?_
  rintro e w3 ⟨rfl, hb3⟩
  have HB3 := Lib.hid (HB2.out.trans (hb3.mono HB2.out.size))
  have HKP3 := Lib.hid (HKP2.out.trans_ (Keeps.below hb3))
  have HK0_3 := Lib.hid (HK0_2.out.below hb3 HK0_2.out.lt)
  have HK1_3 := Lib.hid (HK1_2.out.below hb3 HK1_2.out.lt)
  have HK2_3 := Lib.hid (HK2_2.out.below hb3 HK2_2.out.lt)
  refine hK.out _ _ rfl (fun h => absurd h (by decide)) ?_
  clear hK K hb3 HK0_2 HK1_2 HK2_2 HB2 HKP2 HCUT1
  obtain ⟨W1, hW1, hp1, ho1, hb1, hkp1⟩ := two_putE (b := w.heap.size) (b2 := w.heap.size + 3) HK0_3.out (.slice A1 k1 c1) (.slice A2 k2 c2) (by omega) (by omega)
  have j0 : w3.cell? ⟨w.heap.size, 0, none⟩ = some (.slice A n1.length c) := HK0_3.out.cell 0
  have j1 : w3.cell? ⟨w.heap.size, 1, none⟩ = some (.slice A' u1.length c') := HK0_3.out.cell 1
  have g0 : w3.frozen? ⟨w.heap.size, 0, none⟩ = false := HK0_3.out.frozen 0
  have g1 : w3.frozen? ⟨w.heap.size, 1, none⟩ = false := HK0_3.out.frozen 1
  refine Free.Seq.loud_ rfl (.inl rfl) (fun K hK => ?_)
  go_simp
  refine hK.out _ _ rfl (fun h => absurd h (by decide)) ?_
  clear hK K j0 j1 g0 g1
  try rw [hW1]
  clear hW1
  have HBB1 := Lib.hid (hb1 w HB3.out)
  have HKQ1 := Lib.hid (HKP3.out.trans_ hkp1)
  have HK0_4 := Lib.hid hp1
  have HK1_4 := Lib.hid (ho1 _ _ _ (by omega) HK1_3.out)
  have HK2_4 := Lib.hid (ho1 _ _ _ (by omega) HK2_3.out)
  clear hp1 ho1 hb1 hkp1 HK0_3 HK1_3 HK2_3 HB3 HKP3
  obtain ⟨W2, hW2, hp2, ho2, hb2, hkp2⟩ := six_putE (b := w.heap.size) (b2 := w.heap.size + 3) HK1_4.out (.int .i64 pv0) (.int .i64 pl0) (.slice cA cN0 cc0) (.slice mA mN0 mc0) (.slice sA sN0 sc0) (.slice oA oN0 oc0) (by omega) (by omega)
  have j0 : W1.cell? ⟨w.heap.size + 1, 0, none⟩ = some (.int .i64 pv0) := HK1_4.out.cell 0
  have j1 : W1.cell? ⟨w.heap.size + 1, 1, none⟩ = some (.int .i64 pl0) := HK1_4.out.cell 1
  have j2 : W1.cell? ⟨w.heap.size + 1, 2, none⟩ = some (.slice cA cn0 cc0) := HK1_4.out.cell 2
  have j3 : W1.cell? ⟨w.heap.size + 1, 3, none⟩ = some (.slice mA mn0 mc0) := HK1_4.out.cell 3
  have j4 : W1.cell? ⟨w.heap.size + 1, 4, none⟩ = some (.slice sA sn0 sc0) := HK1_4.out.cell 4
  have j5 : W1.cell? ⟨w.heap.size + 1, 5, none⟩ = some (.slice oA on0 oc0) := HK1_4.out.cell 5
  have g0 : W1.frozen? ⟨w.heap.size + 1, 0, none⟩ = false := HK1_4.out.frozen 0
  have g1 : W1.frozen? ⟨w.heap.size + 1, 1, none⟩ = false := HK1_4.out.frozen 1
  have g2 : W1.frozen? ⟨w.heap.size + 1, 2, none⟩ = false := HK1_4.out.frozen 2
  have g3 : W1.frozen? ⟨w.heap.size + 1, 3, none⟩ = false := HK1_4.out.frozen 3
  have g4 : W1.frozen? ⟨w.heap.size + 1, 4, none⟩ = false := HK1_4.out.frozen 4
  have g5 : W1.frozen? ⟨w.heap.size + 1, 5, none⟩ = false := HK1_4.out.frozen 5
  refine Free.Seq.loud_ rfl (.inl rfl) (fun K hK => ?_)
  go_simp
  refine hK.out _ _ rfl (fun h => absurd h (by decide)) ?_
  clear hK K j0 j1 j2 j3 j4 j5 g0 g1 g2 g3 g4 g5
  try rw [hW2]
  clear hW2
  have HBB2 := Lib.hid (hb2 w HBB1.out)
  have HKQ2 := Lib.hid (HKQ1.out.trans_ hkp2)
  have HK0_5 := Lib.hid (ho2 _ _ _ (by omega) HK0_4.out)
  have HK1_5 := Lib.hid hp2
  have HK2_5 := Lib.hid (ho2 _ _ _ (by omega) HK2_4.out)
  clear hp2 ho2 hb2 hkp2 HK0_4 HK1_4 HK2_4 HBB1 HKQ1
  obtain ⟨W3, hW3, hp3, ho3, hb3, hkp3⟩ := six_putE (b := w.heap.size) (b2 := w.heap.size + 3) HK2_5.out (.int .i64 pv1) (.int .i64 pl1) (.slice cB cN1 cc1) (.slice mB mN1 mc1) (.slice sB sN1 sc1) (.slice oB oN1 oc1) (by omega) (by omega)
  have j0 : W2.cell? ⟨w.heap.size + 2, 0, none⟩ = some (.int .i64 pv1) := HK2_5.out.cell 0
  have j1 : W2.cell? ⟨w.heap.size + 2, 1, none⟩ = some (.int .i64 pl1) := HK2_5.out.cell 1
  have j2 : W2.cell? ⟨w.heap.size + 2, 2, none⟩ = some (.slice cB cn1 cc1) := HK2_5.out.cell 2
  have j3 : W2.cell? ⟨w.heap.size + 2, 3, none⟩ = some (.slice mB mn1 mc1) := HK2_5.out.cell 3
  have j4 : W2.cell? ⟨w.heap.size + 2, 4, none⟩ = some (.slice sB sn1 sc1) := HK2_5.out.cell 4
  have j5 : W2.cell? ⟨w.heap.size + 2, 5, none⟩ = some (.slice oB on1 oc1) := HK2_5.out.cell 5
  have g0 : W2.frozen? ⟨w.heap.size + 2, 0, none⟩ = false := HK2_5.out.frozen 0
  have g1 : W2.frozen? ⟨w.heap.size + 2, 1, none⟩ = false := HK2_5.out.frozen 1
  have g2 : W2.frozen? ⟨w.heap.size + 2, 2, none⟩ = false := HK2_5.out.frozen 2
  have g3 : W2.frozen? ⟨w.heap.size + 2, 3, none⟩ = false := HK2_5.out.frozen 3
  have g4 : W2.frozen? ⟨w.heap.size + 2, 4, none⟩ = false := HK2_5.out.frozen 4
  have g5 : W2.frozen? ⟨w.heap.size + 2, 5, none⟩ = false := HK2_5.out.frozen 5
  refine Free.Seq.loud_ rfl (.inl rfl) (fun K hK => ?_)
  go_simp
  refine hK.out _ _ rfl (fun h => absurd h (by decide)) ?_
  clear hK K j0 j1 j2 j3 j4 j5 g0 g1 g2 g3 g4 g5
  try rw [hW3]
  clear hW3
  have HBB3 := Lib.hid (hb3 w HBB2.out)
  have HKQ3 := Lib.hid (HKQ2.out.trans_ hkp3)
  have HK0_6 := Lib.hid (ho3 _ _ _ (by omega) HK0_5.out)
  have HK1_6 := Lib.hid (ho3 _ _ _ (by omega) HK1_5.out)
  have HK2_6 := Lib.hid hp3
  clear hp3 ho3 hb3 hkp3 HK0_5 HK1_5 HK2_5 HBB2 HKQ2
  refine Free.Seq.nil_ ?_
  have HLW : Hid (LW w (.slice A1 k1 c1) (.slice A2 k2 c2) names up [#[.int .i64 pv0, .int .i64 pl0, .slice cA cN0 cc0, .slice mA mN0 mc0, .slice sA sN0 sc0, .slice oA oN0 oc0], #[.int .i64 pv1, .int .i64 pl1, .slice cB cN1 cc1, .slice mB mN1 mc1, .slice sB sN1 sc1, .slice oB oN1 oc1]] W3) := Lib.hid ⟨HLAT.out _ HKQ3.out, HK0_6.out, fun k cs hk => by
    match k, hk with
    | 0, hk => simp at hk; subst hk; exact HK1_6.out
    | 1, hk => simp at hk; subst hk; exact HK2_6.out
    , HBB3.out⟩
  clear HLAT HKQ3 HBB3 HZ0 HK0_6 HK1_6 HK2_6
  have hr0 := fun W (hb : Below w.heap.size w W) => isSt_rows (HIS0.out W hb)
  obtain ⟨hf0c, hf0m, hf0s, hf0o⟩ := HF0.out
  obtain ⟨he0c, he0m, he0s, he0o, -, -⟩ := HLL0.out
  have hr1 := fun W (hb : Below w.heap.size w W) => isSt_rows (HIS1.out W hb)
  obtain ⟨hf1c, hf1m, hf1s, hf1o⟩ := HF1.out
  obtain ⟨he1c, he1m, he1s, he1o, -, -⟩ := HLL1.out
  have hq0 := fun W (hW : LW w (.slice A1 k1 c1) (.slice A2 k2 c2) names up [#[.int .i64 pv0, .int .i64 pl0, .slice cA cN0 cc0, .slice mA mN0 mc0, .slice sA sN0 sc0, .slice oA oN0 oc0], #[.int .i64 pv1, .int .i64 pl1, .slice cB cN1 cc1, .slice mB mN1 mc1, .slice sB sN1 sc1, .slice oB oN1 oc1]] W) => Atoms_any (a := a0.mem) (b := a1.mem) (B := mA) (D := mB) o mc0 mc1 W hW.lat (hr0 W hW.below).2.1.2.1 (hr1 W hW.below).2.1.2.1 (by omega) (by omega)
  have hm0 := fun W (hW : LW w (.slice A1 k1 c1) (.slice A2 k2 c2) names up [#[.int .i64 pv0, .int .i64 pl0, .slice cA cN0 cc0, .slice mA mN0 mc0, .slice sA sN0 sc0, .slice oA oN0 oc0], #[.int .i64 pv1, .int .i64 pl1, .slice cB cN1 cc1, .slice mB mN1 mc1, .slice sB sN1 sc1, .slice oB oN1 oc1]] W) => rMay12_any (sv := .agg #[.int .i64 0, .int .i64 0, .slice none 0 0, .slice mA a0.mem.length mc0, .slice none 0 0, .slice none 0 0]) (tv := .agg #[.int .i64 0, .int .i64 0, .slice none 0 0, .slice mB a1.mem.length mc1, .slice none 0 0, .slice none 0 0]) (s := ⟨⟨0, 0⟩, [], a0.mem, [], []⟩) (t := ⟨⟨0, 0⟩, [], a1.mem, [], []⟩) o W hW.lat ⟨_, _, _, _, rfl, IsIns.nil _ _, ⟨_, _, rfl, (hr0 W hW.below).2.1.2.1, by rw [(hr0 W hW.below).2.1.1]; exact (hr0 W hW.below).2.1.2.2⟩, IsL.nil _ _ _, IsL.nil _ _ _⟩ ⟨_, _, _, _, rfl, IsIns.nil _ _, ⟨_, _, rfl, (hr1 W hW.below).2.1.2.1, by rw [(hr1 W hW.below).2.1.1]; exact (hr1 W hW.below).2.1.2.2⟩, IsL.nil _ _ _, IsL.nil _ _ _⟩ ⟨by simp <;> omega, by simp <;> omega, by simp <;> omega, by simp <;> omega⟩ ⟨by simp <;> omega, by simp <;> omega, by simp <;> omega, by simp <;> omega⟩
  have hlk0 : Ev.lookN names up o (Ev.labsOf ⟨⟨0, 0⟩, [], a0.mem, [], []⟩ ++ Ev.labsOf ⟨⟨0, 0⟩, [], a1.mem, [], []⟩) = Ev.lookN names up o (a0.mem.map (·.l) ++ a1.mem.map (·.l)) := look_zerosP fun l => by
    unfold Ev.labsOf
    simp only [List.map_nil, List.nil_append, List.append_nil, List.mem_append, List.mem_singleton]
    exact ⟨fun h => h.elim (fun h => h.elim .inl (fun h => .inr (.inl h))) (fun h => h.elim .inl (fun h => .inr (.inr h))), fun h => h.elim (fun h => .inl (.inl h)) (fun h => h.elim (fun h => .inl (.inr h)) (fun h => .inr (.inr h)))⟩
  simp only [hlk0] at hm0
  have hz0 : Ev.lookN names up o (a0.mem.map (·.l) ++ a1.mem.map (·.l)) = 0 → isLab up o = true ∧ (∀ x ∈ a0.mem, isLab up x.l = true) ∧ (∀ x ∈ a1.mem, isLab up x.l = true) := fun h => by
    obtain ⟨h1, h2⟩ := Ev.lookN_zero h
    exact ⟨lab_of_labNP h1, fun x hx => h2 _ (List.mem_append_left _ (List.mem_map_of_mem (f := (·.l)) hx)), fun x hx => h2 _ (List.mem_append_right _ (List.mem_map_of_mem (f := (·.l)) hx))⟩
  have hw0 := fun W (hW : LW w (.slice A1 k1 c1) (.slice A2 k2 c2) names up [#[.int .i64 pv0, .int .i64 pl0, .slice cA cN0 cc0, .slice mA mN0 mc0, .slice sA sN0 sc0, .slice oA oN0 oc0], #[.int .i64 pv1, .int .i64 pl1, .slice cB cN1 cc1, .slice mB mN1 mc1, .slice sB sN1 sc1, .slice oB oN1 oc1]] W) (h1 : isLab up o = true) (h2 : ∀ x ∈ a0.mem, isLab up x.l = true) => rAtoms12_any (a := a0.mem) (b := a1.mem) (B := mA) (D := mB) o mc0 mc1 W hW.lat h1 (hr0 W hW.below).2.1.2.1 (hr1 W hW.below).2.1.2.1 h2 (by omega)
  have hq1 := fun W (hW : LW w (.slice A1 k1 c1) (.slice A2 k2 c2) names up [#[.int .i64 pv0, .int .i64 pl0, .slice cA cN0 cc0, .slice mA mN0 mc0, .slice sA sN0 sc0, .slice oA oN0 oc0], #[.int .i64 pv1, .int .i64 pl1, .slice cB cN1 cc1, .slice mB mN1 mc1, .slice sB sN1 sc1, .slice oB oN1 oc1]] W) => Codes_any (a := a0.code) (b := a1.code) (B := cA) (D := cB) o cc0 cc1 W hW.lat (hr0 W hW.below).1.2.1 (hr1 W hW.below).1.2.1 (by omega) (by omega)
  have hm1 := fun W (hW : LW w (.slice A1 k1 c1) (.slice A2 k2 c2) names up [#[.int .i64 pv0, .int .i64 pl0, .slice cA cN0 cc0, .slice mA mN0 mc0, .slice sA sN0 sc0, .slice oA oN0 oc0], #[.int .i64 pv1, .int .i64 pl1, .slice cB cN1 cc1, .slice mB mN1 mc1, .slice sB sN1 sc1, .slice oB oN1 oc1]] W) => rMay12_any (sv := .agg #[.int .i64 0, .int .i64 0, .slice cA a0.code.length cc0, .slice none 0 0, .slice none 0 0, .slice none 0 0]) (tv := .agg #[.int .i64 0, .int .i64 0, .slice cB a1.code.length cc1, .slice none 0 0, .slice none 0 0, .slice none 0 0]) (s := ⟨⟨0, 0⟩, a0.code, [], [], []⟩) (t := ⟨⟨0, 0⟩, a1.code, [], [], []⟩) o W hW.lat ⟨_, _, _, _, rfl, ⟨_, _, rfl, (hr0 W hW.below).1.2.1, by rw [(hr0 W hW.below).1.1]; exact (hr0 W hW.below).1.2.2⟩, IsL.nil _ _ _, IsL.nil _ _ _, IsL.nil _ _ _⟩ ⟨_, _, _, _, rfl, ⟨_, _, rfl, (hr1 W hW.below).1.2.1, by rw [(hr1 W hW.below).1.1]; exact (hr1 W hW.below).1.2.2⟩, IsL.nil _ _ _, IsL.nil _ _ _, IsL.nil _ _ _⟩ ⟨by simp <;> omega, by simp <;> omega, by simp <;> omega, by simp <;> omega⟩ ⟨by simp <;> omega, by simp <;> omega, by simp <;> omega, by simp <;> omega⟩
  have hlk1 : Ev.lookN names up o (Ev.labsOf ⟨⟨0, 0⟩, a0.code, [], [], []⟩ ++ Ev.labsOf ⟨⟨0, 0⟩, a1.code, [], [], []⟩) = Ev.lookN names up o (a0.code.map (·.l) ++ a1.code.map (·.l)) := look_zerosP fun l => by
    unfold Ev.labsOf
    simp only [List.map_nil, List.append_nil, List.mem_append, List.mem_singleton]
    exact ⟨fun h => h.elim (fun h => h.elim .inl (fun h => .inr (.inl h))) (fun h => h.elim .inl (fun h => .inr (.inr h))), fun h => h.elim (fun h => .inl (.inl h)) (fun h => h.elim (fun h => .inl (.inr h)) (fun h => .inr (.inr h)))⟩
  simp only [hlk1] at hm1
  have hz1 : Ev.lookN names up o (a0.code.map (·.l) ++ a1.code.map (·.l)) = 0 → isLab up o = true ∧ (∀ x ∈ a0.code, isLab up x.l = true) ∧ (∀ x ∈ a1.code, isLab up x.l = true) := fun h => by
    obtain ⟨h1, h2⟩ := Ev.lookN_zero h
    exact ⟨lab_of_labNP h1, fun x hx => h2 _ (List.mem_append_left _ (List.mem_map_of_mem (f := (·.l)) hx)), fun x hx => h2 _ (List.mem_append_right _ (List.mem_map_of_mem (f := (·.l)) hx))⟩
  have hw1 := fun W (hW : LW w (.slice A1 k1 c1) (.slice A2 k2 c2) names up [#[.int .i64 pv0, .int .i64 pl0, .slice cA cN0 cc0, .slice mA mN0 mc0, .slice sA sN0 sc0, .slice oA oN0 oc0], #[.int .i64 pv1, .int .i64 pl1, .slice cB cN1 cc1, .slice mB mN1 mc1, .slice sB sN1 sc1, .slice oB oN1 oc1]] W) (h1 : isLab up o = true) (h2 : ∀ x ∈ a0.code, isLab up x.l = true) => rCodes12_any (a := a0.code) (b := a1.code) (B := cA) (D := cB) o cc0 cc1 W hW.lat h1 (hr0 W hW.below).1.2.1 (hr1 W hW.below).1.2.1 h2 (by omega)
  have hq2 := fun W (hW : LW w (.slice A1 k1 c1) (.slice A2 k2 c2) names up [#[.int .i64 pv0, .int .i64 pl0, .slice cA cN0 cc0, .slice mA mN0 mc0, .slice sA sN0 sc0, .slice oA oN0 oc0], #[.int .i64 pv1, .int .i64 pl1, .slice cB cN1 cc1, .slice mB mN1 mc1, .slice sB sN1 sc1, .slice oB oN1 oc1]] W) => Stacks_any (a := a0.stack) (b := a1.stack) (B := sA) (D := sB) o sc0 sc1 W hW.lat (hr0 W hW.below).2.2.1.2.1 (hr1 W hW.below).2.2.1.2.1 (by omega) (by omega)
  have hm2 := fun W (hW : LW w (.slice A1 k1 c1) (.slice A2 k2 c2) names up [#[.int .i64 pv0, .int .i64 pl0, .slice cA cN0 cc0, .slice mA mN0 mc0, .slice sA sN0 sc0, .slice oA oN0 oc0], #[.int .i64 pv1, .int .i64 pl1, .slice cB cN1 cc1, .slice mB mN1 mc1, .slice sB sN1 sc1, .slice oB oN1 oc1]] W) => rMay12_any (sv := .agg #[.int .i64 0, .int .i64 0, .slice none 0 0, .slice none 0 0, .slice sA a0.stack.length sc0, .slice none 0 0]) (tv := .agg #[.int .i64 0, .int .i64 0, .slice none 0 0, .slice none 0 0, .slice sB a1.stack.length sc1, .slice none 0 0]) (s := ⟨⟨0, 0⟩, [], [], a0.stack, []⟩) (t := ⟨⟨0, 0⟩, [], [], a1.stack, []⟩) o W hW.lat ⟨_, _, _, _, rfl, IsIns.nil _ _, IsL.nil _ _ _, ⟨_, _, rfl, (hr0 W hW.below).2.2.1.2.1, by rw [(hr0 W hW.below).2.2.1.1]; exact (hr0 W hW.below).2.2.1.2.2⟩, IsL.nil _ _ _⟩ ⟨_, _, _, _, rfl, IsIns.nil _ _, IsL.nil _ _ _, ⟨_, _, rfl, (hr1 W hW.below).2.2.1.2.1, by rw [(hr1 W hW.below).2.2.1.1]; exact (hr1 W hW.below).2.2.1.2.2⟩, IsL.nil _ _ _⟩ ⟨by simp <;> omega, by simp <;> omega, by simp <;> omega, by simp <;> omega⟩ ⟨by simp <;> omega, by simp <;> omega, by simp <;> omega, by simp <;> omega⟩
  have hlk2 : Ev.lookN names up o (Ev.labsOf ⟨⟨0, 0⟩, [], [], a0.stack, []⟩ ++ Ev.labsOf ⟨⟨0, 0⟩, [], [], a1.stack, []⟩) = Ev.lookN names up o (a0.stack.map (·.l) ++ a1.stack.map (·.l)) := look_zerosP fun l => by
    unfold Ev.labsOf
    simp only [List.map_nil, List.nil_append, List.append_nil, List.mem_append, List.mem_singleton]
    exact ⟨fun h => h.elim (fun h => h.elim .inl (fun h => .inr (.inl h))) (fun h => h.elim .inl (fun h => .inr (.inr h))), fun h => h.elim (fun h => .inl (.inl h)) (fun h => h.elim (fun h => .inl (.inr h)) (fun h => .inr (.inr h)))⟩
  simp only [hlk2] at hm2
  have hz2 : Ev.lookN names up o (a0.stack.map (·.l) ++ a1.stack.map (·.l)) = 0 → isLab up o = true ∧ (∀ x ∈ a0.stack, isLab up x.l = true) ∧ (∀ x ∈ a1.stack, isLab up x.l = true) := fun h => by
    obtain ⟨h1, h2⟩ := Ev.lookN_zero h
    exact ⟨lab_of_labNP h1, fun x hx => h2 _ (List.mem_append_left _ (List.mem_map_of_mem (f := (·.l)) hx)), fun x hx => h2 _ (List.mem_append_right _ (List.mem_map_of_mem (f := (·.l)) hx))⟩
  have hw2 := fun W (hW : LW w (.slice A1 k1 c1) (.slice A2 k2 c2) names up [#[.int .i64 pv0, .int .i64 pl0, .slice cA cN0 cc0, .slice mA mN0 mc0, .slice sA sN0 sc0, .slice oA oN0 oc0], #[.int .i64 pv1, .int .i64 pl1, .slice cB cN1 cc1, .slice mB mN1 mc1, .slice sB sN1 sc1, .slice oB oN1 oc1]] W) (h1 : isLab up o = true) (h2 : ∀ x ∈ a0.stack, isLab up x.l = true) => rStacks12_any (a := a0.stack) (b := a1.stack) (B := sA) (D := sB) o sc0 sc1 W hW.lat h1 (hr0 W hW.below).2.2.1.2.1 (hr1 W hW.below).2.2.1.2.1 h2 (by omega)
  have hq3 := fun W (hW : LW w (.slice A1 k1 c1) (.slice A2 k2 c2) names up [#[.int .i64 pv0, .int .i64 pl0, .slice cA cN0 cc0, .slice mA mN0 mc0, .slice sA sN0 sc0, .slice oA oN0 oc0], #[.int .i64 pv1, .int .i64 pl1, .slice cB cN1 cc1, .slice mB mN1 mc1, .slice sB sN1 sc1, .slice oB oN1 oc1]] W) => Outs_any (a := a0.out) (b := a1.out) (B := oA) (D := oB) o oc0 oc1 W hW.lat (hr0 W hW.below).2.2.2.2.1 (hr1 W hW.below).2.2.2.2.1 (by omega) (by omega)
  have hm3 := fun W (hW : LW w (.slice A1 k1 c1) (.slice A2 k2 c2) names up [#[.int .i64 pv0, .int .i64 pl0, .slice cA cN0 cc0, .slice mA mN0 mc0, .slice sA sN0 sc0, .slice oA oN0 oc0], #[.int .i64 pv1, .int .i64 pl1, .slice cB cN1 cc1, .slice mB mN1 mc1, .slice sB sN1 sc1, .slice oB oN1 oc1]] W) => rMay12_any (sv := .agg #[.int .i64 0, .int .i64 0, .slice none 0 0, .slice none 0 0, .slice none 0 0, .slice oA a0.out.length oc0]) (tv := .agg #[.int .i64 0, .int .i64 0, .slice none 0 0, .slice none 0 0, .slice none 0 0, .slice oB a1.out.length oc1]) (s := ⟨⟨0, 0⟩, [], [], [], a0.out⟩) (t := ⟨⟨0, 0⟩, [], [], [], a1.out⟩) o W hW.lat ⟨_, _, _, _, rfl, IsIns.nil _ _, IsL.nil _ _ _, IsL.nil _ _ _, ⟨_, _, rfl, (hr0 W hW.below).2.2.2.2.1, by rw [(hr0 W hW.below).2.2.2.1]; exact (hr0 W hW.below).2.2.2.2.2⟩⟩ ⟨_, _, _, _, rfl, IsIns.nil _ _, IsL.nil _ _ _, IsL.nil _ _ _, ⟨_, _, rfl, (hr1 W hW.below).2.2.2.2.1, by rw [(hr1 W hW.below).2.2.2.1]; exact (hr1 W hW.below).2.2.2.2.2⟩⟩ ⟨by simp <;> omega, by simp <;> omega, by simp <;> omega, by simp <;> omega⟩ ⟨by simp <;> omega, by simp <;> omega, by simp <;> omega, by simp <;> omega⟩
  have hlk3 : Ev.lookN names up o (Ev.labsOf ⟨⟨0, 0⟩, [], [], [], a0.out⟩ ++ Ev.labsOf ⟨⟨0, 0⟩, [], [], [], a1.out⟩) = Ev.lookN names up o (a0.out.map (·.l) ++ a1.out.map (·.l)) := look_zerosP fun l => by
    unfold Ev.labsOf
    simp only [List.map_nil, List.nil_append, List.mem_append, List.mem_singleton]
    exact ⟨fun h => h.elim (fun h => h.elim .inl (fun h => .inr (.inl h))) (fun h => h.elim .inl (fun h => .inr (.inr h))), fun h => h.elim (fun h => .inl (.inl h)) (fun h => h.elim (fun h => .inl (.inr h)) (fun h => .inr (.inr h)))⟩
  simp only [hlk3] at hm3
  have hz3 : Ev.lookN names up o (a0.out.map (·.l) ++ a1.out.map (·.l)) = 0 → isLab up o = true ∧ (∀ x ∈ a0.out, isLab up x.l = true) ∧ (∀ x ∈ a1.out, isLab up x.l = true) := fun h => by
    obtain ⟨h1, h2⟩ := Ev.lookN_zero h
    exact ⟨lab_of_labNP h1, fun x hx => h2 _ (List.mem_append_left _ (List.mem_map_of_mem (f := (·.l)) hx)), fun x hx => h2 _ (List.mem_append_right _ (List.mem_map_of_mem (f := (·.l)) hx))⟩
  have hw3 := fun W (hW : LW w (.slice A1 k1 c1) (.slice A2 k2 c2) names up [#[.int .i64 pv0, .int .i64 pl0, .slice cA cN0 cc0, .slice mA mN0 mc0, .slice sA sN0 sc0, .slice oA oN0 oc0], #[.int .i64 pv1, .int .i64 pl1, .slice cB cN1 cc1, .slice mB mN1 mc1, .slice sB sN1 sc1, .slice oB oN1 oc1]] W) (h1 : isLab up o = true) (h2 : ∀ x ∈ a0.out, isLab up x.l = true) (h3 : ∀ x ∈ a1.out, isLab up x.l = true) => rOuts12_any (a := a0.out) (b := a1.out) (B := oA) (D := oB) o oc0 oc1 W hW.lat h1 (hr0 W hW.below).2.2.2.2.1 (hr1 W hW.below).2.2.2.2.1 h2 h3 (by omega) (by omega)
  have hwn := fun W (hW : LW w (.slice A1 k1 c1) (.slice A2 k2 c2) names up [#[.int .i64 pv0, .int .i64 pl0, .slice cA cN0 cc0, .slice mA mN0 mc0, .slice sA sN0 sc0, .slice oA oN0 oc0], #[.int .i64 pv1, .int .i64 pl1, .slice cB cN1 cc1, .slice mB mN1 mc1, .slice sB sN1 sc1, .slice oB oN1 oc1]] W) (h1 : isLab up o = true) => rOuts12_any (a := []) (b := []) (B := none) (D := none) o 0 0 W hW.lat h1 Row.nil Row.nil (fun x hx => by cases hx) (fun x hx => by cases hx) (by decide) (by decide)
  have hnn : Ev.outs (Ev.viewL up o) [] [] = true := rfl
  rw [hnn] at hwn
  simp only [List.length_nil] at hwn
  obtain ⟨r0, hr0_⟩ : ∃ r, Ev.lookN names up o (a0.mem.map (·.l) ++ a1.mem.map (·.l)) = r := ⟨_, rfl⟩
  obtain ⟨b0, hb0_⟩ : ∃ b, Ev.alike (Ev.seenA (Ev.viewL up o)) a0.mem a1.mem = b := ⟨_, rfl⟩
  obtain ⟨t0, ht0_⟩ : ∃ t, Ev.told r0 b0 = t := ⟨_, rfl⟩
  simp only [hr0_, hb0_, ht0_, he0m, he1m] at hq0
  simp only [hr0_, he0m, he1m] at hm0
  simp only [hb0_, he0m, he1m] at hw0
  rw [hr0_] at hz0
  have HQ0 := Lib.hid hq0
  have HM0 := Lib.hid hm0
  have HW0 := Lib.hid hw0
  have HZ0 := Lib.hid hz0
  have HT0 := Lib.hid ht0_
  clear hq0 hm0 hw0 hz0 ht0_ hr0_ hb0_ hlk0
  obtain ⟨r1, hr1_⟩ : ∃ r, Ev.lookN names up o (a0.code.map (·.l) ++ a1.code.map (·.l)) = r := ⟨_, rfl⟩
  obtain ⟨b1, hb1_⟩ : ∃ b, Ev.alike (Ev.seenI (Ev.viewL up o)) a0.code a1.code = b := ⟨_, rfl⟩
  obtain ⟨t1, ht1_⟩ : ∃ t, Ev.told r1 b1 = t := ⟨_, rfl⟩
  simp only [hr1_, hb1_, ht1_, he0c, he1c] at hq1
  simp only [hr1_, he0c, he1c] at hm1
  simp only [hb1_, he0c, he1c] at hw1
  rw [hr1_] at hz1
  have HQ1 := Lib.hid hq1
  have HM1 := Lib.hid hm1
  have HW1 := Lib.hid hw1
  have HZ1 := Lib.hid hz1
  have HT1 := Lib.hid ht1_
  clear hq1 hm1 hw1 hz1 ht1_ hr1_ hb1_ hlk1
  obtain ⟨r2, hr2_⟩ : ∃ r, Ev.lookN names up o (a0.stack.map (·.l) ++ a1.stack.map (·.l)) = r := ⟨_, rfl⟩
  obtain ⟨b2, hb2_⟩ : ∃ b, Ev.alike (Ev.seenS (Ev.viewL up o)) a0.stack a1.stack = b := ⟨_, rfl⟩
  obtain ⟨t2, ht2_⟩ : ∃ t, Ev.told r2 b2 = t := ⟨_, rfl⟩
  simp only [hr2_, hb2_, ht2_, he0s, he1s] at hq2
  simp only [hr2_, he0s, he1s] at hm2
  simp only [hb2_, he0s, he1s] at hw2
  rw [hr2_] at hz2
  have HQ2 := Lib.hid hq2
  have HM2 := Lib.hid hm2
  have HW2 := Lib.hid hw2
  have HZ2 := Lib.hid hz2
  have HT2 := Lib.hid ht2_
  clear hq2 hm2 hw2 hz2 ht2_ hr2_ hb2_ hlk2
  obtain ⟨r3, hr3_⟩ : ∃ r, Ev.lookN names up o (a0.out.map (·.l) ++ a1.out.map (·.l)) = r := ⟨_, rfl⟩
  obtain ⟨b3, hb3_⟩ : ∃ b, Ev.outs (Ev.viewL up o) a0.out a1.out = b := ⟨_, rfl⟩
  obtain ⟨t3, ht3_⟩ : ∃ t, Ev.told r3 b3 = t := ⟨_, rfl⟩
  simp only [hr3_, hb3_, ht3_, he0o, he1o] at hq3
  simp only [hr3_, he0o, he1o] at hm3
  simp only [hb3_, he0o, he1o] at hw3
  rw [hr3_] at hz3
  have HQ3 := Lib.hid hq3
  have HM3 := Lib.hid hm3
  have HW3 := Lib.hid hw3
  have HZ3 := Lib.hid hz3
  have HT3 := Lib.hid ht3_
  clear hq3 hm3 hw3 hz3 ht3_ hr3_ hb3_ hlk3
  have HWN := Lib.hid hwn
  have HALIVE := Lib.hid (fun W => alive12_any W)
  clear hwn hnn hr0 hr1 hf0c hf0m hf0s hf0o hf1c hf1m hf1s hf1o he0c he0m he0s he0o he1c he1m he1s he1o HLL0 HLL1 HIS0 HIS1 HF0 HF1
  have l0 : W3.cell? ⟨w.heap.size, 0, none⟩ = some (.slice A1 k1 c1) := HLW.out.box.cell 0
  have l1 : W3.cell? ⟨w.heap.size, 1, none⟩ = some (.slice A2 k2 c2) := HLW.out.box.cell 1
  have x0_0 : W3.cell? ⟨w.heap.size + 1, 0, none⟩ = some (.int .i64 pv0) := (HLW.out.sts 0 _ rfl).cell 0
  have x0_1 : W3.cell? ⟨w.heap.size + 1, 1, none⟩ = some (.int .i64 pl0) := (HLW.out.sts 0 _ rfl).cell 1
  have x0_2 : W3.cell? ⟨w.heap.size + 1, 2, none⟩ = some (.slice cA cN0 cc0) := (HLW.out.sts 0 _ rfl).cell 2
  have x0_3 : W3.cell? ⟨w.heap.size + 1, 3, none⟩ = some (.slice mA mN0 mc0) := (HLW.out.sts 0 _ rfl).cell 3
  have x0_4 : W3.cell? ⟨w.heap.size + 1, 4, none⟩ = some (.slice sA sN0 sc0) := (HLW.out.sts 0 _ rfl).cell 4
  have x0_5 : W3.cell? ⟨w.heap.size + 1, 5, none⟩ = some (.slice oA oN0 oc0) := (HLW.out.sts 0 _ rfl).cell 5
  have x1_0 : W3.cell? ⟨w.heap.size + 2, 0, none⟩ = some (.int .i64 pv1) := (HLW.out.sts 1 _ rfl).cell 0
  have x1_1 : W3.cell? ⟨w.heap.size + 2, 1, none⟩ = some (.int .i64 pl1) := (HLW.out.sts 1 _ rfl).cell 1
  have x1_2 : W3.cell? ⟨w.heap.size + 2, 2, none⟩ = some (.slice cB cN1 cc1) := (HLW.out.sts 1 _ rfl).cell 2
  have x1_3 : W3.cell? ⟨w.heap.size + 2, 3, none⟩ = some (.slice mB mN1 mc1) := (HLW.out.sts 1 _ rfl).cell 3
  have x1_4 : W3.cell? ⟨w.heap.size + 2, 4, none⟩ = some (.slice sB sN1 sc1) := (HLW.out.sts 1 _ rfl).cell 4
  have x1_5 : W3.cell? ⟨w.heap.size + 2, 5, none⟩ = some (.slice oB oN1 oc1) := (HLW.out.sts 1 _ rfl).cell 5
  go_wp2_with (fail)
  refine (HQ0.out W3 HLW.out).mono ?_
  rintro e v0 ⟨rfl, hb⟩
  have HL0 := Lib.hid (HLW.out.next hb)
  clear hb HLW HQ0 l0 l1 x0_0 x0_1 x0_2 x0_3 x0_4 x0_5 x1_0 x1_1 x1_2 x1_3 x1_4 x1_5
  have l0 : v0.cell? ⟨w.heap.size, 0, none⟩ = some (.slice A1 k1 c1) := HL0.out.box.cell 0
  have l1 : v0.cell? ⟨w.heap.size, 1, none⟩ = some (.slice A2 k2 c2) := HL0.out.box.cell 1
  have x0_0 : v0.cell? ⟨w.heap.size + 1, 0, none⟩ = some (.int .i64 pv0) := (HL0.out.sts 0 _ rfl).cell 0
  have x0_1 : v0.cell? ⟨w.heap.size + 1, 1, none⟩ = some (.int .i64 pl0) := (HL0.out.sts 0 _ rfl).cell 1
  have x0_2 : v0.cell? ⟨w.heap.size + 1, 2, none⟩ = some (.slice cA cN0 cc0) := (HL0.out.sts 0 _ rfl).cell 2
  have x0_3 : v0.cell? ⟨w.heap.size + 1, 3, none⟩ = some (.slice mA mN0 mc0) := (HL0.out.sts 0 _ rfl).cell 3
  have x0_4 : v0.cell? ⟨w.heap.size + 1, 4, none⟩ = some (.slice sA sN0 sc0) := (HL0.out.sts 0 _ rfl).cell 4
  have x0_5 : v0.cell? ⟨w.heap.size + 1, 5, none⟩ = some (.slice oA oN0 oc0) := (HL0.out.sts 0 _ rfl).cell 5
  have x1_0 : v0.cell? ⟨w.heap.size + 2, 0, none⟩ = some (.int .i64 pv1) := (HL0.out.sts 1 _ rfl).cell 0
  have x1_1 : v0.cell? ⟨w.heap.size + 2, 1, none⟩ = some (.int .i64 pl1) := (HL0.out.sts 1 _ rfl).cell 1
  have x1_2 : v0.cell? ⟨w.heap.size + 2, 2, none⟩ = some (.slice cB cN1 cc1) := (HL0.out.sts 1 _ rfl).cell 2
  have x1_3 : v0.cell? ⟨w.heap.size + 2, 3, none⟩ = some (.slice mB mN1 mc1) := (HL0.out.sts 1 _ rfl).cell 3
  have x1_4 : v0.cell? ⟨w.heap.size + 2, 4, none⟩ = some (.slice sB sN1 sc1) := (HL0.out.sts 1 _ rfl).cell 4
  have x1_5 : v0.cell? ⟨w.heap.size + 2, 5, none⟩ = some (.slice oB oN1 oc1) := (HL0.out.sts 1 _ rfl).cell 5
  go_wp2_with (fail)
  refine (HQ1.out v0 HL0.out).mono ?_
  rintro e v1 ⟨rfl, hb⟩
  have HL1 := Lib.hid (HL0.out.next hb)
  clear hb HL0 HQ1 l0 l1 x0_0 x0_1 x0_2 x0_3 x0_4 x0_5 x1_0 x1_1 x1_2 x1_3 x1_4 x1_5
  have l0 : v1.cell? ⟨w.heap.size, 0, none⟩ = some (.slice A1 k1 c1) := HL1.out.box.cell 0
  have l1 : v1.cell? ⟨w.heap.size, 1, none⟩ = some (.slice A2 k2 c2) := HL1.out.box.cell 1
  have x0_0 : v1.cell? ⟨w.heap.size + 1, 0, none⟩ = some (.int .i64 pv0) := (HL1.out.sts 0 _ rfl).cell 0
  have x0_1 : v1.cell? ⟨w.heap.size + 1, 1, none⟩ = some (.int .i64 pl0) := (HL1.out.sts 0 _ rfl).cell 1
  have x0_2 : v1.cell? ⟨w.heap.size + 1, 2, none⟩ = some (.slice cA cN0 cc0) := (HL1.out.sts 0 _ rfl).cell 2
  have x0_3 : v1.cell? ⟨w.heap.size + 1, 3, none⟩ = some (.slice mA mN0 mc0) := (HL1.out.sts 0 _ rfl).cell 3
  have x0_4 : v1.cell? ⟨w.heap.size + 1, 4, none⟩ = some (.slice sA sN0 sc0) := (HL1.out.sts 0 _ rfl).cell 4
  have x0_5 : v1.cell? ⟨w.heap.size + 1, 5, none⟩ = some (.slice oA oN0 oc0) := (HL1.out.sts 0 _ rfl).cell 5
  have x1_0 : v1.cell? ⟨w.heap.size + 2, 0, none⟩ = some (.int .i64 pv1) := (HL1.out.sts 1 _ rfl).cell 0
  have x1_1 : v1.cell? ⟨w.heap.size + 2, 1, none⟩ = some (.int .i64 pl1) := (HL1.out.sts 1 _ rfl).cell 1
  have x1_2 : v1.cell? ⟨w.heap.size + 2, 2, none⟩ = some (.slice cB cN1 cc1) := (HL1.out.sts 1 _ rfl).cell 2
  have x1_3 : v1.cell? ⟨w.heap.size + 2, 3, none⟩ = some (.slice mB mN1 mc1) := (HL1.out.sts 1 _ rfl).cell 3
  have x1_4 : v1.cell? ⟨w.heap.size + 2, 4, none⟩ = some (.slice sB sN1 sc1) := (HL1.out.sts 1 _ rfl).cell 4
  have x1_5 : v1.cell? ⟨w.heap.size + 2, 5, none⟩ = some (.slice oB oN1 oc1) := (HL1.out.sts 1 _ rfl).cell 5
  go_wp2_with (fail)
  refine (HQ2.out v1 HL1.out).mono ?_
  rintro e v2 ⟨rfl, hb⟩
  have HL2 := Lib.hid (HL1.out.next hb)
  clear hb HL1 HQ2 l0 l1 x0_0 x0_1 x0_2 x0_3 x0_4 x0_5 x1_0 x1_1 x1_2 x1_3 x1_4 x1_5
  have l0 : v2.cell? ⟨w.heap.size, 0, none⟩ = some (.slice A1 k1 c1) := HL2.out.box.cell 0
  have l1 : v2.cell? ⟨w.heap.size, 1, none⟩ = some (.slice A2 k2 c2) := HL2.out.box.cell 1
  have x0_0 : v2.cell? ⟨w.heap.size + 1, 0, none⟩ = some (.int .i64 pv0) := (HL2.out.sts 0 _ rfl).cell 0
  have x0_1 : v2.cell? ⟨w.heap.size + 1, 1, none⟩ = some (.int .i64 pl0) := (HL2.out.sts 0 _ rfl).cell 1
  have x0_2 : v2.cell? ⟨w.heap.size + 1, 2, none⟩ = some (.slice cA cN0 cc0) := (HL2.out.sts 0 _ rfl).cell 2
  have x0_3 : v2.cell? ⟨w.heap.size + 1, 3, none⟩ = some (.slice mA mN0 mc0) := (HL2.out.sts 0 _ rfl).cell 3
  have x0_4 : v2.cell? ⟨w.heap.size + 1, 4, none⟩ = some (.slice sA sN0 sc0) := (HL2.out.sts 0 _ rfl).cell 4
  have x0_5 : v2.cell? ⟨w.heap.size + 1, 5, none⟩ = some (.slice oA oN0 oc0) := (HL2.out.sts 0 _ rfl).cell 5
  have x1_0 : v2.cell? ⟨w.heap.size + 2, 0, none⟩ = some (.int .i64 pv1) := (HL2.out.sts 1 _ rfl).cell 0
  have x1_1 : v2.cell? ⟨w.heap.size + 2, 1, none⟩ = some (.int .i64 pl1) := (HL2.out.sts 1 _ rfl).cell 1
  have x1_2 : v2.cell? ⟨w.heap.size + 2, 2, none⟩ = some (.slice cB cN1 cc1) := (HL2.out.sts 1 _ rfl).cell 2
  have x1_3 : v2.cell? ⟨w.heap.size + 2, 3, none⟩ = some (.slice mB mN1 mc1) := (HL2.out.sts 1 _ rfl).cell 3
  have x1_4 : v2.cell? ⟨w.heap.size + 2, 4, none⟩ = some (.slice sB sN1 sc1) := (HL2.out.sts 1 _ rfl).cell 4
  have x1_5 : v2.cell? ⟨w.heap.size + 2, 5, none⟩ = some (.slice oB oN1 oc1) := (HL2.out.sts 1 _ rfl).cell 5
  go_wp2_with (fail)
  refine (HQ3.out v2 HL2.out).mono ?_
  rintro e v3 ⟨rfl, hb⟩
  have HL3 := Lib.hid (HL2.out.next hb)
  clear hb HL2 HQ3 l0 l1 x0_0 x0_1 x0_2 x0_3 x0_4 x0_5 x1_0 x1_1 x1_2 x1_3 x1_4 x1_5
  have l0 : v3.cell? ⟨w.heap.size, 0, none⟩ = some (.slice A1 k1 c1) := HL3.out.box.cell 0
  have l1 : v3.cell? ⟨w.heap.size, 1, none⟩ = some (.slice A2 k2 c2) := HL3.out.box.cell 1
  have x0_0 : v3.cell? ⟨w.heap.size + 1, 0, none⟩ = some (.int .i64 pv0) := (HL3.out.sts 0 _ rfl).cell 0
  have x0_1 : v3.cell? ⟨w.heap.size + 1, 1, none⟩ = some (.int .i64 pl0) := (HL3.out.sts 0 _ rfl).cell 1
  have x0_2 : v3.cell? ⟨w.heap.size + 1, 2, none⟩ = some (.slice cA cN0 cc0) := (HL3.out.sts 0 _ rfl).cell 2
  have x0_3 : v3.cell? ⟨w.heap.size + 1, 3, none⟩ = some (.slice mA mN0 mc0) := (HL3.out.sts 0 _ rfl).cell 3
  have x0_4 : v3.cell? ⟨w.heap.size + 1, 4, none⟩ = some (.slice sA sN0 sc0) := (HL3.out.sts 0 _ rfl).cell 4
  have x0_5 : v3.cell? ⟨w.heap.size + 1, 5, none⟩ = some (.slice oA oN0 oc0) := (HL3.out.sts 0 _ rfl).cell 5
  have x1_0 : v3.cell? ⟨w.heap.size + 2, 0, none⟩ = some (.int .i64 pv1) := (HL3.out.sts 1 _ rfl).cell 0
  have x1_1 : v3.cell? ⟨w.heap.size + 2, 1, none⟩ = some (.int .i64 pl1) := (HL3.out.sts 1 _ rfl).cell 1
  have x1_2 : v3.cell? ⟨w.heap.size + 2, 2, none⟩ = some (.slice cB cN1 cc1) := (HL3.out.sts 1 _ rfl).cell 2
  have x1_3 : v3.cell? ⟨w.heap.size + 2, 3, none⟩ = some (.slice mB mN1 mc1) := (HL3.out.sts 1 _ rfl).cell 3
  have x1_4 : v3.cell? ⟨w.heap.size + 2, 4, none⟩ = some (.slice sB sN1 sc1) := (HL3.out.sts 1 _ rfl).cell 4
  have x1_5 : v3.cell? ⟨w.heap.size + 2, 5, none⟩ = some (.slice oB oN1 oc1) := (HL3.out.sts 1 _ rfl).cell 5
  have hpw : PW w (.slice A1 k1 c1) (.slice A2 k2 c2) names up [#[.int .i64 pv0, .int .i64 pl0, .slice cA cN0 cc0, .slice mA mN0 mc0, .slice sA sN0 sc0, .slice oA oN0 oc0], #[.int .i64 pv1, .int .i64 pl1, .slice cB cN1 cc1, .slice mB mN1 mc1, .slice sB sN1 sc1, .slice oB oN1 oc1]] v3.heap.size #[.int .i64 0, .int .i64 0, .slice none 0 0, .slice mA mN0 mc0, .slice none 0 0, .slice none 0 0, .int .i64 0, .int .i64 0, .slice none 0 0, .slice mB mN1 mc1, .slice none 0 0, .slice none 0 0, .int .i64 (r0 : Nat), .bool t0, .int .i64 0, .int .i64 0, .slice cA cN0 cc0, .slice none 0 0, .slice none 0 0, .slice none 0 0, .int .i64 0, .int .i64 0, .slice cB cN1 cc1, .slice none 0 0, .slice none 0 0, .slice none 0 0, .int .i64 (r1 : Nat), .bool t1, .int .i64 0, .int .i64 0, .slice none 0 0, .slice none 0 0, .slice sA sN0 sc0, .slice none 0 0, .int .i64 0, .int .i64 0, .slice none 0 0, .slice none 0 0, .slice sB sN1 sc1, .slice none 0 0, .int .i64 (r2 : Nat), .bool t2, .int .i64 0, .int .i64 0, .slice none 0 0, .slice none 0 0, .slice none 0 0, .slice oA oN0 oc0, .int .i64 0, .int .i64 0, .slice none 0 0, .slice none 0 0, .slice none 0 0, .slice oB oN1 oc1, .int .i64 (r3 : Nat), .bool t3] (v3.alloc (.cells #[.int .i64 0, .int .i64 0, .slice none 0 0, .slice mA mN0 mc0, .slice none 0 0, .slice none 0 0, .int .i64 0, .int .i64 0, .slice none 0 0, .slice mB mN1 mc1, .slice none 0 0, .slice none 0 0, .int .i64 (r0 : Nat), .bool t0, .int .i64 0, .int .i64 0, .slice cA cN0 cc0, .slice none 0 0, .slice none 0 0, .slice none 0 0, .int .i64 0, .int .i64 0, .slice cB cN1 cc1, .slice none 0 0, .slice none 0 0, .slice none 0 0, .int .i64 (r1 : Nat), .bool t1, .int .i64 0, .int .i64 0, .slice none 0 0, .slice none 0 0, .slice sA sN0 sc0, .slice none 0 0, .int .i64 0, .int .i64 0, .slice none 0 0, .slice none 0 0, .slice sB sN1 sc1, .slice none 0 0, .int .i64 (r2 : Nat), .bool t2, .int .i64 0, .int .i64 0, .slice none 0 0, .slice none 0 0, .slice none 0 0, .slice oA oN0 oc0, .int .i64 0, .int .i64 0, .slice none 0 0, .slice none 0 0, .slice none 0 0, .slice oB oN1 oc1, .int .i64 (r3 : Nat), .bool t3] 40)) := ⟨HL3.out.next ((Below.refl _ v3).alloc (Nat.le_refl _) _), Blk.new _ _ _⟩
  have HPW := Lib.hid hpw
  clear hpw
  go_wp2
  clear HL3 l0 l1 x0_0 x0_1 x0_2 x0_3 x0_4 x0_5 x1_0 x1_1 x1_2 x1_3 x1_4 x1_5
  go_loopw [105] (fun i wr => ∃ q : Nat, q ≤ 4 ∧ i = .int .i64 q ∧ Hid (PW w (.slice A1 k1 c1) (.slice A2 k2 c2) names up [#[.int .i64 pv0, .int .i64 pl0, .slice cA cN0 cc0, .slice mA mN0 mc0, .slice sA sN0 sc0, .slice oA oN0 oc0], #[.int .i64 pv1, .int .i64 pl1, .slice cB cN1 cc1, .slice mB mN1 mc1, .slice sB sN1 sc1, .slice oB oN1 oc1]] v3.heap.size #[.int .i64 0, .int .i64 0, .slice none 0 0, .slice mA mN0 mc0, .slice none 0 0, .slice none 0 0, .int .i64 0, .int .i64 0, .slice none 0 0, .slice mB mN1 mc1, .slice none 0 0, .slice none 0 0, .int .i64 (r0 : Nat), .bool t0, .int .i64 0, .int .i64 0, .slice cA cN0 cc0, .slice none 0 0, .slice none 0 0, .slice none 0 0, .int .i64 0, .int .i64 0, .slice cB cN1 cc1, .slice none 0 0, .slice none 0 0, .slice none 0 0, .int .i64 (r1 : Nat), .bool t1, .int .i64 0, .int .i64 0, .slice none 0 0, .slice none 0 0, .slice sA sN0 sc0, .slice none 0 0, .int .i64 0, .int .i64 0, .slice none 0 0, .slice none 0 0, .slice sB sN1 sc1, .slice none 0 0, .int .i64 (r2 : Nat), .bool t2, .int .i64 0, .int .i64 0, .slice none 0 0, .slice none 0 0, .slice none 0 0, .slice oA oN0 oc0, .int .i64 0, .int .i64 0, .slice none 0 0, .slice none 0 0, .slice none 0 0, .slice oB oN1 oc1, .int .i64 (r3 : Nat), .bool t3] wr)) (fun i _ => 4 - (intOf i).toNat)
  case atStart => exact ⟨0, by decide, rfl, HPW⟩
  case round =>
    clear HPW
    obtain ⟨q, hq, rfl, HP⟩ := hrel
    rcases (by omega : q = 0 ∨ q = 1 ∨ q = 2 ∨ q = 3 ∨ q = 4) with rfl | rfl | rfl | rfl | rfl
    · have y0 : wr.cell? ⟨v3.heap.size, 0, none⟩ = some (.int .i64 0) := HP.out.row.cell 0
      have y1 : wr.cell? ⟨v3.heap.size, 1, none⟩ = some (.int .i64 0) := HP.out.row.cell 1
      have y2 : wr.cell? ⟨v3.heap.size, 2, none⟩ = some (.slice none 0 0) := HP.out.row.cell 2
      have y3 : wr.cell? ⟨v3.heap.size, 3, none⟩ = some (.slice mA mN0 mc0) := HP.out.row.cell 3
      have y4 : wr.cell? ⟨v3.heap.size, 4, none⟩ = some (.slice none 0 0) := HP.out.row.cell 4
      have y5 : wr.cell? ⟨v3.heap.size, 5, none⟩ = some (.slice none 0 0) := HP.out.row.cell 5
      have y6 : wr.cell? ⟨v3.heap.size, 6, none⟩ = some (.int .i64 0) := HP.out.row.cell 6
      have y7 : wr.cell? ⟨v3.heap.size, 7, none⟩ = some (.int .i64 0) := HP.out.row.cell 7
      have y8 : wr.cell? ⟨v3.heap.size, 8, none⟩ = some (.slice none 0 0) := HP.out.row.cell 8
      have y9 : wr.cell? ⟨v3.heap.size, 9, none⟩ = some (.slice mB mN1 mc1) := HP.out.row.cell 9
      have y10 : wr.cell? ⟨v3.heap.size, 10, none⟩ = some (.slice none 0 0) := HP.out.row.cell 10
      have y11 : wr.cell? ⟨v3.heap.size, 11, none⟩ = some (.slice none 0 0) := HP.out.row.cell 11
      have y12 : wr.cell? ⟨v3.heap.size, 12, none⟩ = some (.int .i64 (r0 : Nat)) := HP.out.row.cell 12
      have y13 : wr.cell? ⟨v3.heap.size, 13, none⟩ = some (.bool t0) := HP.out.row.cell 13
      have hgl : v3.heap.size < wr.heap.size := HP.out.row.lt
      have hal := (Below.refl wr.heap.size wr).alloc (Nat.le_refl _) (.cells #[.int .i64 0, .int .i64 0, .slice none 0 0, .slice mA mN0 mc0, .slice none 0 0, .slice none 0 0, .int .i64 0, .int .i64 0, .slice none 0 0, .slice mB mN1 mc1, .slice none 0 0, .slice none 0 0, .int .i64 (r0 : Nat), .bool t0] 40)
      obtain ⟨Wb, hWb⟩ : ∃ Wb, wr.alloc (.cells #[.int .i64 0, .int .i64 0, .slice none 0 0, .slice mA mN0 mc0, .slice none 0 0, .slice none 0 0, .int .i64 0, .int .i64 0, .slice none 0 0, .slice mB mN1 mc1, .slice none 0 0, .slice none 0 0, .int .i64 (r0 : Nat), .bool t0] 40) = Wb := ⟨_, rfl⟩
      have hkb := Blk.new wr 40 #[.int .i64 0, .int .i64 0, .slice none 0 0, .slice mA mN0 mc0, .slice none 0 0, .slice none 0 0, .int .i64 0, .int .i64 0, .slice none 0 0, .slice mB mN1 mc1, .slice none 0 0, .slice none 0 0, .int .i64 (r0 : Nat), .bool t0]
      have hpb := HP.out.next hal
      rw [hWb] at hkb hpb
      have HPB := Lib.hid hpb
      have HKB := Lib.hid hkb
      have z0 : Wb.cell? ⟨wr.heap.size, 0, none⟩ = some (.int .i64 0) := hkb.cell 0
      have z1 : Wb.cell? ⟨wr.heap.size, 1, none⟩ = some (.int .i64 0) := hkb.cell 1
      have z2 : Wb.cell? ⟨wr.heap.size, 2, none⟩ = some (.slice none 0 0) := hkb.cell 2
      have z3 : Wb.cell? ⟨wr.heap.size, 3, none⟩ = some (.slice mA mN0 mc0) := hkb.cell 3
      have z4 : Wb.cell? ⟨wr.heap.size, 4, none⟩ = some (.slice none 0 0) := hkb.cell 4
      have z5 : Wb.cell? ⟨wr.heap.size, 5, none⟩ = some (.slice none 0 0) := hkb.cell 5
      have z6 : Wb.cell? ⟨wr.heap.size, 6, none⟩ = some (.int .i64 0) := hkb.cell 6
      have z7 : Wb.cell? ⟨wr.heap.size, 7, none⟩ = some (.int .i64 0) := hkb.cell 7
      have z8 : Wb.cell? ⟨wr.heap.size, 8, none⟩ = some (.slice none 0 0) := hkb.cell 8
      have z9 : Wb.cell? ⟨wr.heap.size, 9, none⟩ = some (.slice mB mN1 mc1) := hkb.cell 9
      have z10 : Wb.cell? ⟨wr.heap.size, 10, none⟩ = some (.slice none 0 0) := hkb.cell 10
      have z11 : Wb.cell? ⟨wr.heap.size, 11, none⟩ = some (.slice none 0 0) := hkb.cell 11
      have z12 : Wb.cell? ⟨wr.heap.size, 12, none⟩ = some (.int .i64 (r0 : Nat)) := hkb.cell 12
      have z13 : Wb.cell? ⟨wr.heap.size, 13, none⟩ = some (.bool t0) := hkb.cell 13
      clear hal hkb hpb HP
      have l0 : Wb.cell? ⟨w.heap.size, 0, none⟩ = some (.slice A1 k1 c1) := HPB.out.lw.box.cell 0
      have l1 : Wb.cell? ⟨w.heap.size, 1, none⟩ = some (.slice A2 k2 c2) := HPB.out.lw.box.cell 1
      go_wp2_with (fail)
      refine (HM0.out Wb HPB.out.lw).mono ?_
      rintro e u1 ⟨rfl, hb⟩
      have HP1 := Lib.hid (HPB.out.next hb)
      have HK1 := Lib.hid (HKB.out.below hb HKB.out.lt)
      clear hb HPB HKB hWb y0 z0 y1 z1 y2 z2 y3 z3 y4 z4 y5 z5 y6 z6 y7 z7 y8 z8 y9 z9 y10 z10 y11 z11 y12 z12 y13 z13 l0 l1
      have z0 : u1.cell? ⟨wr.heap.size, 0, none⟩ = some (.int .i64 0) := HK1.out.cell 0
      have z1 : u1.cell? ⟨wr.heap.size, 1, none⟩ = some (.int .i64 0) := HK1.out.cell 1
      have z2 : u1.cell? ⟨wr.heap.size, 2, none⟩ = some (.slice none 0 0) := HK1.out.cell 2
      have z3 : u1.cell? ⟨wr.heap.size, 3, none⟩ = some (.slice mA mN0 mc0) := HK1.out.cell 3
      have z4 : u1.cell? ⟨wr.heap.size, 4, none⟩ = some (.slice none 0 0) := HK1.out.cell 4
      have z5 : u1.cell? ⟨wr.heap.size, 5, none⟩ = some (.slice none 0 0) := HK1.out.cell 5
      have z6 : u1.cell? ⟨wr.heap.size, 6, none⟩ = some (.int .i64 0) := HK1.out.cell 6
      have z7 : u1.cell? ⟨wr.heap.size, 7, none⟩ = some (.int .i64 0) := HK1.out.cell 7
      have z8 : u1.cell? ⟨wr.heap.size, 8, none⟩ = some (.slice none 0 0) := HK1.out.cell 8
      have z9 : u1.cell? ⟨wr.heap.size, 9, none⟩ = some (.slice mB mN1 mc1) := HK1.out.cell 9
      have z10 : u1.cell? ⟨wr.heap.size, 10, none⟩ = some (.slice none 0 0) := HK1.out.cell 10
      have z11 : u1.cell? ⟨wr.heap.size, 11, none⟩ = some (.slice none 0 0) := HK1.out.cell 11
      have z12 : u1.cell? ⟨wr.heap.size, 12, none⟩ = some (.int .i64 (r0 : Nat)) := HK1.out.cell 12
      have z13 : u1.cell? ⟨wr.heap.size, 13, none⟩ = some (.bool t0) := HK1.out.cell 13
      have hss : (((r0 : Nat) : Int) != ((r0 : Nat) : Int)) = false := by simp
      by_cases hz : r0 = 0
      · subst hz
        obtain rfl : b0 = t0 := HT0.out
        obtain ⟨g1, g2, g3⟩ := HZ0.out rfl
        have hcall := fun W hW => HW0.out W hW g1 g2
        have HCALL := Lib.hid hcall
        have hcaln := fun W hW => HWN.out W hW g1
        have HCALN := Lib.hid hcaln
        have hqq : (b0 != b0) = false := by simp
        clear g1 g2 g3 hcall hcaln
        have l0 : u1.cell? ⟨w.heap.size, 0, none⟩ = some (.slice A1 k1 c1) := HP1.out.lw.box.cell 0
        have l1 : u1.cell? ⟨w.heap.size, 1, none⟩ = some (.slice A2 k2 c2) := HP1.out.lw.box.cell 1
        go_wp2_with (fail)
        refine (HCALN.out u1 HP1.out.lw).mono ?_
        rintro e u2 ⟨rfl, hb⟩
        have HP2 := Lib.hid (HP1.out.next hb)
        have HK2 := Lib.hid (HK1.out.below hb HK1.out.lt)
        clear hb HP1 HK1 z0 z1 z2 z3 z4 z5 z6 z7 z8 z9 z10 z11 z12 z13 l0 l1
        have z0 : u2.cell? ⟨wr.heap.size, 0, none⟩ = some (.int .i64 0) := HK2.out.cell 0
        have z1 : u2.cell? ⟨wr.heap.size, 1, none⟩ = some (.int .i64 0) := HK2.out.cell 1
        have z2 : u2.cell? ⟨wr.heap.size, 2, none⟩ = some (.slice none 0 0) := HK2.out.cell 2
        have z3 : u2.cell? ⟨wr.heap.size, 3, none⟩ = some (.slice mA mN0 mc0) := HK2.out.cell 3
        have z4 : u2.cell? ⟨wr.heap.size, 4, none⟩ = some (.slice none 0 0) := HK2.out.cell 4
        have z5 : u2.cell? ⟨wr.heap.size, 5, none⟩ = some (.slice none 0 0) := HK2.out.cell 5
        have z6 : u2.cell? ⟨wr.heap.size, 6, none⟩ = some (.int .i64 0) := HK2.out.cell 6
        have z7 : u2.cell? ⟨wr.heap.size, 7, none⟩ = some (.int .i64 0) := HK2.out.cell 7
        have z8 : u2.cell? ⟨wr.heap.size, 8, none⟩ = some (.slice none 0 0) := HK2.out.cell 8
        have z9 : u2.cell? ⟨wr.heap.size, 9, none⟩ = some (.slice mB mN1 mc1) := HK2.out.cell 9
        have z10 : u2.cell? ⟨wr.heap.size, 10, none⟩ = some (.slice none 0 0) := HK2.out.cell 10
        have z11 : u2.cell? ⟨wr.heap.size, 11, none⟩ = some (.slice none 0 0) := HK2.out.cell 11
        have z12 : u2.cell? ⟨wr.heap.size, 12, none⟩ = some (.int .i64 ((0 : Nat) : Int)) := HK2.out.cell 12
        have z13 : u2.cell? ⟨wr.heap.size, 13, none⟩ = some (.bool b0) := HK2.out.cell 13
        have l0 : u2.cell? ⟨w.heap.size, 0, none⟩ = some (.slice A1 k1 c1) := HP2.out.lw.box.cell 0
        have l1 : u2.cell? ⟨w.heap.size, 1, none⟩ = some (.slice A2 k2 c2) := HP2.out.lw.box.cell 1
        have x0_0 : u2.cell? ⟨w.heap.size + 1, 0, none⟩ = some (.int .i64 pv0) := (HP2.out.lw.sts 0 _ rfl).cell 0
        have x0_1 : u2.cell? ⟨w.heap.size + 1, 1, none⟩ = some (.int .i64 pl0) := (HP2.out.lw.sts 0 _ rfl).cell 1
        have x0_2 : u2.cell? ⟨w.heap.size + 1, 2, none⟩ = some (.slice cA cN0 cc0) := (HP2.out.lw.sts 0 _ rfl).cell 2
        have x0_3 : u2.cell? ⟨w.heap.size + 1, 3, none⟩ = some (.slice mA mN0 mc0) := (HP2.out.lw.sts 0 _ rfl).cell 3
        have x0_4 : u2.cell? ⟨w.heap.size + 1, 4, none⟩ = some (.slice sA sN0 sc0) := (HP2.out.lw.sts 0 _ rfl).cell 4
        have x0_5 : u2.cell? ⟨w.heap.size + 1, 5, none⟩ = some (.slice oA oN0 oc0) := (HP2.out.lw.sts 0 _ rfl).cell 5
        have x1_0 : u2.cell? ⟨w.heap.size + 2, 0, none⟩ = some (.int .i64 pv1) := (HP2.out.lw.sts 1 _ rfl).cell 0
        have x1_1 : u2.cell? ⟨w.heap.size + 2, 1, none⟩ = some (.int .i64 pl1) := (HP2.out.lw.sts 1 _ rfl).cell 1
        have x1_2 : u2.cell? ⟨w.heap.size + 2, 2, none⟩ = some (.slice cB cN1 cc1) := (HP2.out.lw.sts 1 _ rfl).cell 2
        have x1_3 : u2.cell? ⟨w.heap.size + 2, 3, none⟩ = some (.slice mB mN1 mc1) := (HP2.out.lw.sts 1 _ rfl).cell 3
        have x1_4 : u2.cell? ⟨w.heap.size + 2, 4, none⟩ = some (.slice sB sN1 sc1) := (HP2.out.lw.sts 1 _ rfl).cell 4
        have x1_5 : u2.cell? ⟨w.heap.size + 2, 5, none⟩ = some (.slice oB oN1 oc1) := (HP2.out.lw.sts 1 _ rfl).cell 5
        go_wp2_with (fail)
        refine (HCALL.out u2 HP2.out.lw).mono ?_
        rintro e u3 ⟨rfl, hb⟩
        have HP3 := Lib.hid (HP2.out.next hb)
        have HK3 := Lib.hid (HK2.out.below hb HK2.out.lt)
        clear hb HP2 HK2 z0 z1 z2 z3 z4 z5 z6 z7 z8 z9 z10 z11 z12 z13 l0 l1 x0_0 x0_1 x0_2 x0_3 x0_4 x0_5 x1_0 x1_1 x1_2 x1_3 x1_4 x1_5
        have z0 : u3.cell? ⟨wr.heap.size, 0, none⟩ = some (.int .i64 0) := HK3.out.cell 0
        have z1 : u3.cell? ⟨wr.heap.size, 1, none⟩ = some (.int .i64 0) := HK3.out.cell 1
        have z2 : u3.cell? ⟨wr.heap.size, 2, none⟩ = some (.slice none 0 0) := HK3.out.cell 2
        have z3 : u3.cell? ⟨wr.heap.size, 3, none⟩ = some (.slice mA mN0 mc0) := HK3.out.cell 3
        have z4 : u3.cell? ⟨wr.heap.size, 4, none⟩ = some (.slice none 0 0) := HK3.out.cell 4
        have z5 : u3.cell? ⟨wr.heap.size, 5, none⟩ = some (.slice none 0 0) := HK3.out.cell 5
        have z6 : u3.cell? ⟨wr.heap.size, 6, none⟩ = some (.int .i64 0) := HK3.out.cell 6
        have z7 : u3.cell? ⟨wr.heap.size, 7, none⟩ = some (.int .i64 0) := HK3.out.cell 7
        have z8 : u3.cell? ⟨wr.heap.size, 8, none⟩ = some (.slice none 0 0) := HK3.out.cell 8
        have z9 : u3.cell? ⟨wr.heap.size, 9, none⟩ = some (.slice mB mN1 mc1) := HK3.out.cell 9
        have z10 : u3.cell? ⟨wr.heap.size, 10, none⟩ = some (.slice none 0 0) := HK3.out.cell 10
        have z11 : u3.cell? ⟨wr.heap.size, 11, none⟩ = some (.slice none 0 0) := HK3.out.cell 11
        have z12 : u3.cell? ⟨wr.heap.size, 12, none⟩ = some (.int .i64 ((0 : Nat) : Int)) := HK3.out.cell 12
        have z13 : u3.cell? ⟨wr.heap.size, 13, none⟩ = some (.bool b0) := HK3.out.cell 13
        go_wp2
        go_roundw
        case rel => exact ⟨_, _, _, _, _, _, _, _, _, _, _, _, _, _, _, _, _, _, _, _, _, _, _, _, _, _, _, _, _, _, _, _, _, _, _, _, _, _, _, _, _, _, _, _, _, _, _, _, _, _, _, _, _, _, _, _, _, _, _, _, _, _, _, _, _, _, _, _, _, _, _, _, _, ⟨1, by decide, rfl, HP3⟩, rfl⟩
        case measure => simp [intOf]
      · have hz1 : ((r0 : Int) == 0) = false := by rw [beq_eq_false_iff_ne]; omega
        have hz2 : ((r0 : Int) != 0) = true := by rw [bne_iff_ne]; omega
        obtain rfl : false = t0 := HT0.out ▸ (told_err hz).symm
        clear hz
        go_wp2
        go_roundw
        case rel => exact ⟨1, by decide, by go_num, HP1⟩
        case measure => simp [intOf]
    · have y0 : wr.cell? ⟨v3.heap.size, 14, none⟩ = some (.int .i64 0) := HP.out.row.cell 14
      have y1 : wr.cell? ⟨v3.heap.size, 15, none⟩ = some (.int .i64 0) := HP.out.row.cell 15
      have y2 : wr.cell? ⟨v3.heap.size, 16, none⟩ = some (.slice cA cN0 cc0) := HP.out.row.cell 16
      have y3 : wr.cell? ⟨v3.heap.size, 17, none⟩ = some (.slice none 0 0) := HP.out.row.cell 17
      have y4 : wr.cell? ⟨v3.heap.size, 18, none⟩ = some (.slice none 0 0) := HP.out.row.cell 18
      have y5 : wr.cell? ⟨v3.heap.size, 19, none⟩ = some (.slice none 0 0) := HP.out.row.cell 19
      have y6 : wr.cell? ⟨v3.heap.size, 20, none⟩ = some (.int .i64 0) := HP.out.row.cell 20
      have y7 : wr.cell? ⟨v3.heap.size, 21, none⟩ = some (.int .i64 0) := HP.out.row.cell 21
      have y8 : wr.cell? ⟨v3.heap.size, 22, none⟩ = some (.slice cB cN1 cc1) := HP.out.row.cell 22
      have y9 : wr.cell? ⟨v3.heap.size, 23, none⟩ = some (.slice none 0 0) := HP.out.row.cell 23
      have y10 : wr.cell? ⟨v3.heap.size, 24, none⟩ = some (.slice none 0 0) := HP.out.row.cell 24
      have y11 : wr.cell? ⟨v3.heap.size, 25, none⟩ = some (.slice none 0 0) := HP.out.row.cell 25
      have y12 : wr.cell? ⟨v3.heap.size, 26, none⟩ = some (.int .i64 (r1 : Nat)) := HP.out.row.cell 26
      have y13 : wr.cell? ⟨v3.heap.size, 27, none⟩ = some (.bool t1) := HP.out.row.cell 27
      have hgl : v3.heap.size < wr.heap.size := HP.out.row.lt
      have hal := (Below.refl wr.heap.size wr).alloc (Nat.le_refl _) (.cells #[.int .i64 0, .int .i64 0, .slice cA cN0 cc0, .slice none 0 0, .slice none 0 0, .slice none 0 0, .int .i64 0, .int .i64 0, .slice cB cN1 cc1, .slice none 0 0, .slice none 0 0, .slice none 0 0, .int .i64 (r1 : Nat), .bool t1] 40)
      obtain ⟨Wb, hWb⟩ : ∃ Wb, wr.alloc (.cells #[.int .i64 0, .int .i64 0, .slice cA cN0 cc0, .slice none 0 0, .slice none 0 0, .slice none 0 0, .int .i64 0, .int .i64 0, .slice cB cN1 cc1, .slice none 0 0, .slice none 0 0, .slice none 0 0, .int .i64 (r1 : Nat), .bool t1] 40) = Wb := ⟨_, rfl⟩
      have hkb := Blk.new wr 40 #[.int .i64 0, .int .i64 0, .slice cA cN0 cc0, .slice none 0 0, .slice none 0 0, .slice none 0 0, .int .i64 0, .int .i64 0, .slice cB cN1 cc1, .slice none 0 0, .slice none 0 0, .slice none 0 0, .int .i64 (r1 : Nat), .bool t1]
      have hpb := HP.out.next hal
      rw [hWb] at hkb hpb
      have HPB := Lib.hid hpb
      have HKB := Lib.hid hkb
      have z0 : Wb.cell? ⟨wr.heap.size, 0, none⟩ = some (.int .i64 0) := hkb.cell 0
      have z1 : Wb.cell? ⟨wr.heap.size, 1, none⟩ = some (.int .i64 0) := hkb.cell 1
      have z2 : Wb.cell? ⟨wr.heap.size, 2, none⟩ = some (.slice cA cN0 cc0) := hkb.cell 2
      have z3 : Wb.cell? ⟨wr.heap.size, 3, none⟩ = some (.slice none 0 0) := hkb.cell 3
      have z4 : Wb.cell? ⟨wr.heap.size, 4, none⟩ = some (.slice none 0 0) := hkb.cell 4
      have z5 : Wb.cell? ⟨wr.heap.size, 5, none⟩ = some (.slice none 0 0) := hkb.cell 5
      have z6 : Wb.cell? ⟨wr.heap.size, 6, none⟩ = some (.int .i64 0) := hkb.cell 6
      have z7 : Wb.cell? ⟨wr.heap.size, 7, none⟩ = some (.int .i64 0) := hkb.cell 7
      have z8 : Wb.cell? ⟨wr.heap.size, 8, none⟩ = some (.slice cB cN1 cc1) := hkb.cell 8
      have z9 : Wb.cell? ⟨wr.heap.size, 9, none⟩ = some (.slice none 0 0) := hkb.cell 9
      have z10 : Wb.cell? ⟨wr.heap.size, 10, none⟩ = some (.slice none 0 0) := hkb.cell 10
      have z11 : Wb.cell? ⟨wr.heap.size, 11, none⟩ = some (.slice none 0 0) := hkb.cell 11
      have z12 : Wb.cell? ⟨wr.heap.size, 12, none⟩ = some (.int .i64 (r1 : Nat)) := hkb.cell 12
      have z13 : Wb.cell? ⟨wr.heap.size, 13, none⟩ = some (.bool t1) := hkb.cell 13
      clear hal hkb hpb HP
      have l0 : Wb.cell? ⟨w.heap.size, 0, none⟩ = some (.slice A1 k1 c1) := HPB.out.lw.box.cell 0
      have l1 : Wb.cell? ⟨w.heap.size, 1, none⟩ = some (.slice A2 k2 c2) := HPB.out.lw.box.cell 1
      go_wp2_with (fail)
      refine (HM1.out Wb HPB.out.lw).mono ?_
      rintro e u1 ⟨rfl, hb⟩
      have HP1 := Lib.hid (HPB.out.next hb)
      have HK1 := Lib.hid (HKB.out.below hb HKB.out.lt)
      clear hb HPB HKB hWb y0 z0 y1 z1 y2 z2 y3 z3 y4 z4 y5 z5 y6 z6 y7 z7 y8 z8 y9 z9 y10 z10 y11 z11 y12 z12 y13 z13 l0 l1
      have z0 : u1.cell? ⟨wr.heap.size, 0, none⟩ = some (.int .i64 0) := HK1.out.cell 0
      have z1 : u1.cell? ⟨wr.heap.size, 1, none⟩ = some (.int .i64 0) := HK1.out.cell 1
      have z2 : u1.cell? ⟨wr.heap.size, 2, none⟩ = some (.slice cA cN0 cc0) := HK1.out.cell 2
      have z3 : u1.cell? ⟨wr.heap.size, 3, none⟩ = some (.slice none 0 0) := HK1.out.cell 3
      have z4 : u1.cell? ⟨wr.heap.size, 4, none⟩ = some (.slice none 0 0) := HK1.out.cell 4
      have z5 : u1.cell? ⟨wr.heap.size, 5, none⟩ = some (.slice none 0 0) := HK1.out.cell 5
      have z6 : u1.cell? ⟨wr.heap.size, 6, none⟩ = some (.int .i64 0) := HK1.out.cell 6
      have z7 : u1.cell? ⟨wr.heap.size, 7, none⟩ = some (.int .i64 0) := HK1.out.cell 7
      have z8 : u1.cell? ⟨wr.heap.size, 8, none⟩ = some (.slice cB cN1 cc1) := HK1.out.cell 8
      have z9 : u1.cell? ⟨wr.heap.size, 9, none⟩ = some (.slice none 0 0) := HK1.out.cell 9
      have z10 : u1.cell? ⟨wr.heap.size, 10, none⟩ = some (.slice none 0 0) := HK1.out.cell 10
      have z11 : u1.cell? ⟨wr.heap.size, 11, none⟩ = some (.slice none 0 0) := HK1.out.cell 11
      have z12 : u1.cell? ⟨wr.heap.size, 12, none⟩ = some (.int .i64 (r1 : Nat)) := HK1.out.cell 12
      have z13 : u1.cell? ⟨wr.heap.size, 13, none⟩ = some (.bool t1) := HK1.out.cell 13
      have hss : (((r1 : Nat) : Int) != ((r1 : Nat) : Int)) = false := by simp
      by_cases hz : r1 = 0
      · subst hz
        obtain rfl : b1 = t1 := HT1.out
        obtain ⟨g1, g2, g3⟩ := HZ1.out rfl
        have hcall := fun W hW => HW1.out W hW g1 g2
        have HCALL := Lib.hid hcall
        have hcaln := fun W hW => HWN.out W hW g1
        have HCALN := Lib.hid hcaln
        have hqq : (b1 != b1) = false := by simp
        clear g1 g2 g3 hcall hcaln
        have l0 : u1.cell? ⟨w.heap.size, 0, none⟩ = some (.slice A1 k1 c1) := HP1.out.lw.box.cell 0
        have l1 : u1.cell? ⟨w.heap.size, 1, none⟩ = some (.slice A2 k2 c2) := HP1.out.lw.box.cell 1
        go_wp2_with (fail)
        refine (HCALN.out u1 HP1.out.lw).mono ?_
        rintro e u2 ⟨rfl, hb⟩
        have HP2 := Lib.hid (HP1.out.next hb)
        have HK2 := Lib.hid (HK1.out.below hb HK1.out.lt)
        clear hb HP1 HK1 z0 z1 z2 z3 z4 z5 z6 z7 z8 z9 z10 z11 z12 z13 l0 l1
        have z0 : u2.cell? ⟨wr.heap.size, 0, none⟩ = some (.int .i64 0) := HK2.out.cell 0
        have z1 : u2.cell? ⟨wr.heap.size, 1, none⟩ = some (.int .i64 0) := HK2.out.cell 1
        have z2 : u2.cell? ⟨wr.heap.size, 2, none⟩ = some (.slice cA cN0 cc0) := HK2.out.cell 2
        have z3 : u2.cell? ⟨wr.heap.size, 3, none⟩ = some (.slice none 0 0) := HK2.out.cell 3
        have z4 : u2.cell? ⟨wr.heap.size, 4, none⟩ = some (.slice none 0 0) := HK2.out.cell 4
        have z5 : u2.cell? ⟨wr.heap.size, 5, none⟩ = some (.slice none 0 0) := HK2.out.cell 5
        have z6 : u2.cell? ⟨wr.heap.size, 6, none⟩ = some (.int .i64 0) := HK2.out.cell 6
        have z7 : u2.cell? ⟨wr.heap.size, 7, none⟩ = some (.int .i64 0) := HK2.out.cell 7
        have z8 : u2.cell? ⟨wr.heap.size, 8, none⟩ = some (.slice cB cN1 cc1) := HK2.out.cell 8
        have z9 : u2.cell? ⟨wr.heap.size, 9, none⟩ = some (.slice none 0 0) := HK2.out.cell 9
        have z10 : u2.cell? ⟨wr.heap.size, 10, none⟩ = some (.slice none 0 0) := HK2.out.cell 10
        have z11 : u2.cell? ⟨wr.heap.size, 11, none⟩ = some (.slice none 0 0) := HK2.out.cell 11
        have z12 : u2.cell? ⟨wr.heap.size, 12, none⟩ = some (.int .i64 ((0 : Nat) : Int)) := HK2.out.cell 12
        have z13 : u2.cell? ⟨wr.heap.size, 13, none⟩ = some (.bool b1) := HK2.out.cell 13
        have l0 : u2.cell? ⟨w.heap.size, 0, none⟩ = some (.slice A1 k1 c1) := HP2.out.lw.box.cell 0
        have l1 : u2.cell? ⟨w.heap.size, 1, none⟩ = some (.slice A2 k2 c2) := HP2.out.lw.box.cell 1
        have x0_0 : u2.cell? ⟨w.heap.size + 1, 0, none⟩ = some (.int .i64 pv0) := (HP2.out.lw.sts 0 _ rfl).cell 0
        have x0_1 : u2.cell? ⟨w.heap.size + 1, 1, none⟩ = some (.int .i64 pl0) := (HP2.out.lw.sts 0 _ rfl).cell 1
        have x0_2 : u2.cell? ⟨w.heap.size + 1, 2, none⟩ = some (.slice cA cN0 cc0) := (HP2.out.lw.sts 0 _ rfl).cell 2
        have x0_3 : u2.cell? ⟨w.heap.size + 1, 3, none⟩ = some (.slice mA mN0 mc0) := (HP2.out.lw.sts 0 _ rfl).cell 3
        have x0_4 : u2.cell? ⟨w.heap.size + 1, 4, none⟩ = some (.slice sA sN0 sc0) := (HP2.out.lw.sts 0 _ rfl).cell 4
        have x0_5 : u2.cell? ⟨w.heap.size + 1, 5, none⟩ = some (.slice oA oN0 oc0) := (HP2.out.lw.sts 0 _ rfl).cell 5
        have x1_0 : u2.cell? ⟨w.heap.size + 2, 0, none⟩ = some (.int .i64 pv1) := (HP2.out.lw.sts 1 _ rfl).cell 0
        have x1_1 : u2.cell? ⟨w.heap.size + 2, 1, none⟩ = some (.int .i64 pl1) := (HP2.out.lw.sts 1 _ rfl).cell 1
        have x1_2 : u2.cell? ⟨w.heap.size + 2, 2, none⟩ = some (.slice cB cN1 cc1) := (HP2.out.lw.sts 1 _ rfl).cell 2
        have x1_3 : u2.cell? ⟨w.heap.size + 2, 3, none⟩ = some (.slice mB mN1 mc1) := (HP2.out.lw.sts 1 _ rfl).cell 3
        have x1_4 : u2.cell? ⟨w.heap.size + 2, 4, none⟩ = some (.slice sB sN1 sc1) := (HP2.out.lw.sts 1 _ rfl).cell 4
        have x1_5 : u2.cell? ⟨w.heap.size + 2, 5, none⟩ = some (.slice oB oN1 oc1) := (HP2.out.lw.sts 1 _ rfl).cell 5
        go_wp2_with (fail)
        refine (HCALL.out u2 HP2.out.lw).mono ?_
        rintro e u3 ⟨rfl, hb⟩
        have HP3 := Lib.hid (HP2.out.next hb)
        have HK3 := Lib.hid (HK2.out.below hb HK2.out.lt)
        clear hb HP2 HK2 z0 z1 z2 z3 z4 z5 z6 z7 z8 z9 z10 z11 z12 z13 l0 l1 x0_0 x0_1 x0_2 x0_3 x0_4 x0_5 x1_0 x1_1 x1_2 x1_3 x1_4 x1_5
        have z0 : u3.cell? ⟨wr.heap.size, 0, none⟩ = some (.int .i64 0) := HK3.out.cell 0
        have z1 : u3.cell? ⟨wr.heap.size, 1, none⟩ = some (.int .i64 0) := HK3.out.cell 1
        have z2 : u3.cell? ⟨wr.heap.size, 2, none⟩ = some (.slice cA cN0 cc0) := HK3.out.cell 2
        have z3 : u3.cell? ⟨wr.heap.size, 3, none⟩ = some (.slice none 0 0) := HK3.out.cell 3
        have z4 : u3.cell? ⟨wr.heap.size, 4, none⟩ = some (.slice none 0 0) := HK3.out.cell 4
        have z5 : u3.cell? ⟨wr.heap.size, 5, none⟩ = some (.slice none 0 0) := HK3.out.cell 5
        have z6 : u3.cell? ⟨wr.heap.size, 6, none⟩ = some (.int .i64 0) := HK3.out.cell 6
        have z7 : u3.cell? ⟨wr.heap.size, 7, none⟩ = some (.int .i64 0) := HK3.out.cell 7
        have z8 : u3.cell? ⟨wr.heap.size, 8, none⟩ = some (.slice cB cN1 cc1) := HK3.out.cell 8
        have z9 : u3.cell? ⟨wr.heap.size, 9, none⟩ = some (.slice none 0 0) := HK3.out.cell 9
        have z10 : u3.cell? ⟨wr.heap.size, 10, none⟩ = some (.slice none 0 0) := HK3.out.cell 10
        have z11 : u3.cell? ⟨wr.heap.size, 11, none⟩ = some (.slice none 0 0) := HK3.out.cell 11
        have z12 : u3.cell? ⟨wr.heap.size, 12, none⟩ = some (.int .i64 ((0 : Nat) : Int)) := HK3.out.cell 12
        have z13 : u3.cell? ⟨wr.heap.size, 13, none⟩ = some (.bool b1) := HK3.out.cell 13
        go_wp2
        go_roundw
        case rel => exact ⟨_, _, _, _, _, _, _, _, _, _, _, _, _, _, _, _, _, _, _, _, _, _, _, _, _, _, _, _, _, _, _, _, _, _, _, _, _, _, _, _, _, _, _, _, _, _, _, _, _, _, _, _, _, _, _, _, _, _, _, _, _, _, _, _, _, _, _, _, _, _, _, _, _, ⟨2, by decide, rfl, HP3⟩, rfl⟩
        case measure => simp [intOf]
      · have hz1 : ((r1 : Int) == 0) = false := by rw [beq_eq_false_iff_ne]; omega
        have hz2 : ((r1 : Int) != 0) = true := by rw [bne_iff_ne]; omega
        obtain rfl : false = t1 := HT1.out ▸ (told_err hz).symm
        clear hz
        go_wp2
        go_roundw
        case rel => exact ⟨2, by decide, by go_num, HP1⟩
        case measure => simp [intOf]
    · have y0 : wr.cell? ⟨v3.heap.size, 28, none⟩ = some (.int .i64 0) := HP.out.row.cell 28
      have y1 : wr.cell? ⟨v3.heap.size, 29, none⟩ = some (.int .i64 0) := HP.out.row.cell 29
      have y2 : wr.cell? ⟨v3.heap.size, 30, none⟩ = some (.slice none 0 0) := HP.out.row.cell 30
      have y3 : wr.cell? ⟨v3.heap.size, 31, none⟩ = some (.slice none 0 0) := HP.out.row.cell 31
      have y4 : wr.cell? ⟨v3.heap.size, 32, none⟩ = some (.slice sA sN0 sc0) := HP.out.row.cell 32
      have y5 : wr.cell? ⟨v3.heap.size, 33, none⟩ = some (.slice none 0 0) := HP.out.row.cell 33
      have y6 : wr.cell? ⟨v3.heap.size, 34, none⟩ = some (.int .i64 0) := HP.out.row.cell 34
      have y7 : wr.cell? ⟨v3.heap.size, 35, none⟩ = some (.int .i64 0) := HP.out.row.cell 35
      have y8 : wr.cell? ⟨v3.heap.size, 36, none⟩ = some (.slice none 0 0) := HP.out.row.cell 36
      have y9 : wr.cell? ⟨v3.heap.size, 37, none⟩ = some (.slice none 0 0) := HP.out.row.cell 37
      have y10 : wr.cell? ⟨v3.heap.size, 38, none⟩ = some (.slice sB sN1 sc1) := HP.out.row.cell 38
      have y11 : wr.cell? ⟨v3.heap.size, 39, none⟩ = some (.slice none 0 0) := HP.out.row.cell 39
      have y12 : wr.cell? ⟨v3.heap.size, 40, none⟩ = some (.int .i64 (r2 : Nat)) := HP.out.row.cell 40
      have y13 : wr.cell? ⟨v3.heap.size, 41, none⟩ = some (.bool t2) := HP.out.row.cell 41
      have hgl : v3.heap.size < wr.heap.size := HP.out.row.lt
      have hal := (Below.refl wr.heap.size wr).alloc (Nat.le_refl _) (.cells #[.int .i64 0, .int .i64 0, .slice none 0 0, .slice none 0 0, .slice sA sN0 sc0, .slice none 0 0, .int .i64 0, .int .i64 0, .slice none 0 0, .slice none 0 0, .slice sB sN1 sc1, .slice none 0 0, .int .i64 (r2 : Nat), .bool t2] 40)
      obtain ⟨Wb, hWb⟩ : ∃ Wb, wr.alloc (.cells #[.int .i64 0, .int .i64 0, .slice none 0 0, .slice none 0 0, .slice sA sN0 sc0, .slice none 0 0, .int .i64 0, .int .i64 0, .slice none 0 0, .slice none 0 0, .slice sB sN1 sc1, .slice none 0 0, .int .i64 (r2 : Nat), .bool t2] 40) = Wb := ⟨_, rfl⟩
      have hkb := Blk.new wr 40 #[.int .i64 0, .int .i64 0, .slice none 0 0, .slice none 0 0, .slice sA sN0 sc0, .slice none 0 0, .int .i64 0, .int .i64 0, .slice none 0 0, .slice none 0 0, .slice sB sN1 sc1, .slice none 0 0, .int .i64 (r2 : Nat), .bool t2]
      have hpb := HP.out.next hal
      rw [hWb] at hkb hpb
      have HPB := Lib.hid hpb
      have HKB := Lib.hid hkb
      have z0 : Wb.cell? ⟨wr.heap.size, 0, none⟩ = some (.int .i64 0) := hkb.cell 0
      have z1 : Wb.cell? ⟨wr.heap.size, 1, none⟩ = some (.int .i64 0) := hkb.cell 1
      have z2 : Wb.cell? ⟨wr.heap.size, 2, none⟩ = some (.slice none 0 0) := hkb.cell 2
      have z3 : Wb.cell? ⟨wr.heap.size, 3, none⟩ = some (.slice none 0 0) := hkb.cell 3
      have z4 : Wb.cell? ⟨wr.heap.size, 4, none⟩ = some (.slice sA sN0 sc0) := hkb.cell 4
      have z5 : Wb.cell? ⟨wr.heap.size, 5, none⟩ = some (.slice none 0 0) := hkb.cell 5
      have z6 : Wb.cell? ⟨wr.heap.size, 6, none⟩ = some (.int .i64 0) := hkb.cell 6
      have z7 : Wb.cell? ⟨wr.heap.size, 7, none⟩ = some (.int .i64 0) := hkb.cell 7
      have z8 : Wb.cell? ⟨wr.heap.size, 8, none⟩ = some (.slice none 0 0) := hkb.cell 8
      have z9 : Wb.cell? ⟨wr.heap.size, 9, none⟩ = some (.slice none 0 0) := hkb.cell 9
      have z10 : Wb.cell? ⟨wr.heap.size, 10, none⟩ = some (.slice sB sN1 sc1) := hkb.cell 10
      have z11 : Wb.cell? ⟨wr.heap.size, 11, none⟩ = some (.slice none 0 0) := hkb.cell 11
      have z12 : Wb.cell? ⟨wr.heap.size, 12, none⟩ = some (.int .i64 (r2 : Nat)) := hkb.cell 12
      have z13 : Wb.cell? ⟨wr.heap.size, 13, none⟩ = some (.bool t2) := hkb.cell 13
      clear hal hkb hpb HP
      have l0 : Wb.cell? ⟨w.heap.size, 0, none⟩ = some (.slice A1 k1 c1) := HPB.out.lw.box.cell 0
      have l1 : Wb.cell? ⟨w.heap.size, 1, none⟩ = some (.slice A2 k2 c2) := HPB.out.lw.box.cell 1
      go_wp2_with (fail)
      refine (HM2.out Wb HPB.out.lw).mono ?_
      rintro e u1 ⟨rfl, hb⟩
      have HP1 := Lib.hid (HPB.out.next hb)
      have HK1 := Lib.hid (HKB.out.below hb HKB.out.lt)
      clear hb HPB HKB hWb y0 z0 y1 z1 y2 z2 y3 z3 y4 z4 y5 z5 y6 z6 y7 z7 y8 z8 y9 z9 y10 z10 y11 z11 y12 z12 y13 z13 l0 l1
      have z0 : u1.cell? ⟨wr.heap.size, 0, none⟩ = some (.int .i64 0) := HK1.out.cell 0
      have z1 : u1.cell? ⟨wr.heap.size, 1, none⟩ = some (.int .i64 0) := HK1.out.cell 1
      have z2 : u1.cell? ⟨wr.heap.size, 2, none⟩ = some (.slice none 0 0) := HK1.out.cell 2
      have z3 : u1.cell? ⟨wr.heap.size, 3, none⟩ = some (.slice none 0 0) := HK1.out.cell 3
      have z4 : u1.cell? ⟨wr.heap.size, 4, none⟩ = some (.slice sA sN0 sc0) := HK1.out.cell 4
      have z5 : u1.cell? ⟨wr.heap.size, 5, none⟩ = some (.slice none 0 0) := HK1.out.cell 5
      have z6 : u1.cell? ⟨wr.heap.size, 6, none⟩ = some (.int .i64 0) := HK1.out.cell 6
      have z7 : u1.cell? ⟨wr.heap.size, 7, none⟩ = some (.int .i64 0) := HK1.out.cell 7
      have z8 : u1.cell? ⟨wr.heap.size, 8, none⟩ = some (.slice none 0 0) := HK1.out.cell 8
      have z9 : u1.cell? ⟨wr.heap.size, 9, none⟩ = some (.slice none 0 0) := HK1.out.cell 9
      have z10 : u1.cell? ⟨wr.heap.size, 10, none⟩ = some (.slice sB sN1 sc1) := HK1.out.cell 10
      have z11 : u1.cell? ⟨wr.heap.size, 11, none⟩ = some (.slice none 0 0) := HK1.out.cell 11
      have z12 : u1.cell? ⟨wr.heap.size, 12, none⟩ = some (.int .i64 (r2 : Nat)) := HK1.out.cell 12
      have z13 : u1.cell? ⟨wr.heap.size, 13, none⟩ = some (.bool t2) := HK1.out.cell 13
      have hss : (((r2 : Nat) : Int) != ((r2 : Nat) : Int)) = false := by simp
      by_cases hz : r2 = 0
      · subst hz
        obtain rfl : b2 = t2 := HT2.out
        obtain ⟨g1, g2, g3⟩ := HZ2.out rfl
        have hcall := fun W hW => HW2.out W hW g1 g2
        have HCALL := Lib.hid hcall
        have hcaln := fun W hW => HWN.out W hW g1
        have HCALN := Lib.hid hcaln
        have hqq : (b2 != b2) = false := by simp
        clear g1 g2 g3 hcall hcaln
        have l0 : u1.cell? ⟨w.heap.size, 0, none⟩ = some (.slice A1 k1 c1) := HP1.out.lw.box.cell 0
        have l1 : u1.cell? ⟨w.heap.size, 1, none⟩ = some (.slice A2 k2 c2) := HP1.out.lw.box.cell 1
        go_wp2_with (fail)
        refine (HCALN.out u1 HP1.out.lw).mono ?_
        rintro e u2 ⟨rfl, hb⟩
        have HP2 := Lib.hid (HP1.out.next hb)
        have HK2 := Lib.hid (HK1.out.below hb HK1.out.lt)
        clear hb HP1 HK1 z0 z1 z2 z3 z4 z5 z6 z7 z8 z9 z10 z11 z12 z13 l0 l1
        have z0 : u2.cell? ⟨wr.heap.size, 0, none⟩ = some (.int .i64 0) := HK2.out.cell 0
        have z1 : u2.cell? ⟨wr.heap.size, 1, none⟩ = some (.int .i64 0) := HK2.out.cell 1
        have z2 : u2.cell? ⟨wr.heap.size, 2, none⟩ = some (.slice none 0 0) := HK2.out.cell 2
        have z3 : u2.cell? ⟨wr.heap.size, 3, none⟩ = some (.slice none 0 0) := HK2.out.cell 3
        have z4 : u2.cell? ⟨wr.heap.size, 4, none⟩ = some (.slice sA sN0 sc0) := HK2.out.cell 4
        have z5 : u2.cell? ⟨wr.heap.size, 5, none⟩ = some (.slice none 0 0) := HK2.out.cell 5
        have z6 : u2.cell? ⟨wr.heap.size, 6, none⟩ = some (.int .i64 0) := HK2.out.cell 6
        have z7 : u2.cell? ⟨wr.heap.size, 7, none⟩ = some (.int .i64 0) := HK2.out.cell 7
        have z8 : u2.cell? ⟨wr.heap.size, 8, none⟩ = some (.slice none 0 0) := HK2.out.cell 8
        have z9 : u2.cell? ⟨wr.heap.size, 9, none⟩ = some (.slice none 0 0) := HK2.out.cell 9
        have z10 : u2.cell? ⟨wr.heap.size, 10, none⟩ = some (.slice sB sN1 sc1) := HK2.out.cell 10
        have z11 : u2.cell? ⟨wr.heap.size, 11, none⟩ = some (.slice none 0 0) := HK2.out.cell 11
        have z12 : u2.cell? ⟨wr.heap.size, 12, none⟩ = some (.int .i64 ((0 : Nat) : Int)) := HK2.out.cell 12
        have z13 : u2.cell? ⟨wr.heap.size, 13, none⟩ = some (.bool b2) := HK2.out.cell 13
        have l0 : u2.cell? ⟨w.heap.size, 0, none⟩ = some (.slice A1 k1 c1) := HP2.out.lw.box.cell 0
        have l1 : u2.cell? ⟨w.heap.size, 1, none⟩ = some (.slice A2 k2 c2) := HP2.out.lw.box.cell 1
        have x0_0 : u2.cell? ⟨w.heap.size + 1, 0, none⟩ = some (.int .i64 pv0) := (HP2.out.lw.sts 0 _ rfl).cell 0
        have x0_1 : u2.cell? ⟨w.heap.size + 1, 1, none⟩ = some (.int .i64 pl0) := (HP2.out.lw.sts 0 _ rfl).cell 1
        have x0_2 : u2.cell? ⟨w.heap.size + 1, 2, none⟩ = some (.slice cA cN0 cc0) := (HP2.out.lw.sts 0 _ rfl).cell 2
        have x0_3 : u2.cell? ⟨w.heap.size + 1, 3, none⟩ = some (.slice mA mN0 mc0) := (HP2.out.lw.sts 0 _ rfl).cell 3
        have x0_4 : u2.cell? ⟨w.heap.size + 1, 4, none⟩ = some (.slice sA sN0 sc0) := (HP2.out.lw.sts 0 _ rfl).cell 4
        have x0_5 : u2.cell? ⟨w.heap.size + 1, 5, none⟩ = some (.slice oA oN0 oc0) := (HP2.out.lw.sts 0 _ rfl).cell 5
        have x1_0 : u2.cell? ⟨w.heap.size + 2, 0, none⟩ = some (.int .i64 pv1) := (HP2.out.lw.sts 1 _ rfl).cell 0
        have x1_1 : u2.cell? ⟨w.heap.size + 2, 1, none⟩ = some (.int .i64 pl1) := (HP2.out.lw.sts 1 _ rfl).cell 1
        have x1_2 : u2.cell? ⟨w.heap.size + 2, 2, none⟩ = some (.slice cB cN1 cc1) := (HP2.out.lw.sts 1 _ rfl).cell 2
        have x1_3 : u2.cell? ⟨w.heap.size + 2, 3, none⟩ = some (.slice mB mN1 mc1) := (HP2.out.lw.sts 1 _ rfl).cell 3
        have x1_4 : u2.cell? ⟨w.heap.size + 2, 4, none⟩ = some (.slice sB sN1 sc1) := (HP2.out.lw.sts 1 _ rfl).cell 4
        have x1_5 : u2.cell? ⟨w.heap.size + 2, 5, none⟩ = some (.slice oB oN1 oc1) := (HP2.out.lw.sts 1 _ rfl).cell 5
        go_wp2_with (fail)
        refine (HCALL.out u2 HP2.out.lw).mono ?_
        rintro e u3 ⟨rfl, hb⟩
        have HP3 := Lib.hid (HP2.out.next hb)
        have HK3 := Lib.hid (HK2.out.below hb HK2.out.lt)
        clear hb HP2 HK2 z0 z1 z2 z3 z4 z5 z6 z7 z8 z9 z10 z11 z12 z13 l0 l1 x0_0 x0_1 x0_2 x0_3 x0_4 x0_5 x1_0 x1_1 x1_2 x1_3 x1_4 x1_5
        have z0 : u3.cell? ⟨wr.heap.size, 0, none⟩ = some (.int .i64 0) := HK3.out.cell 0
        have z1 : u3.cell? ⟨wr.heap.size, 1, none⟩ = some (.int .i64 0) := HK3.out.cell 1
        have z2 : u3.cell? ⟨wr.heap.size, 2, none⟩ = some (.slice none 0 0) := HK3.out.cell 2
        have z3 : u3.cell? ⟨wr.heap.size, 3, none⟩ = some (.slice none 0 0) := HK3.out.cell 3
        have z4 : u3.cell? ⟨wr.heap.size, 4, none⟩ = some (.slice sA sN0 sc0) := HK3.out.cell 4
        have z5 : u3.cell? ⟨wr.heap.size, 5, none⟩ = some (.slice none 0 0) := HK3.out.cell 5
        have z6 : u3.cell? ⟨wr.heap.size, 6, none⟩ = some (.int .i64 0) := HK3.out.cell 6
        have z7 : u3.cell? ⟨wr.heap.size, 7, none⟩ = some (.int .i64 0) := HK3.out.cell 7
        have z8 : u3.cell? ⟨wr.heap.size, 8, none⟩ = some (.slice none 0 0) := HK3.out.cell 8
        have z9 : u3.cell? ⟨wr.heap.size, 9, none⟩ = some (.slice none 0 0) := HK3.out.cell 9
        have z10 : u3.cell? ⟨wr.heap.size, 10, none⟩ = some (.slice sB sN1 sc1) := HK3.out.cell 10
        have z11 : u3.cell? ⟨wr.heap.size, 11, none⟩ = some (.slice none 0 0) := HK3.out.cell 11
        have z12 : u3.cell? ⟨wr.heap.size, 12, none⟩ = some (.int .i64 ((0 : Nat) : Int)) := HK3.out.cell 12
        have z13 : u3.cell? ⟨wr.heap.size, 13, none⟩ = some (.bool b2) := HK3.out.cell 13
        go_wp2
        go_roundw
        case rel => exact ⟨_, _, _, _, _, _, _, _, _, _, _, _, _, _, _, _, _, _, _, _, _, _, _, _, _, _, _, _, _, _, _, _, _, _, _, _, _, _, _, _, _, _, _, _, _, _, _, _, _, _, _, _, _, _, _, _, _, _, _, _, _, _, _, _, _, _, _, _, _, _, _, _, _, ⟨3, by decide, rfl, HP3⟩, rfl⟩
        case measure => simp [intOf]
      · have hz1 : ((r2 : Int) == 0) = false := by rw [beq_eq_false_iff_ne]; omega
        have hz2 : ((r2 : Int) != 0) = true := by rw [bne_iff_ne]; omega
        obtain rfl : false = t2 := HT2.out ▸ (told_err hz).symm
        clear hz
        go_wp2
        go_roundw
        case rel => exact ⟨3, by decide, by go_num, HP1⟩
        case measure => simp [intOf]
    · have y0 : wr.cell? ⟨v3.heap.size, 42, none⟩ = some (.int .i64 0) := HP.out.row.cell 42
      have y1 : wr.cell? ⟨v3.heap.size, 43, none⟩ = some (.int .i64 0) := HP.out.row.cell 43
      have y2 : wr.cell? ⟨v3.heap.size, 44, none⟩ = some (.slice none 0 0) := HP.out.row.cell 44
      have y3 : wr.cell? ⟨v3.heap.size, 45, none⟩ = some (.slice none 0 0) := HP.out.row.cell 45
      have y4 : wr.cell? ⟨v3.heap.size, 46, none⟩ = some (.slice none 0 0) := HP.out.row.cell 46
      have y5 : wr.cell? ⟨v3.heap.size, 47, none⟩ = some (.slice oA oN0 oc0) := HP.out.row.cell 47
      have y6 : wr.cell? ⟨v3.heap.size, 48, none⟩ = some (.int .i64 0) := HP.out.row.cell 48
      have y7 : wr.cell? ⟨v3.heap.size, 49, none⟩ = some (.int .i64 0) := HP.out.row.cell 49
      have y8 : wr.cell? ⟨v3.heap.size, 50, none⟩ = some (.slice none 0 0) := HP.out.row.cell 50
      have y9 : wr.cell? ⟨v3.heap.size, 51, none⟩ = some (.slice none 0 0) := HP.out.row.cell 51
      have y10 : wr.cell? ⟨v3.heap.size, 52, none⟩ = some (.slice none 0 0) := HP.out.row.cell 52
      have y11 : wr.cell? ⟨v3.heap.size, 53, none⟩ = some (.slice oB oN1 oc1) := HP.out.row.cell 53
      have y12 : wr.cell? ⟨v3.heap.size, 54, none⟩ = some (.int .i64 (r3 : Nat)) := HP.out.row.cell 54
      have y13 : wr.cell? ⟨v3.heap.size, 55, none⟩ = some (.bool t3) := HP.out.row.cell 55
      have hgl : v3.heap.size < wr.heap.size := HP.out.row.lt
      have hal := (Below.refl wr.heap.size wr).alloc (Nat.le_refl _) (.cells #[.int .i64 0, .int .i64 0, .slice none 0 0, .slice none 0 0, .slice none 0 0, .slice oA oN0 oc0, .int .i64 0, .int .i64 0, .slice none 0 0, .slice none 0 0, .slice none 0 0, .slice oB oN1 oc1, .int .i64 (r3 : Nat), .bool t3] 40)
      obtain ⟨Wb, hWb⟩ : ∃ Wb, wr.alloc (.cells #[.int .i64 0, .int .i64 0, .slice none 0 0, .slice none 0 0, .slice none 0 0, .slice oA oN0 oc0, .int .i64 0, .int .i64 0, .slice none 0 0, .slice none 0 0, .slice none 0 0, .slice oB oN1 oc1, .int .i64 (r3 : Nat), .bool t3] 40) = Wb := ⟨_, rfl⟩
      have hkb := Blk.new wr 40 #[.int .i64 0, .int .i64 0, .slice none 0 0, .slice none 0 0, .slice none 0 0, .slice oA oN0 oc0, .int .i64 0, .int .i64 0, .slice none 0 0, .slice none 0 0, .slice none 0 0, .slice oB oN1 oc1, .int .i64 (r3 : Nat), .bool t3]
      have hpb := HP.out.next hal
      rw [hWb] at hkb hpb
      have HPB := Lib.hid hpb
      have HKB := Lib.hid hkb
      have z0 : Wb.cell? ⟨wr.heap.size, 0, none⟩ = some (.int .i64 0) := hkb.cell 0
      have z1 : Wb.cell? ⟨wr.heap.size, 1, none⟩ = some (.int .i64 0) := hkb.cell 1
      have z2 : Wb.cell? ⟨wr.heap.size, 2, none⟩ = some (.slice none 0 0) := hkb.cell 2
      have z3 : Wb.cell? ⟨wr.heap.size, 3, none⟩ = some (.slice none 0 0) := hkb.cell 3
      have z4 : Wb.cell? ⟨wr.heap.size, 4, none⟩ = some (.slice none 0 0) := hkb.cell 4
      have z5 : Wb.cell? ⟨wr.heap.size, 5, none⟩ = some (.slice oA oN0 oc0) := hkb.cell 5
      have z6 : Wb.cell? ⟨wr.heap.size, 6, none⟩ = some (.int .i64 0) := hkb.cell 6
      have z7 : Wb.cell? ⟨wr.heap.size, 7, none⟩ = some (.int .i64 0) := hkb.cell 7
      have z8 : Wb.cell? ⟨wr.heap.size, 8, none⟩ = some (.slice none 0 0) := hkb.cell 8
      have z9 : Wb.cell? ⟨wr.heap.size, 9, none⟩ = some (.slice none 0 0) := hkb.cell 9
      have z10 : Wb.cell? ⟨wr.heap.size, 10, none⟩ = some (.slice none 0 0) := hkb.cell 10
      have z11 : Wb.cell? ⟨wr.heap.size, 11, none⟩ = some (.slice oB oN1 oc1) := hkb.cell 11
      have z12 : Wb.cell? ⟨wr.heap.size, 12, none⟩ = some (.int .i64 (r3 : Nat)) := hkb.cell 12
      have z13 : Wb.cell? ⟨wr.heap.size, 13, none⟩ = some (.bool t3) := hkb.cell 13
      clear hal hkb hpb HP
      have l0 : Wb.cell? ⟨w.heap.size, 0, none⟩ = some (.slice A1 k1 c1) := HPB.out.lw.box.cell 0
      have l1 : Wb.cell? ⟨w.heap.size, 1, none⟩ = some (.slice A2 k2 c2) := HPB.out.lw.box.cell 1
      go_wp2_with (fail)
      refine (HM3.out Wb HPB.out.lw).mono ?_
      rintro e u1 ⟨rfl, hb⟩
      have HP1 := Lib.hid (HPB.out.next hb)
      have HK1 := Lib.hid (HKB.out.below hb HKB.out.lt)
      clear hb HPB HKB hWb y0 z0 y1 z1 y2 z2 y3 z3 y4 z4 y5 z5 y6 z6 y7 z7 y8 z8 y9 z9 y10 z10 y11 z11 y12 z12 y13 z13 l0 l1
      have z0 : u1.cell? ⟨wr.heap.size, 0, none⟩ = some (.int .i64 0) := HK1.out.cell 0
      have z1 : u1.cell? ⟨wr.heap.size, 1, none⟩ = some (.int .i64 0) := HK1.out.cell 1
      have z2 : u1.cell? ⟨wr.heap.size, 2, none⟩ = some (.slice none 0 0) := HK1.out.cell 2
      have z3 : u1.cell? ⟨wr.heap.size, 3, none⟩ = some (.slice none 0 0) := HK1.out.cell 3
      have z4 : u1.cell? ⟨wr.heap.size, 4, none⟩ = some (.slice none 0 0) := HK1.out.cell 4
      have z5 : u1.cell? ⟨wr.heap.size, 5, none⟩ = some (.slice oA oN0 oc0) := HK1.out.cell 5
      have z6 : u1.cell? ⟨wr.heap.size, 6, none⟩ = some (.int .i64 0) := HK1.out.cell 6
      have z7 : u1.cell? ⟨wr.heap.size, 7, none⟩ = some (.int .i64 0) := HK1.out.cell 7
      have z8 : u1.cell? ⟨wr.heap.size, 8, none⟩ = some (.slice none 0 0) := HK1.out.cell 8
      have z9 : u1.cell? ⟨wr.heap.size, 9, none⟩ = some (.slice none 0 0) := HK1.out.cell 9
      have z10 : u1.cell? ⟨wr.heap.size, 10, none⟩ = some (.slice none 0 0) := HK1.out.cell 10
      have z11 : u1.cell? ⟨wr.heap.size, 11, none⟩ = some (.slice oB oN1 oc1) := HK1.out.cell 11
      have z12 : u1.cell? ⟨wr.heap.size, 12, none⟩ = some (.int .i64 (r3 : Nat)) := HK1.out.cell 12
      have z13 : u1.cell? ⟨wr.heap.size, 13, none⟩ = some (.bool t3) := HK1.out.cell 13
      have hss : (((r3 : Nat) : Int) != ((r3 : Nat) : Int)) = false := by simp
      by_cases hz : r3 = 0
      · subst hz
        obtain rfl : b3 = t3 := HT3.out
        obtain ⟨g1, g2, g3⟩ := HZ3.out rfl
        have hcall := fun W hW => HW3.out W hW g1 g2 g3
        have HCALL := Lib.hid hcall
        have hcaln := fun W hW => HWN.out W hW g1
        have HCALN := Lib.hid hcaln
        have hqq : (b3 != b3) = false := by simp
        clear g1 g2 g3 hcall hcaln
        have l0 : u1.cell? ⟨w.heap.size, 0, none⟩ = some (.slice A1 k1 c1) := HP1.out.lw.box.cell 0
        have l1 : u1.cell? ⟨w.heap.size, 1, none⟩ = some (.slice A2 k2 c2) := HP1.out.lw.box.cell 1
        go_wp2_with (fail)
        refine (HCALL.out u1 HP1.out.lw).mono ?_
        rintro e u2 ⟨rfl, hb⟩
        have HP2 := Lib.hid (HP1.out.next hb)
        have HK2 := Lib.hid (HK1.out.below hb HK1.out.lt)
        clear hb HP1 HK1 z0 z1 z2 z3 z4 z5 z6 z7 z8 z9 z10 z11 z12 z13 l0 l1
        have z0 : u2.cell? ⟨wr.heap.size, 0, none⟩ = some (.int .i64 0) := HK2.out.cell 0
        have z1 : u2.cell? ⟨wr.heap.size, 1, none⟩ = some (.int .i64 0) := HK2.out.cell 1
        have z2 : u2.cell? ⟨wr.heap.size, 2, none⟩ = some (.slice none 0 0) := HK2.out.cell 2
        have z3 : u2.cell? ⟨wr.heap.size, 3, none⟩ = some (.slice none 0 0) := HK2.out.cell 3
        have z4 : u2.cell? ⟨wr.heap.size, 4, none⟩ = some (.slice none 0 0) := HK2.out.cell 4
        have z5 : u2.cell? ⟨wr.heap.size, 5, none⟩ = some (.slice oA oN0 oc0) := HK2.out.cell 5
        have z6 : u2.cell? ⟨wr.heap.size, 6, none⟩ = some (.int .i64 0) := HK2.out.cell 6
        have z7 : u2.cell? ⟨wr.heap.size, 7, none⟩ = some (.int .i64 0) := HK2.out.cell 7
        have z8 : u2.cell? ⟨wr.heap.size, 8, none⟩ = some (.slice none 0 0) := HK2.out.cell 8
        have z9 : u2.cell? ⟨wr.heap.size, 9, none⟩ = some (.slice none 0 0) := HK2.out.cell 9
        have z10 : u2.cell? ⟨wr.heap.size, 10, none⟩ = some (.slice none 0 0) := HK2.out.cell 10
        have z11 : u2.cell? ⟨wr.heap.size, 11, none⟩ = some (.slice oB oN1 oc1) := HK2.out.cell 11
        have z12 : u2.cell? ⟨wr.heap.size, 12, none⟩ = some (.int .i64 ((0 : Nat) : Int)) := HK2.out.cell 12
        have z13 : u2.cell? ⟨wr.heap.size, 13, none⟩ = some (.bool b3) := HK2.out.cell 13
        have l0 : u2.cell? ⟨w.heap.size, 0, none⟩ = some (.slice A1 k1 c1) := HP2.out.lw.box.cell 0
        have l1 : u2.cell? ⟨w.heap.size, 1, none⟩ = some (.slice A2 k2 c2) := HP2.out.lw.box.cell 1
        have x0_0 : u2.cell? ⟨w.heap.size + 1, 0, none⟩ = some (.int .i64 pv0) := (HP2.out.lw.sts 0 _ rfl).cell 0
        have x0_1 : u2.cell? ⟨w.heap.size + 1, 1, none⟩ = some (.int .i64 pl0) := (HP2.out.lw.sts 0 _ rfl).cell 1
        have x0_2 : u2.cell? ⟨w.heap.size + 1, 2, none⟩ = some (.slice cA cN0 cc0) := (HP2.out.lw.sts 0 _ rfl).cell 2
        have x0_3 : u2.cell? ⟨w.heap.size + 1, 3, none⟩ = some (.slice mA mN0 mc0) := (HP2.out.lw.sts 0 _ rfl).cell 3
        have x0_4 : u2.cell? ⟨w.heap.size + 1, 4, none⟩ = some (.slice sA sN0 sc0) := (HP2.out.lw.sts 0 _ rfl).cell 4
        have x0_5 : u2.cell? ⟨w.heap.size + 1, 5, none⟩ = some (.slice oA oN0 oc0) := (HP2.out.lw.sts 0 _ rfl).cell 5
        have x1_0 : u2.cell? ⟨w.heap.size + 2, 0, none⟩ = some (.int .i64 pv1) := (HP2.out.lw.sts 1 _ rfl).cell 0
        have x1_1 : u2.cell? ⟨w.heap.size + 2, 1, none⟩ = some (.int .i64 pl1) := (HP2.out.lw.sts 1 _ rfl).cell 1
        have x1_2 : u2.cell? ⟨w.heap.size + 2, 2, none⟩ = some (.slice cB cN1 cc1) := (HP2.out.lw.sts 1 _ rfl).cell 2
        have x1_3 : u2.cell? ⟨w.heap.size + 2, 3, none⟩ = some (.slice mB mN1 mc1) := (HP2.out.lw.sts 1 _ rfl).cell 3
        have x1_4 : u2.cell? ⟨w.heap.size + 2, 4, none⟩ = some (.slice sB sN1 sc1) := (HP2.out.lw.sts 1 _ rfl).cell 4
        have x1_5 : u2.cell? ⟨w.heap.size + 2, 5, none⟩ = some (.slice oB oN1 oc1) := (HP2.out.lw.sts 1 _ rfl).cell 5
        go_wp2
        go_roundw
        case rel => exact ⟨_, _, _, _, _, _, _, _, _, _, _, _, _, _, _, _, _, _, _, _, _, _, _, _, _, _, _, _, _, _, _, _, _, _, _, _, _, _, _, _, _, _, _, _, _, _, _, _, _, _, _, _, _, _, _, _, _, _, _, _, _, _, _, _, _, _, _, _, _, _, _, _, _, ⟨4, by decide, rfl, HP2⟩, rfl⟩
        case measure => simp [intOf]
      · have hz1 : ((r3 : Int) == 0) = false := by rw [beq_eq_false_iff_ne]; omega
        have hz2 : ((r3 : Int) != 0) = true := by rw [bne_iff_ne]; omega
        obtain rfl : false = t3 := HT3.out ▸ (told_err hz).symm
        clear hz
        go_wp2
        go_roundw
        case rel => exact ⟨4, by decide, by go_num, HP1⟩
        case measure => simp [intOf]
    · go_wp2_with (fail)
      refine (HALIVE.out wr).mono ?_
      rintro e u9 ⟨rfl, hb⟩
      have HB9 := Lib.hid (HP.out.lw.next hb).below
      clear hb
      go_wp2
      go_ret
      exact ⟨rfl, HB9.out⟩
end Go.Proofs.Ytlddglhjpiahfaa
