/- The laws' boxes of layer 12. -/
import Derived.Test.YtlddglhjpiahfaaGEqvL
import Derived.Test.YtlddglhjpiahfaaGEqvC
import Derived.Test.YtlddglhjpiahfaaGStpR
import Derived.Test.YtlddglhjpiahfaaGFew
import Derived.Test.YtlddglhjpiahfaaGLawO
namespace Go.Proofs.Ytlddglhjpiahfaa
set_option maxRecDepth 100000
open Go.RowKit Go.Shelf Go.Sort
attribute [local go_sem] Oper.semAt_some
/-- What a law holds of its boxes: its lattice, its states, cut. -/
structure LW (w : World) (x0 x1 : Value) (names : List ByteArray) (up : List Nat) (L : List (Array Value)) (W : World) : Prop where
  lat : IsLat W W.heap.size (.agg #[x0, x1]) names up
  box : Blk W w.heap.size 25 #[x0, x1]
  sts : ∀ k cs, L[k]? = some cs → Blk W (w.heap.size + (k + 1)) 32 cs
  below : Below w.heap.size w W
theorem LW.next {w : World} {x0 x1 : Value} {names : List ByteArray} {up : List Nat} {L : List (Array Value)} {W W' : World} (h : LW w x0 x1 names up L W) (hb : Below W.heap.size W W') : LW w x0 x1 names up L W' :=
  ⟨(h.lat.below hb).more hb.size, h.box.below hb h.box.lt, fun k cs hk => (h.sts k cs hk).below hb (h.sts k cs hk).lt, h.below.trans (hb.mono h.below.size)⟩
theorem two_putE {W : World} {g b b2 : Nat} {c0 c1 : Value} (h : Blk W g 25 #[c0, c1]) (a0 a1 : Value) (h1 : b ≤ g) (h2 : g < b2) :
    ∃ WF, ((W.setCell ⟨g, 0, none⟩ a0).setCell ⟨g, 1, none⟩ a1) = WF ∧ Blk WF g 25 #[a0, a1] ∧ (∀ (g' : Nat) (t : TypeId) (cs : Array Value), g' ≠ g → Blk W g' t cs → Blk WF g' t cs) ∧ (∀ w0, Below b w0 W → Below b w0 WF) ∧ Keeps b b2 W WF :=
  ⟨_, rfl, ((h.set_ 0 a0).set_ 1 a1), fun _ _ _ hne hb => ((hb.other (p := ⟨g, 0, none⟩) (fun e => hne e.symm) a0).other (p := ⟨g, 1, none⟩) (fun e => hne e.symm) a1), fun _ hB => ((hB.setCell (p := ⟨g, 0, none⟩) h1 a0).setCell (p := ⟨g, 1, none⟩) h1 a1), ((Keeps.set_ (B0 := b) (b := b2) (W := W) (p := ⟨g, 0, none⟩) (u := a0) h1 h2).trans_ (Keeps.set_ (p := ⟨g, 1, none⟩) h1 h2))⟩
theorem six_putE {W : World} {g b b2 : Nat} {c0 c1 c2 c3 c4 c5 : Value} (h : Blk W g 32 #[c0, c1, c2, c3, c4, c5]) (a0 a1 a2 a3 a4 a5 : Value) (h1 : b ≤ g) (h2 : g < b2) :
    ∃ WF, ((((((W.setCell ⟨g, 0, none⟩ a0).setCell ⟨g, 1, none⟩ a1).setCell ⟨g, 2, none⟩ a2).setCell ⟨g, 3, none⟩ a3).setCell ⟨g, 4, none⟩ a4).setCell ⟨g, 5, none⟩ a5) = WF ∧ Blk WF g 32 #[a0, a1, a2, a3, a4, a5] ∧ (∀ (g' : Nat) (t : TypeId) (cs : Array Value), g' ≠ g → Blk W g' t cs → Blk WF g' t cs) ∧ (∀ w0, Below b w0 W → Below b w0 WF) ∧ Keeps b b2 W WF :=
  ⟨_, rfl, ((((((h.set_ 0 a0).set_ 1 a1).set_ 2 a2).set_ 3 a3).set_ 4 a4).set_ 5 a5), fun _ _ _ hne hb => ((((((hb.other (p := ⟨g, 0, none⟩) (fun e => hne e.symm) a0).other (p := ⟨g, 1, none⟩) (fun e => hne e.symm) a1).other (p := ⟨g, 2, none⟩) (fun e => hne e.symm) a2).other (p := ⟨g, 3, none⟩) (fun e => hne e.symm) a3).other (p := ⟨g, 4, none⟩) (fun e => hne e.symm) a4).other (p := ⟨g, 5, none⟩) (fun e => hne e.symm) a5), fun _ hB => ((((((hB.setCell (p := ⟨g, 0, none⟩) h1 a0).setCell (p := ⟨g, 1, none⟩) h1 a1).setCell (p := ⟨g, 2, none⟩) h1 a2).setCell (p := ⟨g, 3, none⟩) h1 a3).setCell (p := ⟨g, 4, none⟩) h1 a4).setCell (p := ⟨g, 5, none⟩) h1 a5), ((((((Keeps.set_ (B0 := b) (b := b2) (W := W) (p := ⟨g, 0, none⟩) (u := a0) h1 h2).trans_ (Keeps.set_ (p := ⟨g, 1, none⟩) h1 h2)).trans_ (Keeps.set_ (p := ⟨g, 2, none⟩) h1 h2)).trans_ (Keeps.set_ (p := ⟨g, 3, none⟩) h1 h2)).trans_ (Keeps.set_ (p := ⟨g, 4, none⟩) h1 h2)).trans_ (Keeps.set_ (p := ⟨g, 5, none⟩) h1 h2))⟩
end Go.Proofs.Ytlddglhjpiahfaa

/- The walk of the law EquivHolds (by gen_eqvm.py). -/
namespace Go.Proofs.Ytlddglhjpiahfaa
set_option maxRecDepth 100000
open Go.RowKit Go.Shelf Go.Sort
attribute [local go_sem] Oper.semAt_some
set_option maxRecDepth 100000 in
set_option maxHeartbeats 64000000 in
theorem equivHolds_any {A A' : Option Addr} {n1 : List ByteArray} {u1 : List Nat} {s0 : St.State} {cA mA sA oA : Option Addr} {cc0 mc0 sc0 oc0 : Nat} {s1 : St.State} {cB mB sB oB : Option Addr} {cc1 mc1 sc1 oc1 : Nat} {s2 : St.State} {cC mC sC oC : Option Addr} {cc2 mc2 sc2 oc2 : Nat} (c c' : Nat) (o : Int) (w : World) (hN : Row w w.heap.size A (strs n1)) (hU : Ups w w.heap.size A' u1) (hs0 : StIn w w.heap.size s0 cA cc0 mA mc0 sA sc0 oA oc0) (hs1 : StIn w w.heap.size s1 cB cc1 mB mc1 sB sc1 oB oc1) (hs2 : StIn w w.heap.size s2 cC cc2 mC mc2 sC sc2 oC oc2) (hc : n1.length ≤ c) (hc' : u1.length ≤ c') (hm : c ≤ maxLen) (hm' : c' ≤ maxLen) (hs : ∀ s ∈ n1, s.size ≤ maxLen) :
    Calls Try.prog 5 #[.agg #[.slice A n1.length c, .slice A' u1.length c'], .int .i64 o, incv s0 cA cc0 mA mc0 sA sc0 oA oc0, incv s1 cB cc1 mB mc1 sB sc1 oB oc1, incv s2 cC cc2 mC mc2 sC sc2 oC oc2] w (Tells w true) := by
  have hfa := fun W (hW : Below w.heap.size w W) => few_any w.heap.size c c' W hW.size (hN.below hW) (hU.below hW) hc hc' hm hm' hs
  have hcut0 := fun W => scut_any10 W hs0
  have his0 := fun W (hb : Below w.heap.size w W) => ((hs0.cut.below hb).more hb.size).isSt
  have HF0 : Hid (Fif (cutS s0)) := Lib.hid (by refine ⟨?_, ?_, ?_, ?_⟩ <;> (unfold cutS; dsimp only; rw [List.length_take]; omega))
  have hlc0 : (cutS s0).code.length = min 15 s0.code.length := by unfold cutS; simp
  have hlm0 : (cutS s0).mem.length = min 15 s0.mem.length := by unfold cutS; simp
  have hls0 : (cutS s0).stack.length = min 15 s0.stack.length := by unfold cutS; simp
  have hlo0 : (cutS s0).out.length = min 15 s0.out.length := by unfold cutS; simp
  have hpv0 : (cutS s0).pc.v = s0.pc.v := rfl
  have hpl0 : (cutS s0).pc.l = s0.pc.l := rfl
  rw [incv_cut] at his0 hcut0
  obtain ⟨a0, ha0⟩ : ∃ a, cutS s0 = a := ⟨_, rfl⟩
  rw [ha0] at his0 HF0 hlc0 hlm0 hls0 hlo0 hpv0 hpl0
  have hcut1 := fun W => scut_any10 W hs1
  have his1 := fun W (hb : Below w.heap.size w W) => ((hs1.cut.below hb).more hb.size).isSt
  have HF1 : Hid (Fif (cutS s1)) := Lib.hid (by refine ⟨?_, ?_, ?_, ?_⟩ <;> (unfold cutS; dsimp only; rw [List.length_take]; omega))
  have hlc1 : (cutS s1).code.length = min 15 s1.code.length := by unfold cutS; simp
  have hlm1 : (cutS s1).mem.length = min 15 s1.mem.length := by unfold cutS; simp
  have hls1 : (cutS s1).stack.length = min 15 s1.stack.length := by unfold cutS; simp
  have hlo1 : (cutS s1).out.length = min 15 s1.out.length := by unfold cutS; simp
  have hpv1 : (cutS s1).pc.v = s1.pc.v := rfl
  have hpl1 : (cutS s1).pc.l = s1.pc.l := rfl
  rw [incv_cut] at his1 hcut1
  obtain ⟨a1, ha1⟩ : ∃ a, cutS s1 = a := ⟨_, rfl⟩
  rw [ha1] at his1 HF1 hlc1 hlm1 hls1 hlo1 hpv1 hpl1
  have hcut2 := fun W => scut_any10 W hs2
  have his2 := fun W (hb : Below w.heap.size w W) => ((hs2.cut.below hb).more hb.size).isSt
  have HF2 : Hid (Fif (cutS s2)) := Lib.hid (by refine ⟨?_, ?_, ?_, ?_⟩ <;> (unfold cutS; dsimp only; rw [List.length_take]; omega))
  have hlc2 : (cutS s2).code.length = min 15 s2.code.length := by unfold cutS; simp
  have hlm2 : (cutS s2).mem.length = min 15 s2.mem.length := by unfold cutS; simp
  have hls2 : (cutS s2).stack.length = min 15 s2.stack.length := by unfold cutS; simp
  have hlo2 : (cutS s2).out.length = min 15 s2.out.length := by unfold cutS; simp
  have hpv2 : (cutS s2).pc.v = s2.pc.v := rfl
  have hpl2 : (cutS s2).pc.l = s2.pc.l := rfl
  rw [incv_cut] at his2 hcut2
  obtain ⟨a2, ha2⟩ : ∃ a, cutS s2 = a := ⟨_, rfl⟩
  rw [ha2] at his2 HF2 hlc2 hlm2 hls2 hlo2 hpv2 hpl2
  unfold incv at hcut0 hcut1 hcut2 ⊢
  clear hs0 ha0 hs1 ha1 hs2 ha2 hN hU hc hc' hm hm' hs
  generalize s0.pc.v = pv0 at *
  generalize s0.pc.l = pl0 at *
  generalize hcn0 : min 15 s0.code.length = cN0 at *
  generalize s0.code.length = cn0 at *
  generalize hmn0 : min 15 s0.mem.length = mN0 at *
  generalize s0.mem.length = mn0 at *
  generalize hsn0 : min 15 s0.stack.length = sN0 at *
  generalize s0.stack.length = sn0 at *
  generalize hon0 : min 15 s0.out.length = oN0 at *
  generalize s0.out.length = on0 at *
  clear hcn0 hmn0 hsn0 hon0
  have HLL0 := Lib.hid (show a0.code.length = cN0 ∧ a0.mem.length = mN0 ∧ a0.stack.length = sN0 ∧ a0.out.length = oN0 ∧ a0.pc.v = pv0 ∧ a0.pc.l = pl0 from ⟨hlc0, hlm0, hls0, hlo0, hpv0, hpl0⟩)
  clear hlc0 hlm0 hls0 hlo0 hpv0 hpl0
  generalize s1.pc.v = pv1 at *
  generalize s1.pc.l = pl1 at *
  generalize hcn1 : min 15 s1.code.length = cN1 at *
  generalize s1.code.length = cn1 at *
  generalize hmn1 : min 15 s1.mem.length = mN1 at *
  generalize s1.mem.length = mn1 at *
  generalize hsn1 : min 15 s1.stack.length = sN1 at *
  generalize s1.stack.length = sn1 at *
  generalize hon1 : min 15 s1.out.length = oN1 at *
  generalize s1.out.length = on1 at *
  clear hcn1 hmn1 hsn1 hon1
  have HLL1 := Lib.hid (show a1.code.length = cN1 ∧ a1.mem.length = mN1 ∧ a1.stack.length = sN1 ∧ a1.out.length = oN1 ∧ a1.pc.v = pv1 ∧ a1.pc.l = pl1 from ⟨hlc1, hlm1, hls1, hlo1, hpv1, hpl1⟩)
  clear hlc1 hlm1 hls1 hlo1 hpv1 hpl1
  generalize s2.pc.v = pv2 at *
  generalize s2.pc.l = pl2 at *
  generalize hcn2 : min 15 s2.code.length = cN2 at *
  generalize s2.code.length = cn2 at *
  generalize hmn2 : min 15 s2.mem.length = mN2 at *
  generalize s2.mem.length = mn2 at *
  generalize hsn2 : min 15 s2.stack.length = sN2 at *
  generalize s2.stack.length = sn2 at *
  generalize hon2 : min 15 s2.out.length = oN2 at *
  generalize s2.out.length = on2 at *
  clear hcn2 hmn2 hsn2 hon2
  have HLL2 := Lib.hid (show a2.code.length = cN2 ∧ a2.mem.length = mN2 ∧ a2.stack.length = sN2 ∧ a2.out.length = oN2 ∧ a2.pc.v = pv2 ∧ a2.pc.l = pl2 from ⟨hlc2, hlm2, hls2, hlo2, hpv2, hpl2⟩)
  clear hlc2 hlm2 hls2 hlo2 hpv2 hpl2
  obtain ⟨W0, hW0⟩ : ∃ W0, ((((w.alloc (.cells #[.slice A n1.length c, .slice A' u1.length c'] 25)).alloc (.cells #[.int .i64 pv0, .int .i64 pl0, .slice cA cn0 cc0, .slice mA mn0 mc0, .slice sA sn0 sc0, .slice oA on0 oc0] 32)).alloc (.cells #[.int .i64 pv1, .int .i64 pl1, .slice cB cn1 cc1, .slice mB mn1 mc1, .slice sB sn1 sc1, .slice oB on1 oc1] 32)).alloc (.cells #[.int .i64 pv2, .int .i64 pl2, .slice cC cn2 cc2, .slice mC mn2 mc2, .slice sC sn2 sc2, .slice oC on2 oc2] 32)) = W0 := ⟨_, rfl⟩
  have hb0 : Below w.heap.size w W0 := by rw [← hW0]; exact (((((Below.refl _ w).alloc (by simp <;> omega) _).alloc (by simp <;> omega) _).alloc (by simp <;> omega) _).alloc (by simp <;> omega) _)
  have hz0 : W0.heap.size = w.heap.size + 4 := by rw [← hW0]; simp
  have hk0 : Blk W0 (w.heap.size) 25 #[.slice A n1.length c, .slice A' u1.length c'] := by rw [← hW0]; exact ((((Blk.new' _ _ _ _ (by simp)).alloc _).alloc _).alloc _)
  have hk1 : Blk W0 (w.heap.size + 1) 32 #[.int .i64 pv0, .int .i64 pl0, .slice cA cn0 cc0, .slice mA mn0 mc0, .slice sA sn0 sc0, .slice oA on0 oc0] := by rw [← hW0]; exact (((Blk.new' _ _ _ _ (by simp)).alloc _).alloc _)
  have hk2 : Blk W0 (w.heap.size + 2) 32 #[.int .i64 pv1, .int .i64 pl1, .slice cB cn1 cc1, .slice mB mn1 mc1, .slice sB sn1 sc1, .slice oB on1 oc1] := by rw [← hW0]; exact ((Blk.new' _ _ _ _ (by simp)).alloc _)
  have hk3 : Blk W0 (w.heap.size + 3) 32 #[.int .i64 pv2, .int .i64 pl2, .slice cC cn2 cc2, .slice mC mn2 mc2, .slice sC sn2 sc2, .slice oC on2 oc2] := by rw [← hW0]; exact (Blk.new' _ _ _ _ (by simp))
  have HFA := Lib.hid hfa
  have HB0 := Lib.hid hb0.drew
  have HZ0 := Lib.hid hz0
  have HCUT0 := Lib.hid hcut0
  have HIS0 := Lib.hid his0
  have HCUT1 := Lib.hid hcut1
  have HIS1 := Lib.hid his1
  have HCUT2 := Lib.hid hcut2
  have HIS2 := Lib.hid his2
  have HK0 := Lib.hid hk0
  have HK1 := Lib.hid hk1
  have HK2 := Lib.hid hk2
  have HK3 := Lib.hid hk3
  have l0 : W0.cell? ⟨w.heap.size, 0, none⟩ = some (.slice A n1.length c) := hk0.cell 0
  have l1 : W0.cell? ⟨w.heap.size, 1, none⟩ = some (.slice A' u1.length c') := hk0.cell 1
  have x0_0 : W0.cell? ⟨w.heap.size + 1, 0, none⟩ = some (.int .i64 pv0) := hk1.cell 0
  have x0_1 : W0.cell? ⟨w.heap.size + 1, 1, none⟩ = some (.int .i64 pl0) := hk1.cell 1
  have x0_2 : W0.cell? ⟨w.heap.size + 1, 2, none⟩ = some (.slice cA cn0 cc0) := hk1.cell 2
  have x0_3 : W0.cell? ⟨w.heap.size + 1, 3, none⟩ = some (.slice mA mn0 mc0) := hk1.cell 3
  have x0_4 : W0.cell? ⟨w.heap.size + 1, 4, none⟩ = some (.slice sA sn0 sc0) := hk1.cell 4
  have x0_5 : W0.cell? ⟨w.heap.size + 1, 5, none⟩ = some (.slice oA on0 oc0) := hk1.cell 5
  have x1_0 : W0.cell? ⟨w.heap.size + 2, 0, none⟩ = some (.int .i64 pv1) := hk2.cell 0
  have x1_1 : W0.cell? ⟨w.heap.size + 2, 1, none⟩ = some (.int .i64 pl1) := hk2.cell 1
  have x1_2 : W0.cell? ⟨w.heap.size + 2, 2, none⟩ = some (.slice cB cn1 cc1) := hk2.cell 2
  have x1_3 : W0.cell? ⟨w.heap.size + 2, 3, none⟩ = some (.slice mB mn1 mc1) := hk2.cell 3
  have x1_4 : W0.cell? ⟨w.heap.size + 2, 4, none⟩ = some (.slice sB sn1 sc1) := hk2.cell 4
  have x1_5 : W0.cell? ⟨w.heap.size + 2, 5, none⟩ = some (.slice oB on1 oc1) := hk2.cell 5
  have x2_0 : W0.cell? ⟨w.heap.size + 3, 0, none⟩ = some (.int .i64 pv2) := hk3.cell 0
  have x2_1 : W0.cell? ⟨w.heap.size + 3, 1, none⟩ = some (.int .i64 pl2) := hk3.cell 1
  have x2_2 : W0.cell? ⟨w.heap.size + 3, 2, none⟩ = some (.slice cC cn2 cc2) := hk3.cell 2
  have x2_3 : W0.cell? ⟨w.heap.size + 3, 3, none⟩ = some (.slice mC mn2 mc2) := hk3.cell 3
  have x2_4 : W0.cell? ⟨w.heap.size + 3, 4, none⟩ = some (.slice sC sn2 sc2) := hk3.cell 4
  have x2_5 : W0.cell? ⟨w.heap.size + 3, 5, none⟩ = some (.slice oC on2 oc2) := hk3.cell 5
  clear hfa hb0 hz0 hcut0 his0 hk0 hcut1 his1 hk1 hcut2 his2 hk2 hk3
  go_enter Try.func5, Try.ntmps5
  go_wp2_with (fail)
  clear hW0
  refine Free.region_seq [1, 3, 5, 7, 8, 9, 10, 11] [0, 2, 4, 6] 7 (fun W' => W'.cell? ⟨w.heap.size, 0, none⟩ = some (.slice A n1.length c) ∧ W'.cell? ⟨w.heap.size, 1, none⟩ = some (.slice A' u1.length c') ∧ W'.cell? ⟨w.heap.size + 1, 0, none⟩ = some (.int .i64 pv0) ∧ W'.cell? ⟨w.heap.size + 1, 1, none⟩ = some (.int .i64 pl0) ∧ W'.cell? ⟨w.heap.size + 1, 2, none⟩ = some (.slice cA cn0 cc0) ∧ W'.cell? ⟨w.heap.size + 1, 3, none⟩ = some (.slice mA mn0 mc0) ∧ W'.cell? ⟨w.heap.size + 1, 4, none⟩ = some (.slice sA sn0 sc0) ∧ W'.cell? ⟨w.heap.size + 1, 5, none⟩ = some (.slice oA on0 oc0) ∧ W'.cell? ⟨w.heap.size + 2, 0, none⟩ = some (.int .i64 pv1) ∧ W'.cell? ⟨w.heap.size + 2, 1, none⟩ = some (.int .i64 pl1) ∧ W'.cell? ⟨w.heap.size + 2, 2, none⟩ = some (.slice cB cn1 cc1) ∧ W'.cell? ⟨w.heap.size + 2, 3, none⟩ = some (.slice mB mn1 mc1) ∧ W'.cell? ⟨w.heap.size + 2, 4, none⟩ = some (.slice sB sn1 sc1) ∧ W'.cell? ⟨w.heap.size + 2, 5, none⟩ = some (.slice oB on1 oc1) ∧ W'.cell? ⟨w.heap.size + 3, 0, none⟩ = some (.int .i64 pv2) ∧ W'.cell? ⟨w.heap.size + 3, 1, none⟩ = some (.int .i64 pl2) ∧ W'.cell? ⟨w.heap.size + 3, 2, none⟩ = some (.slice cC cn2 cc2) ∧ W'.cell? ⟨w.heap.size + 3, 3, none⟩ = some (.slice mC mn2 mc2) ∧ W'.cell? ⟨w.heap.size + 3, 4, none⟩ = some (.slice sC sn2 sc2) ∧ W'.cell? ⟨w.heap.size + 3, 5, none⟩ = some (.slice oC on2 oc2)) (by kernel_rfl) (by kernel_rfl) (by kernel_rfl) (by kernel_rfl) (⟨l0, l1, x0_0, x0_1, x0_2, x0_3, x0_4, x0_5, x1_0, x1_1, x1_2, x1_3, x1_4, x1_5, x2_0, x2_1, x2_2, x2_3, x2_4, x2_5⟩) (fun ops hops => ?_)
  clear hops
  clear l0 l1 x0_0 x0_1 x0_2 x0_3 x0_4 x0_5 x1_0 x1_1 x1_2 x1_3 x1_4 x1_5 x2_0 x2_1 x2_2 x2_3 x2_4 x2_5
  iterate 1
    refine Free.Seq.quiet (v := ?_) (a' := ?_) rfl rfl (fun W' hW' => ?_) ?_ ?_
    rotate_left 2
    · first | obtain ⟨q0, q1, q2, q3, q4, q5, q6, q7, q8, q9, q10, q11, q12, q13, q14, q15, q16, q17, q18, q19⟩ := hW' rfl | skip
      go_simp
      try with_reducible rfl
    · simp only [Act.put, List.setIfInBounds_toArray, List.set_cons_zero, List.set_cons_succ]
      try with_reducible rfl
  refine Free.Seq.loud_ rfl (.inl rfl) (fun K hK => ?_)
  go_simp
  refine (HFA.out _ HB0.out).mono ?_
  rintro e w1 ⟨v, names, up, rfl, hlw, hb1⟩
  have hlat : ∀ W2, Keeps w.heap.size (w.heap.size + 4) w1 W2 → IsLat W2 W2.heap.size v names up := fun W2 k => hlw W2 (k.mono_ (by show w.heap.size + 4 ≤ W0.heap.size; rw [HZ0.out]; exact Nat.le_refl _))
  obtain ⟨A1, k1, c1, A2, k2, c2, rfl⟩ := lat_two (hlat w1 ⟨Nat.le_refl _, fun _ _ _ => rfl⟩)
  have HB1 := Lib.hid (HB0.out.trans (hb1.mono HB0.out.size))
  have HLAT := Lib.hid hlat
  have HK0_1 := Lib.hid ((HK0.out.drew).below hb1 HK0.out.lt)
  have HK1_1 := Lib.hid ((HK1.out.drew).below hb1 HK1.out.lt)
  have HK2_1 := Lib.hid ((HK2.out.drew).below hb1 HK2.out.lt)
  have HK3_1 := Lib.hid ((HK3.out.drew).below hb1 HK3.out.lt)
  refine hK.out _ _ rfl (fun _ => ⟨HK0_1.out.cell 0, HK0_1.out.cell 1, HK1_1.out.cell 0, HK1_1.out.cell 1, HK1_1.out.cell 2, HK1_1.out.cell 3, HK1_1.out.cell 4, HK1_1.out.cell 5, HK2_1.out.cell 0, HK2_1.out.cell 1, HK2_1.out.cell 2, HK2_1.out.cell 3, HK2_1.out.cell 4, HK2_1.out.cell 5, HK3_1.out.cell 0, HK3_1.out.cell 1, HK3_1.out.cell 2, HK3_1.out.cell 3, HK3_1.out.cell 4, HK3_1.out.cell 5⟩) ?_
  clear hK K hb1 hlw hlat HK0 HK1 HK2 HK3 HFA HB0
  have HKP1 : Hid (Keeps w.heap.size (w.heap.size + 4) w1 w1) := Lib.hid ⟨Nat.le_refl _, fun _ _ _ => rfl⟩
  iterate 1
    refine Free.Seq.quiet (v := ?_) (a' := ?_) rfl rfl (fun W' hW' => ?_) ?_ ?_
    rotate_left 2
    · first | obtain ⟨q0, q1, q2, q3, q4, q5, q6, q7, q8, q9, q10, q11, q12, q13, q14, q15, q16, q17, q18, q19⟩ := hW' rfl | skip
      go_simp
      try with_reducible rfl
    · simp only [Act.put, List.setIfInBounds_toArray, List.set_cons_zero, List.set_cons_succ]
      try with_reducible rfl
  refine Free.Seq.loud_ rfl (.inl rfl) (fun K hK => ?_)
  go_simp
  refine (HCUT0.out w1).mono ?_
  rintro e w2 ⟨rfl, hb2⟩
  have HB2 := Lib.hid (HB1.out.trans (hb2.mono HB1.out.size))
  have HKP2 := Lib.hid (HKP1.out.trans_ (Keeps.below hb2))
  have HK0_2 := Lib.hid (HK0_1.out.below hb2 HK0_1.out.lt)
  have HK1_2 := Lib.hid (HK1_1.out.below hb2 HK1_1.out.lt)
  have HK2_2 := Lib.hid (HK2_1.out.below hb2 HK2_1.out.lt)
  have HK3_2 := Lib.hid (HK3_1.out.below hb2 HK3_1.out.lt)
  refine hK.out _ _ rfl (fun _ => ⟨HK0_2.out.cell 0, HK0_2.out.cell 1, HK1_2.out.cell 0, HK1_2.out.cell 1, HK1_2.out.cell 2, HK1_2.out.cell 3, HK1_2.out.cell 4, HK1_2.out.cell 5, HK2_2.out.cell 0, HK2_2.out.cell 1, HK2_2.out.cell 2, HK2_2.out.cell 3, HK2_2.out.cell 4, HK2_2.out.cell 5, HK3_2.out.cell 0, HK3_2.out.cell 1, HK3_2.out.cell 2, HK3_2.out.cell 3, HK3_2.out.cell 4, HK3_2.out.cell 5⟩) ?_
  clear hK K hb2 HK0_1 HK1_1 HK2_1 HK3_1 HB1 HKP1 HCUT0
  iterate 1
    refine Free.Seq.quiet (v := ?_) (a' := ?_) rfl rfl (fun W' hW' => ?_) ?_ ?_
    rotate_left 2
    · first | obtain ⟨q0, q1, q2, q3, q4, q5, q6, q7, q8, q9, q10, q11, q12, q13, q14, q15, q16, q17, q18, q19⟩ := hW' rfl | skip
      go_simp
      try with_reducible rfl
    · simp only [Act.put, List.setIfInBounds_toArray, List.set_cons_zero, List.set_cons_succ]
      try with_reducible rfl
  refine Free.Seq.loud_ rfl (.inl rfl) (fun K hK => ?_)
  go_simp
  refine (HCUT1.out w2).mono ?_
  rintro e w3 ⟨rfl, hb3⟩
  have HB3 := Lib.hid (HB2.out.trans (hb3.mono HB2.out.size))
  have HKP3 := Lib.hid (HKP2.out.trans_ (Keeps.below hb3))
  have HK0_3 := Lib.hid (HK0_2.out.below hb3 HK0_2.out.lt)
  have HK1_3 := Lib.hid (HK1_2.out.below hb3 HK1_2.out.lt)
  have HK2_3 := Lib.hid (HK2_2.out.below hb3 HK2_2.out.lt)
  have HK3_3 := Lib.hid (HK3_2.out.below hb3 HK3_2.out.lt)
  refine hK.out _ _ rfl (fun _ => ⟨HK0_3.out.cell 0, HK0_3.out.cell 1, HK1_3.out.cell 0, HK1_3.out.cell 1, HK1_3.out.cell 2, HK1_3.out.cell 3, HK1_3.out.cell 4, HK1_3.out.cell 5, HK2_3.out.cell 0, HK2_3.out.cell 1, HK2_3.out.cell 2, HK2_3.out.cell 3, HK2_3.out.cell 4, HK2_3.out.cell 5, HK3_3.out.cell 0, HK3_3.out.cell 1, HK3_3.out.cell 2, HK3_3.out.cell 3, HK3_3.out.cell 4, HK3_3.out.cell 5⟩) ?_
  clear hK K hb3 HK0_2 HK1_2 HK2_2 HK3_2 HB2 HKP2 HCUT1
  iterate 1
    refine Free.Seq.quiet (v := ?_) (a' := ?_) rfl rfl (fun W' hW' => ?_) ?_ ?_
    rotate_left 2
    · first | obtain ⟨q0, q1, q2, q3, q4, q5, q6, q7, q8, q9, q10, q11, q12, q13, q14, q15, q16, q17, q18, q19⟩ := hW' rfl | skip
      go_simp
      try with_reducible rfl
    · simp only [Act.put, List.setIfInBounds_toArray, List.set_cons_zero, List.set_cons_succ]
      try with_reducible rfl
  refine Free.Seq.loud_ rfl (.inl rfl) (fun K hK => ?_)
  go_simp
  refine (HCUT2.out w3).mono ?_
  rintro e w4 ⟨rfl, hb4⟩
  have HB4 := Lib.hid (HB3.out.trans (hb4.mono HB3.out.size))
  have HKP4 := Lib.hid (HKP3.out.trans_ (Keeps.below hb4))
  have HK0_4 := Lib.hid (HK0_3.out.below hb4 HK0_3.out.lt)
  have HK1_4 := Lib.hid (HK1_3.out.below hb4 HK1_3.out.lt)
  have HK2_4 := Lib.hid (HK2_3.out.below hb4 HK2_3.out.lt)
  have HK3_4 := Lib.hid (HK3_3.out.below hb4 HK3_3.out.lt)
  refine hK.out _ _ rfl (fun h => absurd h (by decide)) ?_
  clear hK K hb4 HK0_3 HK1_3 HK2_3 HK3_3 HB3 HKP3 HCUT2
  obtain ⟨W1, hW1, hp1, ho1, hb1, hkp1⟩ := two_putE (b := w.heap.size) (b2 := w.heap.size + 4) HK0_4.out (.slice A1 k1 c1) (.slice A2 k2 c2) (by omega) (by omega)
  have j0 : w4.cell? ⟨w.heap.size, 0, none⟩ = some (.slice A n1.length c) := HK0_4.out.cell 0
  have j1 : w4.cell? ⟨w.heap.size, 1, none⟩ = some (.slice A' u1.length c') := HK0_4.out.cell 1
  have g0 : w4.frozen? ⟨w.heap.size, 0, none⟩ = false := HK0_4.out.frozen 0
  have g1 : w4.frozen? ⟨w.heap.size, 1, none⟩ = false := HK0_4.out.frozen 1
  refine Free.Seq.loud_ rfl (.inl rfl) (fun K hK => ?_)
  go_simp
  refine hK.out _ _ rfl (fun h => absurd h (by decide)) ?_
  clear hK K j0 j1 g0 g1
  try rw [hW1]
  clear hW1
  have HBB1 := Lib.hid (hb1 w HB4.out)
  have HKQ1 := Lib.hid (HKP4.out.trans_ hkp1)
  have HK0_5 := Lib.hid hp1
  have HK1_5 := Lib.hid (ho1 _ _ _ (by omega) HK1_4.out)
  have HK2_5 := Lib.hid (ho1 _ _ _ (by omega) HK2_4.out)
  have HK3_5 := Lib.hid (ho1 _ _ _ (by omega) HK3_4.out)
  clear hp1 ho1 hb1 hkp1 HK0_4 HK1_4 HK2_4 HK3_4 HB4 HKP4
  obtain ⟨W2, hW2, hp2, ho2, hb2, hkp2⟩ := six_putE (b := w.heap.size) (b2 := w.heap.size + 4) HK1_5.out (.int .i64 pv0) (.int .i64 pl0) (.slice cA cN0 cc0) (.slice mA mN0 mc0) (.slice sA sN0 sc0) (.slice oA oN0 oc0) (by omega) (by omega)
  have j0 : W1.cell? ⟨w.heap.size + 1, 0, none⟩ = some (.int .i64 pv0) := HK1_5.out.cell 0
  have j1 : W1.cell? ⟨w.heap.size + 1, 1, none⟩ = some (.int .i64 pl0) := HK1_5.out.cell 1
  have j2 : W1.cell? ⟨w.heap.size + 1, 2, none⟩ = some (.slice cA cn0 cc0) := HK1_5.out.cell 2
  have j3 : W1.cell? ⟨w.heap.size + 1, 3, none⟩ = some (.slice mA mn0 mc0) := HK1_5.out.cell 3
  have j4 : W1.cell? ⟨w.heap.size + 1, 4, none⟩ = some (.slice sA sn0 sc0) := HK1_5.out.cell 4
  have j5 : W1.cell? ⟨w.heap.size + 1, 5, none⟩ = some (.slice oA on0 oc0) := HK1_5.out.cell 5
  have g0 : W1.frozen? ⟨w.heap.size + 1, 0, none⟩ = false := HK1_5.out.frozen 0
  have g1 : W1.frozen? ⟨w.heap.size + 1, 1, none⟩ = false := HK1_5.out.frozen 1
  have g2 : W1.frozen? ⟨w.heap.size + 1, 2, none⟩ = false := HK1_5.out.frozen 2
  have g3 : W1.frozen? ⟨w.heap.size + 1, 3, none⟩ = false := HK1_5.out.frozen 3
  have g4 : W1.frozen? ⟨w.heap.size + 1, 4, none⟩ = false := HK1_5.out.frozen 4
  have g5 : W1.frozen? ⟨w.heap.size + 1, 5, none⟩ = false := HK1_5.out.frozen 5
  refine Free.Seq.loud_ rfl (.inl rfl) (fun K hK => ?_)
  go_simp
  refine hK.out _ _ rfl (fun h => absurd h (by decide)) ?_
  clear hK K j0 j1 j2 j3 j4 j5 g0 g1 g2 g3 g4 g5
  try rw [hW2]
  clear hW2
  have HBB2 := Lib.hid (hb2 w HBB1.out)
  have HKQ2 := Lib.hid (HKQ1.out.trans_ hkp2)
  have HK0_6 := Lib.hid (ho2 _ _ _ (by omega) HK0_5.out)
  have HK1_6 := Lib.hid hp2
  have HK2_6 := Lib.hid (ho2 _ _ _ (by omega) HK2_5.out)
  have HK3_6 := Lib.hid (ho2 _ _ _ (by omega) HK3_5.out)
  clear hp2 ho2 hb2 hkp2 HK0_5 HK1_5 HK2_5 HK3_5 HBB1 HKQ1
  obtain ⟨W3, hW3, hp3, ho3, hb3, hkp3⟩ := six_putE (b := w.heap.size) (b2 := w.heap.size + 4) HK2_6.out (.int .i64 pv1) (.int .i64 pl1) (.slice cB cN1 cc1) (.slice mB mN1 mc1) (.slice sB sN1 sc1) (.slice oB oN1 oc1) (by omega) (by omega)
  have j0 : W2.cell? ⟨w.heap.size + 2, 0, none⟩ = some (.int .i64 pv1) := HK2_6.out.cell 0
  have j1 : W2.cell? ⟨w.heap.size + 2, 1, none⟩ = some (.int .i64 pl1) := HK2_6.out.cell 1
  have j2 : W2.cell? ⟨w.heap.size + 2, 2, none⟩ = some (.slice cB cn1 cc1) := HK2_6.out.cell 2
  have j3 : W2.cell? ⟨w.heap.size + 2, 3, none⟩ = some (.slice mB mn1 mc1) := HK2_6.out.cell 3
  have j4 : W2.cell? ⟨w.heap.size + 2, 4, none⟩ = some (.slice sB sn1 sc1) := HK2_6.out.cell 4
  have j5 : W2.cell? ⟨w.heap.size + 2, 5, none⟩ = some (.slice oB on1 oc1) := HK2_6.out.cell 5
  have g0 : W2.frozen? ⟨w.heap.size + 2, 0, none⟩ = false := HK2_6.out.frozen 0
  have g1 : W2.frozen? ⟨w.heap.size + 2, 1, none⟩ = false := HK2_6.out.frozen 1
  have g2 : W2.frozen? ⟨w.heap.size + 2, 2, none⟩ = false := HK2_6.out.frozen 2
  have g3 : W2.frozen? ⟨w.heap.size + 2, 3, none⟩ = false := HK2_6.out.frozen 3
  have g4 : W2.frozen? ⟨w.heap.size + 2, 4, none⟩ = false := HK2_6.out.frozen 4
  have g5 : W2.frozen? ⟨w.heap.size + 2, 5, none⟩ = false := HK2_6.out.frozen 5
  refine Free.Seq.loud_ rfl (.inl rfl) (fun K hK => ?_)
  go_simp
  refine hK.out _ _ rfl (fun h => absurd h (by decide)) ?_
  clear hK K j0 j1 j2 j3 j4 j5 g0 g1 g2 g3 g4 g5
  try rw [hW3]
  clear hW3
  have HBB3 := Lib.hid (hb3 w HBB2.out)
  have HKQ3 := Lib.hid (HKQ2.out.trans_ hkp3)
  have HK0_7 := Lib.hid (ho3 _ _ _ (by omega) HK0_6.out)
  have HK1_7 := Lib.hid (ho3 _ _ _ (by omega) HK1_6.out)
  have HK2_7 := Lib.hid hp3
  have HK3_7 := Lib.hid (ho3 _ _ _ (by omega) HK3_6.out)
  clear hp3 ho3 hb3 hkp3 HK0_6 HK1_6 HK2_6 HK3_6 HBB2 HKQ2
  obtain ⟨W4, hW4, hp4, ho4, hb4, hkp4⟩ := six_putE (b := w.heap.size) (b2 := w.heap.size + 4) HK3_7.out (.int .i64 pv2) (.int .i64 pl2) (.slice cC cN2 cc2) (.slice mC mN2 mc2) (.slice sC sN2 sc2) (.slice oC oN2 oc2) (by omega) (by omega)
  have j0 : W3.cell? ⟨w.heap.size + 3, 0, none⟩ = some (.int .i64 pv2) := HK3_7.out.cell 0
  have j1 : W3.cell? ⟨w.heap.size + 3, 1, none⟩ = some (.int .i64 pl2) := HK3_7.out.cell 1
  have j2 : W3.cell? ⟨w.heap.size + 3, 2, none⟩ = some (.slice cC cn2 cc2) := HK3_7.out.cell 2
  have j3 : W3.cell? ⟨w.heap.size + 3, 3, none⟩ = some (.slice mC mn2 mc2) := HK3_7.out.cell 3
  have j4 : W3.cell? ⟨w.heap.size + 3, 4, none⟩ = some (.slice sC sn2 sc2) := HK3_7.out.cell 4
  have j5 : W3.cell? ⟨w.heap.size + 3, 5, none⟩ = some (.slice oC on2 oc2) := HK3_7.out.cell 5
  have g0 : W3.frozen? ⟨w.heap.size + 3, 0, none⟩ = false := HK3_7.out.frozen 0
  have g1 : W3.frozen? ⟨w.heap.size + 3, 1, none⟩ = false := HK3_7.out.frozen 1
  have g2 : W3.frozen? ⟨w.heap.size + 3, 2, none⟩ = false := HK3_7.out.frozen 2
  have g3 : W3.frozen? ⟨w.heap.size + 3, 3, none⟩ = false := HK3_7.out.frozen 3
  have g4 : W3.frozen? ⟨w.heap.size + 3, 4, none⟩ = false := HK3_7.out.frozen 4
  have g5 : W3.frozen? ⟨w.heap.size + 3, 5, none⟩ = false := HK3_7.out.frozen 5
  refine Free.Seq.loud_ rfl (.inl rfl) (fun K hK => ?_)
  go_simp
  refine hK.out _ _ rfl (fun h => absurd h (by decide)) ?_
  clear hK K j0 j1 j2 j3 j4 j5 g0 g1 g2 g3 g4 g5
  try rw [hW4]
  clear hW4
  have HBB4 := Lib.hid (hb4 w HBB3.out)
  have HKQ4 := Lib.hid (HKQ3.out.trans_ hkp4)
  have HK0_8 := Lib.hid (ho4 _ _ _ (by omega) HK0_7.out)
  have HK1_8 := Lib.hid (ho4 _ _ _ (by omega) HK1_7.out)
  have HK2_8 := Lib.hid (ho4 _ _ _ (by omega) HK2_7.out)
  have HK3_8 := Lib.hid hp4
  clear hp4 ho4 hb4 hkp4 HK0_7 HK1_7 HK2_7 HK3_7 HBB3 HKQ3
  refine Free.Seq.nil_ ?_
  have HLW : Hid (LW w (.slice A1 k1 c1) (.slice A2 k2 c2) names up [#[.int .i64 pv0, .int .i64 pl0, .slice cA cN0 cc0, .slice mA mN0 mc0, .slice sA sN0 sc0, .slice oA oN0 oc0], #[.int .i64 pv1, .int .i64 pl1, .slice cB cN1 cc1, .slice mB mN1 mc1, .slice sB sN1 sc1, .slice oB oN1 oc1], #[.int .i64 pv2, .int .i64 pl2, .slice cC cN2 cc2, .slice mC mN2 mc2, .slice sC sN2 sc2, .slice oC oN2 oc2]] W4) := Lib.hid ⟨HLAT.out _ HKQ4.out, HK0_8.out, fun k cs hk => by
    match k, hk with
    | 0, hk => simp at hk; subst hk; exact HK1_8.out
    | 1, hk => simp at hk; subst hk; exact HK2_8.out
    | 2, hk => simp at hk; subst hk; exact HK3_8.out
    , HBB4.out⟩
  clear HLAT HKQ4 HBB4 HZ0 HK0_8 HK1_8 HK2_8 HK3_8
  have hst : ∀ (p : Int) (W : World) (sv tv : Value) (s t : St.State), LW w (.slice A1 k1 c1) (.slice A2 k2 c2) names up [#[.int .i64 pv0, .int .i64 pl0, .slice cA cN0 cc0, .slice mA mN0 mc0, .slice sA sN0 sc0, .slice oA oN0 oc0], #[.int .i64 pv1, .int .i64 pl1, .slice cB cN1 cc1, .slice mB mN1 mc1, .slice sB sN1 sc1, .slice oB oN1 oc1], #[.int .i64 pv2, .int .i64 pl2, .slice cC cN2 cc2, .slice mC mN2 mc2, .slice sC sN2 sc2, .slice oC oN2 oc2]] W → (∀ W, Below w.heap.size w W → IsSt W W.heap.size sv s) → (∀ W, Below w.heap.size w W → IsSt W W.heap.size tv t) → Fif s → Fif t → Calls Try.prog 18 #[.agg #[.slice A1 k1 c1, .slice A2 k2 c2], .int .i64 p, sv, tv] W (TellsBE W (Ev.told (Ev.lookN names up p (Ev.labsOf s ++ Ev.labsOf t)) (Ev.states (Ev.viewL up p) s t)) (Ev.lookN names up p (Ev.labsOf s ++ Ev.labsOf t))) :=
    fun p W sv tv s t hW h1 h2 h3 h4 => States_any p W hW.lat (h1 W hW.below) (h2 W hW.below) h3 h4
  have HAA := Lib.hid (fun (p : Int) W hW => hst p W (.agg #[.int .i64 pv0, .int .i64 pl0, .slice cA cN0 cc0, .slice mA mN0 mc0, .slice sA sN0 sc0, .slice oA oN0 oc0]) (.agg #[.int .i64 pv0, .int .i64 pl0, .slice cA cN0 cc0, .slice mA mN0 mc0, .slice sA sN0 sc0, .slice oA oN0 oc0]) a0 a0 hW HIS0.out HIS0.out HF0.out HF0.out)
  have HAB := Lib.hid (fun (p : Int) W hW => hst p W (.agg #[.int .i64 pv0, .int .i64 pl0, .slice cA cN0 cc0, .slice mA mN0 mc0, .slice sA sN0 sc0, .slice oA oN0 oc0]) (.agg #[.int .i64 pv1, .int .i64 pl1, .slice cB cN1 cc1, .slice mB mN1 mc1, .slice sB sN1 sc1, .slice oB oN1 oc1]) a0 a1 hW HIS0.out HIS1.out HF0.out HF1.out)
  have HBA := Lib.hid (fun (p : Int) W hW => hst p W (.agg #[.int .i64 pv1, .int .i64 pl1, .slice cB cN1 cc1, .slice mB mN1 mc1, .slice sB sN1 sc1, .slice oB oN1 oc1]) (.agg #[.int .i64 pv0, .int .i64 pl0, .slice cA cN0 cc0, .slice mA mN0 mc0, .slice sA sN0 sc0, .slice oA oN0 oc0]) a1 a0 hW HIS1.out HIS0.out HF1.out HF0.out)
  have HBC := Lib.hid (fun (p : Int) W hW => hst p W (.agg #[.int .i64 pv1, .int .i64 pl1, .slice cB cN1 cc1, .slice mB mN1 mc1, .slice sB sN1 sc1, .slice oB oN1 oc1]) (.agg #[.int .i64 pv2, .int .i64 pl2, .slice cC cN2 cc2, .slice mC mN2 mc2, .slice sC sN2 sc2, .slice oC oN2 oc2]) a1 a2 hW HIS1.out HIS2.out HF1.out HF2.out)
  have HAC := Lib.hid (fun (p : Int) W hW => hst p W (.agg #[.int .i64 pv0, .int .i64 pl0, .slice cA cN0 cc0, .slice mA mN0 mc0, .slice sA sN0 sc0, .slice oA oN0 oc0]) (.agg #[.int .i64 pv2, .int .i64 pl2, .slice cC cN2 cc2, .slice mC mN2 mc2, .slice sC sN2 sc2, .slice oC oN2 oc2]) a0 a2 hW HIS0.out HIS2.out HF0.out HF2.out)
  have HTOP := Lib.hid (fun W (hW : LW w (.slice A1 k1 c1) (.slice A2 k2 c2) names up [#[.int .i64 pv0, .int .i64 pl0, .slice cA cN0 cc0, .slice mA mN0 mc0, .slice sA sN0 sc0, .slice oA oN0 oc0], #[.int .i64 pv1, .int .i64 pl1, .slice cB cN1 cc1, .slice mB mN1 mc1, .slice sB sN1 sc1, .slice oB oN1 oc1], #[.int .i64 pv2, .int .i64 pl2, .slice cC cN2 cc2, .slice mC mN2 mc2, .slice sC sN2 sc2, .slice oC oN2 oc2]] W) => Top_any W hW.lat)
  have HSAME := Lib.hid (fun W (hW : LW w (.slice A1 k1 c1) (.slice A2 k2 c2) names up [#[.int .i64 pv0, .int .i64 pl0, .slice cA cN0 cc0, .slice mA mN0 mc0, .slice sA sN0 sc0, .slice oA oN0 oc0], #[.int .i64 pv1, .int .i64 pl1, .slice cB cN1 cc1, .slice mB mN1 mc1, .slice sB sN1 sc1, .slice oB oN1 oc1], #[.int .i64 pv2, .int .i64 pl2, .slice cC cN2 cc2, .slice mC mN2 mc2, .slice sC sN2 sc2, .slice oC oN2 oc2]] W) => rSame9_any W (HIS0.out W hW.below) (HIS1.out W hW.below) (fif_small HF0.out) (fif_small HF1.out))
  have HALIVE := Lib.hid (fun W => alive12_any W)
  obtain ⟨hl1, hl2, hl3, hl4, hl5, hl6⟩ := holds_plain names up o a0 a1 a2
  have HP1 := Lib.hid hl1
  have HP2 := Lib.hid hl2
  have HP3 := Lib.hid hl3
  have HP4 := Lib.hid hl4
  have HP5 := Lib.hid hl5
  have HP6 := Lib.hid hl6
  clear hst hl1 hl2 hl3 hl4 hl5 hl6 HLL0 HLL1 HLL2 HIS0 HIS1 HIS2 HF0 HF1 HF2
  have l0 : W4.cell? ⟨w.heap.size, 0, none⟩ = some (.slice A1 k1 c1) := HLW.out.box.cell 0
  have l1 : W4.cell? ⟨w.heap.size, 1, none⟩ = some (.slice A2 k2 c2) := HLW.out.box.cell 1
  have x0_0 : W4.cell? ⟨w.heap.size + 1, 0, none⟩ = some (.int .i64 pv0) := (HLW.out.sts 0 _ rfl).cell 0
  have x0_1 : W4.cell? ⟨w.heap.size + 1, 1, none⟩ = some (.int .i64 pl0) := (HLW.out.sts 0 _ rfl).cell 1
  have x0_2 : W4.cell? ⟨w.heap.size + 1, 2, none⟩ = some (.slice cA cN0 cc0) := (HLW.out.sts 0 _ rfl).cell 2
  have x0_3 : W4.cell? ⟨w.heap.size + 1, 3, none⟩ = some (.slice mA mN0 mc0) := (HLW.out.sts 0 _ rfl).cell 3
  have x0_4 : W4.cell? ⟨w.heap.size + 1, 4, none⟩ = some (.slice sA sN0 sc0) := (HLW.out.sts 0 _ rfl).cell 4
  have x0_5 : W4.cell? ⟨w.heap.size + 1, 5, none⟩ = some (.slice oA oN0 oc0) := (HLW.out.sts 0 _ rfl).cell 5
  obtain ⟨r1, hr1⟩ : ∃ r, Ev.lookN names up o (Ev.labsOf a0 ++ Ev.labsOf a0) = r := ⟨_, rfl⟩
  obtain ⟨q1, hq1⟩ : ∃ q, Ev.told r1 (Ev.states (Ev.viewL up o) a0 a0) = q := ⟨_, rfl⟩
  have hc1 := HAA.out o
  rw [hr1, hq1] at hc1
  rw [hr1] at HP1
  rw [hr1, hq1] at HP2
  rw [hr1, hq1] at HP3
  have HC1 := Lib.hid hc1
  clear hc1 hr1 hq1 HAA
  go_wp2_with (fail)
  refine (HC1.out W4 HLW.out).mono ?_
  rintro e v5 ⟨rfl, hb5⟩
  have HLW5 := Lib.hid (HLW.out.next hb5)
  clear hb5 HLW
  clear l0 l1 x0_0 x0_1 x0_2 x0_3 x0_4 x0_5 HC1
  by_cases hz : r1 = 0
  · subst hz
    obtain ⟨hck, hfg⟩ := HP1.out rfl
    obtain rfl := (HP3.out rfl)
    obtain ⟨r2, hr2⟩ : ∃ r, Ev.lookN names up o (Ev.labsOf a0 ++ Ev.labsOf a1) = r := ⟨_, rfl⟩
    obtain ⟨q2, hq2⟩ : ∃ q, Ev.told r2 (Ev.states (Ev.viewL up o) a0 a1) = q := ⟨_, rfl⟩
    have hc2 := HAB.out o
    rw [hr2, hq2] at hc2
    have hc3 := HBA.out o
    rw [← hfg.1, ← hfg.2, hr2, hq2] at hc3
    rw [hr2, hq2] at HP4
    rw [hr2] at HP5
    rw [hr2, hq2] at HP6
    have HQF := Lib.hid (fun (h : r2 ≠ 0) => (show q2 = false from hq2 ▸ told_err h))
    have HC2 := Lib.hid hc2
    have HC3 := Lib.hid hc3
    have HCK := Lib.hid hck
    clear hc2 hc3 hr2 hq2 HBA HP1 HP2 HP3 hck hfg
    have l0 : v5.cell? ⟨w.heap.size, 0, none⟩ = some (.slice A1 k1 c1) := HLW5.out.box.cell 0
    have l1 : v5.cell? ⟨w.heap.size, 1, none⟩ = some (.slice A2 k2 c2) := HLW5.out.box.cell 1
    have x0_0 : v5.cell? ⟨w.heap.size + 1, 0, none⟩ = some (.int .i64 pv0) := (HLW5.out.sts 0 _ rfl).cell 0
    have x0_1 : v5.cell? ⟨w.heap.size + 1, 1, none⟩ = some (.int .i64 pl0) := (HLW5.out.sts 0 _ rfl).cell 1
    have x0_2 : v5.cell? ⟨w.heap.size + 1, 2, none⟩ = some (.slice cA cN0 cc0) := (HLW5.out.sts 0 _ rfl).cell 2
    have x0_3 : v5.cell? ⟨w.heap.size + 1, 3, none⟩ = some (.slice mA mN0 mc0) := (HLW5.out.sts 0 _ rfl).cell 3
    have x0_4 : v5.cell? ⟨w.heap.size + 1, 4, none⟩ = some (.slice sA sN0 sc0) := (HLW5.out.sts 0 _ rfl).cell 4
    have x0_5 : v5.cell? ⟨w.heap.size + 1, 5, none⟩ = some (.slice oA oN0 oc0) := (HLW5.out.sts 0 _ rfl).cell 5
    have x1_0 : v5.cell? ⟨w.heap.size + 2, 0, none⟩ = some (.int .i64 pv1) := (HLW5.out.sts 1 _ rfl).cell 0
    have x1_1 : v5.cell? ⟨w.heap.size + 2, 1, none⟩ = some (.int .i64 pl1) := (HLW5.out.sts 1 _ rfl).cell 1
    have x1_2 : v5.cell? ⟨w.heap.size + 2, 2, none⟩ = some (.slice cB cN1 cc1) := (HLW5.out.sts 1 _ rfl).cell 2
    have x1_3 : v5.cell? ⟨w.heap.size + 2, 3, none⟩ = some (.slice mB mN1 mc1) := (HLW5.out.sts 1 _ rfl).cell 3
    have x1_4 : v5.cell? ⟨w.heap.size + 2, 4, none⟩ = some (.slice sB sN1 sc1) := (HLW5.out.sts 1 _ rfl).cell 4
    have x1_5 : v5.cell? ⟨w.heap.size + 2, 5, none⟩ = some (.slice oB oN1 oc1) := (HLW5.out.sts 1 _ rfl).cell 5
    go_wp2_with (fail)
    refine (HC2.out v5 HLW5.out).mono ?_
    rintro e v6 ⟨rfl, hb6⟩
    have HLW6 := Lib.hid (HLW5.out.next hb6)
    clear hb6 HLW5
    clear l0 l1 x0_0 x0_1 x0_2 x0_3 x0_4 x0_5 x1_0 x1_1 x1_2 x1_3 x1_4 x1_5 HC2
    have l0 : v6.cell? ⟨w.heap.size, 0, none⟩ = some (.slice A1 k1 c1) := HLW6.out.box.cell 0
    have l1 : v6.cell? ⟨w.heap.size, 1, none⟩ = some (.slice A2 k2 c2) := HLW6.out.box.cell 1
    have x0_0 : v6.cell? ⟨w.heap.size + 1, 0, none⟩ = some (.int .i64 pv0) := (HLW6.out.sts 0 _ rfl).cell 0
    have x0_1 : v6.cell? ⟨w.heap.size + 1, 1, none⟩ = some (.int .i64 pl0) := (HLW6.out.sts 0 _ rfl).cell 1
    have x0_2 : v6.cell? ⟨w.heap.size + 1, 2, none⟩ = some (.slice cA cN0 cc0) := (HLW6.out.sts 0 _ rfl).cell 2
    have x0_3 : v6.cell? ⟨w.heap.size + 1, 3, none⟩ = some (.slice mA mN0 mc0) := (HLW6.out.sts 0 _ rfl).cell 3
    have x0_4 : v6.cell? ⟨w.heap.size + 1, 4, none⟩ = some (.slice sA sN0 sc0) := (HLW6.out.sts 0 _ rfl).cell 4
    have x0_5 : v6.cell? ⟨w.heap.size + 1, 5, none⟩ = some (.slice oA oN0 oc0) := (HLW6.out.sts 0 _ rfl).cell 5
    have x1_0 : v6.cell? ⟨w.heap.size + 2, 0, none⟩ = some (.int .i64 pv1) := (HLW6.out.sts 1 _ rfl).cell 0
    have x1_1 : v6.cell? ⟨w.heap.size + 2, 1, none⟩ = some (.int .i64 pl1) := (HLW6.out.sts 1 _ rfl).cell 1
    have x1_2 : v6.cell? ⟨w.heap.size + 2, 2, none⟩ = some (.slice cB cN1 cc1) := (HLW6.out.sts 1 _ rfl).cell 2
    have x1_3 : v6.cell? ⟨w.heap.size + 2, 3, none⟩ = some (.slice mB mN1 mc1) := (HLW6.out.sts 1 _ rfl).cell 3
    have x1_4 : v6.cell? ⟨w.heap.size + 2, 4, none⟩ = some (.slice sB sN1 sc1) := (HLW6.out.sts 1 _ rfl).cell 4
    have x1_5 : v6.cell? ⟨w.heap.size + 2, 5, none⟩ = some (.slice oB oN1 oc1) := (HLW6.out.sts 1 _ rfl).cell 5
    go_wp2_with (fail)
    refine (HC3.out v6 HLW6.out).mono ?_
    rintro e v7 ⟨rfl, hb7⟩
    have HLW7 := Lib.hid (HLW6.out.next hb7)
    clear hb7 HLW6
    clear l0 l1 x0_0 x0_1 x0_2 x0_3 x0_4 x0_5 x1_0 x1_1 x1_2 x1_3 x1_4 x1_5 HC3
    have hbb : (q2 != q2) = false := by cases q2 <;> rfl
    have hnn : ((r2 : Int) != (r2 : Int)) = false := by rw [bne_eq_false_iff_eq]
    go_wp2_with (fail)
    refine (HALIVE.out v7).mono ?_
    rintro e v8 ⟨rfl, hb8⟩
    have HLW8 := Lib.hid (HLW7.out.next hb8)
    clear hb8 HLW7
    by_cases hz2 : r2 = 0
    · subst hz2
      obtain ⟨tp, htp⟩ : ∃ tp, topR names up = tp := ⟨_, rfl⟩
      obtain ⟨q3, hq3⟩ : ∃ q, sameB a0 a1 = q := ⟨_, rfl⟩
      obtain ⟨hlk, hal, himp⟩ := HP4.out rfl
      rw [htp] at hlk hal
      rw [hq3] at himp
      have htop := HTOP.out
      rw [htp, HCK.out] at htop
      have hc4 := HAB.out (tp : Nat)
      rw [hlk, hal, hq3, show Ev.told 0 q3 = q3 from rfl] at hc4
      have hsm := HSAME.out
      rw [hq3] at hsm
      have HC4 := Lib.hid hc4
      have HT := Lib.hid htop
      have HS := Lib.hid hsm
      have HIMP := Lib.hid himp
      clear htp hq3 hlk hal htop hc4 hsm himp HAB HTOP HSAME HP4 HALIVE
      have l0 : v8.cell? ⟨w.heap.size, 0, none⟩ = some (.slice A1 k1 c1) := HLW8.out.box.cell 0
      have l1 : v8.cell? ⟨w.heap.size, 1, none⟩ = some (.slice A2 k2 c2) := HLW8.out.box.cell 1
      go_wp2_with (fail)
      refine (HT.out v8 HLW8.out).mono ?_
      rintro e v9 ⟨rfl, hb9⟩
      have HLW9 := Lib.hid (HLW8.out.next hb9)
      clear hb9 HLW8
      clear l0 l1 HT
      have l0 : v9.cell? ⟨w.heap.size, 0, none⟩ = some (.slice A1 k1 c1) := HLW9.out.box.cell 0
      have l1 : v9.cell? ⟨w.heap.size, 1, none⟩ = some (.slice A2 k2 c2) := HLW9.out.box.cell 1
      have x0_0 : v9.cell? ⟨w.heap.size + 1, 0, none⟩ = some (.int .i64 pv0) := (HLW9.out.sts 0 _ rfl).cell 0
      have x0_1 : v9.cell? ⟨w.heap.size + 1, 1, none⟩ = some (.int .i64 pl0) := (HLW9.out.sts 0 _ rfl).cell 1
      have x0_2 : v9.cell? ⟨w.heap.size + 1, 2, none⟩ = some (.slice cA cN0 cc0) := (HLW9.out.sts 0 _ rfl).cell 2
      have x0_3 : v9.cell? ⟨w.heap.size + 1, 3, none⟩ = some (.slice mA mN0 mc0) := (HLW9.out.sts 0 _ rfl).cell 3
      have x0_4 : v9.cell? ⟨w.heap.size + 1, 4, none⟩ = some (.slice sA sN0 sc0) := (HLW9.out.sts 0 _ rfl).cell 4
      have x0_5 : v9.cell? ⟨w.heap.size + 1, 5, none⟩ = some (.slice oA oN0 oc0) := (HLW9.out.sts 0 _ rfl).cell 5
      have x1_0 : v9.cell? ⟨w.heap.size + 2, 0, none⟩ = some (.int .i64 pv1) := (HLW9.out.sts 1 _ rfl).cell 0
      have x1_1 : v9.cell? ⟨w.heap.size + 2, 1, none⟩ = some (.int .i64 pl1) := (HLW9.out.sts 1 _ rfl).cell 1
      have x1_2 : v9.cell? ⟨w.heap.size + 2, 2, none⟩ = some (.slice cB cN1 cc1) := (HLW9.out.sts 1 _ rfl).cell 2
      have x1_3 : v9.cell? ⟨w.heap.size + 2, 3, none⟩ = some (.slice mB mN1 mc1) := (HLW9.out.sts 1 _ rfl).cell 3
      have x1_4 : v9.cell? ⟨w.heap.size + 2, 4, none⟩ = some (.slice sB sN1 sc1) := (HLW9.out.sts 1 _ rfl).cell 4
      have x1_5 : v9.cell? ⟨w.heap.size + 2, 5, none⟩ = some (.slice oB oN1 oc1) := (HLW9.out.sts 1 _ rfl).cell 5
      go_wp2_with (fail)
      refine (HC4.out v9 HLW9.out).mono ?_
      rintro e v10 ⟨rfl, hb10⟩
      have HLW10 := Lib.hid (HLW9.out.next hb10)
      clear hb10 HLW9
      clear l0 l1 x0_0 x0_1 x0_2 x0_3 x0_4 x0_5 x1_0 x1_1 x1_2 x1_3 x1_4 x1_5 HC4
      have l0 : v10.cell? ⟨w.heap.size, 0, none⟩ = some (.slice A1 k1 c1) := HLW10.out.box.cell 0
      have l1 : v10.cell? ⟨w.heap.size, 1, none⟩ = some (.slice A2 k2 c2) := HLW10.out.box.cell 1
      have x0_0 : v10.cell? ⟨w.heap.size + 1, 0, none⟩ = some (.int .i64 pv0) := (HLW10.out.sts 0 _ rfl).cell 0
      have x0_1 : v10.cell? ⟨w.heap.size + 1, 1, none⟩ = some (.int .i64 pl0) := (HLW10.out.sts 0 _ rfl).cell 1
      have x0_2 : v10.cell? ⟨w.heap.size + 1, 2, none⟩ = some (.slice cA cN0 cc0) := (HLW10.out.sts 0 _ rfl).cell 2
      have x0_3 : v10.cell? ⟨w.heap.size + 1, 3, none⟩ = some (.slice mA mN0 mc0) := (HLW10.out.sts 0 _ rfl).cell 3
      have x0_4 : v10.cell? ⟨w.heap.size + 1, 4, none⟩ = some (.slice sA sN0 sc0) := (HLW10.out.sts 0 _ rfl).cell 4
      have x0_5 : v10.cell? ⟨w.heap.size + 1, 5, none⟩ = some (.slice oA oN0 oc0) := (HLW10.out.sts 0 _ rfl).cell 5
      have x1_0 : v10.cell? ⟨w.heap.size + 2, 0, none⟩ = some (.int .i64 pv1) := (HLW10.out.sts 1 _ rfl).cell 0
      have x1_1 : v10.cell? ⟨w.heap.size + 2, 1, none⟩ = some (.int .i64 pl1) := (HLW10.out.sts 1 _ rfl).cell 1
      have x1_2 : v10.cell? ⟨w.heap.size + 2, 2, none⟩ = some (.slice cB cN1 cc1) := (HLW10.out.sts 1 _ rfl).cell 2
      have x1_3 : v10.cell? ⟨w.heap.size + 2, 3, none⟩ = some (.slice mB mN1 mc1) := (HLW10.out.sts 1 _ rfl).cell 3
      have x1_4 : v10.cell? ⟨w.heap.size + 2, 4, none⟩ = some (.slice sB sN1 sc1) := (HLW10.out.sts 1 _ rfl).cell 4
      have x1_5 : v10.cell? ⟨w.heap.size + 2, 5, none⟩ = some (.slice oB oN1 oc1) := (HLW10.out.sts 1 _ rfl).cell 5
      have hbb3 : (q3 != q3) = false := by cases q3 <;> rfl
      go_wp2_with (fail)
      refine (HS.out v10 HLW10.out).mono ?_
      rintro e v11 ⟨rfl, hb11⟩
      have HLW11 := Lib.hid (HLW10.out.next hb11)
      clear hb11 HLW10
      clear l0 l1 x0_0 x0_1 x0_2 x0_3 x0_4 x0_5 x1_0 x1_1 x1_2 x1_3 x1_4 x1_5 HS
      obtain ⟨r5, hr5⟩ : ∃ r, Ev.lookN names up o (Ev.labsOf a1 ++ Ev.labsOf a2) = r := ⟨_, rfl⟩
      obtain ⟨q5, hq5⟩ : ∃ q, Ev.told r5 (Ev.states (Ev.viewL up o) a1 a2) = q := ⟨_, rfl⟩
      obtain ⟨q6, hq6⟩ : ∃ q, Ev.told r5 (Ev.states (Ev.viewL up o) a0 a2) = q := ⟨_, rfl⟩
      have he5 := HP5.out (by trivial)
      have htr := HP6.out
      have hc5 := HBC.out o
      have hc6 := HAC.out o
      rw [← he5, hr5, hq6] at hc6
      rw [hr5, hq5] at hc5
      rw [hr5, hq5, hq6] at htr
      have HC5 := Lib.hid hc5
      have HC6 := Lib.hid hc6
      have HTR := Lib.hid htr
      clear he5 htr hc5 hc6 hr5 hq5 hq6 HBC HAC HP5 HP6
      have hnn5 : ((r5 : Int) == (r5 : Int)) = true := by rw [beq_iff_eq]
      have hq : (q3 && !q2) = false := by
        have := HIMP.out
        cases q3 <;> cases q2 <;> simp_all
      clear HIMP
      by_cases hz5 : r5 = 0
      · subst hz5
        have hTR2 := HTR.out rfl
        clear HTR
        cases q3 <;> cases q2 <;> cases q5 <;> cases q6
        all_goals first
          | exact absurd hq (by decide)
          | exact absurd (hTR2 rfl rfl) (by decide)
          | skip
        all_goals
          clear hTR2 hq
          have l0 : v11.cell? ⟨w.heap.size, 0, none⟩ = some (.slice A1 k1 c1) := HLW11.out.box.cell 0
          have l1 : v11.cell? ⟨w.heap.size, 1, none⟩ = some (.slice A2 k2 c2) := HLW11.out.box.cell 1
          have x1_0 : v11.cell? ⟨w.heap.size + 2, 0, none⟩ = some (.int .i64 pv1) := (HLW11.out.sts 1 _ rfl).cell 0
          have x1_1 : v11.cell? ⟨w.heap.size + 2, 1, none⟩ = some (.int .i64 pl1) := (HLW11.out.sts 1 _ rfl).cell 1
          have x1_2 : v11.cell? ⟨w.heap.size + 2, 2, none⟩ = some (.slice cB cN1 cc1) := (HLW11.out.sts 1 _ rfl).cell 2
          have x1_3 : v11.cell? ⟨w.heap.size + 2, 3, none⟩ = some (.slice mB mN1 mc1) := (HLW11.out.sts 1 _ rfl).cell 3
          have x1_4 : v11.cell? ⟨w.heap.size + 2, 4, none⟩ = some (.slice sB sN1 sc1) := (HLW11.out.sts 1 _ rfl).cell 4
          have x1_5 : v11.cell? ⟨w.heap.size + 2, 5, none⟩ = some (.slice oB oN1 oc1) := (HLW11.out.sts 1 _ rfl).cell 5
          have x2_0 : v11.cell? ⟨w.heap.size + 3, 0, none⟩ = some (.int .i64 pv2) := (HLW11.out.sts 2 _ rfl).cell 0
          have x2_1 : v11.cell? ⟨w.heap.size + 3, 1, none⟩ = some (.int .i64 pl2) := (HLW11.out.sts 2 _ rfl).cell 1
          have x2_2 : v11.cell? ⟨w.heap.size + 3, 2, none⟩ = some (.slice cC cN2 cc2) := (HLW11.out.sts 2 _ rfl).cell 2
          have x2_3 : v11.cell? ⟨w.heap.size + 3, 3, none⟩ = some (.slice mC mN2 mc2) := (HLW11.out.sts 2 _ rfl).cell 3
          have x2_4 : v11.cell? ⟨w.heap.size + 3, 4, none⟩ = some (.slice sC sN2 sc2) := (HLW11.out.sts 2 _ rfl).cell 4
          have x2_5 : v11.cell? ⟨w.heap.size + 3, 5, none⟩ = some (.slice oC oN2 oc2) := (HLW11.out.sts 2 _ rfl).cell 5
          go_wp2_with (fail)
          refine (HC5.out v11 HLW11.out).mono ?_
          rintro e v12 ⟨rfl, hb12⟩
          have HLW12 := Lib.hid (HLW11.out.next hb12)
          clear hb12 HLW11
          clear l0 l1 x1_0 x1_1 x1_2 x1_3 x1_4 x1_5 x2_0 x2_1 x2_2 x2_3 x2_4 x2_5 HC5
          have l0 : v12.cell? ⟨w.heap.size, 0, none⟩ = some (.slice A1 k1 c1) := HLW12.out.box.cell 0
          have l1 : v12.cell? ⟨w.heap.size, 1, none⟩ = some (.slice A2 k2 c2) := HLW12.out.box.cell 1
          have x0_0 : v12.cell? ⟨w.heap.size + 1, 0, none⟩ = some (.int .i64 pv0) := (HLW12.out.sts 0 _ rfl).cell 0
          have x0_1 : v12.cell? ⟨w.heap.size + 1, 1, none⟩ = some (.int .i64 pl0) := (HLW12.out.sts 0 _ rfl).cell 1
          have x0_2 : v12.cell? ⟨w.heap.size + 1, 2, none⟩ = some (.slice cA cN0 cc0) := (HLW12.out.sts 0 _ rfl).cell 2
          have x0_3 : v12.cell? ⟨w.heap.size + 1, 3, none⟩ = some (.slice mA mN0 mc0) := (HLW12.out.sts 0 _ rfl).cell 3
          have x0_4 : v12.cell? ⟨w.heap.size + 1, 4, none⟩ = some (.slice sA sN0 sc0) := (HLW12.out.sts 0 _ rfl).cell 4
          have x0_5 : v12.cell? ⟨w.heap.size + 1, 5, none⟩ = some (.slice oA oN0 oc0) := (HLW12.out.sts 0 _ rfl).cell 5
          have x2_0 : v12.cell? ⟨w.heap.size + 3, 0, none⟩ = some (.int .i64 pv2) := (HLW12.out.sts 2 _ rfl).cell 0
          have x2_1 : v12.cell? ⟨w.heap.size + 3, 1, none⟩ = some (.int .i64 pl2) := (HLW12.out.sts 2 _ rfl).cell 1
          have x2_2 : v12.cell? ⟨w.heap.size + 3, 2, none⟩ = some (.slice cC cN2 cc2) := (HLW12.out.sts 2 _ rfl).cell 2
          have x2_3 : v12.cell? ⟨w.heap.size + 3, 3, none⟩ = some (.slice mC mN2 mc2) := (HLW12.out.sts 2 _ rfl).cell 3
          have x2_4 : v12.cell? ⟨w.heap.size + 3, 4, none⟩ = some (.slice sC sN2 sc2) := (HLW12.out.sts 2 _ rfl).cell 4
          have x2_5 : v12.cell? ⟨w.heap.size + 3, 5, none⟩ = some (.slice oC oN2 oc2) := (HLW12.out.sts 2 _ rfl).cell 5
          go_wp2_with (fail)
          refine (HC6.out v12 HLW12.out).mono ?_
          rintro e v13 ⟨rfl, hb13⟩
          have HLW13 := Lib.hid (HLW12.out.next hb13)
          clear hb13 HLW12
          clear l0 l1 x0_0 x0_1 x0_2 x0_3 x0_4 x0_5 x2_0 x2_1 x2_2 x2_3 x2_4 x2_5 HC6
          have HB9 := Lib.hid HLW13.out.below
          clear HLW13
          go_wp2
          go_ret
          exact ⟨rfl, HB9.out⟩
      · have hz6 : ((r5 : Int) == 0) = false := by rw [beq_eq_false_iff_ne]; omega
        have hz7 : ((r5 : Int) != 0) = true := by rw [bne_iff_ne]; omega
        clear HTR hz5
        cases q3 <;> cases q2
        all_goals first
          | exact absurd hq (by decide)
          | skip
        all_goals
          clear hq
          have l0 : v11.cell? ⟨w.heap.size, 0, none⟩ = some (.slice A1 k1 c1) := HLW11.out.box.cell 0
          have l1 : v11.cell? ⟨w.heap.size, 1, none⟩ = some (.slice A2 k2 c2) := HLW11.out.box.cell 1
          have x1_0 : v11.cell? ⟨w.heap.size + 2, 0, none⟩ = some (.int .i64 pv1) := (HLW11.out.sts 1 _ rfl).cell 0
          have x1_1 : v11.cell? ⟨w.heap.size + 2, 1, none⟩ = some (.int .i64 pl1) := (HLW11.out.sts 1 _ rfl).cell 1
          have x1_2 : v11.cell? ⟨w.heap.size + 2, 2, none⟩ = some (.slice cB cN1 cc1) := (HLW11.out.sts 1 _ rfl).cell 2
          have x1_3 : v11.cell? ⟨w.heap.size + 2, 3, none⟩ = some (.slice mB mN1 mc1) := (HLW11.out.sts 1 _ rfl).cell 3
          have x1_4 : v11.cell? ⟨w.heap.size + 2, 4, none⟩ = some (.slice sB sN1 sc1) := (HLW11.out.sts 1 _ rfl).cell 4
          have x1_5 : v11.cell? ⟨w.heap.size + 2, 5, none⟩ = some (.slice oB oN1 oc1) := (HLW11.out.sts 1 _ rfl).cell 5
          have x2_0 : v11.cell? ⟨w.heap.size + 3, 0, none⟩ = some (.int .i64 pv2) := (HLW11.out.sts 2 _ rfl).cell 0
          have x2_1 : v11.cell? ⟨w.heap.size + 3, 1, none⟩ = some (.int .i64 pl2) := (HLW11.out.sts 2 _ rfl).cell 1
          have x2_2 : v11.cell? ⟨w.heap.size + 3, 2, none⟩ = some (.slice cC cN2 cc2) := (HLW11.out.sts 2 _ rfl).cell 2
          have x2_3 : v11.cell? ⟨w.heap.size + 3, 3, none⟩ = some (.slice mC mN2 mc2) := (HLW11.out.sts 2 _ rfl).cell 3
          have x2_4 : v11.cell? ⟨w.heap.size + 3, 4, none⟩ = some (.slice sC sN2 sc2) := (HLW11.out.sts 2 _ rfl).cell 4
          have x2_5 : v11.cell? ⟨w.heap.size + 3, 5, none⟩ = some (.slice oC oN2 oc2) := (HLW11.out.sts 2 _ rfl).cell 5
          go_wp2_with (fail)
          refine (HC5.out v11 HLW11.out).mono ?_
          rintro e v12 ⟨rfl, hb12⟩
          have HLW12 := Lib.hid (HLW11.out.next hb12)
          clear hb12 HLW11
          clear l0 l1 x1_0 x1_1 x1_2 x1_3 x1_4 x1_5 x2_0 x2_1 x2_2 x2_3 x2_4 x2_5 HC5
          have l0 : v12.cell? ⟨w.heap.size, 0, none⟩ = some (.slice A1 k1 c1) := HLW12.out.box.cell 0
          have l1 : v12.cell? ⟨w.heap.size, 1, none⟩ = some (.slice A2 k2 c2) := HLW12.out.box.cell 1
          have x0_0 : v12.cell? ⟨w.heap.size + 1, 0, none⟩ = some (.int .i64 pv0) := (HLW12.out.sts 0 _ rfl).cell 0
          have x0_1 : v12.cell? ⟨w.heap.size + 1, 1, none⟩ = some (.int .i64 pl0) := (HLW12.out.sts 0 _ rfl).cell 1
          have x0_2 : v12.cell? ⟨w.heap.size + 1, 2, none⟩ = some (.slice cA cN0 cc0) := (HLW12.out.sts 0 _ rfl).cell 2
          have x0_3 : v12.cell? ⟨w.heap.size + 1, 3, none⟩ = some (.slice mA mN0 mc0) := (HLW12.out.sts 0 _ rfl).cell 3
          have x0_4 : v12.cell? ⟨w.heap.size + 1, 4, none⟩ = some (.slice sA sN0 sc0) := (HLW12.out.sts 0 _ rfl).cell 4
          have x0_5 : v12.cell? ⟨w.heap.size + 1, 5, none⟩ = some (.slice oA oN0 oc0) := (HLW12.out.sts 0 _ rfl).cell 5
          have x2_0 : v12.cell? ⟨w.heap.size + 3, 0, none⟩ = some (.int .i64 pv2) := (HLW12.out.sts 2 _ rfl).cell 0
          have x2_1 : v12.cell? ⟨w.heap.size + 3, 1, none⟩ = some (.int .i64 pl2) := (HLW12.out.sts 2 _ rfl).cell 1
          have x2_2 : v12.cell? ⟨w.heap.size + 3, 2, none⟩ = some (.slice cC cN2 cc2) := (HLW12.out.sts 2 _ rfl).cell 2
          have x2_3 : v12.cell? ⟨w.heap.size + 3, 3, none⟩ = some (.slice mC mN2 mc2) := (HLW12.out.sts 2 _ rfl).cell 3
          have x2_4 : v12.cell? ⟨w.heap.size + 3, 4, none⟩ = some (.slice sC sN2 sc2) := (HLW12.out.sts 2 _ rfl).cell 4
          have x2_5 : v12.cell? ⟨w.heap.size + 3, 5, none⟩ = some (.slice oC oN2 oc2) := (HLW12.out.sts 2 _ rfl).cell 5
          go_wp2_with (fail)
          refine (HC6.out v12 HLW12.out).mono ?_
          rintro e v13 ⟨rfl, hb13⟩
          have HLW13 := Lib.hid (HLW12.out.next hb13)
          clear hb13 HLW12
          clear l0 l1 x0_0 x0_1 x0_2 x0_3 x0_4 x0_5 x2_0 x2_1 x2_2 x2_3 x2_4 x2_5 HC6
          have HB9 := Lib.hid HLW13.out.below
          clear HLW13
          go_wp2
          go_ret
          exact ⟨rfl, HB9.out⟩
    · have hz3 : ((r2 : Int) == 0) = false := by rw [beq_eq_false_iff_ne]; omega
      have hz4 : ((r2 : Int) != 0) = true := by rw [bne_iff_ne]; omega
      have hq2f : q2 = false := HQF.out hz2
      subst hq2f
      have HB9 := Lib.hid HLW8.out.below
      go_wp2
      go_ret
      exact ⟨rfl, HB9.out⟩
  · have hz1 : ((r1 : Int) == 0) = false := by rw [beq_eq_false_iff_ne]; omega
    have hz2 : ((r1 : Int) != 0) = true := by rw [bne_iff_ne]; omega
    have hq1f : q1 = false := HP2.out hz
    subst hq1f
    clear hz HP1 HP2 HP3 HP4 HP5 HP6 HAB HBA HBC HAC HTOP HSAME
    go_wp2_with (fail)
    refine (HALIVE.out v5).mono ?_
    rintro e v6 ⟨rfl, hb6⟩
    have HB6 := Lib.hid (HLW5.out.next hb6).below
    clear hb6
    go_wp2
    go_ret
    exact ⟨rfl, HB6.out⟩
end Go.Proofs.Ytlddglhjpiahfaa
