/- The laws' boxes of layer 12. -/
import Derived.Test.YtlddglhjpiahfaaGEqvL
import Derived.Test.YtlddglhjpiahfaaGEqvC
import Derived.Test.YtlddglhjpiahfaaGStpR
import Derived.Test.YtlddglhjpiahfaaGFew
import Derived.Test.YtlddglhjpiahfaaGLawO
import Derived.Test.YtlddglhjpiahfaaGCodE
namespace Go.Proofs.Ytlddglhjpiahfaa
set_option maxRecDepth 100000
open Go.RowKit Go.Shelf Go.Sort
attribute [local go_sem] Oper.semAt_some
/-- What a law holds of its boxes: its lattice, its states, cut. -/
structure LW (w : World) (x0 x1 : Value) (names : List ByteArray) (up : List Nat) (L : List (Array Value)) (W : World) : Prop where
  lat : IsLat W W.heap.size (.agg #[x0, x1]) names up
  box : Blk W w.heap.size 25 #[x0, x1]
  sts : ∀ k cs, L[k]? = some cs → Blk W (w.heap.size + (k + 1)) 32 cs
  below : Below w.heap.size w W
theorem LW.next {w : World} {x0 x1 : Value} {names : List ByteArray} {up : List Nat} {L : List (Array Value)} {W W' : World} (h : LW w x0 x1 names up L W) (hb : Below W.heap.size W W') : LW w x0 x1 names up L W' :=
  ⟨(h.lat.below hb).more hb.size, h.box.below hb h.box.lt, fun k cs hk => (h.sts k cs hk).below hb (h.sts k cs hk).lt, h.below.trans (hb.mono h.below.size)⟩
theorem two_putE {W : World} {g b b2 : Nat} {c0 c1 : Value} (h : Blk W g 25 #[c0, c1]) (a0 a1 : Value) (h1 : b ≤ g) (h2 : g < b2) :
    ∃ WF, ((W.setCell ⟨g, 0, none⟩ a0).setCell ⟨g, 1, none⟩ a1) = WF ∧ Blk WF g 25 #[a0, a1] ∧ (∀ (g' : Nat) (t : TypeId) (cs : Array Value), g' ≠ g → Blk W g' t cs → Blk WF g' t cs) ∧ (∀ w0, Below b w0 W → Below b w0 WF) ∧ Keeps b b2 W WF :=
  ⟨_, rfl, ((h.set_ 0 a0).set_ 1 a1), fun _ _ _ hne hb => ((hb.other (p := ⟨g, 0, none⟩) (fun e => hne e.symm) a0).other (p := ⟨g, 1, none⟩) (fun e => hne e.symm) a1), fun _ hB => ((hB.setCell (p := ⟨g, 0, none⟩) h1 a0).setCell (p := ⟨g, 1, none⟩) h1 a1), ((Keeps.set_ (B0 := b) (b := b2) (W := W) (p := ⟨g, 0, none⟩) (u := a0) h1 h2).trans_ (Keeps.set_ (p := ⟨g, 1, none⟩) h1 h2))⟩
theorem six_putE {W : World} {g b b2 : Nat} {c0 c1 c2 c3 c4 c5 : Value} (h : Blk W g 32 #[c0, c1, c2, c3, c4, c5]) (a0 a1 a2 a3 a4 a5 : Value) (h1 : b ≤ g) (h2 : g < b2) :
    ∃ WF, ((((((W.setCell ⟨g, 0, none⟩ a0).setCell ⟨g, 1, none⟩ a1).setCell ⟨g, 2, none⟩ a2).setCell ⟨g, 3, none⟩ a3).setCell ⟨g, 4, none⟩ a4).setCell ⟨g, 5, none⟩ a5) = WF ∧ Blk WF g 32 #[a0, a1, a2, a3, a4, a5] ∧ (∀ (g' : Nat) (t : TypeId) (cs : Array Value), g' ≠ g → Blk W g' t cs → Blk WF g' t cs) ∧ (∀ w0, Below b w0 W → Below b w0 WF) ∧ Keeps b b2 W WF :=
  ⟨_, rfl, ((((((h.set_ 0 a0).set_ 1 a1).set_ 2 a2).set_ 3 a3).set_ 4 a4).set_ 5 a5), fun _ _ _ hne hb => ((((((hb.other (p := ⟨g, 0, none⟩) (fun e => hne e.symm) a0).other (p := ⟨g, 1, none⟩) (fun e => hne e.symm) a1).other (p := ⟨g, 2, none⟩) (fun e => hne e.symm) a2).other (p := ⟨g, 3, none⟩) (fun e => hne e.symm) a3).other (p := ⟨g, 4, none⟩) (fun e => hne e.symm) a4).other (p := ⟨g, 5, none⟩) (fun e => hne e.symm) a5), fun _ hB => ((((((hB.setCell (p := ⟨g, 0, none⟩) h1 a0).setCell (p := ⟨g, 1, none⟩) h1 a1).setCell (p := ⟨g, 2, none⟩) h1 a2).setCell (p := ⟨g, 3, none⟩) h1 a3).setCell (p := ⟨g, 4, none⟩) h1 a4).setCell (p := ⟨g, 5, none⟩) h1 a5), ((((((Keeps.set_ (B0 := b) (b := b2) (W := W) (p := ⟨g, 0, none⟩) (u := a0) h1 h2).trans_ (Keeps.set_ (p := ⟨g, 1, none⟩) h1 h2)).trans_ (Keeps.set_ (p := ⟨g, 2, none⟩) h1 h2)).trans_ (Keeps.set_ (p := ⟨g, 3, none⟩) h1 h2)).trans_ (Keeps.set_ (p := ⟨g, 4, none⟩) h1 h2)).trans_ (Keeps.set_ (p := ⟨g, 5, none⟩) h1 h2))⟩
end Go.Proofs.Ytlddglhjpiahfaa

/- The walk of the law EquivStates (by gen_eqvv.py). -/
namespace Go.Proofs.Ytlddglhjpiahfaa
set_option maxRecDepth 100000
open Go.RowKit Go.Shelf Go.Sort
attribute [local go_sem] Oper.semAt_some
theorem lab_of_labN {names : List ByteArray} {up : List Nat} {o : Int} (h : labN names up o o = 0) : isLab up o = true := by
  obtain ⟨-, ⟨a, rfl, ha⟩, -⟩ := labN_zero h
  unfold isLab
  rw [decide_eq_true_eq]; omega
/-- What only labels ask, and 0 beside. -/
theorem look_zeros {names : List ByteArray} {up : List Nat} {o : Int} {ls ls' : List Int} (h : ∀ l, l ∈ ls' ↔ l = 0 ∨ l ∈ ls) : Ev.lookN names up o ls' = Ev.lookN names up o ls := by
  unfold Ev.lookN
  by_cases hz : labN names up o o = 0
  · have h0 := Ev.lab_zero (labN_zero hz).1
    have e : ls'.all (isLab up) = ls.all (isLab up) := by
      rw [Bool.eq_iff_iff, List.all_eq_true, List.all_eq_true]
      exact ⟨fun k l hl => k l ((h l).2 (.inr hl)), fun k l hl => ((h l).1 hl).elim (fun e => e ▸ h0) (k l)⟩
    rw [e]
  · rw [if_neg hz, if_neg hz]
set_option maxRecDepth 100000 in
set_option maxHeartbeats 64000000 in
theorem equivStates_any {A A' : Option Addr} {n1 : List ByteArray} {u1 : List Nat} {s0 : St.State} {cA mA sA oA : Option Addr} {cc0 mc0 sc0 oc0 : Nat} {s1 : St.State} {cB mB sB oB : Option Addr} {cc1 mc1 sc1 oc1 : Nat} (c c' : Nat) (o : Int) (w : World) (hN : Row w w.heap.size A (strs n1)) (hU : Ups w w.heap.size A' u1) (hs0 : StIn w w.heap.size s0 cA cc0 mA mc0 sA sc0 oA oc0) (hs1 : StIn w w.heap.size s1 cB cc1 mB mc1 sB sc1 oB oc1) (hc : n1.length ≤ c) (hc' : u1.length ≤ c') (hm : c ≤ maxLen) (hm' : c' ≤ maxLen) (hs : ∀ s ∈ n1, s.size ≤ maxLen) :
    Calls Try.prog 4 #[.agg #[.slice A n1.length c, .slice A' u1.length c'], .int .i64 o, incv s0 cA cc0 mA mc0 sA sc0 oA oc0, incv s1 cB cc1 mB mc1 sB sc1 oB oc1] w (Tells w true) := by
  have hfa := fun W (hW : Below w.heap.size w W) => few_any w.heap.size c c' W hW.size (hN.below hW) (hU.below hW) hc hc' hm hm' hs
  have hcut0 := fun W => scut_any10 W hs0
  have his0 := fun W (hb : Below w.heap.size w W) => ((hs0.cut.below hb).more hb.size).isSt
  have HF0 : Hid (Fif (cutS s0)) := Lib.hid (by refine ⟨?_, ?_, ?_, ?_⟩ <;> (unfold cutS; dsimp only; rw [List.length_take]; omega))
  have hlc0 : (cutS s0).code.length = min 15 s0.code.length := by unfold cutS; simp
  have hlm0 : (cutS s0).mem.length = min 15 s0.mem.length := by unfold cutS; simp
  have hls0 : (cutS s0).stack.length = min 15 s0.stack.length := by unfold cutS; simp
  have hlo0 : (cutS s0).out.length = min 15 s0.out.length := by unfold cutS; simp
  have hpv0 : (cutS s0).pc.v = s0.pc.v := rfl
  have hpl0 : (cutS s0).pc.l = s0.pc.l := rfl
  rw [incv_cut] at his0 hcut0
  obtain ⟨a0, ha0⟩ : ∃ a, cutS s0 = a := ⟨_, rfl⟩
  rw [ha0] at his0 HF0 hlc0 hlm0 hls0 hlo0 hpv0 hpl0
  have hcut1 := fun W => scut_any10 W hs1
  have his1 := fun W (hb : Below w.heap.size w W) => ((hs1.cut.below hb).more hb.size).isSt
  have HF1 : Hid (Fif (cutS s1)) := Lib.hid (by refine ⟨?_, ?_, ?_, ?_⟩ <;> (unfold cutS; dsimp only; rw [List.length_take]; omega))
  have hlc1 : (cutS s1).code.length = min 15 s1.code.length := by unfold cutS; simp
  have hlm1 : (cutS s1).mem.length = min 15 s1.mem.length := by unfold cutS; simp
  have hls1 : (cutS s1).stack.length = min 15 s1.stack.length := by unfold cutS; simp
  have hlo1 : (cutS s1).out.length = min 15 s1.out.length := by unfold cutS; simp
  have hpv1 : (cutS s1).pc.v = s1.pc.v := rfl
  have hpl1 : (cutS s1).pc.l = s1.pc.l := rfl
  rw [incv_cut] at his1 hcut1
  obtain ⟨a1, ha1⟩ : ∃ a, cutS s1 = a := ⟨_, rfl⟩
  rw [ha1] at his1 HF1 hlc1 hlm1 hls1 hlo1 hpv1 hpl1
  unfold incv at hcut0 hcut1 ⊢
  clear hs0 ha0 hs1 ha1 hN hU hc hc' hm hm' hs
  generalize s0.pc.v = pv0 at *
  generalize s0.pc.l = pl0 at *
  generalize hcn0 : min 15 s0.code.length = cN0 at *
  generalize s0.code.length = cn0 at *
  generalize hmn0 : min 15 s0.mem.length = mN0 at *
  generalize s0.mem.length = mn0 at *
  generalize hsn0 : min 15 s0.stack.length = sN0 at *
  generalize s0.stack.length = sn0 at *
  generalize hon0 : min 15 s0.out.length = oN0 at *
  generalize s0.out.length = on0 at *
  clear hcn0 hmn0 hsn0 hon0
  have HLL0 := Lib.hid (show a0.code.length = cN0 ∧ a0.mem.length = mN0 ∧ a0.stack.length = sN0 ∧ a0.out.length = oN0 ∧ a0.pc.v = pv0 ∧ a0.pc.l = pl0 from ⟨hlc0, hlm0, hls0, hlo0, hpv0, hpl0⟩)
  clear hlc0 hlm0 hls0 hlo0 hpv0 hpl0
  generalize s1.pc.v = pv1 at *
  generalize s1.pc.l = pl1 at *
  generalize hcn1 : min 15 s1.code.length = cN1 at *
  generalize s1.code.length = cn1 at *
  generalize hmn1 : min 15 s1.mem.length = mN1 at *
  generalize s1.mem.length = mn1 at *
  generalize hsn1 : min 15 s1.stack.length = sN1 at *
  generalize s1.stack.length = sn1 at *
  generalize hon1 : min 15 s1.out.length = oN1 at *
  generalize s1.out.length = on1 at *
  clear hcn1 hmn1 hsn1 hon1
  have HLL1 := Lib.hid (show a1.code.length = cN1 ∧ a1.mem.length = mN1 ∧ a1.stack.length = sN1 ∧ a1.out.length = oN1 ∧ a1.pc.v = pv1 ∧ a1.pc.l = pl1 from ⟨hlc1, hlm1, hls1, hlo1, hpv1, hpl1⟩)
  clear hlc1 hlm1 hls1 hlo1 hpv1 hpl1
  obtain ⟨W0, hW0⟩ : ∃ W0, (((w.alloc (.cells #[.slice A n1.length c, .slice A' u1.length c'] 25)).alloc (.cells #[.int .i64 pv0, .int .i64 pl0, .slice cA cn0 cc0, .slice mA mn0 mc0, .slice sA sn0 sc0, .slice oA on0 oc0] 32)).alloc (.cells #[.int .i64 pv1, .int .i64 pl1, .slice cB cn1 cc1, .slice mB mn1 mc1, .slice sB sn1 sc1, .slice oB on1 oc1] 32)) = W0 := ⟨_, rfl⟩
  have hb0 : Below w.heap.size w W0 := by rw [← hW0]; exact ((((Below.refl _ w).alloc (by simp <;> omega) _).alloc (by simp <;> omega) _).alloc (by simp <;> omega) _)
  have hz0 : W0.heap.size = w.heap.size + 3 := by rw [← hW0]; simp
  have hk0 : Blk W0 (w.heap.size) 25 #[.slice A n1.length c, .slice A' u1.length c'] := by rw [← hW0]; exact (((Blk.new' _ _ _ _ (by simp)).alloc _).alloc _)
  have hk1 : Blk W0 (w.heap.size + 1) 32 #[.int .i64 pv0, .int .i64 pl0, .slice cA cn0 cc0, .slice mA mn0 mc0, .slice sA sn0 sc0, .slice oA on0 oc0] := by rw [← hW0]; exact ((Blk.new' _ _ _ _ (by simp)).alloc _)
  have hk2 : Blk W0 (w.heap.size + 2) 32 #[.int .i64 pv1, .int .i64 pl1, .slice cB cn1 cc1, .slice mB mn1 mc1, .slice sB sn1 sc1, .slice oB on1 oc1] := by rw [← hW0]; exact (Blk.new' _ _ _ _ (by simp))
  have HFA := Lib.hid hfa
  have HB0 := Lib.hid hb0.drew
  have HZ0 := Lib.hid hz0
  have HCUT0 := Lib.hid hcut0
  have HIS0 := Lib.hid his0
  have HCUT1 := Lib.hid hcut1
  have HIS1 := Lib.hid his1
  have HK0 := Lib.hid hk0
  have HK1 := Lib.hid hk1
  have HK2 := Lib.hid hk2
  have l0 : W0.cell? ⟨w.heap.size, 0, none⟩ = some (.slice A n1.length c) := hk0.cell 0
  have l1 : W0.cell? ⟨w.heap.size, 1, none⟩ = some (.slice A' u1.length c') := hk0.cell 1
  have x0_0 : W0.cell? ⟨w.heap.size + 1, 0, none⟩ = some (.int .i64 pv0) := hk1.cell 0
  have x0_1 : W0.cell? ⟨w.heap.size + 1, 1, none⟩ = some (.int .i64 pl0) := hk1.cell 1
  have x0_2 : W0.cell? ⟨w.heap.size + 1, 2, none⟩ = some (.slice cA cn0 cc0) := hk1.cell 2
  have x0_3 : W0.cell? ⟨w.heap.size + 1, 3, none⟩ = some (.slice mA mn0 mc0) := hk1.cell 3
  have x0_4 : W0.cell? ⟨w.heap.size + 1, 4, none⟩ = some (.slice sA sn0 sc0) := hk1.cell 4
  have x0_5 : W0.cell? ⟨w.heap.size + 1, 5, none⟩ = some (.slice oA on0 oc0) := hk1.cell 5
  have x1_0 : W0.cell? ⟨w.heap.size + 2, 0, none⟩ = some (.int .i64 pv1) := hk2.cell 0
  have x1_1 : W0.cell? ⟨w.heap.size + 2, 1, none⟩ = some (.int .i64 pl1) := hk2.cell 1
  have x1_2 : W0.cell? ⟨w.heap.size + 2, 2, none⟩ = some (.slice cB cn1 cc1) := hk2.cell 2
  have x1_3 : W0.cell? ⟨w.heap.size + 2, 3, none⟩ = some (.slice mB mn1 mc1) := hk2.cell 3
  have x1_4 : W0.cell? ⟨w.heap.size + 2, 4, none⟩ = some (.slice sB sn1 sc1) := hk2.cell 4
  have x1_5 : W0.cell? ⟨w.heap.size + 2, 5, none⟩ = some (.slice oB on1 oc1) := hk2.cell 5
  clear hfa hb0 hz0 hcut0 his0 hk0 hcut1 his1 hk1 hk2
  go_enter Try.func4, Try.ntmps4
  go_wp2_with (fail)
  clear hW0
  refine Free.region_seq [1, 3, 5, 6, 7, 8] [0, 2, 4] 5 (fun W' => W'.cell? ⟨w.heap.size, 0, none⟩ = some (.slice A n1.length c) ∧ W'.cell? ⟨w.heap.size, 1, none⟩ = some (.slice A' u1.length c') ∧ W'.cell? ⟨w.heap.size + 1, 0, none⟩ = some (.int .i64 pv0) ∧ W'.cell? ⟨w.heap.size + 1, 1, none⟩ = some (.int .i64 pl0) ∧ W'.cell? ⟨w.heap.size + 1, 2, none⟩ = some (.slice cA cn0 cc0) ∧ W'.cell? ⟨w.heap.size + 1, 3, none⟩ = some (.slice mA mn0 mc0) ∧ W'.cell? ⟨w.heap.size + 1, 4, none⟩ = some (.slice sA sn0 sc0) ∧ W'.cell? ⟨w.heap.size + 1, 5, none⟩ = some (.slice oA on0 oc0) ∧ W'.cell? ⟨w.heap.size + 2, 0, none⟩ = some (.int .i64 pv1) ∧ W'.cell? ⟨w.heap.size + 2, 1, none⟩ = some (.int .i64 pl1) ∧ W'.cell? ⟨w.heap.size + 2, 2, none⟩ = some (.slice cB cn1 cc1) ∧ W'.cell? ⟨w.heap.size + 2, 3, none⟩ = some (.slice mB mn1 mc1) ∧ W'.cell? ⟨w.heap.size + 2, 4, none⟩ = some (.slice sB sn1 sc1) ∧ W'.cell? ⟨w.heap.size + 2, 5, none⟩ = some (.slice oB on1 oc1)) (by kernel_rfl) (by kernel_rfl) (by kernel_rfl) (by kernel_rfl) (⟨l0, l1, x0_0, x0_1, x0_2, x0_3, x0_4, x0_5, x1_0, x1_1, x1_2, x1_3, x1_4, x1_5⟩) (fun ops hops => ?_)
  clear hops
  clear l0 l1 x0_0 x0_1 x0_2 x0_3 x0_4 x0_5 x1_0 x1_1 x1_2 x1_3 x1_4 x1_5
  iterate 1
    refine Free.Seq.quiet (v := ?_) (a' := ?_) rfl rfl (fun W' hW' => ?_) ?_ ?_
    rotate_left 2
    · first | obtain ⟨q0, q1, q2, q3, q4, q5, q6, q7, q8, q9, q10, q11, q12, q13⟩ := hW' rfl | skip
      go_simp
      try with_reducible rfl
    · simp only [Act.put, List.setIfInBounds_toArray, List.set_cons_zero, List.set_cons_succ]
      try with_reducible rfl
  refine Free.Seq.loud_ rfl (.inl rfl) (fun K hK => ?_)
  go_simp
  refine (HFA.out _ HB0.out).mono ?_
  rintro e w1 ⟨v, names, up, rfl, hlw, hb1⟩
  have hlat : ∀ W2, Keeps w.heap.size (w.heap.size + 3) w1 W2 → IsLat W2 W2.heap.size v names up := fun W2 k => hlw W2 (k.mono_ (by show w.heap.size + 3 ≤ W0.heap.size; rw [HZ0.out]; exact Nat.le_refl _))
  obtain ⟨A1, k1, c1, A2, k2, c2, rfl⟩ := lat_two (hlat w1 ⟨Nat.le_refl _, fun _ _ _ => rfl⟩)
  have HB1 := Lib.hid (HB0.out.trans (hb1.mono HB0.out.size))
  have HLAT := Lib.hid hlat
  have HK0_1 := Lib.hid ((HK0.out.drew).below hb1 HK0.out.lt)
  have HK1_1 := Lib.hid ((HK1.out.drew).below hb1 HK1.out.lt)
  have HK2_1 := Lib.hid ((HK2.out.drew).below hb1 HK2.out.lt)
  refine hK.out _ _ rfl (fun _ => ⟨HK0_1.out.cell 0, HK0_1.out.cell 1, HK1_1.out.cell 0, HK1_1.out.cell 1, HK1_1.out.cell 2, HK1_1.out.cell 3, HK1_1.out.cell 4, HK1_1.out.cell 5, HK2_1.out.cell 0, HK2_1.out.cell 1, HK2_1.out.cell 2, HK2_1.out.cell 3, HK2_1.out.cell 4, HK2_1.out.cell 5⟩) ?_
  clear hK K hb1 hlw hlat HK0 HK1 HK2 HFA HB0
  have HKP1 : Hid (Keeps w.heap.size (w.heap.size + 3) w1 w1) := Lib.hid ⟨Nat.le_refl _, fun _ _ _ => rfl⟩
  iterate 1
    refine Free.Seq.quiet (v := ?_) (a' := ?_) rfl rfl (fun W' hW' => ?_) ?_ ?_
    rotate_left 2
    · first | obtain ⟨q0, q1, q2, q3, q4, q5, q6, q7, q8, q9, q10, q11, q12, q13⟩ := hW' rfl | skip
      go_simp
      try with_reducible rfl
    · simp only [Act.put, List.setIfInBounds_toArray, List.set_cons_zero, List.set_cons_succ]
      try with_reducible rfl
  refine Free.Seq.loud_ rfl (.inl rfl) (fun K hK => ?_)
  go_simp
  refine (HCUT0.out w1).mono ?_
  rintro e w2 ⟨rfl, hb2⟩
  have HB2 := Lib.hid (HB1.out.trans (hb2.mono HB1.out.size))
  have HKP2 := Lib.hid (HKP1.out.trans_ (Keeps.below hb2))
  have HK0_2 := Lib.hid (HK0_1.out.below hb2 HK0_1.out.lt)
  have HK1_2 := Lib.hid (HK1_1.out.below hb2 HK1_1.out.lt)
  have HK2_2 := Lib.hid (HK2_1.out.below hb2 HK2_1.out.lt)
  refine hK.out _ _ rfl (fun _ => ⟨HK0_2.out.cell 0, HK0_2.out.cell 1, HK1_2.out.cell 0, HK1_2.out.cell 1, HK1_2.out.cell 2, HK1_2.out.cell 3, HK1_2.out.cell 4, HK1_2.out.cell 5, HK2_2.out.cell 0, HK2_2.out.cell 1, HK2_2.out.cell 2, HK2_2.out.cell 3, HK2_2.out.cell 4, HK2_2.out.cell 5⟩) ?_
  clear hK K hb2 HK0_1 HK1_1 HK2_1 HB1 HKP1 HCUT0
  iterate 1
    refine Free.Seq.quiet (v := ?_) (a' := ?_) rfl rfl (fun W' hW' => ?_) ?_ ?_
    rotate_left 2
    · first | obtain ⟨q0, q1, q2, q3, q4, q5, q6, q7, q8, q9, q10, q11, q12, q13⟩ := hW' rfl | skip
      go_simp
      try with_reducible rfl
    · simp only [Act.put, List.setIfInBounds_toArray, List.set_cons_zero, List.set_cons_succ]
      try with_reducible rfl
  refine Free.Seq.loud_ rfl (.inl rfl) (fun K hK => ?_)
  go_simp
  refine (HCUT1.out w2).mono ?_
  rintro e w3 ⟨rfl, hb3⟩
  have HB3 := Lib.hid (HB2.out.trans (hb3.mono HB2.out.size))
  have HKP3 := Lib.hid (HKP2.out.trans_ (Keeps.below hb3))
  have HK0_3 := Lib.hid (HK0_2.out.below hb3 HK0_2.out.lt)
  have HK1_3 := Lib.hid (HK1_2.out.below hb3 HK1_2.out.lt)
  have HK2_3 := Lib.hid (HK2_2.out.below hb3 HK2_2.out.lt)
  refine hK.out _ _ rfl (fun h => absurd h (by decide)) ?_
  clear hK K hb3 HK0_2 HK1_2 HK2_2 HB2 HKP2 HCUT1
  obtain ⟨W1, hW1, hp1, ho1, hb1, hkp1⟩ := two_putE (b := w.heap.size) (b2 := w.heap.size + 3) HK0_3.out (.slice A1 k1 c1) (.slice A2 k2 c2) (by omega) (by omega)
  have j0 : w3.cell? ⟨w.heap.size, 0, none⟩ = some (.slice A n1.length c) := HK0_3.out.cell 0
  have j1 : w3.cell? ⟨w.heap.size, 1, none⟩ = some (.slice A' u1.length c') := HK0_3.out.cell 1
  have g0 : w3.frozen? ⟨w.heap.size, 0, none⟩ = false := HK0_3.out.frozen 0
  have g1 : w3.frozen? ⟨w.heap.size, 1, none⟩ = false := HK0_3.out.frozen 1
  refine Free.Seq.loud_ rfl (.inl rfl) (fun K hK => ?_)
  go_simp
  refine hK.out _ _ rfl (fun h => absurd h (by decide)) ?_
  clear hK K j0 j1 g0 g1
  try rw [hW1]
  clear hW1
  have HBB1 := Lib.hid (hb1 w HB3.out)
  have HKQ1 := Lib.hid (HKP3.out.trans_ hkp1)
  have HK0_4 := Lib.hid hp1
  have HK1_4 := Lib.hid (ho1 _ _ _ (by omega) HK1_3.out)
  have HK2_4 := Lib.hid (ho1 _ _ _ (by omega) HK2_3.out)
  clear hp1 ho1 hb1 hkp1 HK0_3 HK1_3 HK2_3 HB3 HKP3
  obtain ⟨W2, hW2, hp2, ho2, hb2, hkp2⟩ := six_putE (b := w.heap.size) (b2 := w.heap.size + 3) HK1_4.out (.int .i64 pv0) (.int .i64 pl0) (.slice cA cN0 cc0) (.slice mA mN0 mc0) (.slice sA sN0 sc0) (.slice oA oN0 oc0) (by omega) (by omega)
  have j0 : W1.cell? ⟨w.heap.size + 1, 0, none⟩ = some (.int .i64 pv0) := HK1_4.out.cell 0
  have j1 : W1.cell? ⟨w.heap.size + 1, 1, none⟩ = some (.int .i64 pl0) := HK1_4.out.cell 1
  have j2 : W1.cell? ⟨w.heap.size + 1, 2, none⟩ = some (.slice cA cn0 cc0) := HK1_4.out.cell 2
  have j3 : W1.cell? ⟨w.heap.size + 1, 3, none⟩ = some (.slice mA mn0 mc0) := HK1_4.out.cell 3
  have j4 : W1.cell? ⟨w.heap.size + 1, 4, none⟩ = some (.slice sA sn0 sc0) := HK1_4.out.cell 4
  have j5 : W1.cell? ⟨w.heap.size + 1, 5, none⟩ = some (.slice oA on0 oc0) := HK1_4.out.cell 5
  have g0 : W1.frozen? ⟨w.heap.size + 1, 0, none⟩ = false := HK1_4.out.frozen 0
  have g1 : W1.frozen? ⟨w.heap.size + 1, 1, none⟩ = false := HK1_4.out.frozen 1
  have g2 : W1.frozen? ⟨w.heap.size + 1, 2, none⟩ = false := HK1_4.out.frozen 2
  have g3 : W1.frozen? ⟨w.heap.size + 1, 3, none⟩ = false := HK1_4.out.frozen 3
  have g4 : W1.frozen? ⟨w.heap.size + 1, 4, none⟩ = false := HK1_4.out.frozen 4
  have g5 : W1.frozen? ⟨w.heap.size + 1, 5, none⟩ = false := HK1_4.out.frozen 5
  refine Free.Seq.loud_ rfl (.inl rfl) (fun K hK => ?_)
  go_simp
  refine hK.out _ _ rfl (fun h => absurd h (by decide)) ?_
  clear hK K j0 j1 j2 j3 j4 j5 g0 g1 g2 g3 g4 g5
  try rw [hW2]
  clear hW2
  have HBB2 := Lib.hid (hb2 w HBB1.out)
  have HKQ2 := Lib.hid (HKQ1.out.trans_ hkp2)
  have HK0_5 := Lib.hid (ho2 _ _ _ (by omega) HK0_4.out)
  have HK1_5 := Lib.hid hp2
  have HK2_5 := Lib.hid (ho2 _ _ _ (by omega) HK2_4.out)
  clear hp2 ho2 hb2 hkp2 HK0_4 HK1_4 HK2_4 HBB1 HKQ1
  obtain ⟨W3, hW3, hp3, ho3, hb3, hkp3⟩ := six_putE (b := w.heap.size) (b2 := w.heap.size + 3) HK2_5.out (.int .i64 pv1) (.int .i64 pl1) (.slice cB cN1 cc1) (.slice mB mN1 mc1) (.slice sB sN1 sc1) (.slice oB oN1 oc1) (by omega) (by omega)
  have j0 : W2.cell? ⟨w.heap.size + 2, 0, none⟩ = some (.int .i64 pv1) := HK2_5.out.cell 0
  have j1 : W2.cell? ⟨w.heap.size + 2, 1, none⟩ = some (.int .i64 pl1) := HK2_5.out.cell 1
  have j2 : W2.cell? ⟨w.heap.size + 2, 2, none⟩ = some (.slice cB cn1 cc1) := HK2_5.out.cell 2
  have j3 : W2.cell? ⟨w.heap.size + 2, 3, none⟩ = some (.slice mB mn1 mc1) := HK2_5.out.cell 3
  have j4 : W2.cell? ⟨w.heap.size + 2, 4, none⟩ = some (.slice sB sn1 sc1) := HK2_5.out.cell 4
  have j5 : W2.cell? ⟨w.heap.size + 2, 5, none⟩ = some (.slice oB on1 oc1) := HK2_5.out.cell 5
  have g0 : W2.frozen? ⟨w.heap.size + 2, 0, none⟩ = false := HK2_5.out.frozen 0
  have g1 : W2.frozen? ⟨w.heap.size + 2, 1, none⟩ = false := HK2_5.out.frozen 1
  have g2 : W2.frozen? ⟨w.heap.size + 2, 2, none⟩ = false := HK2_5.out.frozen 2
  have g3 : W2.frozen? ⟨w.heap.size + 2, 3, none⟩ = false := HK2_5.out.frozen 3
  have g4 : W2.frozen? ⟨w.heap.size + 2, 4, none⟩ = false := HK2_5.out.frozen 4
  have g5 : W2.frozen? ⟨w.heap.size + 2, 5, none⟩ = false := HK2_5.out.frozen 5
  refine Free.Seq.loud_ rfl (.inl rfl) (fun K hK => ?_)
  go_simp
  refine hK.out _ _ rfl (fun h => absurd h (by decide)) ?_
  clear hK K j0 j1 j2 j3 j4 j5 g0 g1 g2 g3 g4 g5
  try rw [hW3]
  clear hW3
  have HBB3 := Lib.hid (hb3 w HBB2.out)
  have HKQ3 := Lib.hid (HKQ2.out.trans_ hkp3)
  have HK0_6 := Lib.hid (ho3 _ _ _ (by omega) HK0_5.out)
  have HK1_6 := Lib.hid (ho3 _ _ _ (by omega) HK1_5.out)
  have HK2_6 := Lib.hid hp3
  clear hp3 ho3 hb3 hkp3 HK0_5 HK1_5 HK2_5 HBB2 HKQ2
  refine Free.Seq.nil_ ?_
  have HLW : Hid (LW w (.slice A1 k1 c1) (.slice A2 k2 c2) names up [#[.int .i64 pv0, .int .i64 pl0, .slice cA cN0 cc0, .slice mA mN0 mc0, .slice sA sN0 sc0, .slice oA oN0 oc0], #[.int .i64 pv1, .int .i64 pl1, .slice cB cN1 cc1, .slice mB mN1 mc1, .slice sB sN1 sc1, .slice oB oN1 oc1]] W3) := Lib.hid ⟨HLAT.out _ HKQ3.out, HK0_6.out, fun k cs hk => by
    match k, hk with
    | 0, hk => simp at hk; subst hk; exact HK1_6.out
    | 1, hk => simp at hk; subst hk; exact HK2_6.out
    , HBB3.out⟩
  clear HLAT HKQ3 HBB3 HZ0 HK0_6 HK1_6 HK2_6
  have hst := fun W (hW : LW w (.slice A1 k1 c1) (.slice A2 k2 c2) names up [#[.int .i64 pv0, .int .i64 pl0, .slice cA cN0 cc0, .slice mA mN0 mc0, .slice sA sN0 sc0, .slice oA oN0 oc0], #[.int .i64 pv1, .int .i64 pl1, .slice cB cN1 cc1, .slice mB mN1 mc1, .slice sB sN1 sc1, .slice oB oN1 oc1]] W) => States_any (sv := .agg #[.int .i64 pv0, .int .i64 pl0, .slice cA cN0 cc0, .slice mA mN0 mc0, .slice sA sN0 sc0, .slice oA oN0 oc0]) (tv := .agg #[.int .i64 pv1, .int .i64 pl1, .slice cB cN1 cc1, .slice mB mN1 mc1, .slice sB sN1 sc1, .slice oB oN1 oc1]) o W hW.lat (HIS0.out W hW.below) (HIS1.out W hW.below) HF0.out HF1.out
  have hmay := fun W (hW : LW w (.slice A1 k1 c1) (.slice A2 k2 c2) names up [#[.int .i64 pv0, .int .i64 pl0, .slice cA cN0 cc0, .slice mA mN0 mc0, .slice sA sN0 sc0, .slice oA oN0 oc0], #[.int .i64 pv1, .int .i64 pl1, .slice cB cN1 cc1, .slice mB mN1 mc1, .slice sB sN1 sc1, .slice oB oN1 oc1]] W) => rMay12_any (sv := .agg #[.int .i64 pv0, .int .i64 pl0, .slice cA cN0 cc0, .slice mA mN0 mc0, .slice sA sN0 sc0, .slice oA oN0 oc0]) (tv := .agg #[.int .i64 pv1, .int .i64 pl1, .slice cB cN1 cc1, .slice mB mN1 mc1, .slice sB sN1 sc1, .slice oB oN1 oc1]) o W hW.lat (HIS0.out W hW.below) (HIS1.out W hW.below) HF0.out HF1.out
  have hrst := fun W (hW : LW w (.slice A1 k1 c1) (.slice A2 k2 c2) names up [#[.int .i64 pv0, .int .i64 pl0, .slice cA cN0 cc0, .slice mA mN0 mc0, .slice sA sN0 sc0, .slice oA oN0 oc0], #[.int .i64 pv1, .int .i64 pl1, .slice cB cN1 cc1, .slice mB mN1 mc1, .slice sB sN1 sc1, .slice oB oN1 oc1]] W) (h1 : isLab up o = true) (h2 : LabsOk up a0) (h3 : LabsOk up a1) => rStates12_any (sv := .agg #[.int .i64 pv0, .int .i64 pl0, .slice cA cN0 cc0, .slice mA mN0 mc0, .slice sA sN0 sc0, .slice oA oN0 oc0]) (tv := .agg #[.int .i64 pv1, .int .i64 pl1, .slice cB cN1 cc1, .slice mB mN1 mc1, .slice sB sN1 sc1, .slice oB oN1 oc1]) o W hW.lat h1 (HIS0.out W hW.below) (HIS1.out W hW.below) HF0.out HF1.out h2 h3
  have hrow : ∀ W, Below w.heap.size w W → Row W W.heap.size sA (fcells svs a0.stack) ∧ sN0 ≤ sc0 := fun W hb => by
    obtain ⟨cv, mv, sv, ov, e, -, -, ⟨A, c, e3, hr, hc⟩, -⟩ := HIS0.out W hb
    unfold stv at e
    injection e with e
    simp only [Array.mk.injEq, List.cons.injEq, and_true] at e
    rw [e3] at e
    have e9 := e.2.2.2.2.1
    injection e9 with q1 q2 q3
    rw [q1, q2, q3]
    exact ⟨hr, hc⟩
  have hsl : a0.stack.length = sN0 := HLL0.out.2.2.1
  have hs15 := HF0.out.2.2.1
  have hcr := fun W (hW : LW w (.slice A1 k1 c1) (.slice A2 k2 c2) names up [#[.int .i64 pv0, .int .i64 pl0, .slice cA cN0 cc0, .slice mA mN0 mc0, .slice sA sN0 sc0, .slice oA oN0 oc0], #[.int .i64 pv1, .int .i64 pl1, .slice cB cN1 cc1, .slice mB mN1 mc1, .slice sB sN1 sc1, .slice oB oN1 oc1]] W) => Crop_any (a := a0.stack) (B := sA) o sc0 W hW.lat (hrow W hW.below).1 (by omega) (by rw [hsl]; exact (hrow W hW.below).2)
  have hrcr := fun W (hW : LW w (.slice A1 k1 c1) (.slice A2 k2 c2) names up [#[.int .i64 pv0, .int .i64 pl0, .slice cA cN0 cc0, .slice mA mN0 mc0, .slice sA sN0 sc0, .slice oA oN0 oc0], #[.int .i64 pv1, .int .i64 pl1, .slice cB cN1 cc1, .slice mB mN1 mc1, .slice sB sN1 sc1, .slice oB oN1 oc1]] W) (h1 : isLab up o = true) (h2 : ∀ x ∈ a0.stack, isLab up x.l = true) => rCrop12_any (s := a0.stack) (B := sA) o sc0 W hW.lat h1 (hrow W hW.below).1 h2 (by omega) (by rw [hsl]; exact (hrow W hW.below).2)
  have hm2 := fun W (hW : LW w (.slice A1 k1 c1) (.slice A2 k2 c2) names up [#[.int .i64 pv0, .int .i64 pl0, .slice cA cN0 cc0, .slice mA mN0 mc0, .slice sA sN0 sc0, .slice oA oN0 oc0], #[.int .i64 pv1, .int .i64 pl1, .slice cB cN1 cc1, .slice mB mN1 mc1, .slice sB sN1 sc1, .slice oB oN1 oc1]] W) => rMay12_any (sv := .agg #[.int .i64 0, .int .i64 0, .slice none 0 0, .slice none 0 0, .slice sA a0.stack.length sc0, .slice none 0 0]) (tv := zstv) (s := ⟨⟨0, 0⟩, [], [], a0.stack, []⟩) (t := St.zero) o W hW.lat
    ⟨_, _, _, _, rfl, IsIns.nil _ _, IsL.nil _ _ _, ⟨sA, sc0, rfl, (hrow W hW.below).1, by rw [hsl]; exact (hrow W hW.below).2⟩, IsL.nil _ _ _⟩ (IsSt.zero _ _) ⟨by simp, by simp, hs15, by simp⟩ ⟨by simp [St.zero], by simp [St.zero], by simp [St.zero], by simp [St.zero]⟩
  have hlk : Ev.lookN names up o (Ev.labsOf ⟨⟨0, 0⟩, [], [], a0.stack, []⟩ ++ Ev.labsOf St.zero) = Ev.lookN names up o (a0.stack.map (·.l)) := look_zeros fun l => by
    unfold Ev.labsOf St.zero
    simp only [List.map_nil, List.nil_append, List.append_nil, List.mem_append, List.mem_singleton]
    exact ⟨fun h => h.elim id .inl, fun h => .inl h⟩
  simp only [hlk] at hm2
  have heq := fun (P Q : Option Addr) cp cq W r1 r2 => slEqualE_any (a := Ev.crop (Ev.viewL up o) a0.stack) (b := Ev.crop (Ev.viewL up o) a0.stack) (A := P) (B := Q) cp cq W r1 r2 (by rw [Ev.crop_len]; have := Ev.cropN_le (Ev.viewL up o) a0.stack; omega) (by rw [Ev.crop_len]; have := Ev.cropN_le (Ev.viewL up o) a0.stack; omega)
  rw [decide_eq_true rfl] at heq
  rw [hsl] at hcr hrcr hm2
  unfold zstv at hm2
  have hz1 : Ev.lookN names up o (a0.stack.map (·.l)) = 0 → isLab up o = true ∧ ∀ x ∈ a0.stack, isLab up x.l = true := fun h => by
    obtain ⟨h1, h2⟩ := Ev.lookN_zero h
    exact ⟨lab_of_labN h1, fun x hx => h2 _ (List.mem_map_of_mem (f := (·.l)) hx)⟩
  have hz2 : Ev.lookN names up o (Ev.labsOf a0 ++ Ev.labsOf a1) = 0 → isLab up o = true ∧ LabsOk up a0 ∧ LabsOk up a1 := fun h => by
    obtain ⟨h1, h2⟩ := Ev.lookN_zero h
    exact ⟨lab_of_labN h1, fun l hl => h2 l (List.mem_append_left _ hl), fun l hl => h2 l (List.mem_append_right _ hl)⟩
  obtain ⟨r1, hr1⟩ : ∃ r, Ev.lookN names up o (Ev.labsOf a0 ++ Ev.labsOf a1) = r := ⟨_, rfl⟩
  obtain ⟨r2, hr2⟩ : ∃ r, Ev.lookN names up o (a0.stack.map (·.l)) = r := ⟨_, rfl⟩
  obtain ⟨q1, hq1⟩ : ∃ q, Ev.states (Ev.viewL up o) a0 a1 = q := ⟨_, rfl⟩
  obtain ⟨cr, hcrr⟩ : ∃ cr, Ev.crop (Ev.viewL up o) a0.stack = cr := ⟨_, rfl⟩
  simp only [hr1, hq1] at hst
  simp only [hr1] at hmay
  simp only [hq1] at hrst
  simp only [hr2, hcrr] at hcr
  simp only [← Ev.crop_len, hcrr] at hrcr
  simp only [hcrr] at heq
  simp only [hr2] at hm2
  rw [hr2] at hz1
  rw [hr1] at hz2
  unfold CropTold at hcr
  have HST := Lib.hid hst
  have HMAY := Lib.hid hmay
  have HRST := Lib.hid hrst
  have HCR := Lib.hid hcr
  have HRCR := Lib.hid hrcr
  have HM2 := Lib.hid hm2
  have HEQ := Lib.hid heq
  have HZ1 := Lib.hid hz1
  have HZ2 := Lib.hid hz2
  have HALIVE := Lib.hid (fun W => alive12_any W)
  clear hst hmay hrst hrow hsl hcr hrcr hm2 hlk heq hz1 hz2 hr1 hr2 hq1 hcrr HLL0 HLL1 HIS0 HIS1 HF0 HF1 hs15
  have l0 : W3.cell? ⟨w.heap.size, 0, none⟩ = some (.slice A1 k1 c1) := HLW.out.box.cell 0
  have l1 : W3.cell? ⟨w.heap.size, 1, none⟩ = some (.slice A2 k2 c2) := HLW.out.box.cell 1
  have x0_0 : W3.cell? ⟨w.heap.size + 1, 0, none⟩ = some (.int .i64 pv0) := (HLW.out.sts 0 _ rfl).cell 0
  have x0_1 : W3.cell? ⟨w.heap.size + 1, 1, none⟩ = some (.int .i64 pl0) := (HLW.out.sts 0 _ rfl).cell 1
  have x0_2 : W3.cell? ⟨w.heap.size + 1, 2, none⟩ = some (.slice cA cN0 cc0) := (HLW.out.sts 0 _ rfl).cell 2
  have x0_3 : W3.cell? ⟨w.heap.size + 1, 3, none⟩ = some (.slice mA mN0 mc0) := (HLW.out.sts 0 _ rfl).cell 3
  have x0_4 : W3.cell? ⟨w.heap.size + 1, 4, none⟩ = some (.slice sA sN0 sc0) := (HLW.out.sts 0 _ rfl).cell 4
  have x0_5 : W3.cell? ⟨w.heap.size + 1, 5, none⟩ = some (.slice oA oN0 oc0) := (HLW.out.sts 0 _ rfl).cell 5
  have x1_0 : W3.cell? ⟨w.heap.size + 2, 0, none⟩ = some (.int .i64 pv1) := (HLW.out.sts 1 _ rfl).cell 0
  have x1_1 : W3.cell? ⟨w.heap.size + 2, 1, none⟩ = some (.int .i64 pl1) := (HLW.out.sts 1 _ rfl).cell 1
  have x1_2 : W3.cell? ⟨w.heap.size + 2, 2, none⟩ = some (.slice cB cN1 cc1) := (HLW.out.sts 1 _ rfl).cell 2
  have x1_3 : W3.cell? ⟨w.heap.size + 2, 3, none⟩ = some (.slice mB mN1 mc1) := (HLW.out.sts 1 _ rfl).cell 3
  have x1_4 : W3.cell? ⟨w.heap.size + 2, 4, none⟩ = some (.slice sB sN1 sc1) := (HLW.out.sts 1 _ rfl).cell 4
  have x1_5 : W3.cell? ⟨w.heap.size + 2, 5, none⟩ = some (.slice oB oN1 oc1) := (HLW.out.sts 1 _ rfl).cell 5
  obtain ⟨q2, hq2⟩ : ∃ q, Ev.told r1 q1 = q := ⟨_, rfl⟩
  rw [hq2] at HST
  have HQ2 := Lib.hid hq2
  clear hq2
  go_wp2_with (fail)
  refine (HST.out W3 HLW.out).mono ?_
  rintro e v1 ⟨rfl, hb⟩
  have HL1 := Lib.hid (HLW.out.next hb)
  clear hb HLW HST l0 l1 x0_0 x0_1 x0_2 x0_3 x0_4 x0_5 x1_0 x1_1 x1_2 x1_3 x1_4 x1_5
  have l0 : v1.cell? ⟨w.heap.size, 0, none⟩ = some (.slice A1 k1 c1) := HL1.out.box.cell 0
  have l1 : v1.cell? ⟨w.heap.size, 1, none⟩ = some (.slice A2 k2 c2) := HL1.out.box.cell 1
  have x0_0 : v1.cell? ⟨w.heap.size + 1, 0, none⟩ = some (.int .i64 pv0) := (HL1.out.sts 0 _ rfl).cell 0
  have x0_1 : v1.cell? ⟨w.heap.size + 1, 1, none⟩ = some (.int .i64 pl0) := (HL1.out.sts 0 _ rfl).cell 1
  have x0_2 : v1.cell? ⟨w.heap.size + 1, 2, none⟩ = some (.slice cA cN0 cc0) := (HL1.out.sts 0 _ rfl).cell 2
  have x0_3 : v1.cell? ⟨w.heap.size + 1, 3, none⟩ = some (.slice mA mN0 mc0) := (HL1.out.sts 0 _ rfl).cell 3
  have x0_4 : v1.cell? ⟨w.heap.size + 1, 4, none⟩ = some (.slice sA sN0 sc0) := (HL1.out.sts 0 _ rfl).cell 4
  have x0_5 : v1.cell? ⟨w.heap.size + 1, 5, none⟩ = some (.slice oA oN0 oc0) := (HL1.out.sts 0 _ rfl).cell 5
  obtain ⟨nn, hnn⟩ : ∃ m, (if r2 = 0 then cr.length else 0) = m := ⟨_, rfl⟩
  simp only [hnn] at HCR
  have HNN := Lib.hid hnn
  clear hnn
  go_wp2_with (fail)
  refine (HCR.out v1 HL1.out).mono ?_
  rintro e v2 ⟨P, cp, rfl, hrow, hb⟩
  have HL2 := Lib.hid (HL1.out.next hb)
  have HROW2 := Lib.hid hrow
  clear hb HL1 HCR hrow l0 l1 x0_0 x0_1 x0_2 x0_3 x0_4 x0_5
  have l0 : v2.cell? ⟨w.heap.size, 0, none⟩ = some (.slice A1 k1 c1) := HL2.out.box.cell 0
  have l1 : v2.cell? ⟨w.heap.size, 1, none⟩ = some (.slice A2 k2 c2) := HL2.out.box.cell 1
  have x0_0 : v2.cell? ⟨w.heap.size + 1, 0, none⟩ = some (.int .i64 pv0) := (HL2.out.sts 0 _ rfl).cell 0
  have x0_1 : v2.cell? ⟨w.heap.size + 1, 1, none⟩ = some (.int .i64 pl0) := (HL2.out.sts 0 _ rfl).cell 1
  have x0_2 : v2.cell? ⟨w.heap.size + 1, 2, none⟩ = some (.slice cA cN0 cc0) := (HL2.out.sts 0 _ rfl).cell 2
  have x0_3 : v2.cell? ⟨w.heap.size + 1, 3, none⟩ = some (.slice mA mN0 mc0) := (HL2.out.sts 0 _ rfl).cell 3
  have x0_4 : v2.cell? ⟨w.heap.size + 1, 4, none⟩ = some (.slice sA sN0 sc0) := (HL2.out.sts 0 _ rfl).cell 4
  have x0_5 : v2.cell? ⟨w.heap.size + 1, 5, none⟩ = some (.slice oA oN0 oc0) := (HL2.out.sts 0 _ rfl).cell 5
  go_wp2_with (fail)
  refine (HM2.out v2 HL2.out).mono ?_
  rintro e v3 ⟨rfl, hb⟩
  have HL3 := Lib.hid (HL2.out.next hb)
  have HROW3 := Lib.hid (fun (h : r2 = 0) => ((HROW2.out h).below hb).more hb.size)
  clear hb HL2 HM2 HROW2 l0 l1 x0_0 x0_1 x0_2 x0_3 x0_4 x0_5
  have hnn2 : ((r2 : Int) != (r2 : Int)) = false := by rw [bne_eq_false_iff_eq]
  have hnn1 : ((r1 : Int) == (r1 : Int)) = true := by rw [beq_iff_eq]
  by_cases hy : r2 = 0
  · subst hy
    obtain ⟨g1, g2⟩ := HZ1.out rfl
    have hcall := fun W hW => HRCR.out W hW g1 g2
    have HCALL2 := Lib.hid hcall
    obtain rfl : cr.length = nn := by have := HNN.out; simpa using this
    clear g1 g2 hcall HRCR HZ1 HNN
    have l0 : v3.cell? ⟨w.heap.size, 0, none⟩ = some (.slice A1 k1 c1) := HL3.out.box.cell 0
    have l1 : v3.cell? ⟨w.heap.size, 1, none⟩ = some (.slice A2 k2 c2) := HL3.out.box.cell 1
    have x0_0 : v3.cell? ⟨w.heap.size + 1, 0, none⟩ = some (.int .i64 pv0) := (HL3.out.sts 0 _ rfl).cell 0
    have x0_1 : v3.cell? ⟨w.heap.size + 1, 1, none⟩ = some (.int .i64 pl0) := (HL3.out.sts 0 _ rfl).cell 1
    have x0_2 : v3.cell? ⟨w.heap.size + 1, 2, none⟩ = some (.slice cA cN0 cc0) := (HL3.out.sts 0 _ rfl).cell 2
    have x0_3 : v3.cell? ⟨w.heap.size + 1, 3, none⟩ = some (.slice mA mN0 mc0) := (HL3.out.sts 0 _ rfl).cell 3
    have x0_4 : v3.cell? ⟨w.heap.size + 1, 4, none⟩ = some (.slice sA sN0 sc0) := (HL3.out.sts 0 _ rfl).cell 4
    have x0_5 : v3.cell? ⟨w.heap.size + 1, 5, none⟩ = some (.slice oA oN0 oc0) := (HL3.out.sts 0 _ rfl).cell 5
    go_wp2_with (fail)
    refine (HCALL2.out v3 HL3.out).mono ?_
    rintro e v4 ⟨Q, cq, rfl, hrow, hb⟩
    have HL4 := Lib.hid (HL3.out.next hb)
    have HC5 := Lib.hid (HEQ.out P Q cp cq v4 (((HROW3.out (by trivial)).below hb).more hb.size) hrow)
    clear hb HL3 HCALL2 hrow HEQ HROW3 l0 l1 x0_0 x0_1 x0_2 x0_3 x0_4 x0_5
    go_wp2_with (fail)
    refine HC5.out.mono ?_
    rintro e v5 ⟨rfl, hb⟩
    have HL5 := Lib.hid (HL4.out.next hb)
    clear hb HL4 HC5
    have l0 : v5.cell? ⟨w.heap.size, 0, none⟩ = some (.slice A1 k1 c1) := HL5.out.box.cell 0
    have l1 : v5.cell? ⟨w.heap.size, 1, none⟩ = some (.slice A2 k2 c2) := HL5.out.box.cell 1
    have x0_0 : v5.cell? ⟨w.heap.size + 1, 0, none⟩ = some (.int .i64 pv0) := (HL5.out.sts 0 _ rfl).cell 0
    have x0_1 : v5.cell? ⟨w.heap.size + 1, 1, none⟩ = some (.int .i64 pl0) := (HL5.out.sts 0 _ rfl).cell 1
    have x0_2 : v5.cell? ⟨w.heap.size + 1, 2, none⟩ = some (.slice cA cN0 cc0) := (HL5.out.sts 0 _ rfl).cell 2
    have x0_3 : v5.cell? ⟨w.heap.size + 1, 3, none⟩ = some (.slice mA mN0 mc0) := (HL5.out.sts 0 _ rfl).cell 3
    have x0_4 : v5.cell? ⟨w.heap.size + 1, 4, none⟩ = some (.slice sA sN0 sc0) := (HL5.out.sts 0 _ rfl).cell 4
    have x0_5 : v5.cell? ⟨w.heap.size + 1, 5, none⟩ = some (.slice oA oN0 oc0) := (HL5.out.sts 0 _ rfl).cell 5
    have x1_0 : v5.cell? ⟨w.heap.size + 2, 0, none⟩ = some (.int .i64 pv1) := (HL5.out.sts 1 _ rfl).cell 0
    have x1_1 : v5.cell? ⟨w.heap.size + 2, 1, none⟩ = some (.int .i64 pl1) := (HL5.out.sts 1 _ rfl).cell 1
    have x1_2 : v5.cell? ⟨w.heap.size + 2, 2, none⟩ = some (.slice cB cN1 cc1) := (HL5.out.sts 1 _ rfl).cell 2
    have x1_3 : v5.cell? ⟨w.heap.size + 2, 3, none⟩ = some (.slice mB mN1 mc1) := (HL5.out.sts 1 _ rfl).cell 3
    have x1_4 : v5.cell? ⟨w.heap.size + 2, 4, none⟩ = some (.slice sB sN1 sc1) := (HL5.out.sts 1 _ rfl).cell 4
    have x1_5 : v5.cell? ⟨w.heap.size + 2, 5, none⟩ = some (.slice oB oN1 oc1) := (HL5.out.sts 1 _ rfl).cell 5
    go_wp2_with (fail)
    refine (HMAY.out v5 HL5.out).mono ?_
    rintro e v6 ⟨rfl, hb⟩
    have HL6 := Lib.hid (HL5.out.next hb)
    clear hb HL5 HMAY l0 l1 x0_0 x0_1 x0_2 x0_3 x0_4 x0_5 x1_0 x1_1 x1_2 x1_3 x1_4 x1_5
    by_cases hz : r1 = 0
    · subst hz
      obtain ⟨g1, g2, g3⟩ := HZ2.out rfl
      have hcall := fun W hW => HRST.out W hW g1 g2 g3
      have HCALL := Lib.hid hcall
      obtain rfl : q1 = q2 := HQ2.out
      have hqq : (q1 == q1) = true := by rw [beq_iff_eq]
      clear g1 g2 g3 hcall HRST HZ2 HQ2
      go_wp2_with (fail)
      refine (HALIVE.out v6).mono ?_
      rintro e v7 ⟨rfl, hb⟩
      have HL7 := Lib.hid (HL6.out.next hb)
      clear hb HL6
      have l0 : v7.cell? ⟨w.heap.size, 0, none⟩ = some (.slice A1 k1 c1) := HL7.out.box.cell 0
      have l1 : v7.cell? ⟨w.heap.size, 1, none⟩ = some (.slice A2 k2 c2) := HL7.out.box.cell 1
      have x0_0 : v7.cell? ⟨w.heap.size + 1, 0, none⟩ = some (.int .i64 pv0) := (HL7.out.sts 0 _ rfl).cell 0
      have x0_1 : v7.cell? ⟨w.heap.size + 1, 1, none⟩ = some (.int .i64 pl0) := (HL7.out.sts 0 _ rfl).cell 1
      have x0_2 : v7.cell? ⟨w.heap.size + 1, 2, none⟩ = some (.slice cA cN0 cc0) := (HL7.out.sts 0 _ rfl).cell 2
      have x0_3 : v7.cell? ⟨w.heap.size + 1, 3, none⟩ = some (.slice mA mN0 mc0) := (HL7.out.sts 0 _ rfl).cell 3
      have x0_4 : v7.cell? ⟨w.heap.size + 1, 4, none⟩ = some (.slice sA sN0 sc0) := (HL7.out.sts 0 _ rfl).cell 4
      have x0_5 : v7.cell? ⟨w.heap.size + 1, 5, none⟩ = some (.slice oA oN0 oc0) := (HL7.out.sts 0 _ rfl).cell 5
      have x1_0 : v7.cell? ⟨w.heap.size + 2, 0, none⟩ = some (.int .i64 pv1) := (HL7.out.sts 1 _ rfl).cell 0
      have x1_1 : v7.cell? ⟨w.heap.size + 2, 1, none⟩ = some (.int .i64 pl1) := (HL7.out.sts 1 _ rfl).cell 1
      have x1_2 : v7.cell? ⟨w.heap.size + 2, 2, none⟩ = some (.slice cB cN1 cc1) := (HL7.out.sts 1 _ rfl).cell 2
      have x1_3 : v7.cell? ⟨w.heap.size + 2, 3, none⟩ = some (.slice mB mN1 mc1) := (HL7.out.sts 1 _ rfl).cell 3
      have x1_4 : v7.cell? ⟨w.heap.size + 2, 4, none⟩ = some (.slice sB sN1 sc1) := (HL7.out.sts 1 _ rfl).cell 4
      have x1_5 : v7.cell? ⟨w.heap.size + 2, 5, none⟩ = some (.slice oB oN1 oc1) := (HL7.out.sts 1 _ rfl).cell 5
      go_wp2_with (fail)
      refine (HCALL.out v7 HL7.out).mono ?_
      rintro e v8 ⟨rfl, hb⟩
      have HB9 := Lib.hid (HL7.out.next hb).below
      clear hb HL7 l0 l1 x0_0 x0_1 x0_2 x0_3 x0_4 x0_5 x1_0 x1_1 x1_2 x1_3 x1_4 x1_5
      go_wp2
      go_ret
      exact ⟨rfl, HB9.out⟩
    · have hz1 : ((r1 : Int) == 0) = false := by rw [beq_eq_false_iff_ne]; omega
      have hz2 : ((r1 : Int) != 0) = true := by rw [bne_iff_ne]; omega
      obtain rfl : false = q2 := HQ2.out ▸ (told_err hz).symm
      clear hz HZ2 HQ2
      go_wp2_with (fail)
      refine (HALIVE.out v6).mono ?_
      rintro e v7 ⟨rfl, hb⟩
      have HB9 := Lib.hid (HL6.out.next hb).below
      clear hb HL6
      go_wp2
      go_ret
      exact ⟨rfl, HB9.out⟩
  · have hy1 : ((r2 : Int) == 0) = false := by rw [beq_eq_false_iff_ne]; omega
    have hy2 : ((r2 : Int) != 0) = true := by rw [bne_iff_ne]; omega
    obtain rfl : 0 = nn := by have := HNN.out; rwa [if_neg hy] at this
    clear hy HNN HRCR HZ1 HEQ HROW3
    have l0 : v3.cell? ⟨w.heap.size, 0, none⟩ = some (.slice A1 k1 c1) := HL3.out.box.cell 0
    have l1 : v3.cell? ⟨w.heap.size, 1, none⟩ = some (.slice A2 k2 c2) := HL3.out.box.cell 1
    have x0_0 : v3.cell? ⟨w.heap.size + 1, 0, none⟩ = some (.int .i64 pv0) := (HL3.out.sts 0 _ rfl).cell 0
    have x0_1 : v3.cell? ⟨w.heap.size + 1, 1, none⟩ = some (.int .i64 pl0) := (HL3.out.sts 0 _ rfl).cell 1
    have x0_2 : v3.cell? ⟨w.heap.size + 1, 2, none⟩ = some (.slice cA cN0 cc0) := (HL3.out.sts 0 _ rfl).cell 2
    have x0_3 : v3.cell? ⟨w.heap.size + 1, 3, none⟩ = some (.slice mA mN0 mc0) := (HL3.out.sts 0 _ rfl).cell 3
    have x0_4 : v3.cell? ⟨w.heap.size + 1, 4, none⟩ = some (.slice sA sN0 sc0) := (HL3.out.sts 0 _ rfl).cell 4
    have x0_5 : v3.cell? ⟨w.heap.size + 1, 5, none⟩ = some (.slice oA oN0 oc0) := (HL3.out.sts 0 _ rfl).cell 5
    have x1_0 : v3.cell? ⟨w.heap.size + 2, 0, none⟩ = some (.int .i64 pv1) := (HL3.out.sts 1 _ rfl).cell 0
    have x1_1 : v3.cell? ⟨w.heap.size + 2, 1, none⟩ = some (.int .i64 pl1) := (HL3.out.sts 1 _ rfl).cell 1
    have x1_2 : v3.cell? ⟨w.heap.size + 2, 2, none⟩ = some (.slice cB cN1 cc1) := (HL3.out.sts 1 _ rfl).cell 2
    have x1_3 : v3.cell? ⟨w.heap.size + 2, 3, none⟩ = some (.slice mB mN1 mc1) := (HL3.out.sts 1 _ rfl).cell 3
    have x1_4 : v3.cell? ⟨w.heap.size + 2, 4, none⟩ = some (.slice sB sN1 sc1) := (HL3.out.sts 1 _ rfl).cell 4
    have x1_5 : v3.cell? ⟨w.heap.size + 2, 5, none⟩ = some (.slice oB oN1 oc1) := (HL3.out.sts 1 _ rfl).cell 5
    go_wp2_with (fail)
    refine (HMAY.out v3 HL3.out).mono ?_
    rintro e v6 ⟨rfl, hb⟩
    have HL6 := Lib.hid (HL3.out.next hb)
    clear hb HL3 HMAY l0 l1 x0_0 x0_1 x0_2 x0_3 x0_4 x0_5 x1_0 x1_1 x1_2 x1_3 x1_4 x1_5
    by_cases hz : r1 = 0
    · subst hz
      obtain ⟨g1, g2, g3⟩ := HZ2.out rfl
      have hcall := fun W hW => HRST.out W hW g1 g2 g3
      have HCALL := Lib.hid hcall
      obtain rfl : q1 = q2 := HQ2.out
      have hqq : (q1 == q1) = true := by rw [beq_iff_eq]
      clear g1 g2 g3 hcall HRST HZ2 HQ2
      go_wp2_with (fail)
      refine (HALIVE.out v6).mono ?_
      rintro e v7 ⟨rfl, hb⟩
      have HL7 := Lib.hid (HL6.out.next hb)
      clear hb HL6
      have l0 : v7.cell? ⟨w.heap.size, 0, none⟩ = some (.slice A1 k1 c1) := HL7.out.box.cell 0
      have l1 : v7.cell? ⟨w.heap.size, 1, none⟩ = some (.slice A2 k2 c2) := HL7.out.box.cell 1
      have x0_0 : v7.cell? ⟨w.heap.size + 1, 0, none⟩ = some (.int .i64 pv0) := (HL7.out.sts 0 _ rfl).cell 0
      have x0_1 : v7.cell? ⟨w.heap.size + 1, 1, none⟩ = some (.int .i64 pl0) := (HL7.out.sts 0 _ rfl).cell 1
      have x0_2 : v7.cell? ⟨w.heap.size + 1, 2, none⟩ = some (.slice cA cN0 cc0) := (HL7.out.sts 0 _ rfl).cell 2
      have x0_3 : v7.cell? ⟨w.heap.size + 1, 3, none⟩ = some (.slice mA mN0 mc0) := (HL7.out.sts 0 _ rfl).cell 3
      have x0_4 : v7.cell? ⟨w.heap.size + 1, 4, none⟩ = some (.slice sA sN0 sc0) := (HL7.out.sts 0 _ rfl).cell 4
      have x0_5 : v7.cell? ⟨w.heap.size + 1, 5, none⟩ = some (.slice oA oN0 oc0) := (HL7.out.sts 0 _ rfl).cell 5
      have x1_0 : v7.cell? ⟨w.heap.size + 2, 0, none⟩ = some (.int .i64 pv1) := (HL7.out.sts 1 _ rfl).cell 0
      have x1_1 : v7.cell? ⟨w.heap.size + 2, 1, none⟩ = some (.int .i64 pl1) := (HL7.out.sts 1 _ rfl).cell 1
      have x1_2 : v7.cell? ⟨w.heap.size + 2, 2, none⟩ = some (.slice cB cN1 cc1) := (HL7.out.sts 1 _ rfl).cell 2
      have x1_3 : v7.cell? ⟨w.heap.size + 2, 3, none⟩ = some (.slice mB mN1 mc1) := (HL7.out.sts 1 _ rfl).cell 3
      have x1_4 : v7.cell? ⟨w.heap.size + 2, 4, none⟩ = some (.slice sB sN1 sc1) := (HL7.out.sts 1 _ rfl).cell 4
      have x1_5 : v7.cell? ⟨w.heap.size + 2, 5, none⟩ = some (.slice oB oN1 oc1) := (HL7.out.sts 1 _ rfl).cell 5
      go_wp2_with (fail)
      refine (HCALL.out v7 HL7.out).mono ?_
      rintro e v8 ⟨rfl, hb⟩
      have HB9 := Lib.hid (HL7.out.next hb).below
      clear hb HL7 l0 l1 x0_0 x0_1 x0_2 x0_3 x0_4 x0_5 x1_0 x1_1 x1_2 x1_3 x1_4 x1_5
      go_wp2
      go_ret
      exact ⟨rfl, HB9.out⟩
    · have hz1 : ((r1 : Int) == 0) = false := by rw [beq_eq_false_iff_ne]; omega
      have hz2 : ((r1 : Int) != 0) = true := by rw [bne_iff_ne]; omega
      obtain rfl : false = q2 := HQ2.out ▸ (told_err hz).symm
      clear hz HZ2 HQ2
      go_wp2_with (fail)
      refine (HALIVE.out v6).mono ?_
      rintro e v7 ⟨rfl, hb⟩
      have HB9 := Lib.hid (HL6.out.next hb).below
      clear hb HL6
      go_wp2
      go_ret
      exact ⟨rfl, HB9.out⟩
end Go.Proofs.Ytlddglhjpiahfaa
