/- What the laws of layer 10 hold of their boxes (by gen_stpw.py). -/
import Derived.Test.YtefimimcfkdoiaaGreatDoorGStpS
import Derived.Test.YtefimimcfkdoiaaGreatDoorGCodE
import Derived.Test.YtefimimcfkdoiaaGreatDoorGStpR
import Derived.Test.YtefimimcfkdoiaaGreatDoorGLawO
import Derived.Test.YtefimimcfkdoiaaGreatDoorGCodA
namespace Go.Proofs.YtefimimcfkdoiaaGreatDoor
set_option maxRecDepth 100000
open Go.RowKit Go.Shelf Go.Sort
attribute [local go_sem] Oper.semAt_some
theorem right_small10 {k : Nat} {s : St.State} (h : St.rightB k s = true) : SmallS s := by
  unfold St.rightB at h
  simp only [Bool.and_eq_true] at h
  obtain ⟨⟨⟨⟨r1, -⟩, ⟨r3, -⟩⟩, ⟨r4, -⟩⟩, ⟨r5, -⟩⟩ := h
  unfold Cd.rightB at r1
  rw [Bool.and_eq_true] at r1
  have a := of_decide_eq_true r1.1
  have b := of_decide_eq_true r3
  have c := of_decide_eq_true r4
  have d := of_decide_eq_true r5
  exact ⟨by omega, by omega, by omega, by omega⟩
theorem sameB_refl10 (s : St.State) : sameB s s = true := sameB_iff.2 rfl
/-- What a law holds of its boxes. -/
structure Law10 (w : World) (x0 x1 : Value) (names : List ByteArray) (up : List Nat) (tv : Value) (l : List Tb.PR) (cs : Array Value) (W : World) : Prop where
  one : One w x0 x1 names up W
  tb : Blk W (w.heap.size + 1) 28 #[tv]
  ta : IsTab W W.heap.size tv l
  st : Blk W (w.heap.size + 2) 35 cs
theorem Law10.next {w : World} {x0 x1 : Value} {names : List ByteArray} {up : List Nat} {tv : Value} {l : List Tb.PR} {cs : Array Value} {W W' : World} (h : Law10 w x0 x1 names up tv l cs W) (hb : Below W.heap.size W W') : Law10 w x0 x1 names up tv l cs W' :=
  ⟨one_stable _ _ _ _ _ _ _ h.one hb, h.tb.below hb h.tb.lt, (h.ta.below hb).more hb.size, h.st.below hb h.st.lt⟩
/-- What One tells, opened. -/
theorem Oned.told {o : St.State × Nat × Nat} {w : World} {e : Ending} {w' : World} (h : Oned o w e w') :
    ∃ A1 n1 d1 A2 n2 d2 A3 n3 d3 A4 n4 d4, e = .returned (.tuple #[.agg #[.int .i64 o.1.pc.v, .int .i64 o.1.pc.l, .slice A1 n1 d1, .slice A2 n2 d2, .slice A3 n3 d3, .slice A4 n4 d4], .int .i64 (o.2.1 : Int), .int .i64 (o.2.2 : Int)]) ∧
      o.1.code.length = n1 ∧ o.1.mem.length = n2 ∧ o.1.stack.length = n3 ∧ o.1.out.length = n4 ∧ n1 ≤ d1 ∧ n2 ≤ d2 ∧ n3 ≤ d3 ∧ n4 ≤ d4 ∧
      Row w' w'.heap.size A1 (icells o.1.code) ∧ Row w' w'.heap.size A4 (fcells avs o.1.out) ∧
      IsSt w' w'.heap.size (.agg #[.int .i64 o.1.pc.v, .int .i64 o.1.pc.l, .slice A1 n1 d1, .slice A2 n2 d2, .slice A3 n3 d3, .slice A4 n4 d4]) o.1 ∧ Below w.heap.size w w' := by
  obtain ⟨a, b, A1, n1, d1, A2, n2, d2, A3, n3, d3, A4, n4, d4, rfl, hv, hc, hb⟩ := h
  obtain ⟨_, _, q1⟩ := ownT_slice hc.code
  obtain ⟨_, _, q2⟩ := ownT_slice hc.mem
  obtain ⟨_, _, q3⟩ := ownT_slice hc.stack
  obtain ⟨_, _, q4⟩ := ownT_slice hc.out
  have hi := hc.isSt
  rw [← hv] at hi
  unfold stv at hv
  simp only [Value.agg.injEq, Array.mk.injEq, List.cons.injEq, Value.int.injEq, true_and, and_true] at hv
  obtain ⟨rfl, rfl⟩ := hv
  injection q1 with q1a q1 q1b
  injection q2 with q2a q2 q2b
  injection q3 with q3a q3 q3b
  injection q4 with q4a q4 q4b
  subst q1 q2 q3 q4
  have r1 := ownT_row hc.code
  have r4 := ownT_row hc.out
  rw [← icells_f] at r1
  exact ⟨A1, _, d1, A2, _, d2, A3, _, d3, A4, _, d4, rfl, rfl, rfl, rfl, rfl, r1.2, (ownT_row hc.mem).2, (ownT_row hc.stack).2, r4.2, r1.1, r4.1, hi, hb⟩
/-- What One's answer is, plainly. -/
theorem one_cases {names : List ByteArray} {up : List Nat} {l : List Tb.PR} {s o1 : St.State} {o2 o3 : Nat} (h : oneR names up l s = (o1, o2, o3)) :
    (o3 ≠ 0 ∧ o1 = St.zero ∧ o2 = 0 ∧ chk10 names up l s ≠ 0) ∨ (o3 = 0 ∧ chk10 names up l s = 0 ∧ Sp.step up.length (bottomR names up : Nat) (rwT up l) s = (o1, o2)) := by
  unfold oneR at h
  split at h
  · rename_i h0
    injection h with h1 h2
    injection h2 with h2 h3
    exact .inr ⟨h3.symm, h0, by rw [← h1, ← h2]⟩
  · rename_i h0
    injection h with h1 h2
    injection h2 with h2 h3
    exact .inl ⟨by rw [← h3]; exact h0, h1.symm, h2.symm, h0⟩
theorem one_stays {names : List ByteArray} {up : List Nat} {l : List Tb.PR} {s o1 : St.State} {o2 : Nat} (h0 : chk10 names up l s = 0) (h : Sp.step up.length (bottomR names up : Nat) (rwT up l) s = (o1, o2)) :
    pubS names up o1 = true ∧ SmallS o1 ∧ o1.code = s.code ∧ o1.mem.length = s.mem.length ∧ o1.out.take s.out.length = s.out ∧ s.out.length ≤ o1.out.length ∧ (o2 ≠ 0 → o1 = s ∧ o2 ≤ 3) ∧ o1.out.length ≤ s.out.length + 1 ∧ o1.stack.length ≤ s.stack.length + 1 := by
  obtain ⟨z1, -, z4⟩ := chk_zero h0
  have hs := Sp.step_stays z4 (bottomR names up : Nat) (rwT up l)
  rw [h] at hs
  refine ⟨?_, right_small10 hs.right, hs.code, hs.mem, hs.out.1, hs.out.2, hs.same, hs.more.1, hs.more.2⟩
  unfold pubS
  rw [decide_eq_true z1, hs.right]
  rfl
end Go.Proofs.YtefimimcfkdoiaaGreatDoor

/- Walk of the law StepStays (by gen_stpx.py). -/
namespace Go.Proofs.YtefimimcfkdoiaaGreatDoor
set_option maxRecDepth 100000
open Go.RowKit Go.Shelf Go.Sort
attribute [local go_sem] Oper.semAt_some
set_option maxRecDepth 100000 in
set_option maxHeartbeats 32000000 in
theorem stepStays_any {A A' TA : Option Addr} {n1 : List ByteArray} {u1 : List Nat} {l : List Tb.PR} {s0 : St.State} {cA mA sA oA : Option Addr} {cc mc sc oc : Nat} (c c' tc : Nat) (w : World) (hi : Ins w) (hN : Row w w.heap.size A (strs n1)) (hU : Ups w w.heap.size A' u1) (hT : RowsIn w w.heap.size TA l) (hst : StIn w w.heap.size s0 cA cc mA mc sA sc oA oc) (hc : n1.length ≤ c) (hc' : u1.length ≤ c') (hm : c ≤ maxLen) (hm' : c' ≤ maxLen) (hs : ∀ s ∈ n1, s.size ≤ maxLen) (htc : l.length ≤ tc) (htm : tc ≤ maxLen) :
    Calls Tryz.prog 4 #[.agg #[.slice A n1.length c, .slice A' u1.length c'], .agg #[.slice TA l.length tc], incv s0 cA cc mA mc sA sc oA oc] w (Tells w true) := by
  have hfa := fun W (hW : Below w.heap.size w W) => few_any w.heap.size c c' W hW.size (hN.below hW) (hU.below hW) hc hc' hm hm' hs
  have hft := fun W (hW : Below w.heap.size w W) => rows10_keep w.heap.size tc W hW.size (hT.below hW) htc htm
  have hcut := fun W => scut_any10 W hst
  have his := fun W (hb : Below w.heap.size w W) => ((hst.cut.below hb).more hb.size).isSt
  have HSM := Lib.hid (cutS_small s0)
  have hl1 : (cutS s0).code.length = min 15 s0.code.length := by unfold cutS; simp
  have hl2 : (cutS s0).mem.length = min 15 s0.mem.length := by unfold cutS; simp
  have hl3 : (cutS s0).stack.length = min 15 s0.stack.length := by unfold cutS; simp
  have hl4 : (cutS s0).out.length = min 15 s0.out.length := by unfold cutS; simp
  have hp1 : (cutS s0).pc = s0.pc := rfl
  rw [incv_cut] at his hcut
  obtain ⟨a, ha⟩ : ∃ a, cutS s0 = a := ⟨_, rfl⟩
  obtain ⟨lt, hlt⟩ : ∃ lt, fewT l = lt := ⟨_, rfl⟩
  rw [ha] at his HSM hl1 hl2 hl3 hl4 hp1
  unfold Cut10 at hft
  rw [hlt] at hft
  have hsml : ∀ x ∈ lt, Small x := by rw [← hlt]; exact fewT_small l
  unfold incv at hcut ⊢
  have hrc : Row w w.heap.size cA (icells a.code) := by rw [← ha]; exact hst.cut.rc.1
  have hro : Row w w.heap.size oA (fcells avs a.out) := by rw [← ha]; exact hst.cut.ro.1
  have hpv : a.pc.v = s0.pc.v := by rw [hp1]
  have HRC := Lib.hid hrc
  have HRO := Lib.hid hro
  clear hst ha hlt hp1 hrc hro
  generalize s0.pc.v = pv at *
  generalize s0.pc.l = pl at *
  generalize hcn : min 15 s0.code.length = cN at *
  generalize hmn : min 15 s0.mem.length = mN at *
  generalize hsn : min 15 s0.stack.length = sN at *
  generalize hon : min 15 s0.out.length = oN at *
  generalize s0.code.length = cn at *
  generalize s0.mem.length = mn at *
  generalize s0.stack.length = sn at *
  generalize s0.out.length = on at *
  clear hcn hmn hsn hon
  have hb0 := ((((Below.refl _ w).alloc (Nat.le_refl _) (.cells #[.slice A n1.length c, .slice A' u1.length c'] 25)).alloc (by simp) (.cells #[.slice TA l.length tc] 28)).alloc (by simp; omega) (.cells #[.int .i64 pv, .int .i64 pl, .slice cA cn cc, .slice mA mn mc, .slice sA sn sc, .slice oA on oc] 35)).drew
  obtain ⟨W0, hW0⟩ : ∃ W0, ((w.alloc (.cells #[.slice A n1.length c, .slice A' u1.length c'] 25)).alloc (.cells #[.slice TA l.length tc] 28)).alloc (.cells #[.int .i64 pv, .int .i64 pl, .slice cA cn cc, .slice mA mn mc, .slice sA sn sc, .slice oA on oc] 35) = W0 := ⟨_, rfl⟩
  have hp0 : Blk W0 w.heap.size 25 #[.slice A n1.length c, .slice A' u1.length c'] := hW0 ▸ ((Blk.new _ _ _).alloc _).alloc _
  have ht0 : Blk W0 (w.heap.size + 1) 28 #[.slice TA l.length tc] := by
    have h1 := (Blk.new (w.alloc (.cells #[.slice A n1.length c, .slice A' u1.length c'] 25)) 28 #[.slice TA l.length tc]).alloc (.cells #[.int .i64 pv, .int .i64 pl, .slice cA cn cc, .slice mA mn mc, .slice sA sn sc, .slice oA on oc] 35)
    rw [show (w.alloc (.cells #[.slice A n1.length c, .slice A' u1.length c'] 25)).heap.size = w.heap.size + 1 by simp] at h1
    rw [← hW0]; exact h1
  have hq0 : Blk W0 (w.heap.size + 2) 35 #[.int .i64 pv, .int .i64 pl, .slice cA cn cc, .slice mA mn mc, .slice sA sn sc, .slice oA on oc] := by
    have h1 := Blk.new ((w.alloc (.cells #[.slice A n1.length c, .slice A' u1.length c'] 25)).alloc (.cells #[.slice TA l.length tc] 28)) 35 #[.int .i64 pv, .int .i64 pl, .slice cA cn cc, .slice mA mn mc, .slice sA sn sc, .slice oA on oc]
    rw [show ((w.alloc (.cells #[.slice A n1.length c, .slice A' u1.length c'] 25)).alloc (.cells #[.slice TA l.length tc] 28)).heap.size = w.heap.size + 2 by simp] at h1
    rw [← hW0]; exact h1
  have hz0 : W0.heap.size = w.heap.size + 3 := by rw [← hW0]; simp
  rw [hW0] at hb0
  have HFA := Lib.hid hfa
  have HFT := Lib.hid hft
  have HCUT := Lib.hid hcut
  have HIA := Lib.hid his
  have HP := Lib.hid hp0
  have HT := Lib.hid ht0
  have HQ := Lib.hid hq0
  have HB0 := Lib.hid hb0
  have HZ0 := Lib.hid hz0
  have HI := Lib.hid hi
  have HSL := Lib.hid hsml
  have HL := Lib.hid (show a.code.length = cN ∧ a.mem.length = mN ∧ a.stack.length = sN ∧ a.out.length = oN ∧ a.pc.v = pv from ⟨hl1, hl2, hl3, hl4, hpv⟩)
  have l0 : W0.cell? ⟨w.heap.size, 0, none⟩ = some (.slice A n1.length c) := hp0.cell 0
  have l1 : W0.cell? ⟨w.heap.size, 1, none⟩ = some (.slice A' u1.length c') := hp0.cell 1
  have t0 : W0.cell? ⟨w.heap.size + 1, 0, none⟩ = some (.slice TA l.length tc) := ht0.cell 0
  have b0 : W0.cell? ⟨w.heap.size + 2, 0, none⟩ = some (.int .i64 pv) := hq0.cell 0
  have b1 : W0.cell? ⟨w.heap.size + 2, 1, none⟩ = some (.int .i64 pl) := hq0.cell 1
  have b2 : W0.cell? ⟨w.heap.size + 2, 2, none⟩ = some (.slice cA cn cc) := hq0.cell 2
  have b3 : W0.cell? ⟨w.heap.size + 2, 3, none⟩ = some (.slice mA mn mc) := hq0.cell 3
  have b4 : W0.cell? ⟨w.heap.size + 2, 4, none⟩ = some (.slice sA sn sc) := hq0.cell 4
  have b5 : W0.cell? ⟨w.heap.size + 2, 5, none⟩ = some (.slice oA on oc) := hq0.cell 5
  clear hfa hft hcut his hb0 hp0 hq0 ht0 hz0 hN hU hT hc hc' hm hm' hs htc htm hi hsml hl1 hl2 hl3 hl4 hpv
  go_enter Tryz.func4, Tryz.ntmps4
  go_wp2_with (fail)
  refine Free.region_seq [1, 3, 5, 6, 7, 8] [0, 2, 4] 5 (fun W' => W'.cell? ⟨w.heap.size, 0, none⟩ = some (.slice A n1.length c) ∧ W'.cell? ⟨w.heap.size, 1, none⟩ = some (.slice A' u1.length c') ∧ W'.cell? ⟨w.heap.size + 1, 0, none⟩ = some (.slice TA l.length tc) ∧ W'.cell? ⟨w.heap.size + 2, 0, none⟩ = some (.int .i64 pv) ∧ W'.cell? ⟨w.heap.size + 2, 1, none⟩ = some (.int .i64 pl) ∧ W'.cell? ⟨w.heap.size + 2, 2, none⟩ = some (.slice cA cn cc) ∧ W'.cell? ⟨w.heap.size + 2, 3, none⟩ = some (.slice mA mn mc) ∧ W'.cell? ⟨w.heap.size + 2, 4, none⟩ = some (.slice sA sn sc) ∧ W'.cell? ⟨w.heap.size + 2, 5, none⟩ = some (.slice oA on oc)) (by kernel_rfl) (by kernel_rfl) (by kernel_rfl) (by kernel_rfl) (⟨l0, l1, t0, b0, b1, b2, b3, b4, b5⟩) (fun ops hops => ?_)
  clear hops
  iterate 1
    refine Free.Seq.quiet (v := ?_) (a' := ?_) rfl rfl (fun W' hW' => ?_) ?_ ?_
    rotate_left 2
    · first | obtain ⟨q0, q1, q2, q3, q4, q5, q6, q7, q8⟩ := hW' rfl | skip
      go_simp
      try with_reducible rfl
    · simp only [Act.put, List.setIfInBounds_toArray, List.set_cons_zero, List.set_cons_succ]
      try with_reducible rfl
  refine Free.Seq.loud_ rfl (.inl rfl) (fun K hK => ?_)
  go_simp
  refine (HFA.out _ HB0.out).mono ?_
  rintro e w1 ⟨v, names, up, rfl, hlw, hb1⟩
  have hlat : ∀ W2, Keeps w.heap.size (w.heap.size + 3) w1 W2 → IsLat W2 W2.heap.size v names up := fun W2 k => hlw W2 (k.mono_ (by show w.heap.size + 3 ≤ W0.heap.size; rw [HZ0.out]; exact Nat.le_refl _))
  obtain ⟨A1, k1, c1, A2, k2, c2, rfl⟩ := lat_two (hlat w1 ⟨Nat.le_refl _, fun _ _ _ => rfl⟩)
  have hp1 := (HP.out.drew).below hb1 HP.out.lt
  have ht1 := (HT.out.drew).below hb1 HT.out.lt
  have hq1 := (HQ.out.drew).below hb1 HQ.out.lt
  have HB1 := Lib.hid (HB0.out.trans (hb1.mono HB0.out.size))
  have HLAT := Lib.hid hlat
  have HP1 := Lib.hid hp1
  have HT1 := Lib.hid ht1
  have HQ1 := Lib.hid hq1
  refine hK.out _ _ rfl (fun _ => ⟨HP1.out.cell 0, HP1.out.cell 1, HT1.out.cell 0, HQ1.out.cell 0, HQ1.out.cell 1, HQ1.out.cell 2, HQ1.out.cell 3, HQ1.out.cell 4, HQ1.out.cell 5⟩) ?_
  clear hK K hb1 hlw hp1 hq1 ht1 hlat
  iterate 1
    refine Free.Seq.quiet (v := ?_) (a' := ?_) rfl rfl (fun W' hW' => ?_) ?_ ?_
    rotate_left 2
    · first | obtain ⟨q0, q1, q2, q3, q4, q5, q6, q7, q8⟩ := hW' rfl | skip
      go_simp
      try with_reducible rfl
    · simp only [Act.put, List.setIfInBounds_toArray, List.set_cons_zero, List.set_cons_succ]
      try with_reducible rfl
  refine Free.Seq.loud_ rfl (.inl rfl) (fun K hK => ?_)
  go_simp
  refine (HFT.out w1 HB1.out).mono ?_
  rintro e w2 ⟨v2, rfl, htw, hb2⟩
  have htab : ∀ W2, Keeps w.heap.size (w.heap.size + 3) w2 W2 → IsTab W2 W2.heap.size v2 lt := fun W2 k => htw W2 (k.mono_ (by have := HQ1.out.lt; omega))
  obtain ⟨T1, t1, rfl, -, -⟩ := htab w2 ⟨Nat.le_refl _, fun _ _ _ => rfl⟩
  obtain ⟨tn, htn⟩ : ∃ tn, lt.length = tn := ⟨_, rfl⟩
  rw [htn] at htab
  have HTN := Lib.hid htn
  have hp2 := HP1.out.below hb2 HP1.out.lt
  have ht2 := HT1.out.below hb2 HT1.out.lt
  have hq2 := HQ1.out.below hb2 HQ1.out.lt
  have HB2 := Lib.hid (HB1.out.trans (hb2.mono HB1.out.size))
  have HKB2 : Hid (Keeps w.heap.size (w.heap.size + 3) w1 w2) := Lib.hid (Keeps.below hb2)
  have HTAB := Lib.hid htab
  have HP2 := Lib.hid hp2
  have HT2 := Lib.hid ht2
  have HQ2 := Lib.hid hq2
  dsimp only
  rw [htn]
  refine hK.out _ _ rfl (fun _ => ⟨HP2.out.cell 0, HP2.out.cell 1, HT2.out.cell 0, HQ2.out.cell 0, HQ2.out.cell 1, HQ2.out.cell 2, HQ2.out.cell 3, HQ2.out.cell 4, HQ2.out.cell 5⟩) ?_
  clear hK K hb2 htw hp2 hq2 ht2 htab htn
  iterate 1
    refine Free.Seq.quiet (v := ?_) (a' := ?_) rfl rfl (fun W' hW' => ?_) ?_ ?_
    rotate_left 2
    · first | obtain ⟨q0, q1, q2, q3, q4, q5, q6, q7, q8⟩ := hW' rfl | skip
      go_simp
      try with_reducible rfl
    · simp only [Act.put, List.setIfInBounds_toArray, List.set_cons_zero, List.set_cons_succ]
      try with_reducible rfl
  refine Free.Seq.loud_ rfl (.inl rfl) (fun K hK => ?_)
  go_simp
  refine (HCUT.out w2).mono ?_
  rintro e w3 ⟨rfl, hb3⟩
  have hp3 := HP2.out.below hb3 HP2.out.lt
  have ht3 := HT2.out.below hb3 HT2.out.lt
  have hq3 := HQ2.out.below hb3 HQ2.out.lt
  have HB3 := Lib.hid (HB2.out.trans (hb3.mono HB2.out.size))
  have hkt : Keeps w.heap.size (w.heap.size + 3) w2 w3 := Keeps.below hb3
  have hkb : Keeps w.heap.size (w.heap.size + 3) w1 w3 := HKB2.out.trans_ hkt
  have i0 := hp3.cell 0
  have f0 := hp3.frozen 0
  have i1 := hp3.cell 1
  have f1 := hp3.frozen 1
  have h0 := ht3.cell 0
  have e0 := ht3.frozen 0
  have j0 := hq3.cell 0
  have g0 := hq3.frozen 0
  have j1 := hq3.cell 1
  have g1 := hq3.frozen 1
  have j2 := hq3.cell 2
  have g2 := hq3.frozen 2
  have j3 := hq3.cell 3
  have g3 := hq3.frozen 3
  have j4 := hq3.cell 4
  have g4 := hq3.frozen 4
  have j5 := hq3.cell 5
  have g5 := hq3.frozen 5
  refine hK.out _ _ rfl (fun h => absurd h (by decide)) ?_
  clear hK K
  refine Free.Seq.loud_ rfl (.inl rfl) (fun K hK => ?_)
  go_simp
  refine hK.out _ _ rfl (fun h => absurd h (by decide)) ?_
  clear hK K
  refine Free.Seq.loud_ rfl (.inl rfl) (fun K hK => ?_)
  go_simp
  refine hK.out _ _ rfl (fun h => absurd h (by decide)) ?_
  clear hK K
  refine Free.Seq.loud_ rfl (.inl rfl) (fun K hK => ?_)
  go_simp
  refine hK.out _ _ rfl (fun h => absurd h (by decide)) ?_
  clear hK K
  refine Free.Seq.nil_ ?_
  obtain ⟨W3, hW3⟩ : ∃ W3, (((((((((w3.setCell ⟨w.heap.size, 0, none⟩ (.slice A1 k1 c1)).setCell ⟨w.heap.size, 1, none⟩ (.slice A2 k2 c2)).setCell ⟨w.heap.size + 1, 0, none⟩ (.slice T1 tn t1)).setCell ⟨w.heap.size + 2, 0, none⟩ (.int .i64 pv)).setCell ⟨w.heap.size + 2, 1, none⟩ (.int .i64 pl)).setCell ⟨w.heap.size + 2, 2, none⟩ (.slice cA cN cc)).setCell ⟨w.heap.size + 2, 3, none⟩ (.slice mA mN mc)).setCell ⟨w.heap.size + 2, 4, none⟩ (.slice sA sN sc)).setCell ⟨w.heap.size + 2, 5, none⟩ (.slice oA oN oc)) = W3 := ⟨_, rfl⟩
  have hlw : Law10 w (.slice A1 k1 c1) (.slice A2 k2 c2) names up (.slice T1 tn t1) lt #[.int .i64 pv, .int .i64 pl, .slice cA cN cc, .slice mA mN mc, .slice sA sN sc, .slice oA oN oc] W3 := by
    rw [← hW3]
    exact ⟨⟨(((((((((hp3).set_ 0 _).set_ 1 _).other (by show w.heap.size + 1 ≠ w.heap.size; omega) _).other (by show w.heap.size + 2 ≠ w.heap.size; omega) _).other (by show w.heap.size + 2 ≠ w.heap.size; omega) _).other (by show w.heap.size + 2 ≠ w.heap.size; omega) _).other (by show w.heap.size + 2 ≠ w.heap.size; omega) _).other (by show w.heap.size + 2 ≠ w.heap.size; omega) _).other (by show w.heap.size + 2 ≠ w.heap.size; omega) _, HLAT.out _ ((((((((((hkb).trans_ (Keeps.set_ (p := ⟨w.heap.size, 0, none⟩) (by show w.heap.size ≤ w.heap.size; omega) (by show w.heap.size < w.heap.size + 3; omega))).trans_ (Keeps.set_ (p := ⟨w.heap.size, 1, none⟩) (by show w.heap.size ≤ w.heap.size; omega) (by show w.heap.size < w.heap.size + 3; omega))).trans_ (Keeps.set_ (p := ⟨w.heap.size + 1, 0, none⟩) (by show w.heap.size ≤ w.heap.size + 1; omega) (by show w.heap.size + 1 < w.heap.size + 3; omega))).trans_ (Keeps.set_ (p := ⟨w.heap.size + 2, 0, none⟩) (by show w.heap.size ≤ w.heap.size + 2; omega) (by show w.heap.size + 2 < w.heap.size + 3; omega))).trans_ (Keeps.set_ (p := ⟨w.heap.size + 2, 1, none⟩) (by show w.heap.size ≤ w.heap.size + 2; omega) (by show w.heap.size + 2 < w.heap.size + 3; omega))).trans_ (Keeps.set_ (p := ⟨w.heap.size + 2, 2, none⟩) (by show w.heap.size ≤ w.heap.size + 2; omega) (by show w.heap.size + 2 < w.heap.size + 3; omega))).trans_ (Keeps.set_ (p := ⟨w.heap.size + 2, 3, none⟩) (by show w.heap.size ≤ w.heap.size + 2; omega) (by show w.heap.size + 2 < w.heap.size + 3; omega))).trans_ (Keeps.set_ (p := ⟨w.heap.size + 2, 4, none⟩) (by show w.heap.size ≤ w.heap.size + 2; omega) (by show w.heap.size + 2 < w.heap.size + 3; omega))).trans_ (Keeps.set_ (p := ⟨w.heap.size + 2, 5, none⟩) (by show w.heap.size ≤ w.heap.size + 2; omega) (by show w.heap.size + 2 < w.heap.size + 3; omega))), (((((((((HB3.out).setCell (p := ⟨w.heap.size, 0, none⟩) (by show w.heap.size ≤ w.heap.size; omega) _).setCell (p := ⟨w.heap.size, 1, none⟩) (by show w.heap.size ≤ w.heap.size; omega) _).setCell (p := ⟨w.heap.size + 1, 0, none⟩) (by show w.heap.size ≤ w.heap.size + 1; omega) _).setCell (p := ⟨w.heap.size + 2, 0, none⟩) (by show w.heap.size ≤ w.heap.size + 2; omega) _).setCell (p := ⟨w.heap.size + 2, 1, none⟩) (by show w.heap.size ≤ w.heap.size + 2; omega) _).setCell (p := ⟨w.heap.size + 2, 2, none⟩) (by show w.heap.size ≤ w.heap.size + 2; omega) _).setCell (p := ⟨w.heap.size + 2, 3, none⟩) (by show w.heap.size ≤ w.heap.size + 2; omega) _).setCell (p := ⟨w.heap.size + 2, 4, none⟩) (by show w.heap.size ≤ w.heap.size + 2; omega) _).setCell (p := ⟨w.heap.size + 2, 5, none⟩) (by show w.heap.size ≤ w.heap.size + 2; omega) _⟩, (((((((((ht3).other (by show w.heap.size ≠ w.heap.size + 1; omega) _).other (by show w.heap.size ≠ w.heap.size + 1; omega) _).set_ 0 _).other (by show w.heap.size + 2 ≠ w.heap.size + 1; omega) _).other (by show w.heap.size + 2 ≠ w.heap.size + 1; omega) _).other (by show w.heap.size + 2 ≠ w.heap.size + 1; omega) _).other (by show w.heap.size + 2 ≠ w.heap.size + 1; omega) _).other (by show w.heap.size + 2 ≠ w.heap.size + 1; omega) _).other (by show w.heap.size + 2 ≠ w.heap.size + 1; omega) _, HTAB.out _ ((((((((((hkt).trans_ (Keeps.set_ (p := ⟨w.heap.size, 0, none⟩) (by show w.heap.size ≤ w.heap.size; omega) (by show w.heap.size < w.heap.size + 3; omega))).trans_ (Keeps.set_ (p := ⟨w.heap.size, 1, none⟩) (by show w.heap.size ≤ w.heap.size; omega) (by show w.heap.size < w.heap.size + 3; omega))).trans_ (Keeps.set_ (p := ⟨w.heap.size + 1, 0, none⟩) (by show w.heap.size ≤ w.heap.size + 1; omega) (by show w.heap.size + 1 < w.heap.size + 3; omega))).trans_ (Keeps.set_ (p := ⟨w.heap.size + 2, 0, none⟩) (by show w.heap.size ≤ w.heap.size + 2; omega) (by show w.heap.size + 2 < w.heap.size + 3; omega))).trans_ (Keeps.set_ (p := ⟨w.heap.size + 2, 1, none⟩) (by show w.heap.size ≤ w.heap.size + 2; omega) (by show w.heap.size + 2 < w.heap.size + 3; omega))).trans_ (Keeps.set_ (p := ⟨w.heap.size + 2, 2, none⟩) (by show w.heap.size ≤ w.heap.size + 2; omega) (by show w.heap.size + 2 < w.heap.size + 3; omega))).trans_ (Keeps.set_ (p := ⟨w.heap.size + 2, 3, none⟩) (by show w.heap.size ≤ w.heap.size + 2; omega) (by show w.heap.size + 2 < w.heap.size + 3; omega))).trans_ (Keeps.set_ (p := ⟨w.heap.size + 2, 4, none⟩) (by show w.heap.size ≤ w.heap.size + 2; omega) (by show w.heap.size + 2 < w.heap.size + 3; omega))).trans_ (Keeps.set_ (p := ⟨w.heap.size + 2, 5, none⟩) (by show w.heap.size ≤ w.heap.size + 2; omega) (by show w.heap.size + 2 < w.heap.size + 3; omega))), (((((((((hq3).other (by show w.heap.size ≠ w.heap.size + 2; omega) _).other (by show w.heap.size ≠ w.heap.size + 2; omega) _).other (by show w.heap.size + 1 ≠ w.heap.size + 2; omega) _).set_ 0 _).set_ 1 _).set_ 2 _).set_ 3 _).set_ 4 _).set_ 5 _⟩
  rw [hW3]
  have HLW := Lib.hid hlw
  clear hW3 hlw hp3 hq3 ht3 hkb hkt HB2 HB1 HB3 HB0 HLAT HTAB HKB2 HP HT HQ HP1 HT1 HQ1 HP2 HT2 HQ2 HFA HFT HCUT HZ0 hb3 l0 l1 t0 b0 b1 b2 b3 b4 b5 i0 i1 f0 f1 h0 e0 j0 j1 j2 j3 j4 j5 g0 g1 g2 g3 g4 g5 hW0
  have HONE : Hid (∀ W, Law10 w (.slice A1 k1 c1) (.slice A2 k2 c2) names up (.slice T1 tn t1) lt #[.int .i64 pv, .int .i64 pl, .slice cA cN cc, .slice mA mN mc, .slice sA sN sc, .slice oA oN oc] W → Calls Tryz.prog 9 #[.agg #[.slice A1 k1 c1, .slice A2 k2 c2], .agg #[.slice T1 tn t1], .agg #[.int .i64 pv, .int .i64 pl, .slice cA cN cc, .slice mA mN mc, .slice sA sN sc, .slice oA oN oc]] W (Oned (oneR names up lt a) W)) := Lib.hid (fun W hW => by
    obtain ⟨A, d, he, hr, -⟩ := hW.ta
    injection he with h1 h2 h3
    subst h1 h3
    exact (HTN.out ▸ (one_any (l := lt) (RA := T1) t1 W (HI.out.below hW.one.below HI.out.lt) (Nat.lt_of_lt_of_le HI.out.lt hW.one.below.size) hW.one.la (HIA.out W hW.one.below) HSM.out hr HSL.out)))
  have HAL := Lib.hid (fun W (hW : Law10 w (.slice A1 k1 c1) (.slice A2 k2 c2) names up (.slice T1 tn t1) lt #[.int .i64 pv, .int .i64 pl, .slice cA cN cc, .slice mA mN mc, .slice sA sN sc, .slice oA oN oc] W) => alive10_any W (HI.out.below hW.one.below HI.out.lt))
  have l0 : W3.cell? ⟨w.heap.size, 0, none⟩ = some (.slice A1 k1 c1) := HLW.out.one.a.cell 0
  have l1 : W3.cell? ⟨w.heap.size, 1, none⟩ = some (.slice A2 k2 c2) := HLW.out.one.a.cell 1
  have t0 : W3.cell? ⟨w.heap.size + 1, 0, none⟩ = some (.slice T1 tn t1) := HLW.out.tb.cell 0
  have b0 : W3.cell? ⟨w.heap.size + 2, 0, none⟩ = some (.int .i64 pv) := HLW.out.st.cell 0
  have b1 : W3.cell? ⟨w.heap.size + 2, 1, none⟩ = some (.int .i64 pl) := HLW.out.st.cell 1
  have b2 : W3.cell? ⟨w.heap.size + 2, 2, none⟩ = some (.slice cA cN cc) := HLW.out.st.cell 2
  have b3 : W3.cell? ⟨w.heap.size + 2, 3, none⟩ = some (.slice mA mN mc) := HLW.out.st.cell 3
  have b4 : W3.cell? ⟨w.heap.size + 2, 4, none⟩ = some (.slice sA sN sc) := HLW.out.st.cell 4
  have b5 : W3.cell? ⟨w.heap.size + 2, 5, none⟩ = some (.slice oA oN oc) := HLW.out.st.cell 5
  obtain ⟨⟨o1, o2, o3⟩, ho⟩ : ∃ r, oneR names up lt a = r := ⟨_, rfl⟩
  have ho1 := HONE.out W3 HLW.out
  rw [ho] at ho1
  have HO1 := Lib.hid ho1
  clear ho1
  rcases one_cases ho with ⟨h3, rfl, rfl, -⟩ | ⟨rfl, hck, hst⟩
  · have he3 : ((o3 : Int) != 0) = true := by rw [bne_iff_ne]; omega
    clear ho h3
    go_wp2_with (fail)
    refine HO1.out.mono ?_
    rintro e w4 hx
    obtain ⟨D1, m1, d1, D2, m2, d2, D3, m3, d3, D4, m4, d4, rfl, hm1, hm2, hm3, hm4, hd1, hd2, hd3, hd4, hr1, hr4, his, hb⟩ := hx.told
    dsimp only at hm1 hm2 hm3 hm4 hr1 hr4 his ⊢
    simp only [St.zero, List.length_nil] at hm1 hm2 hm3 hm4
    subst hm1 hm2 hm3 hm4
    dsimp only [St.zero] at his hr1 hr4 ⊢
    have hal := (Below.refl _ w4).alloc (Nat.le_refl _) (.cells #[.int .i64 0, .int .i64 0, .slice D1 0 d1, .slice D2 0 d2, .slice D3 0 d3, .slice D4 0 d4] 35)
    have hbx := Blk.new w4 35 #[.int .i64 0, .int .i64 0, .slice D1 0 d1, .slice D2 0 d2, .slice D3 0 d3, .slice D4 0 d4]
    have hb2 := hb.alloc hb.size (.cells #[.int .i64 0, .int .i64 0, .slice D1 0 d1, .slice D2 0 d2, .slice D3 0 d3, .slice D4 0 d4] 35)
    have his2 := (his.below hal).more hal.size
    have hr1b := (hr1.below hal).more hal.size
    have hr4b := (hr4.below hal).more hal.size
    clear l0 l1 t0 b0 b1 b2 b3 b4 b5
    obtain ⟨W4, hW4⟩ : ∃ W4, w4.alloc (.cells #[.int .i64 0, .int .i64 0, .slice D1 0 d1, .slice D2 0 d2, .slice D3 0 d3, .slice D4 0 d4] 35) = W4 := ⟨_, rfl⟩
    rw [hW4] at hal hbx hb2 his2 hr1b hr4b
    have hlw := HLW.out.next hb2
    clear HLW
    have HLW := Lib.hid hlw
    clear hlw
    have HX := Lib.hid hbx
    have HIS := Lib.hid his2
    have HR1 := Lib.hid hr1b
    have HR4 := Lib.hid hr4b
    have hxl := hbx.lt
    clear hb his hal hbx hb2 his2 hr1 hr4 hr1b hr4b
    have l0 : W4.cell? ⟨w.heap.size, 0, none⟩ = some (.slice A1 k1 c1) := HLW.out.one.a.cell 0
    have l1 : W4.cell? ⟨w.heap.size, 1, none⟩ = some (.slice A2 k2 c2) := HLW.out.one.a.cell 1
    have t0 : W4.cell? ⟨w.heap.size + 1, 0, none⟩ = some (.slice T1 tn t1) := HLW.out.tb.cell 0
    have b0 : W4.cell? ⟨w.heap.size + 2, 0, none⟩ = some (.int .i64 pv) := HLW.out.st.cell 0
    have b1 : W4.cell? ⟨w.heap.size + 2, 1, none⟩ = some (.int .i64 pl) := HLW.out.st.cell 1
    have b2 : W4.cell? ⟨w.heap.size + 2, 2, none⟩ = some (.slice cA cN cc) := HLW.out.st.cell 2
    have b3 : W4.cell? ⟨w.heap.size + 2, 3, none⟩ = some (.slice mA mN mc) := HLW.out.st.cell 3
    have b4 : W4.cell? ⟨w.heap.size + 2, 4, none⟩ = some (.slice sA sN sc) := HLW.out.st.cell 4
    have b5 : W4.cell? ⟨w.heap.size + 2, 5, none⟩ = some (.slice oA oN oc) := HLW.out.st.cell 5
    have x0 : W4.cell? ⟨w4.heap.size, 0, none⟩ = some (.int .i64 0) := HX.out.cell 0
    have x1 : W4.cell? ⟨w4.heap.size, 1, none⟩ = some (.int .i64 0) := HX.out.cell 1
    have x2 : W4.cell? ⟨w4.heap.size, 2, none⟩ = some (.slice D1 0 d1) := HX.out.cell 2
    have x3 : W4.cell? ⟨w4.heap.size, 3, none⟩ = some (.slice D2 0 d2) := HX.out.cell 3
    have x4 : W4.cell? ⟨w4.heap.size, 4, none⟩ = some (.slice D3 0 d3) := HX.out.cell 4
    have x5 : W4.cell? ⟨w4.heap.size, 5, none⟩ = some (.slice D4 0 d4) := HX.out.cell 5
    have HAC := Lib.hid (HAL.out W4 HLW.out)
    go_wp2_with (fail)
    refine HAC.out.mono ?_
    rintro e w5 ⟨rfl, hb⟩
    have hbl := HLW.out.one.below.trans (hb.mono HLW.out.one.below.size)
    go_wp2
    go_ret
    exact ⟨rfl, hbl⟩
  · obtain ⟨hpub, hsmo, hcode, hmem, hout, houtl, hsame, hmore1, hmore2⟩ := one_stays hck hst
    obtain ⟨la1, la2, la3, la4, -⟩ := HL.out
    clear ho hck hst
    go_wp2_with (fail)
    refine HO1.out.mono ?_
    rintro e w4 hx
    obtain ⟨D1, m1, d1, D2, m2, d2, D3, m3, d3, D4, m4, d4, rfl, hm1, hm2, hm3, hm4, hd1, hd2, hd3, hd4, hr1, hr4, his, hb⟩ := hx.told
    dsimp only at hm1 hm2 hm3 hm4 hr1 hr4 his ⊢
    rw [hcode, la1] at hm1
    rw [hmem, la2] at hm2
    rw [hm4, la4] at hmore1
    rw [hm3, la3] at hmore2
    rw [hm4, la4] at houtl
    rw [la4] at hout
    subst hm1 hm2
    have hal := (Below.refl _ w4).alloc (Nat.le_refl _) (.cells #[.int .i64 o1.pc.v, .int .i64 o1.pc.l, .slice D1 cN d1, .slice D2 mN d2, .slice D3 m3 d3, .slice D4 m4 d4] 35)
    have hbx := Blk.new w4 35 #[.int .i64 o1.pc.v, .int .i64 o1.pc.l, .slice D1 cN d1, .slice D2 mN d2, .slice D3 m3 d3, .slice D4 m4 d4]
    have hb2 := hb.alloc hb.size (.cells #[.int .i64 o1.pc.v, .int .i64 o1.pc.l, .slice D1 cN d1, .slice D2 mN d2, .slice D3 m3 d3, .slice D4 m4 d4] 35)
    have his2 := (his.below hal).more hal.size
    have hr1b := (hr1.below hal).more hal.size
    have hr4b := (hr4.below hal).more hal.size
    clear l0 l1 t0 b0 b1 b2 b3 b4 b5
    obtain ⟨W4, hW4⟩ : ∃ W4, w4.alloc (.cells #[.int .i64 o1.pc.v, .int .i64 o1.pc.l, .slice D1 cN d1, .slice D2 mN d2, .slice D3 m3 d3, .slice D4 m4 d4] 35) = W4 := ⟨_, rfl⟩
    rw [hW4] at hal hbx hb2 his2 hr1b hr4b
    have hlw := HLW.out.next hb2
    clear HLW
    have HLW := Lib.hid hlw
    clear hlw
    have HX := Lib.hid hbx
    have HIS := Lib.hid his2
    have HR1 := Lib.hid hr1b
    have HR4 := Lib.hid hr4b
    have hxl := hbx.lt
    clear hb his hal hbx hb2 his2 hr1 hr4 hr1b hr4b
    have l0 : W4.cell? ⟨w.heap.size, 0, none⟩ = some (.slice A1 k1 c1) := HLW.out.one.a.cell 0
    have l1 : W4.cell? ⟨w.heap.size, 1, none⟩ = some (.slice A2 k2 c2) := HLW.out.one.a.cell 1
    have t0 : W4.cell? ⟨w.heap.size + 1, 0, none⟩ = some (.slice T1 tn t1) := HLW.out.tb.cell 0
    have b0 : W4.cell? ⟨w.heap.size + 2, 0, none⟩ = some (.int .i64 pv) := HLW.out.st.cell 0
    have b1 : W4.cell? ⟨w.heap.size + 2, 1, none⟩ = some (.int .i64 pl) := HLW.out.st.cell 1
    have b2 : W4.cell? ⟨w.heap.size + 2, 2, none⟩ = some (.slice cA cN cc) := HLW.out.st.cell 2
    have b3 : W4.cell? ⟨w.heap.size + 2, 3, none⟩ = some (.slice mA mN mc) := HLW.out.st.cell 3
    have b4 : W4.cell? ⟨w.heap.size + 2, 4, none⟩ = some (.slice sA sN sc) := HLW.out.st.cell 4
    have b5 : W4.cell? ⟨w.heap.size + 2, 5, none⟩ = some (.slice oA oN oc) := HLW.out.st.cell 5
    have x0 : W4.cell? ⟨w4.heap.size, 0, none⟩ = some (.int .i64 o1.pc.v) := HX.out.cell 0
    have x1 : W4.cell? ⟨w4.heap.size, 1, none⟩ = some (.int .i64 o1.pc.l) := HX.out.cell 1
    have x2 : W4.cell? ⟨w4.heap.size, 2, none⟩ = some (.slice D1 cN d1) := HX.out.cell 2
    have x3 : W4.cell? ⟨w4.heap.size, 3, none⟩ = some (.slice D2 mN d2) := HX.out.cell 3
    have x4 : W4.cell? ⟨w4.heap.size, 4, none⟩ = some (.slice D3 m3 d3) := HX.out.cell 4
    have x5 : W4.cell? ⟨w4.heap.size, 5, none⟩ = some (.slice D4 m4 d4) := HX.out.cell 5
    have HRI := Lib.hid (fun W (hW : Law10 w (.slice A1 k1 c1) (.slice A2 k2 c2) names up (.slice T1 tn t1) lt #[.int .i64 pv, .int .i64 pl, .slice cA cN cc, .slice mA mN mc, .slice sA sN sc, .slice oA oN oc] W) (his : IsSt W W.heap.size (.agg #[.int .i64 o1.pc.v, .int .i64 o1.pc.l, .slice D1 cN d1, .slice D2 mN d2, .slice D3 m3 d3, .slice D4 m4 d4]) o1) => hpub ▸ sright_any W hW.one.la his hsmo)
    have HSC : Hid (∀ W, Law10 w (.slice A1 k1 c1) (.slice A2 k2 c2) names up (.slice T1 tn t1) lt #[.int .i64 pv, .int .i64 pl, .slice cA cN cc, .slice mA mN mc, .slice sA sN sc, .slice oA oN oc] W → Row W W.heap.size D1 (icells o1.code) → Calls Tryz.prog 15 #[.slice D1 cN d1, .slice cA cN cc] W (Tells W true)) := Lib.hid (fun W hW hr => by
      have h := rSame_in (a := o1.code) (b := a.code) d1 cc W hr ((HRC.out.below hW.one.below).more hW.one.below.size) hsmo.code HSM.out.code
      rw [decide_eq_true hcode, hcode, la1] at h
      exact h)
    have HSO : Hid (∀ W, Law10 w (.slice A1 k1 c1) (.slice A2 k2 c2) names up (.slice T1 tn t1) lt #[.int .i64 pv, .int .i64 pl, .slice cA cN cc, .slice mA mN mc, .slice sA sN sc, .slice oA oN oc] W → Row W W.heap.size D4 (fcells avs o1.out) → Calls Tryz.prog 16 #[.slice D4 oN d4, .slice oA oN oc] W (Tells W true)) := Lib.hid (fun W hW hr => by
      have hr2 : Row W W.heap.size D4 (fcells avs a.out) := by rw [← hout, fcells_take avs_len]; exact hr.take _
      have h := atEqual_any (a := a.out) (b := a.out) d4 oc W hr2 ((HRO.out.below hW.one.below).more hW.one.below.size) HSM.out.out HSM.out.out
      rw [decide_eq_true rfl, la4] at h
      exact h)
    have q5 : decide ((m4 : Int) < (oN : Int)) = false := decide_eq_false (by omega)
    have q6 : ¬ ((m4 : Int) < (oN : Int)) := by omega
    have q8 : decide (m4 < oN) = false := decide_eq_false (by omega)
    have q9 : (m4 < oN) = False := eq_false (by omega)
    have q7 : oN ≤ d4 := by omega
    have q10 : sN ≤ 1000 := la3 ▸ HSM.out.stack
    have q11 : oN ≤ 1000 := la4 ▸ HSM.out.out
    clear hcode hmem hout hpub la1 la2 la3 la4 hm3 hm4
    go_wp2_with (fail)
    refine Free.region_seq [2, 9, 39, 43] [0, 1, 6, 8, 14, 17, 23, 26, 32, 34, 38] 43 (fun W' => W'.cell? ⟨w.heap.size, 0, none⟩ = some (.slice A1 k1 c1) ∧ W'.cell? ⟨w.heap.size, 1, none⟩ = some (.slice A2 k2 c2) ∧ W'.cell? ⟨w4.heap.size, 0, none⟩ = some (.int .i64 o1.pc.v) ∧ W'.cell? ⟨w4.heap.size, 1, none⟩ = some (.int .i64 o1.pc.l) ∧ W'.cell? ⟨w4.heap.size, 2, none⟩ = some (.slice D1 cN d1) ∧ W'.cell? ⟨w4.heap.size, 3, none⟩ = some (.slice D2 mN d2) ∧ W'.cell? ⟨w4.heap.size, 4, none⟩ = some (.slice D3 m3 d3) ∧ W'.cell? ⟨w4.heap.size, 5, none⟩ = some (.slice D4 m4 d4) ∧ W'.cell? ⟨w.heap.size + 2, 2, none⟩ = some (.slice cA cN cc) ∧ W'.cell? ⟨w.heap.size + 2, 3, none⟩ = some (.slice mA mN mc) ∧ W'.cell? ⟨w.heap.size + 2, 5, none⟩ = some (.slice oA oN oc)) (by kernel_rfl) (by kernel_rfl) (by kernel_rfl) (by kernel_rfl) (⟨HLW.out.one.a.cell 0, HLW.out.one.a.cell 1, HX.out.cell 0, HX.out.cell 1, HX.out.cell 2, HX.out.cell 3, HX.out.cell 4, HX.out.cell 5, HLW.out.st.cell 2, HLW.out.st.cell 3, HLW.out.st.cell 5⟩) (fun ops hops => ?_)
    have HOPS := Lib.hid hops
    clear hops
    iterate 2
      refine Free.Seq.quiet (v := ?_) (a' := ?_) rfl rfl (fun W' hW' => ?_) ?_ ?_
      rotate_left 2
      · first | obtain ⟨l0, l1, x0, x1, x2, x3, x4, x5, b2, b3, b5⟩ := hW' rfl | skip
        go_simp
        try with_reducible rfl
      · simp only [Act.put, List.setIfInBounds_toArray, List.set_cons_zero, List.set_cons_succ]
        try with_reducible rfl
    refine Free.Seq.loud_ rfl (.inl rfl) (fun K hK => ?_)
    go_simp
    refine (HRI.out W4.drew (HLW.out.next (Below.refl _ W4).drew) ((HIS.out.below (Below.refl _ W4).drew).more (Nat.le_refl _))).mono ?_
    rintro e w5 ⟨rfl, hb⟩
    have hb := (Below.refl _ W4).drew.trans hb
    clear l0 l1 t0 b0 b1 b2 b3 b4 b5
    clear x0 x1 x2 x3 x4 x5
    have hx2 := HX.out.below hb HX.out.lt
    have hi2 := (HIS.out.below hb).more hb.size
    have hs1 := (HR1.out.below hb).more hb.size
    have hs4 := (HR4.out.below hb).more hb.size
    have hlw := HLW.out.next hb
    clear HLW
    have HLW := Lib.hid hlw
    clear hlw
    clear HX HIS HR1 HR4
    have HX := Lib.hid hx2
    have HIS := Lib.hid hi2
    have HR1 := Lib.hid hs1
    have HR4 := Lib.hid hs4
    clear hb hx2 hi2 hs1 hs4
    refine hK.out _ _ rfl (fun _ => ⟨HLW.out.one.a.cell 0, HLW.out.one.a.cell 1, HX.out.cell 0, HX.out.cell 1, HX.out.cell 2, HX.out.cell 3, HX.out.cell 4, HX.out.cell 5, HLW.out.st.cell 2, HLW.out.st.cell 3, HLW.out.st.cell 5⟩) ?_
    clear hK K
    iterate 2
      refine Free.Seq.quiet (v := ?_) (a' := ?_) rfl rfl (fun W' hW' => ?_) ?_ ?_
      rotate_left 2
      · first | obtain ⟨l0, l1, x0, x1, x2, x3, x4, x5, b2, b3, b5⟩ := hW' rfl | skip
        go_simp
        try with_reducible rfl
      · simp only [Act.put, List.setIfInBounds_toArray, List.set_cons_zero, List.set_cons_succ]
        try with_reducible rfl
    iterate 4
      refine Free.Seq.quiet (v := ?_) (a' := ?_) rfl (by rw [HOPS.out]; rfl) (fun W' hW' => ?_) ?_ ?_
      rotate_left 2
      · first | obtain ⟨l0, l1, x0, x1, x2, x3, x4, x5, b2, b3, b5⟩ := hW' rfl | skip
        go_simp
        try with_reducible rfl
      · simp only [Act.put, List.setIfInBounds_toArray, List.set_cons_zero, List.set_cons_succ]
        try with_reducible rfl
    refine Free.Seq.loud_ rfl (.inr (by rw [HOPS.out]; rfl)) (fun K hK => ?_)
    rw [if_pos (show Region.wanted _ _ = true by rw [HOPS.out]; rfl)]
    go_simp
    refine (HSC.out w5 HLW.out HR1.out).mono ?_
    rintro e w6 ⟨rfl, hb⟩
    have hx2 := HX.out.below hb HX.out.lt
    have hi2 := (HIS.out.below hb).more hb.size
    have hs1 := (HR1.out.below hb).more hb.size
    have hs4 := (HR4.out.below hb).more hb.size
    have hlw := HLW.out.next hb
    clear HLW
    have HLW := Lib.hid hlw
    clear hlw
    clear HX HIS HR1 HR4
    have HX := Lib.hid hx2
    have HIS := Lib.hid hi2
    have HR1 := Lib.hid hs1
    have HR4 := Lib.hid hs4
    clear hb hx2 hi2 hs1 hs4
    refine hK.out _ _ rfl (fun _ => ⟨HLW.out.one.a.cell 0, HLW.out.one.a.cell 1, HX.out.cell 0, HX.out.cell 1, HX.out.cell 2, HX.out.cell 3, HX.out.cell 4, HX.out.cell 5, HLW.out.st.cell 2, HLW.out.st.cell 3, HLW.out.st.cell 5⟩) ?_
    clear hK K
    iterate 1
      refine Free.Seq.quiet (v := ?_) (a' := ?_) rfl (by rw [HOPS.out]; rfl) (fun W' hW' => ?_) ?_ ?_
      rotate_left 2
      · first | obtain ⟨l0, l1, x0, x1, x2, x3, x4, x5, b2, b3, b5⟩ := hW' rfl | skip
        go_simp
        try with_reducible rfl
      · simp only [Act.put, List.setIfInBounds_toArray, List.set_cons_zero, List.set_cons_succ]
        try with_reducible rfl
    iterate 2
      refine Free.Seq.quiet (v := ?_) (a' := ?_) rfl rfl (fun W' hW' => ?_) ?_ ?_
      rotate_left 2
      · first | obtain ⟨l0, l1, x0, x1, x2, x3, x4, x5, b2, b3, b5⟩ := hW' rfl | skip
        go_simp
        try with_reducible rfl
      · simp only [Act.put, List.setIfInBounds_toArray, List.set_cons_zero, List.set_cons_succ]
        try with_reducible rfl
    iterate 7
      refine Free.Seq.quiet (v := ?_) (a' := ?_) rfl (by rw [HOPS.out]; rfl) (fun W' hW' => ?_) ?_ ?_
      rotate_left 2
      · first | obtain ⟨l0, l1, x0, x1, x2, x3, x4, x5, b2, b3, b5⟩ := hW' rfl | skip
        go_simp
        try with_reducible rfl
      · simp only [Act.put, List.setIfInBounds_toArray, List.set_cons_zero, List.set_cons_succ]
        try with_reducible rfl
    iterate 2
      refine Free.Seq.quiet (v := ?_) (a' := ?_) rfl rfl (fun W' hW' => ?_) ?_ ?_
      rotate_left 2
      · first | obtain ⟨l0, l1, x0, x1, x2, x3, x4, x5, b2, b3, b5⟩ := hW' rfl | skip
        go_simp
        try with_reducible rfl
      · simp only [Act.put, List.setIfInBounds_toArray, List.set_cons_zero, List.set_cons_succ]
        try with_reducible rfl
    iterate 7
      refine Free.Seq.quiet (v := ?_) (a' := ?_) rfl (by rw [HOPS.out]; rfl) (fun W' hW' => ?_) ?_ ?_
      rotate_left 2
      · first | obtain ⟨l0, l1, x0, x1, x2, x3, x4, x5, b2, b3, b5⟩ := hW' rfl | skip
        go_simp
        try with_reducible rfl
      · simp only [Act.put, List.setIfInBounds_toArray, List.set_cons_zero, List.set_cons_succ]
        try with_reducible rfl
    iterate 2
      refine Free.Seq.quiet (v := ?_) (a' := ?_) rfl rfl (fun W' hW' => ?_) ?_ ?_
      rotate_left 2
      · first | obtain ⟨l0, l1, x0, x1, x2, x3, x4, x5, b2, b3, b5⟩ := hW' rfl | skip
        go_simp
        try with_reducible rfl
      · simp only [Act.put, List.setIfInBounds_toArray, List.set_cons_zero, List.set_cons_succ]
        try with_reducible rfl
    iterate 8
      refine Free.Seq.quiet (v := ?_) (a' := ?_) rfl (by rw [HOPS.out]; rfl) (fun W' hW' => ?_) ?_ ?_
      rotate_left 2
      · first | obtain ⟨l0, l1, x0, x1, x2, x3, x4, x5, b2, b3, b5⟩ := hW' rfl | skip
        go_simp
        try with_reducible rfl
      · simp only [Act.put, List.setIfInBounds_toArray, List.set_cons_zero, List.set_cons_succ]
        try with_reducible rfl
    refine Free.Seq.loud_ rfl (.inr (by rw [HOPS.out]; rfl)) (fun K hK => ?_)
    rw [if_pos (show Region.wanted _ _ = true by rw [HOPS.out]; rfl)]
    go_simp
    refine (HSO.out w6 HLW.out HR4.out).mono ?_
    rintro e w7 ⟨rfl, hb⟩
    have hx2 := HX.out.below hb HX.out.lt
    have hi2 := (HIS.out.below hb).more hb.size
    have hs1 := (HR1.out.below hb).more hb.size
    have hs4 := (HR4.out.below hb).more hb.size
    have hlw := HLW.out.next hb
    clear HLW
    have HLW := Lib.hid hlw
    clear hlw
    clear HX HIS HR1 HR4
    have HX := Lib.hid hx2
    have HIS := Lib.hid hi2
    have HR1 := Lib.hid hs1
    have HR4 := Lib.hid hs4
    clear hb hx2 hi2 hs1 hs4
    refine hK.out _ _ rfl (fun _ => ⟨HLW.out.one.a.cell 0, HLW.out.one.a.cell 1, HX.out.cell 0, HX.out.cell 1, HX.out.cell 2, HX.out.cell 3, HX.out.cell 4, HX.out.cell 5, HLW.out.st.cell 2, HLW.out.st.cell 3, HLW.out.st.cell 5⟩) ?_
    clear hK K
    iterate 1
      refine Free.Seq.quiet (v := ?_) (a' := ?_) rfl (by rw [HOPS.out]; rfl) (fun W' hW' => ?_) ?_ ?_
      rotate_left 2
      · skip
        go_simp
        try with_reducible rfl
      · simp only [Act.put, List.setIfInBounds_toArray, List.set_cons_zero, List.set_cons_succ]
        try with_reducible rfl
    iterate 2
      refine Free.Seq.quiet (v := ?_) (a' := ?_) rfl rfl (fun W' hW' => ?_) ?_ ?_
      rotate_left 2
      · skip
        go_simp
        try with_reducible rfl
      · simp only [Act.put, List.setIfInBounds_toArray, List.set_cons_zero, List.set_cons_succ]
        try with_reducible rfl
    refine Free.Seq.loud_ rfl (.inr (by rw [HOPS.out]; rfl)) (fun K hK => ?_)
    rw [if_pos (show Region.wanted _ _ = true by rw [HOPS.out]; rfl)]
    go_simp
    refine (HAL.out w7 HLW.out).mono ?_
    rintro e W9 ⟨rfl, hb⟩
    have hx2 := HX.out.below hb HX.out.lt
    have hi2 := (HIS.out.below hb).more hb.size
    have hs1 := (HR1.out.below hb).more hb.size
    have hs4 := (HR4.out.below hb).more hb.size
    have hlw := HLW.out.next hb
    clear HLW
    have HLW := Lib.hid hlw
    clear hlw
    clear HX HIS HR1 HR4
    have HX := Lib.hid hx2
    have HIS := Lib.hid hi2
    have HR1 := Lib.hid hs1
    have HR4 := Lib.hid hs4
    clear hb hx2 hi2 hs1 hs4
    refine hK.out _ _ rfl (fun h => absurd h (by decide)) ?_
    clear hK K
    iterate 1
      refine Free.Seq.quiet (v := ?_) (a' := ?_) rfl (by rw [HOPS.out]; rfl) (fun W' hW' => ?_) ?_ ?_
      rotate_left 2
      · skip
        go_simp
        try with_reducible rfl
      · simp only [Act.put, List.setIfInBounds_toArray, List.set_cons_zero, List.set_cons_succ]
        try with_reducible rfl
    iterate 1
      refine Free.Seq.quiet (v := ?_) (a' := ?_) rfl rfl (fun W' hW' => ?_) ?_ ?_
      rotate_left 2
      · skip
        go_simp
        try with_reducible rfl
      · simp only [Act.put, List.setIfInBounds_toArray, List.set_cons_zero, List.set_cons_succ]
        try with_reducible rfl
    refine Free.Seq.nil_ ?_
    have l0 : W9.cell? ⟨w.heap.size, 0, none⟩ = some (.slice A1 k1 c1) := HLW.out.one.a.cell 0
    have l1 : W9.cell? ⟨w.heap.size, 1, none⟩ = some (.slice A2 k2 c2) := HLW.out.one.a.cell 1
    have t0 : W9.cell? ⟨w.heap.size + 1, 0, none⟩ = some (.slice T1 tn t1) := HLW.out.tb.cell 0
    have b0 : W9.cell? ⟨w.heap.size + 2, 0, none⟩ = some (.int .i64 pv) := HLW.out.st.cell 0
    have b1 : W9.cell? ⟨w.heap.size + 2, 1, none⟩ = some (.int .i64 pl) := HLW.out.st.cell 1
    have b2 : W9.cell? ⟨w.heap.size + 2, 2, none⟩ = some (.slice cA cN cc) := HLW.out.st.cell 2
    have b3 : W9.cell? ⟨w.heap.size + 2, 3, none⟩ = some (.slice mA mN mc) := HLW.out.st.cell 3
    have b4 : W9.cell? ⟨w.heap.size + 2, 4, none⟩ = some (.slice sA sN sc) := HLW.out.st.cell 4
    have b5 : W9.cell? ⟨w.heap.size + 2, 5, none⟩ = some (.slice oA oN oc) := HLW.out.st.cell 5
    have hxl9 := HX.out.lt
    have x0 : W9.cell? ⟨w4.heap.size, 0, none⟩ = some (.int .i64 o1.pc.v) := HX.out.cell 0
    have x1 : W9.cell? ⟨w4.heap.size, 1, none⟩ = some (.int .i64 o1.pc.l) := HX.out.cell 1
    have x2 : W9.cell? ⟨w4.heap.size, 2, none⟩ = some (.slice D1 cN d1) := HX.out.cell 2
    have x3 : W9.cell? ⟨w4.heap.size, 3, none⟩ = some (.slice D2 mN d2) := HX.out.cell 3
    have x4 : W9.cell? ⟨w4.heap.size, 4, none⟩ = some (.slice D3 m3 d3) := HX.out.cell 4
    have x5 : W9.cell? ⟨w4.heap.size, 5, none⟩ = some (.slice D4 m4 d4) := HX.out.cell 5
    clear HRI HSC HSO HOPS q5 q6 q7 q8 q9 HONE HO1 HAL
    by_cases h2 : o2 = 0
    · subst h2
      have q1 : decide ((m4 : Int) ≤ (oN : Int) + 1) = true := decide_eq_true (by omega)
      have q2 : decide ((m3 : Int) ≤ (sN : Int) + 1) = true := decide_eq_true (by omega)
      have q3 : (m4 : Int) ≤ (oN : Int) + 1 := by omega
      have q4 : (m3 : Int) ≤ (sN : Int) + 1 := by omega
      go_wp2
      go_ret
      exact ⟨rfl, HLW.out.one.below⟩
    · obtain ⟨hoa, ho3⟩ := hsame h2
      have q0 : ((o2 : Int) != 0) = true := by rw [bne_iff_ne]; omega
      have q1 : (0 : Int) < (o2 : Int) := by omega
      have q2 : (o2 : Int) ≤ 3 := by omega
      have hsm := rSame9_any W9 (hoa ▸ HIS.out) (HIA.out W9 HLW.out.one.below) HSM.out HSM.out
      rw [sameB_refl10] at hsm
      have HSA := Lib.hid hsm
      clear hsm
      go_wp2_with (fail)
      refine HSA.out.mono ?_
      rintro e w10 ⟨rfl, hb⟩
      have hbl := HLW.out.one.below.trans (hb.mono HLW.out.one.below.size)
      go_wp2
      go_ret
      exact ⟨rfl, hbl⟩
end Go.Proofs.YtefimimcfkdoiaaGreatDoor
