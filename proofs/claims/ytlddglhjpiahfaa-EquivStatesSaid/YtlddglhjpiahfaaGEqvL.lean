/- Walks of package equiv's states, States, Outs, Crop (by gen_eqvl.py). -/
import Derived.Test.YtlddglhjpiahfaaGEqvC
import Derived.Test.YtlddglhjpiahfaaGStpA
import Derived.Test.YtlddglhjpiahfaaGCodE
import Derived.Test.YtlddglhjpiahfaaGPub
namespace Go.Proofs.Ytlddglhjpiahfaa
set_option maxRecDepth 100000
open Go.RowKit Go.Shelf Go.Sort
attribute [local go_sem] Oper.semAt_some
set_option maxRecDepth 100000 in
set_option maxHeartbeats 16000000 in
theorem states_any {A : Option Addr} {v : List Bool} {sv tv : Value} {s t : St.State} (c : Nat) (w : World) (h : Row w w.heap.size A (vbs v)) (hs : IsSt w w.heap.size sv s) (ht : IsSt w w.heap.size tv t) (hsf : Fif s) (htf : Fif t) (hsl : LabsIn v.length s) (htl : LabsIn v.length t) :
    Calls Try.prog 42 #[.slice A v.length c, sv, tv] w (Tells w (Ev.states v s t)) := by
  have hpl := fun W (hb : Below w.heap.size w W) => places_any c W ((h.below hb).more hb.size) ((hs.below hb).more hb.size) ((ht.below hb).more hb.size) hsf htf hsl htl
  obtain ⟨cv, mv, stv_, ov, rfl, ⟨cA, cc, rfl, hcr, -⟩, ⟨mA, mc, rfl, hmr, -⟩, ⟨sA, sc, rfl, hsr, hsc⟩, ⟨oA, oc, rfl, hor, -⟩⟩ := hs
  obtain ⟨cv', mv', stv', ov', rfl, ⟨cB, cd, rfl, hcr', -⟩, ⟨mB, md, rfl, hmr', -⟩, ⟨sB, sd, rfl, hsr', hsd⟩, ⟨oB, od, rfl, hor', -⟩⟩ := ht
  unfold stv at hpl ⊢
  obtain ⟨f1, f2, f3, f4⟩ := hsf
  obtain ⟨g1, g2, g3, g4⟩ := htf
  have hco := fun W (hb : Below w.heap.size w W) => alikeI_any (A := A) (a := s.code) (b := t.code) c cc cd W ((h.below hb).more hb.size) ((hcr.below hb).more hb.size) ((hcr'.below hb).more hb.size) hsl.code htl.code (by omega)
  have hme := fun W (hb : Below w.heap.size w W) => alikeA_any (A := A) (a := s.mem) (b := t.mem) c mc md W ((h.below hb).more hb.size) ((hmr.below hb).more hb.size) ((hmr'.below hb).more hb.size) hsl.mem htl.mem (by omega)
  have hou := fun W (hb : Below w.heap.size w W) => outs_any (A := A) (a := s.out) (b := t.out) c oc od W ((h.below hb).more hb.size) ((hor.below hb).more hb.size) ((hor'.below hb).more hb.size) hsl.out htl.out (by omega) (by omega)
  have hi := fun W => howI_any W
  have ha := fun W => howA_any W
  unfold howI at hco hi
  unfold howA at hme ha
  have hst : Ev.states v s t = (Ev.alike (Ev.seenI v) s.code t.code && Ev.alike (Ev.seenA v) s.mem t.mem && Ev.outs v s.out t.out && Ev.places v s t) := rfl
  rw [hst]
  obtain ⟨W0, hW0⟩ : ∃ W0, (w.alloc (.cells #[.int .i64 s.pc.v, .int .i64 s.pc.l, .slice cA s.code.length cc, .slice mA s.mem.length mc, .slice sA s.stack.length sc, .slice oA s.out.length oc] 32)).alloc (.cells #[.int .i64 t.pc.v, .int .i64 t.pc.l, .slice cB t.code.length cd, .slice mB t.mem.length md, .slice sB t.stack.length sd, .slice oB t.out.length od] 32) = W0 := ⟨_, rfl⟩
  have hb0 : Below w.heap.size w W0 := hW0 ▸ ((Below.refl _ w).alloc (Nat.le_refl _) _).alloc (by simp) _
  have hk0 : Blk W0 w.heap.size 32 #[.int .i64 s.pc.v, .int .i64 s.pc.l, .slice cA s.code.length cc, .slice mA s.mem.length mc, .slice sA s.stack.length sc, .slice oA s.out.length oc] := hW0 ▸ (Blk.new _ _ _).alloc _
  have hk1 : Blk W0 (w.heap.size + 1) 32 #[.int .i64 t.pc.v, .int .i64 t.pc.l, .slice cB t.code.length cd, .slice mB t.mem.length md, .slice sB t.stack.length sd, .slice oB t.out.length od] := by
    rw [← hW0]; exact Blk.new' _ _ _ _ (by simp)
  have H1 := Lib.hid (fun W (hb : Below W0.heap.size W0 W) => hco W (hb0.trans (hb.mono hb0.size)))
  have H2 := Lib.hid (fun W (hb : Below W0.heap.size W0 W) => hme W (hb0.trans (hb.mono hb0.size)))
  have H3 := Lib.hid (fun W (hb : Below W0.heap.size W0 W) => hou W (hb0.trans (hb.mono hb0.size)))
  have H4 := Lib.hid (fun W (hb : Below W0.heap.size W0 W) => hpl W (hb0.trans (hb.mono hb0.size)))
  have HI := Lib.hid hi
  have HA := Lib.hid ha
  have HB0 := Lib.hid hb0
  have x0 : W0.cell? ⟨w.heap.size, 0, none⟩ = some (.int .i64 s.pc.v) := hk0.cell 0
  have x1 : W0.cell? ⟨w.heap.size, 1, none⟩ = some (.int .i64 s.pc.l) := hk0.cell 1
  have x2 : W0.cell? ⟨w.heap.size, 2, none⟩ = some (.slice cA s.code.length cc) := hk0.cell 2
  have x3 : W0.cell? ⟨w.heap.size, 3, none⟩ = some (.slice mA s.mem.length mc) := hk0.cell 3
  have x4 : W0.cell? ⟨w.heap.size, 4, none⟩ = some (.slice sA s.stack.length sc) := hk0.cell 4
  have x5 : W0.cell? ⟨w.heap.size, 5, none⟩ = some (.slice oA s.out.length oc) := hk0.cell 5
  have y0 : W0.cell? ⟨w.heap.size + 1, 0, none⟩ = some (.int .i64 t.pc.v) := hk1.cell 0
  have y1 : W0.cell? ⟨w.heap.size + 1, 1, none⟩ = some (.int .i64 t.pc.l) := hk1.cell 1
  have y2 : W0.cell? ⟨w.heap.size + 1, 2, none⟩ = some (.slice cB t.code.length cd) := hk1.cell 2
  have y3 : W0.cell? ⟨w.heap.size + 1, 3, none⟩ = some (.slice mB t.mem.length md) := hk1.cell 3
  have y4 : W0.cell? ⟨w.heap.size + 1, 4, none⟩ = some (.slice sB t.stack.length sd) := hk1.cell 4
  have y5 : W0.cell? ⟨w.heap.size + 1, 5, none⟩ = some (.slice oB t.out.length od) := hk1.cell 5
  clear h hb0 hk0 hk1 hcr hmr hsr hor hcr' hmr' hsr' hor' hsl htl hco hme hou hpl hi ha hst hsc hsd f1 f2 f3 f4 g1 g2 g3 g4
  generalize Ev.alike (Ev.seenI v) s.code t.code = q1 at *
  generalize Ev.alike (Ev.seenA v) s.mem t.mem = q2 at *
  generalize Ev.outs v s.out t.out = q3 at *
  generalize Ev.places v s t = q4 at *
  generalize s.pc.v = spv at *
  generalize s.pc.l = spl at *
  generalize t.pc.v = tpv at *
  generalize t.pc.l = tpl at *
  generalize v.length = nv at *
  generalize s.code.length = ns0 at *
  generalize s.mem.length = ns1 at *
  generalize s.stack.length = ns2 at *
  generalize s.out.length = ns3 at *
  generalize t.code.length = nt0 at *
  generalize t.mem.length = nt1 at *
  generalize t.stack.length = nt2 at *
  generalize t.out.length = nt3 at *
  have main : ∀ b1 b2 b3 : Bool, q1 = b1 → q2 = b2 → q3 = b3 → Calls Try.prog 42 #[.slice A nv c, .agg #[.int .i64 spv, .int .i64 spl, .slice cA ns0 cc, .slice mA ns1 mc, .slice sA ns2 sc, .slice oA ns3 oc], .agg #[.int .i64 tpv, .int .i64 tpl, .slice cB nt0 cd, .slice mB nt1 md, .slice sB nt2 sd, .slice oB nt3 od]] w (Tells w (b1 && b2 && b3 && q4)) := by
    intro b1 b2 b3 hb1 hb2 hb3
    rw [hb1] at H1
    rw [hb2] at H2
    rw [hb3] at H3
    clear hb1 hb2 hb3
    cases b1 <;> cases b2 <;> cases b3
    all_goals
      go_enter Try.func42, Try.ntmps42
      go_wp2_with (fail)
      clear hW0
      have r0 := fun d os => cell_regrown x0 d os
      have r1 := fun d os => cell_regrown x1 d os
      have r2 := fun d os => cell_regrown x2 d os
      have r3 := fun d os => cell_regrown x3 d os
      have r4 := fun d os => cell_regrown x4 d os
      have r5 := fun d os => cell_regrown x5 d os
      have r6 := fun d os => cell_regrown y0 d os
      have r7 := fun d os => cell_regrown y1 d os
      have r8 := fun d os => cell_regrown y2 d os
      have r9 := fun d os => cell_regrown y3 d os
      have r10 := fun d os => cell_regrown y4 d os
      have r11 := fun d os => cell_regrown y5 d os
      refine wp_region_quiet_below (by kernel_rfl) (by kernel_rfl) ?_
      refine quiet_hideE fun ops hops => ?_
      have hy7 : (ops[7]?.bind fun x => x.dst) = some 14 := by rw [hops]; rfl
      have hy16 : (ops[16]?.bind fun x => x.dst) = some 23 := by rw [hops]; rfl
      have hy24 : (ops[24]?.bind fun x => x.dst) = some 31 := by rw [hops]; rfl
      clear hops
      repeat (quiet_step (first | (go_at_call 28; with_reducible exact Calls.regrown_of (HI.out _)) | (go_at_call 26; with_reducible exact Calls.regrown_of (HA.out _)) | (go_at_call 55; with_reducible exact Calls.regrown_of (H1.out _ (below_regrown _ _ _))) | (go_at_call 51; with_reducible exact Calls.regrown_of (H2.out _ (below_regrown _ _ _))) | (go_at_call 33; with_reducible exact Calls.regrown_of (H3.out _ (below_regrown _ _ _))) | (go_at_call 70; with_reducible exact Calls.regrown_of (H4.out _ (below_regrown _ _ _)))))
      refine wpQuiet_nil ?_
      rintro _ ⟨⟨d9, os9⟩, rfl⟩
      have HB9 := Lib.hid (HB0.out.trans ((below_regrown W0 d9 os9).mono HB0.out.size))
      clear r0 r1 r2 r3 r4 r5 r6 r7 r8 r9 r10 r11 x0 x1 x2 x3 x4 x5 y0 y1 y2 y3 y4 y5
      generalize grow (redrawn W0 d9) os9 = w9 at *
      go_wp2
      go_ret
      exact ⟨by simp, HB9.out⟩
  exact main q1 q2 q3 rfl rfl rfl

theorem labsIn_of {up : List Nat} {o : Int} {s : St.State} (h : ∀ l ∈ Ev.labsOf s, isLab up l = true) : LabsIn (Ev.viewL up o).length s := fun l hl => by
  have := h l hl
  unfold isLab at this
  rw [decide_eq_true_eq] at this
  rw [Ev.viewL_len]
  exact this
theorem labsOf_len {s : St.State} (h : Fif s) : (Ev.labsOf s).length ≤ 61 := by
  obtain ⟨h1, h2, h3, h4⟩ := h
  unfold Ev.labsOf
  simp; omega
set_option maxRecDepth 100000 in
set_option maxHeartbeats 16000000 in
theorem States_any {v sv tv : Value} {names : List ByteArray} {up : List Nat} {s t : St.State} (o : Int) (w : World) (h : IsLat w w.heap.size v names up) (hs : IsSt w w.heap.size sv s) (ht : IsSt w w.heap.size tv t) (hsf : Fif s) (htf : Fif t) :
    Calls Try.prog 18 #[v, .int .i64 o, sv, tv] w (TellsBE w (Ev.told (Ev.lookN names up o (Ev.labsOf s ++ Ev.labsOf t)) (Ev.states (Ev.viewL up o) s t)) (Ev.lookN names up o (Ev.labsOf s ++ Ev.labsOf t))) := by
  obtain ⟨res, hres⟩ : ∃ res, Ev.lookN names up o (Ev.labsOf s ++ Ev.labsOf t) = res := ⟨_, rfl⟩
  rw [hres]
  have hl0 := h
  obtain ⟨⟨N, U, c1, c2, rfl, -, -⟩, -, -, -⟩ := h
  have hs0 := hs
  have ht0 := ht
  obtain ⟨cv, mv, stv_, ov, rfl, ⟨cA, cc, rfl, hcr, -⟩, ⟨mA, mc, rfl, hmr, -⟩, ⟨sA, sc, rfl, hsr, hsc⟩, ⟨oA, oc, rfl, hor, -⟩⟩ := hs
  obtain ⟨cv', mv', stv', ov', rfl, ⟨cB, cd, rfl, hcr', -⟩, ⟨mB, md, rfl, hmr', -⟩, ⟨sB, sd, rfl, hsr', hsd⟩, ⟨oB, od, rfl, hor', -⟩⟩ := ht
  unfold stv at hs0 ht0 ⊢
  obtain ⟨W0, hW0⟩ : ∃ W0, ((w.alloc (.cells #[.slice N names.length c1, .slice U up.length c2] 25)).alloc (.cells #[.int .i64 s.pc.v, .int .i64 s.pc.l, .slice cA s.code.length cc, .slice mA s.mem.length mc, .slice sA s.stack.length sc, .slice oA s.out.length oc] 32)).alloc (.cells #[.int .i64 t.pc.v, .int .i64 t.pc.l, .slice cB t.code.length cd, .slice mB t.mem.length md, .slice sB t.stack.length sd, .slice oB t.out.length od] 32) = W0 := ⟨_, rfl⟩
  have hb0 : Below w.heap.size w W0 := hW0 ▸ (((Below.refl _ w).alloc (Nat.le_refl _) _).alloc (by simp) _).alloc (by simp; omega) _
  have hp0 : Blk W0 w.heap.size 25 #[.slice N names.length c1, .slice U up.length c2] := hW0 ▸ ((Blk.new _ _ _).alloc _).alloc _
  have hq0 : Blk W0 (w.heap.size + 1) 32 #[.int .i64 s.pc.v, .int .i64 s.pc.l, .slice cA s.code.length cc, .slice mA s.mem.length mc, .slice sA s.stack.length sc, .slice oA s.out.length oc] := by rw [← hW0]; exact (Blk.new' _ _ _ _ (by simp)).alloc _
  have hr0 : Blk W0 (w.heap.size + 1 + 1) 32 #[.int .i64 t.pc.v, .int .i64 t.pc.l, .slice cB t.code.length cd, .slice mB t.mem.length md, .slice sB t.stack.length sd, .slice oB t.out.length od] := by rw [← hW0]; exact Blk.new' _ _ _ _ (by simp)
  have hla := fun W (hb : Below W0.heap.size W0 W) => labelsOf_any (s := s) W ((hs0.below (hb0.trans (hb.mono hb0.size))).more (Nat.le_trans hb0.size hb.size)) hsf
  have hlb := fun W (hb : Below W0.heap.size W0 W) => labelsOf_any (s := t) W ((ht0.below (hb0.trans (hb.mono hb0.size))).more (Nat.le_trans hb0.size hb.size)) htf
  have hlk := fun g cl W (hW : Below W0.heap.size W0 W) (hg : IntsAt W g [Ev.labsOf s, Ev.labsOf t]) => look_any o g cl W ((hl0.below (hb0.trans (hW.mono hb0.size))).more (Nat.le_trans hb0.size hW.size)) hg (by simp) (by intro l hl; simp at hl; have := labsOf_len hsf; have := labsOf_len htf; rcases hl with rfl | rfl <;> omega)
  have hal := fun A c W (hW : Below W0.heap.size W0 W) (hr : Row W W.heap.size A (vbs (Ev.viewL up o))) (hl1 : LabsIn (Ev.viewL up o).length s) (hl2 : LabsIn (Ev.viewL up o).length t) => states_any (A := A) c W hr ((hs0.below (hb0.trans (hW.mono hb0.size))).more (Nat.le_trans hb0.size hW.size)) ((ht0.below (hb0.trans (hW.mono hb0.size))).more (Nat.le_trans hb0.size hW.size)) hsf htf hl1 hl2
  have hlz : res = 0 → LabsIn up.length s ∧ LabsIn up.length t := fun e => by
    have h9 := (Ev.lookN_zero (hres.trans e)).2
    have e1 := labsIn_of (o := o) fun x hx => h9 x (List.mem_append_left _ hx)
    have e2 := labsIn_of (o := o) fun x hx => h9 x (List.mem_append_right _ hx)
    rw [Ev.viewL_len] at e1 e2
    exact ⟨e1, e2⟩
  simp only [flat_two, hres, Ev.viewL_len] at hlk hal
  unfold LabsGot at hla hlb
  generalize Ev.states (Ev.viewL up o) s t = ans at *
  generalize Ev.labsOf s = la at *
  generalize Ev.labsOf t = lb at *
  have HLA := Lib.hid hla
  have HLB := Lib.hid hlb
  have HLK := Lib.hid hlk
  have HAL := Lib.hid hal
  have HLZ := Lib.hid hlz
  have HB0 := Lib.hid hb0
  have HP := Lib.hid hp0
  have HQ := Lib.hid hq0
  have HR := Lib.hid hr0
  clear hb0 hla hlb hlk hal hlz hres hl0 hcr hmr hsr hor hcr' hmr' hsr' hor' hsc hsd hsf htf hs0 ht0
  go_enter Try.func18, Try.ntmps18
  go_wp2_with (fail)
  clear hW0
  refine Free.region_seq [3, 5, 6, 7] [0, 2, 4] 7 (fun W' => W'.cell? ⟨w.heap.size, 0, none⟩ = some (.slice N names.length c1) ∧ W'.cell? ⟨w.heap.size, 1, none⟩ = some (.slice U up.length c2) ∧ W'.cell? ⟨w.heap.size + 1, 0, none⟩ = some (.int .i64 s.pc.v) ∧ W'.cell? ⟨w.heap.size + 1, 1, none⟩ = some (.int .i64 s.pc.l) ∧ W'.cell? ⟨w.heap.size + 1, 2, none⟩ = some (.slice cA s.code.length cc) ∧ W'.cell? ⟨w.heap.size + 1, 3, none⟩ = some (.slice mA s.mem.length mc) ∧ W'.cell? ⟨w.heap.size + 1, 4, none⟩ = some (.slice sA s.stack.length sc) ∧ W'.cell? ⟨w.heap.size + 1, 5, none⟩ = some (.slice oA s.out.length oc) ∧ W'.cell? ⟨w.heap.size + 1 + 1, 0, none⟩ = some (.int .i64 t.pc.v) ∧ W'.cell? ⟨w.heap.size + 1 + 1, 1, none⟩ = some (.int .i64 t.pc.l) ∧ W'.cell? ⟨w.heap.size + 1 + 1, 2, none⟩ = some (.slice cB t.code.length cd) ∧ W'.cell? ⟨w.heap.size + 1 + 1, 3, none⟩ = some (.slice mB t.mem.length md) ∧ W'.cell? ⟨w.heap.size + 1 + 1, 4, none⟩ = some (.slice sB t.stack.length sd) ∧ W'.cell? ⟨w.heap.size + 1 + 1, 5, none⟩ = some (.slice oB t.out.length od)) (by kernel_rfl) (by kernel_rfl) (by kernel_rfl) (by kernel_rfl) (⟨hp0.cell 0, hp0.cell 1, hq0.cell 0, hq0.cell 1, hq0.cell 2, hq0.cell 3, hq0.cell 4, hq0.cell 5, hr0.cell 0, hr0.cell 1, hr0.cell 2, hr0.cell 3, hr0.cell 4, hr0.cell 5⟩) (fun ops hops => ?_)
  clear hops
  clear hp0 hq0 hr0
  iterate 3
    refine Free.Seq.quiet (v := ?_) (a' := ?_) rfl rfl (fun W' hW' => ?_) ?_ ?_
    rotate_left 2
    · first | obtain ⟨s0, s1, s2, s3, s4, s5, s6, s7, s8, s9, s10, s11, s12, s13⟩ := hW' rfl | skip
      go_simp
      try with_reducible rfl
    · simp only [Act.put, List.setIfInBounds_toArray, List.set_cons_zero, List.set_cons_succ]
      try with_reducible rfl
  refine Free.Seq.loud_ rfl (.inl rfl) (fun K hK => ?_)
  go_simp
  refine (HLA.out W0.drew (Below.refl _ W0).drew).mono ?_
  rintro e w1 ⟨A1, d1, rfl, hr1', hb1⟩
  have hb1 := (Below.refl _ W0).drew.trans hb1
  have hp1 := HP.out.below hb1 HP.out.lt
  have hq1 := HQ.out.below hb1 HQ.out.lt
  have hr1 := HR.out.below hb1 HR.out.lt
  have HB1 := Lib.hid hb1
  have HR1 := Lib.hid hr1'
  refine hK.out _ _ rfl (fun _ => ⟨hp1.cell 0, hp1.cell 1, hq1.cell 0, hq1.cell 1, hq1.cell 2, hq1.cell 3, hq1.cell 4, hq1.cell 5, hr1.cell 0, hr1.cell 1, hr1.cell 2, hr1.cell 3, hr1.cell 4, hr1.cell 5⟩) ?_
  clear hK K hp1 hq1 hr1 hb1 hr1'
  iterate 1
    refine Free.Seq.quiet (v := ?_) (a' := ?_) rfl rfl (fun W' hW' => ?_) ?_ ?_
    rotate_left 2
    · first | obtain ⟨s0, s1, s2, s3, s4, s5, s6, s7, s8, s9, s10, s11, s12, s13⟩ := hW' rfl | skip
      go_simp
      try with_reducible rfl
    · simp only [Act.put, List.setIfInBounds_toArray, List.set_cons_zero, List.set_cons_succ]
      try with_reducible rfl
  refine Free.Seq.loud_ rfl (.inl rfl) (fun K hK => ?_)
  go_simp
  refine (HLB.out w1 HB1.out).mono ?_
  rintro e w2 ⟨A2, d2, rfl, hr2', hb2⟩
  have hB2 := HB1.out.trans (hb2.mono HB1.out.size)
  have hp2 := HP.out.below hB2 HP.out.lt
  have hq2 := HQ.out.below hB2 HQ.out.lt
  have hr2 := HR.out.below hB2 HR.out.lt
  have HB2 := Lib.hid hB2
  have HR1b := Lib.hid ((HR1.out.below hb2).more hb2.size)
  have HR2 := Lib.hid hr2'
  refine hK.out _ _ rfl (fun _ => ⟨hp2.cell 0, hp2.cell 1, hq2.cell 0, hq2.cell 1, hq2.cell 2, hq2.cell 3, hq2.cell 4, hq2.cell 5, hr2.cell 0, hr2.cell 1, hr2.cell 2, hr2.cell 3, hr2.cell 4, hr2.cell 5⟩) ?_
  clear hK K hp2 hq2 hr2 hB2 hb2 hr2' HR1
  refine Free.Seq.loud_ rfl (.inl rfl) (fun K hK => ?_)
  go_simp
  have hk3 := Blk.new w2 83 #[.slice A1 la.length d1, .slice A2 lb.length d2]
  have hb3 := (Below.refl _ w2).alloc (Nat.le_refl _) (.cells #[.slice A1 la.length d1, .slice A2 lb.length d2] 83)
  have hi3 := ints_two w2.heap.size rfl rfl hk3 ((HR1b.out.below hb3).more hb3.size) ((HR2.out.below hb3).more hb3.size)
  have HI3 := Lib.hid hi3
  have hB3 := HB2.out.trans (hb3.mono HB2.out.size)
  have hp3 := HP.out.below hB3 HP.out.lt
  have hq3 := HQ.out.below hB3 HQ.out.lt
  have hr3 := HR.out.below hB3 HR.out.lt
  have HB3 := Lib.hid hB3
  refine hK.out _ _ rfl (fun _ => ⟨hp3.cell 0, hp3.cell 1, hq3.cell 0, hq3.cell 1, hq3.cell 2, hq3.cell 3, hq3.cell 4, hq3.cell 5, hr3.cell 0, hr3.cell 1, hr3.cell 2, hr3.cell 3, hr3.cell 4, hr3.cell 5⟩) ?_
  clear hK K hp3 hq3 hr3 hk3 hb3 hi3 hB3
  refine Free.Seq.loud_ rfl (.inl rfl) (fun K hK => ?_)
  go_simp
  refine (HLK.out w2.heap.size 2 _ HB3.out HI3.out).mono ?_
  rintro e w4 ⟨A4, n4, c4, rfl, hz4, hb4⟩
  have hB4 := HB3.out.trans (hb4.mono HB3.out.size)
  have hp4 := HP.out.below hB4 HP.out.lt
  have hq4 := HQ.out.below hB4 HQ.out.lt
  have hr4 := HR.out.below hB4 HR.out.lt
  have HZ4 := Lib.hid hz4
  have HB4 := Lib.hid hB4
  refine hK.out _ _ rfl (fun h => absurd h (by decide)) ?_
  clear hK K hb4 hz4 hB4 hp4
  iterate 5
    refine Free.Seq.quiet (v := ?_) (a' := ?_) rfl rfl (fun W' hW' => ?_) ?_ ?_
    rotate_left 2
    · skip
      go_simp
      try with_reducible rfl
    · simp only [Act.put, List.setIfInBounds_toArray, List.set_cons_zero, List.set_cons_succ]
      try with_reducible rfl
  refine Free.Seq.nil_ ?_
  have x0 : w4.cell? ⟨w.heap.size + 1, 0, none⟩ = some (.int .i64 s.pc.v) := hq4.cell 0
  have x1 : w4.cell? ⟨w.heap.size + 1, 1, none⟩ = some (.int .i64 s.pc.l) := hq4.cell 1
  have x2 : w4.cell? ⟨w.heap.size + 1, 2, none⟩ = some (.slice cA s.code.length cc) := hq4.cell 2
  have x3 : w4.cell? ⟨w.heap.size + 1, 3, none⟩ = some (.slice mA s.mem.length mc) := hq4.cell 3
  have x4 : w4.cell? ⟨w.heap.size + 1, 4, none⟩ = some (.slice sA s.stack.length sc) := hq4.cell 4
  have x5 : w4.cell? ⟨w.heap.size + 1, 5, none⟩ = some (.slice oA s.out.length oc) := hq4.cell 5
  have y0 : w4.cell? ⟨w.heap.size + 1 + 1, 0, none⟩ = some (.int .i64 t.pc.v) := hr4.cell 0
  have y1 : w4.cell? ⟨w.heap.size + 1 + 1, 1, none⟩ = some (.int .i64 t.pc.l) := hr4.cell 1
  have y2 : w4.cell? ⟨w.heap.size + 1 + 1, 2, none⟩ = some (.slice cB t.code.length cd) := hr4.cell 2
  have y3 : w4.cell? ⟨w.heap.size + 1 + 1, 3, none⟩ = some (.slice mB t.mem.length md) := hr4.cell 3
  have y4 : w4.cell? ⟨w.heap.size + 1 + 1, 4, none⟩ = some (.slice sB t.stack.length sd) := hr4.cell 4
  have y5 : w4.cell? ⟨w.heap.size + 1 + 1, 5, none⟩ = some (.slice oB t.out.length od) := hr4.cell 5
  clear hq4 hr4
  by_cases hz : res = 0
  · subst hz
    obtain ⟨rfl, hr4⟩ := HZ4.out rfl
    have hcall := HAL.out A4 c4 w4 HB4.out hr4 (HLZ.out rfl).1 (HLZ.out rfl).2
    have HC := Lib.hid hcall
    clear hr4 hcall
    go_wp2_with (fail)
    refine HC.out.mono ?_
    rintro e w5 ⟨rfl, hb5⟩
    have HB5 := Lib.hid (HB0.out.trans ((HB4.out.trans (hb5.mono HB4.out.size)).mono HB0.out.size))
    clear hb5
    go_wp2
    go_ret2
    exact ⟨rfl, HB5.out⟩
  · have hz1 : ((res : Int) == 0) = false := by rw [beq_eq_false_iff_ne]; omega
    have hz2 : ((res : Int) != 0) = true := by rw [bne_iff_ne]; omega
    have HT := Lib.hid (show Ev.told res ans = false from if_neg hz)
    clear hz
    go_wp2
    go_ret2
    exact ⟨by rw [HT.out]; rfl, HB0.out.trans (HB4.out.mono HB0.out.size)⟩
end Go.Proofs.Ytlddglhjpiahfaa

/- Layer 12, plainly: what the law EquivHolds asks, of the answers' plain data. -/
namespace Go.Proofs.Ytlddglhjpiahfaa
set_option maxRecDepth 100000
theorem told_err {r : Nat} {b : Bool} (h : r ≠ 0) : Ev.told r b = false := if_neg h
end Go.Proofs.Ytlddglhjpiahfaa

/- Walks of package equiv's Outs, Crop (by gen_eqvo.py). -/
namespace Go.Proofs.Ytlddglhjpiahfaa
set_option maxRecDepth 100000
open Go.RowKit Go.Shelf Go.Sort
attribute [local go_sem] Oper.semAt_some
theorem ints_one {w : World} {A1 : Option Addr} {n1 c1 : Nat} {l1 : List Int} (g : Nat) (h1 : l1.length = n1) (hk : Blk w g 83 #[.slice A1 n1 c1]) (r1 : Row w w.heap.size A1 (ints l1)) : IntsAt w g [l1] := fun k l hl => by
  match k, hl with
  | 0, hl =>
    simp only [List.getElem?_cons_zero, Option.some.injEq] at hl
    subst hl
    exact ⟨A1, c1, by rw [h1]; exact hk.cell 0, r1⟩
theorem flat_one (l1 : List Int) : [l1].flatten = l1 := by simp

/-- What Crop tells. -/
def CropTold (res : Nat) (l : List St.Slot) (w : World) (e : Ending) (w' : World) : Prop :=
  ∃ A c, e = .returned (.tuple #[.slice A (if res = 0 then l.length else 0) c, .int .i64 (res : Nat)]) ∧ (res = 0 → Row w' w'.heap.size A (fcells svs l)) ∧ Below w.heap.size w w'
set_option maxHeartbeats 16000000 in
theorem Crop_any {v : Value} {names : List ByteArray} {up : List Nat} {B : Option Addr} {a : List St.Slot} (o : Int) (ca : Nat) (w : World) (h : IsLat w w.heap.size v names up) (ha : Row w w.heap.size B (fcells svs a)) (hna : a.length ≤ 1000) (hca : a.length ≤ ca) :
    Calls Try.prog 19 #[v, .int .i64 o, .slice B a.length ca] w (CropTold (Ev.lookN names up o (a.map (·.l))) (Ev.crop (Ev.viewL up o) a) w) := by
  obtain ⟨res, hres⟩ : ∃ res, Ev.lookN names up o (a.map (·.l)) = res := ⟨_, rfl⟩
  rw [hres]
  have hl0 := h
  obtain ⟨⟨N, U, c1, c2, rfl, -, -⟩, -, -, -⟩ := h
  obtain ⟨W0, hW0⟩ : ∃ W0, w.alloc (.cells #[.slice N names.length c1, .slice U up.length c2] 25) = W0 := ⟨_, rfl⟩
  have hb0 : Below w.heap.size w W0 := hW0 ▸ (Below.refl _ w).alloc (Nat.le_refl _) _
  have hp0 : Blk W0 w.heap.size 25 #[.slice N names.length c1, .slice U up.length c2] := hW0 ▸ Blk.new _ _ _
  have hlb := fun W (hb : Below W0.heap.size W0 W) => labelsS_any ca W ((ha.below (hb0.trans (hb.mono hb0.size))).more (Nat.le_trans hb0.size hb.size)) (by omega)
  have hlk := fun g cl W (hW : Below W0.heap.size W0 W) (hg : IntsAt W g [a.map (·.l)]) => look_any o g cl W ((hl0.below (hb0.trans (hW.mono hb0.size))).more (Nat.le_trans hb0.size hW.size)) hg (by simp) (by intro l hl; simp at hl; subst hl; rw [List.length_map]; omega)
  have hal := fun A c W (hW : Below W0.heap.size W0 W) (hr : Row W W.heap.size A (vbs (Ev.viewL up o))) (hl1 : LabIn (·.l) (Ev.viewL up o).length a) => crop_any (A := A) c ca W hr ((ha.below (hb0.trans (hW.mono hb0.size))).more (Nat.le_trans hb0.size hW.size)) hl1 (by omega) hca
  have hcl := fun (A : Option Addr) c W (hr : Row W W.heap.size A (fcells svs (Ev.crop (Ev.viewL up o) a))) => cloneSl_any (A := A) c (Ev.crop (Ev.viewL up o) a) W hr (by rw [Ev.crop_len]; have := Ev.cropN_le (Ev.viewL up o) a; omega)
  simp only [flat_one, hres, Ev.viewL_len] at hlk hal
  simp only [← Ev.crop_len] at hal
  unfold GotInts at hlb
  rw [List.length_map] at hlb
  have hhow := fun W => howS_any W
  unfold howS at hlb hhow
  have hlz : res = 0 → LabIn (·.l) up.length a := fun e => by
    have h9 := (Ev.lookN_zero (hres.trans e)).2
    have e1 := labIn_of (o := o) fun x hx => h9 x hx
    rw [Ev.viewL_len] at e1
    exact e1
  have hla : (a.map (·.l)).length = a.length := List.length_map ..
  generalize Ev.crop (Ev.viewL up o) a = cr at *
  generalize a.map (·.l) = la at *
  have l0 : W0.cell? ⟨w.heap.size, 0, none⟩ = some (.slice N names.length c1) := hp0.cell 0
  have l1 : W0.cell? ⟨w.heap.size, 1, none⟩ = some (.slice U up.length c2) := hp0.cell 1
  have HLA := Lib.hid hlb
  have HLK := Lib.hid hlk
  have HAL := Lib.hid hal
  have HCL := Lib.hid hcl
  have HLZ := Lib.hid hlz
  have HHOW := Lib.hid hhow
  have HB0 := Lib.hid hb0
  have HP := Lib.hid hp0
  have HNA := Lib.hid hla
  clear ha hb0 hp0 hlb hlk hal hlz hla hres hl0 hhow hcl
  generalize hncr : cr.length = ncr at *
  have HNC := Lib.hid hncr
  clear hncr
  go_enter Try.func19, Try.ntmps19
  go_wp2_with (fail)
  clear hW0
  refine Free.region_seq [3, 4, 5, 6] [0] 6 (fun W' => W'.cell? ⟨w.heap.size, 0, none⟩ = some (.slice N names.length c1) ∧ W'.cell? ⟨w.heap.size, 1, none⟩ = some (.slice U up.length c2)) (by kernel_rfl) (by kernel_rfl) (by kernel_rfl) (by kernel_rfl) (⟨l0, l1⟩) (fun ops hops => ?_)
  clear hops
  iterate 3
    refine Free.Seq.quiet (v := ?_) (a' := ?_) rfl rfl (fun W' hW' => ?_) ?_ ?_
    rotate_left 2
    · first | obtain ⟨s0, s1⟩ := hW' rfl | skip
      go_simp
      try with_reducible rfl
    · simp only [Act.put, List.setIfInBounds_toArray, List.set_cons_zero, List.set_cons_succ]
      try with_reducible rfl
  refine Free.Seq.loud_ rfl (.inl rfl) (fun K hK => ?_)
  go_simp
  refine (HHOW.out W0.drew).mono ?_
  rintro e u1 ⟨rfl, hbu⟩
  have hb1 := (Below.refl _ W0).drew.trans hbu
  have hp1 := HP.out.below hb1 HP.out.lt
  have HB1 := Lib.hid hb1
  refine hK.out _ _ rfl (fun _ => ⟨hp1.cell 0, hp1.cell 1⟩) ?_
  clear hK K hp1 hb1 hbu
  refine Free.Seq.loud_ rfl (.inl rfl) (fun K hK => ?_)
  go_simp
  refine (HLA.out u1 HB1.out).mono ?_
  rintro e w2 ⟨A1, d1, rfl, hown1, hbu⟩
  have hb2 := HB1.out.trans (hbu.mono HB1.out.size)
  have hp2 := HP.out.below hb2 HP.out.lt
  have HB4 := Lib.hid hb2
  have HR1 := Lib.hid (ownT_row hown1).1
  refine hK.out _ _ rfl (fun _ => ⟨hp2.cell 0, hp2.cell 1⟩) ?_
  clear hK K hp2 hb2 hbu hown1
  refine Free.Seq.loud_ rfl (.inl rfl) (fun K hK => ?_)
  go_simp
  have hk3 := Blk.new w2 83 #[.slice A1 a.length d1]
  have hb3 := (Below.refl _ w2).alloc (Nat.le_refl _) (.cells #[.slice A1 a.length d1] 83)
  have hi3 := ints_one w2.heap.size HNA.out hk3 ((HR1.out.below hb3).more hb3.size)
  have HI3 := Lib.hid hi3
  have hB3 := HB4.out.trans (hb3.mono HB4.out.size)
  have hp3 := HP.out.below hB3 HP.out.lt
  have HB5 := Lib.hid hB3
  refine hK.out _ _ rfl (fun _ => ⟨hp3.cell 0, hp3.cell 1⟩) ?_
  clear hK K hp3 hk3 hb3 hi3 hB3
  refine Free.Seq.loud_ rfl (.inl rfl) (fun K hK => ?_)
  go_simp
  refine (HLK.out w2.heap.size 1 _ HB5.out HI3.out).mono ?_
  rintro e w4 ⟨A4, n4, c4, rfl, hz4, hb4⟩
  have HZ4 := Lib.hid hz4
  have HB6 := Lib.hid (HB5.out.trans (hb4.mono HB5.out.size))
  refine hK.out _ _ rfl (fun h => absurd h (by decide)) ?_
  clear hK K hb4 hz4
  iterate 5
    refine Free.Seq.quiet (v := ?_) (a' := ?_) rfl rfl (fun W' hW' => ?_) ?_ ?_
    rotate_left 2
    · skip
      go_simp
      try with_reducible rfl
    · simp only [Act.put, List.setIfInBounds_toArray, List.set_cons_zero, List.set_cons_succ]
      try with_reducible rfl
  refine Free.Seq.nil_ ?_
  clear l0 l1
  by_cases hz : res = 0
  · subst hz
    obtain ⟨rfl, hr4⟩ := HZ4.out rfl
    have hcall := HAL.out A4 c4 w4 HB6.out hr4 (HLZ.out rfl)
    have HC := Lib.hid hcall
    clear hr4 hcall
    go_wp2_with (fail)
    refine HC.out.mono ?_
    rintro e w5 ⟨A5, c5, rfl, hr5, hb5⟩
    have HB7 := Lib.hid (HB6.out.trans (hb5.mono HB6.out.size))
    have HCC := Lib.hid (HCL.out A5 c5 w5 hr5)
    clear hb5 hr5
    go_wp2_with (fail)
    refine HCC.out.mono ?_
    rintro e w6 ⟨v6, rfl, hown6, hb6⟩
    obtain ⟨A6, c6, rfl⟩ := ownT_slice hown6
    have HR6 := Lib.hid (ownT_row hown6).1
    have HB8 := Lib.hid (HB0.out.trans ((HB7.out.trans (hb6.mono HB7.out.size)).mono HB0.out.size))
    clear hown6 hb6
    go_wp2
    go_ret2
    exact ⟨A6, c6, by rw [if_pos rfl, HNC.out]; rfl, fun _ => HR6.out, HB8.out⟩
  · have hz1 : ((res : Int) == 0) = false := by rw [beq_eq_false_iff_ne]; omega
    have hz2 : ((res : Int) != 0) = true := by rw [bne_iff_ne]; omega
    have HZ := Lib.hid hz
    clear hz
    go_wp2
    go_ret2
    exact ⟨none, 0, by rw [if_neg HZ.out]; rfl, fun h => absurd h HZ.out, HB0.out.trans (HB6.out.mono HB0.out.size)⟩
end Go.Proofs.Ytlddglhjpiahfaa

/- The reference of layer 12: Sees, one, Atoms, Codes, Stacks. -/
namespace Go.Proofs.Ytlddglhjpiahfaa
set_option maxRecDepth 100000
open Go.RowKit Go.Shelf Go.Sort
attribute [local go_sem] Oper.semAt_some
set_option maxHeartbeats 4000000 in
theorem rSees12_any {v : Value} {names : List ByteArray} {up : List Nat} (o a : Int) (w : World) (h : IsLat w w.heap.size v names up) (ho : isLab up o = true) (ha : isLab up a = true) :
    Calls Try.prog 40 #[v, .int .i64 o, .int .i64 a] w (Tells w (Ev.at_ (Ev.viewL up o) a)) := by
  rw [Ev.at_viewL ha]
  unfold isLab at ho ha
  rw [decide_eq_true_eq] at ho ha
  obtain ⟨p, rfl⟩ : ∃ p : Nat, o = p := ⟨o.toNat, by omega⟩
  obtain ⟨q, rfl⟩ : ∃ q : Nat, a = q := ⟨a.toNat, by omega⟩
  have hf := h.few.2
  have hc := fun W (hb : Below w.heap.size w W) => rFlows_any q p W ((h.below hb).more hb.size) (by omega) (by omega)
  obtain ⟨⟨N, U, c1, c2, rfl, -, -⟩, -, -, -⟩ := h
  have hb0 := (Below.refl w.heap.size w).alloc (Nat.le_refl _) (.cells #[.slice N names.length c1, .slice U up.length c2] 25)
  have HC := Lib.hid (hc _ hb0)
  have HB := Lib.hid hb0
  rw [Int.toNat_natCast, Int.toNat_natCast]
  clear hc hb0
  generalize Lat.fl up q p = f at *
  go_enter Try.func40, Try.ntmps40
  go_wp2_with (fail)
  refine HC.out.mono ?_
  rintro e w1 ⟨rfl, hb1⟩
  have HB1 := Lib.hid (HB.out.trans (hb1.mono HB.out.size))
  clear hb1
  go_wp2
  go_ret
  exact ⟨rfl, HB1.out⟩
set_option maxHeartbeats 4000000 in
theorem rOne12_any {v : Value} {names : List ByteArray} {up : List Nat} (o x a y b : Int) (w : World) (h : IsLat w w.heap.size v names up) (ho : isLab up o = true) (ha : isLab up a = true) :
    Calls Try.prog 39 #[v, .int .i64 o, .int .i64 x, .int .i64 a, .int .i64 y, .int .i64 b] w (Tells w (decide (Ev.seenA (Ev.viewL up o) ⟨x, a⟩ = Ev.seenA (Ev.viewL up o) ⟨y, b⟩))) := by
  have hc := fun W (hb : Below w.heap.size w W) => rSees12_any o a W ((h.below hb).more hb.size) ho ha
  have hd : decide (Ev.seenA (Ev.viewL up o) ⟨x, a⟩ = Ev.seenA (Ev.viewL up o) ⟨y, b⟩) = (decide (a = b) && (!Ev.at_ (Ev.viewL up o) a || decide (x = y))) := by
    rw [Bool.eq_iff_iff, decide_eq_true_eq, Ev.seenA_eq]
    simp
  rw [hd]
  obtain ⟨⟨N, U, c1, c2, rfl, -, -⟩, -, -, -⟩ := h
  have hb0 := (Below.refl w.heap.size w).alloc (Nat.le_refl _) (.cells #[.slice N names.length c1, .slice U up.length c2] 25)
  have HC := Lib.hid (hc _ hb0)
  have HB := Lib.hid hb0
  clear hc hb0 hd ho ha
  generalize Ev.at_ (Ev.viewL up o) a = s at *
  by_cases hab : a = b
  · have hab1 : (a == b) = true := by rw [beq_iff_eq]; exact hab
    rw [decide_eq_true hab]
    by_cases hxy : x = y
    · have hxy1 : (x == y) = true := by rw [beq_iff_eq]; exact hxy
      rw [decide_eq_true hxy]
      clear hab hxy
      cases s
      all_goals
        go_enter Try.func39, Try.ntmps39
        go_wp2_with (fail)
        refine HC.out.mono ?_
        rintro e w1 ⟨rfl, hb1⟩
        have HB1 := Lib.hid (HB.out.trans (hb1.mono HB.out.size))
        clear hb1
        go_wp2
        go_ret
        exact ⟨rfl, HB1.out⟩
    · have hxy1 : (x == y) = false := by rw [beq_eq_false_iff_ne]; exact hxy
      rw [decide_eq_false hxy]
      clear hab hxy
      cases s
      all_goals
        go_enter Try.func39, Try.ntmps39
        go_wp2_with (fail)
        refine HC.out.mono ?_
        rintro e w1 ⟨rfl, hb1⟩
        have HB1 := Lib.hid (HB.out.trans (hb1.mono HB.out.size))
        clear hb1
        go_wp2
        go_ret
        exact ⟨rfl, HB1.out⟩
  · have hab1 : (a == b) = false := by rw [beq_eq_false_iff_ne]; exact hab
    rw [decide_eq_false hab]
    clear hab
    go_enter Try.func39, Try.ntmps39
    go_wp2
    go_ret
    exact ⟨rfl, HB.out⟩
/-- The head of the reference's rounds: the lattice's box, and what is below. -/
structure RH (w : World) (x0 x1 : Value) (W : World) : Prop where
  box : Blk W w.heap.size 25 #[x0, x1]
  below : Below w.heap.size w W
theorem RH.start (w : World) (x0 x1 : Value) : RH w x0 x1 (w.alloc (.cells #[x0, x1] 25)) := ⟨Blk.new _ _ _, (Below.refl _ w).alloc (Nat.le_refl _) _⟩
theorem RH.next {w : World} {x0 x1 : Value} {W W' : World} (h : RH w x0 x1 W) (hb : Below W.heap.size W W') : RH w x0 x1 W' := ⟨h.box.below hb h.box.lt, h.below.trans (hb.mono h.below.size)⟩
theorem neq_len {n m : Nat} (h : n ≠ m) : ((n : Int) != (m : Int)) = true := by rw [bne_iff_ne]; omega
theorem eq_len (n : Nat) : ((n : Int) != (n : Int)) = false := by rw [bne_eq_false_iff_eq]
set_option maxHeartbeats 8000000 in
theorem rAtoms12_any {v : Value} {names : List ByteArray} {up : List Nat} {B D : Option Addr} {a b : List St.Atom} (o : Int) (ca cb : Nat) (w : World) (h : IsLat w w.heap.size v names up) (ho : isLab up o = true) (ha : Row w w.heap.size B (fcells avs a)) (hb : Row w w.heap.size D (fcells avs b)) (hla : ∀ x ∈ a, isLab up x.l = true) (hn : a.length ≤ 100000) :
    Calls Try.prog 14 #[v, .int .i64 o, .slice B a.length ca, .slice D b.length cb] w (Tells w (Ev.alike (Ev.seenA (Ev.viewL up o)) a b)) := by
  by_cases hl : a.length = b.length
  · obtain ⟨res, hres⟩ : ∃ res, Ev.alike (Ev.seenA (Ev.viewL up o)) a b = res := ⟨_, rfl⟩
    rw [hres]
    obtain ⟨n, hna⟩ : ∃ n, a.length = n := ⟨_, rfl⟩
    have hnb : b.length = n := by omega
    have hc := fun x ax y by_ W (hW : Below w.heap.size w W) hax => rOne12_any (names := names) (up := up) (v := v) o x ax y by_ W ((h.below hW).more hW.size) ho hax
    obtain ⟨⟨N, U, c1, c2, rfl, -, -⟩, -, -, -⟩ := h
    have HC := Lib.hid hc
    have HRES := Lib.hid hres
    have H := Lib.hid ha
    have H' := Lib.hid hb
    have HLA := Lib.hid hla
    have HNA := Lib.hid hna
    have HNB := Lib.hid hnb
    have HRH := Lib.hid (RH.start w (.slice N names.length c1) (.slice U up.length c2))
    have hn9 : n ≤ 100000 := by omega
    have hnn := eq_len n
    rw [hna, hnb]
    clear hres ha hb hla hna hnb hn hl hc ho
    go_enter Try.func14, Try.ntmps14
    go_wp2
    go_loopw [17] (fun i wr => ∃ k : Nat, k ≤ n ∧ i = .int .i64 k ∧ Hid ((a.take k).map (Ev.seenA (Ev.viewL up o)) = (b.take k).map (Ev.seenA (Ev.viewL up o))) ∧ Hid (RH w (.slice N names.length c1) (.slice U up.length c2) wr)) (fun i _ => n - (intOf i).toNat)
    case atStart => exact ⟨0, Nat.zero_le _, rfl, Lib.hid rfl, HRH⟩
    case round =>
      clear HRH
      obtain ⟨k, hk, rfl, HT, HR⟩ := hrel
      have HB := Lib.hid HR.out.below
      by_cases hlt : k < n
      · obtain ⟨ad, x, rfl, hxb, hx, x0, x1⟩ := arow_at (H.out.below HB.out) (show k < a.length by rw [HNA.out]; exact hlt)
        obtain ⟨bd, y, rfl, hyb, hy, y0, y1⟩ := arow_at (H'.out.below HB.out) (show k < b.length by rw [HNB.out]; exact hlt)
        have hz := HB.out.size
        have hxb2 : (ad.add (k * 2)).block < wr.heap.size := by rw [add_block]; omega
        have hyb2 : (bd.add (k * 2)).block < wr.heap.size := by rw [add_block]; omega
        have hcall := fun W hW => HC.out x.v x.l y.v y.l W hW (HLA.out x (List.mem_of_getElem? hx))
        have hnx := Ev.take_map_succ (f := Ev.seenA (Ev.viewL up o)) hx hy HT.out
        obtain ⟨s, hs⟩ : ∃ s, decide (Ev.seenA (Ev.viewL up o) x = Ev.seenA (Ev.viewL up o) y) = s := ⟨_, rfl⟩
        rw [show (⟨x.v, x.l⟩ : St.Atom) = x from rfl, show (⟨y.v, y.l⟩ : St.Atom) = y from rfl, hs] at hcall
        have HCALL := Lib.hid (fun W (hW : Below wr.heap.size wr W) => hcall W (HB.out.trans (hW.mono hz)))
        have HNX := Lib.hid hnx
        have HS := Lib.hid hs
        have l0 : wr.cell? ⟨w.heap.size, 0, none⟩ = some (.slice N names.length c1) := HR.out.box.cell 0
        have l1 : wr.cell? ⟨w.heap.size, 1, none⟩ = some (.slice U up.length c2) := HR.out.box.cell 1
        have hltI : (k : Int) < (n : Int) := by omega
        clear hx hy hcall hnx hs
        generalize x.v = xv at *
        generalize x.l = xl at *
        generalize y.v = yv at *
        generalize y.l = yl at *
        have r0 := fun d os => cell_regrown x0 d os
        have r1 := fun d os => cell_regrown x1 d os
        have r2 := fun d os => cell_regrown y0 d os
        have r3 := fun d os => cell_regrown y1 d os
        have r4 := fun d os => cell_regrown l0 d os
        have r5 := fun d os => cell_regrown l1 d os
        go_wp2
        refine wp_region_quiet_below (by kernel_rfl) (by kernel_rfl) ?_
        repeat (quiet_step ((go_at_call 39; with_reducible exact Calls.regrown_of (HCALL.out _ (below_regrown _ _ _)))))
        refine wpQuiet_nil ?_
        rintro _ ⟨⟨d9, os9⟩, rfl⟩
        have HR9 := Lib.hid (HR.out.next (below_regrown wr d9 os9))
        clear r0 r1 r2 r3 r4 r5 x0 x1 y0 y1 l0 l1
        generalize grow (redrawn wr d9) os9 = w9 at *
        cases s
        · have hff : res = false := by
            rw [← HRES.out]
            exact Ev.alike_no (k := k + 1) fun e => of_decide_eq_false HS.out (HNX.out.1 e)
          have HFF := Lib.hid hff
          clear hff
          go_wp2
          go_ret
          exact ⟨by rw [HFF.out]; rfl, HR9.out.below⟩
        · have HN2 := Lib.hid (HNX.out.2 (of_decide_eq_true HS.out))
          go_wp2
          go_roundw
          case rel => exact ⟨k + 1, by omega, by go_num, HN2, HR9⟩
          case measure => simp [intOf]; omega
      · obtain rfl : n = k := by omega
        have htt : res = true := by
          rw [← HRES.out]
          exact Ev.alike_all HNA.out HNB.out HT.out
        have HTT := Lib.hid htt
        clear htt
        go_wp2
        go_ret
        exact ⟨by rw [HTT.out]; rfl, HB.out⟩
  · rw [Ev.alike_len hl]
    have h1 := neq_len hl
    generalize a.length = n at *
    generalize b.length = m at *
    obtain ⟨⟨N, U, c1, c2, rfl, -, -⟩, -, -, -⟩ := h
    clear ha hb hla
    go_enter Try.func14, Try.ntmps14
    go_wp2
    go_ret
    exact ⟨rfl, (Below.refl _ w).alloc (Nat.le_refl _) _⟩
end Go.Proofs.Ytlddglhjpiahfaa

/- The reference of layer 12: Stacks, Codes. -/
namespace Go.Proofs.Ytlddglhjpiahfaa
set_option maxRecDepth 100000
open Go.RowKit Go.Shelf Go.Sort
attribute [local go_sem] Oper.semAt_some
set_option maxHeartbeats 8000000 in
theorem rStacks12_any {v : Value} {names : List ByteArray} {up : List Nat} {B D : Option Addr} {a b : List St.Slot} (o : Int) (ca cb : Nat) (w : World) (h : IsLat w w.heap.size v names up) (ho : isLab up o = true) (ha : Row w w.heap.size B (fcells svs a)) (hb : Row w w.heap.size D (fcells svs b)) (hla : ∀ x ∈ a, isLab up x.l = true) (hn : a.length ≤ 100000) :
    Calls Try.prog 16 #[v, .int .i64 o, .slice B a.length ca, .slice D b.length cb] w (Tells w (Ev.alike (Ev.seenS (Ev.viewL up o)) a b)) := by
  by_cases hl : a.length = b.length
  · obtain ⟨res, hres⟩ : ∃ res, Ev.alike (Ev.seenS (Ev.viewL up o)) a b = res := ⟨_, rfl⟩
    rw [hres]
    obtain ⟨n, hna⟩ : ∃ n, a.length = n := ⟨_, rfl⟩
    have hnb : b.length = n := by omega
    have hc := fun x ax y by_ W (hW : Below w.heap.size w W) hax => rOne12_any (names := names) (up := up) (v := v) o x ax y by_ W ((h.below hW).more hW.size) ho hax
    obtain ⟨⟨N, U, c1, c2, rfl, -, -⟩, -, -, -⟩ := h
    have HC := Lib.hid hc
    have HRES := Lib.hid hres
    have H := Lib.hid ha
    have H' := Lib.hid hb
    have HLA := Lib.hid hla
    have HNA := Lib.hid hna
    have HNB := Lib.hid hnb
    have HRH := Lib.hid (RH.start w (.slice N names.length c1) (.slice U up.length c2))
    have hn9 : n ≤ 100000 := by omega
    have hnn := eq_len n
    rw [hna, hnb]
    clear hres ha hb hla hna hnb hn hl hc ho
    go_enter Try.func16, Try.ntmps16
    go_wp2
    go_loopw [17] (fun i wr => ∃ k : Nat, k ≤ n ∧ i = .int .i64 k ∧ Hid ((a.take k).map (Ev.seenS (Ev.viewL up o)) = (b.take k).map (Ev.seenS (Ev.viewL up o))) ∧ Hid (RH w (.slice N names.length c1) (.slice U up.length c2) wr)) (fun i _ => n - (intOf i).toNat)
    case atStart => exact ⟨0, Nat.zero_le _, rfl, Lib.hid rfl, HRH⟩
    case round =>
      clear HRH
      obtain ⟨k, hk, rfl, HT, HR⟩ := hrel
      have HB := Lib.hid HR.out.below
      by_cases hlt : k < n
      · obtain ⟨ad, x, rfl, hxb, hx, x0, x1, x2⟩ := srow_at (H.out.below HB.out) (show k < a.length by rw [HNA.out]; exact hlt)
        obtain ⟨bd, y, rfl, hyb, hy, y0, y1, y2⟩ := srow_at (H'.out.below HB.out) (show k < b.length by rw [HNB.out]; exact hlt)
        have hz := HB.out.size
        have hxb2 : (ad.add (k * 3)).block < wr.heap.size := by rw [add_block]; omega
        have hyb2 : (bd.add (k * 3)).block < wr.heap.size := by rw [add_block]; omega
        have hcall := fun W hW => HC.out x.v x.l y.v y.l W hW (HLA.out x (List.mem_of_getElem? hx))
        obtain ⟨q, hq⟩ : ∃ q, decide (Ev.seenA (Ev.viewL up o) ⟨x.v, x.l⟩ = Ev.seenA (Ev.viewL up o) ⟨y.v, y.l⟩) = q := ⟨_, rfl⟩
        have hsq : decide (Ev.seenS (Ev.viewL up o) x = Ev.seenS (Ev.viewL up o) y) = (decide (x.ret = y.ret) && q) := by
          rw [← hq, Bool.eq_iff_iff, decide_eq_true_eq, Ev.seenS_eq, Bool.and_eq_true, decide_eq_true_eq, decide_eq_true_eq, Ev.seenA_eq]
        have hnx := Ev.take_map_succ (f := Ev.seenS (Ev.viewL up o)) hx hy HT.out
        obtain ⟨s, hs⟩ : ∃ s, decide (Ev.seenS (Ev.viewL up o) x = Ev.seenS (Ev.viewL up o) y) = s := ⟨_, rfl⟩
        rw [hq] at hcall
        rw [hs] at hsq
        have HSQ := Lib.hid hsq
        have HCALL := Lib.hid (fun W (hW : Below wr.heap.size wr W) => hcall W (HB.out.trans (hW.mono hz)))
        have HNX := Lib.hid hnx
        have HS := Lib.hid hs
        have l0 : wr.cell? ⟨w.heap.size, 0, none⟩ = some (.slice N names.length c1) := HR.out.box.cell 0
        have l1 : wr.cell? ⟨w.heap.size, 1, none⟩ = some (.slice U up.length c2) := HR.out.box.cell 1
        have hltI : (k : Int) < (n : Int) := by omega
        clear hx hy hcall hnx hs hsq hq
        generalize x.ret = xr at *
        generalize y.ret = yr at *
        generalize x.v = xv at *
        generalize x.l = xl at *
        generalize y.v = yv at *
        generalize y.l = yl at *
        have r0 := fun d os => cell_regrown x0 d os
        have r1 := fun d os => cell_regrown x1 d os
        have r2 := fun d os => cell_regrown y0 d os
        have r3 := fun d os => cell_regrown y1 d os
        have r6 := fun d os => cell_regrown x2 d os
        have r7 := fun d os => cell_regrown y2 d os
        have r4 := fun d os => cell_regrown l0 d os
        have r5 := fun d os => cell_regrown l1 d os
        have hsv := HSQ.out
        clear HSQ
        cases xr <;> cases yr
        · cases q
          · have HSV : Hid (s = false) := Lib.hid hsv
            clear hsv
            go_wp2
            refine wp_region_quiet_below (by kernel_rfl) (by kernel_rfl) ?_
            refine quiet_hideE fun ops hops => ?_
            have hy11 : (ops[11]?.bind fun x => x.dst) = some 31 := by rw [hops]; rfl
            clear hops
            repeat (quiet_step ((go_at_call 39; with_reducible exact Calls.regrown_of (HCALL.out _ (below_regrown _ _ _)))))
            refine wpQuiet_nil ?_
            rintro _ ⟨⟨d9, os9⟩, rfl⟩
            have HR9 := Lib.hid (HR.out.next (below_regrown wr d9 os9))
            clear r0 r1 r2 r3 r4 r5 r6 r7 x0 x1 x2 y0 y1 y2 l0 l1
            generalize grow (redrawn wr d9) os9 = w9 at *
            have hff : res = false := by
              rw [← HRES.out]
              exact Ev.alike_no (k := k + 1) fun e => of_decide_eq_false (HS.out.trans HSV.out) (HNX.out.1 e)
            have HFF := Lib.hid hff
            clear hff
            go_wp2
            go_ret
            exact ⟨by rw [HFF.out]; rfl, HR9.out.below⟩
          · have HSV : Hid (s = true) := Lib.hid hsv
            clear hsv
            go_wp2
            refine wp_region_quiet_below (by kernel_rfl) (by kernel_rfl) ?_
            refine quiet_hideE fun ops hops => ?_
            have hy11 : (ops[11]?.bind fun x => x.dst) = some 31 := by rw [hops]; rfl
            clear hops
            repeat (quiet_step ((go_at_call 39; with_reducible exact Calls.regrown_of (HCALL.out _ (below_regrown _ _ _)))))
            refine wpQuiet_nil ?_
            rintro _ ⟨⟨d9, os9⟩, rfl⟩
            have HR9 := Lib.hid (HR.out.next (below_regrown wr d9 os9))
            clear r0 r1 r2 r3 r4 r5 r6 r7 x0 x1 x2 y0 y1 y2 l0 l1
            generalize grow (redrawn wr d9) os9 = w9 at *
            have HN2 := Lib.hid (HNX.out.2 (of_decide_eq_true (HS.out.trans HSV.out)))
            go_wp2
            go_roundw
            case rel => exact ⟨k + 1, by omega, by go_num, HN2, HR9⟩
            case measure => simp [intOf]; omega
        · have HSV : Hid (s = false) := Lib.hid hsv
          clear hsv
          go_wp2
          refine wp_region_quiet_below (by kernel_rfl) (by kernel_rfl) ?_
          refine quiet_hideE fun ops hops => ?_
          have hy11 : (ops[11]?.bind fun x => x.dst) = some 31 := by rw [hops]; rfl
          clear hops
          repeat (quiet_step ((go_at_call 39; with_reducible exact Calls.regrown_of (HCALL.out _ (below_regrown _ _ _)))))
          refine wpQuiet_nil ?_
          rintro _ ⟨⟨d9, os9⟩, rfl⟩
          have HR9 := Lib.hid (HR.out.next (below_regrown wr d9 os9))
          clear r0 r1 r2 r3 r4 r5 r6 r7 x0 x1 x2 y0 y1 y2 l0 l1
          generalize grow (redrawn wr d9) os9 = w9 at *
          have hff : res = false := by
            rw [← HRES.out]
            exact Ev.alike_no (k := k + 1) fun e => of_decide_eq_false (HS.out.trans HSV.out) (HNX.out.1 e)
          have HFF := Lib.hid hff
          clear hff
          go_wp2
          go_ret
          exact ⟨by rw [HFF.out]; rfl, HR9.out.below⟩
        · have HSV : Hid (s = false) := Lib.hid hsv
          clear hsv
          go_wp2
          refine wp_region_quiet_below (by kernel_rfl) (by kernel_rfl) ?_
          refine quiet_hideE fun ops hops => ?_
          have hy11 : (ops[11]?.bind fun x => x.dst) = some 31 := by rw [hops]; rfl
          clear hops
          repeat (quiet_step ((go_at_call 39; with_reducible exact Calls.regrown_of (HCALL.out _ (below_regrown _ _ _)))))
          refine wpQuiet_nil ?_
          rintro _ ⟨⟨d9, os9⟩, rfl⟩
          have HR9 := Lib.hid (HR.out.next (below_regrown wr d9 os9))
          clear r0 r1 r2 r3 r4 r5 r6 r7 x0 x1 x2 y0 y1 y2 l0 l1
          generalize grow (redrawn wr d9) os9 = w9 at *
          have hff : res = false := by
            rw [← HRES.out]
            exact Ev.alike_no (k := k + 1) fun e => of_decide_eq_false (HS.out.trans HSV.out) (HNX.out.1 e)
          have HFF := Lib.hid hff
          clear hff
          go_wp2
          go_ret
          exact ⟨by rw [HFF.out]; rfl, HR9.out.below⟩
        · cases q
          · have HSV : Hid (s = false) := Lib.hid hsv
            clear hsv
            go_wp2
            refine wp_region_quiet_below (by kernel_rfl) (by kernel_rfl) ?_
            refine quiet_hideE fun ops hops => ?_
            have hy11 : (ops[11]?.bind fun x => x.dst) = some 31 := by rw [hops]; rfl
            clear hops
            repeat (quiet_step ((go_at_call 39; with_reducible exact Calls.regrown_of (HCALL.out _ (below_regrown _ _ _)))))
            refine wpQuiet_nil ?_
            rintro _ ⟨⟨d9, os9⟩, rfl⟩
            have HR9 := Lib.hid (HR.out.next (below_regrown wr d9 os9))
            clear r0 r1 r2 r3 r4 r5 r6 r7 x0 x1 x2 y0 y1 y2 l0 l1
            generalize grow (redrawn wr d9) os9 = w9 at *
            have hff : res = false := by
              rw [← HRES.out]
              exact Ev.alike_no (k := k + 1) fun e => of_decide_eq_false (HS.out.trans HSV.out) (HNX.out.1 e)
            have HFF := Lib.hid hff
            clear hff
            go_wp2
            go_ret
            exact ⟨by rw [HFF.out]; rfl, HR9.out.below⟩
          · have HSV : Hid (s = true) := Lib.hid hsv
            clear hsv
            go_wp2
            refine wp_region_quiet_below (by kernel_rfl) (by kernel_rfl) ?_
            refine quiet_hideE fun ops hops => ?_
            have hy11 : (ops[11]?.bind fun x => x.dst) = some 31 := by rw [hops]; rfl
            clear hops
            repeat (quiet_step ((go_at_call 39; with_reducible exact Calls.regrown_of (HCALL.out _ (below_regrown _ _ _)))))
            refine wpQuiet_nil ?_
            rintro _ ⟨⟨d9, os9⟩, rfl⟩
            have HR9 := Lib.hid (HR.out.next (below_regrown wr d9 os9))
            clear r0 r1 r2 r3 r4 r5 r6 r7 x0 x1 x2 y0 y1 y2 l0 l1
            generalize grow (redrawn wr d9) os9 = w9 at *
            have HN2 := Lib.hid (HNX.out.2 (of_decide_eq_true (HS.out.trans HSV.out)))
            go_wp2
            go_roundw
            case rel => exact ⟨k + 1, by omega, by go_num, HN2, HR9⟩
            case measure => simp [intOf]; omega
      · obtain rfl : n = k := by omega
        have htt : res = true := by
          rw [← HRES.out]
          exact Ev.alike_all HNA.out HNB.out HT.out
        have HTT := Lib.hid htt
        clear htt
        go_wp2
        go_ret
        exact ⟨by rw [HTT.out]; rfl, HB.out⟩
  · rw [Ev.alike_len hl]
    have h1 := neq_len hl
    generalize a.length = n at *
    generalize b.length = m at *
    obtain ⟨⟨N, U, c1, c2, rfl, -, -⟩, -, -, -⟩ := h
    clear ha hb hla
    go_enter Try.func16, Try.ntmps16
    go_wp2
    go_ret
    exact ⟨rfl, (Below.refl _ w).alloc (Nat.le_refl _) _⟩
set_option maxHeartbeats 8000000 in
theorem rCodes12_any {v : Value} {names : List ByteArray} {up : List Nat} {B D : Option Addr} {a b : List Cd.In} (o : Int) (ca cb : Nat) (w : World) (h : IsLat w w.heap.size v names up) (ho : isLab up o = true) (ha : Row w w.heap.size B (icells a)) (hb : Row w w.heap.size D (icells b)) (hla : ∀ x ∈ a, isLab up x.l = true) (hn : a.length ≤ 100000) :
    Calls Try.prog 15 #[v, .int .i64 o, .slice B a.length ca, .slice D b.length cb] w (Tells w (Ev.alike (Ev.seenI (Ev.viewL up o)) a b)) := by
  by_cases hl : a.length = b.length
  · obtain ⟨res, hres⟩ : ∃ res, Ev.alike (Ev.seenI (Ev.viewL up o)) a b = res := ⟨_, rfl⟩
    rw [hres]
    obtain ⟨n, hna⟩ : ∃ n, a.length = n := ⟨_, rfl⟩
    have hnb : b.length = n := by omega
    have hc := fun ax W (hW : Below w.heap.size w W) hax => rSees12_any (names := names) (up := up) (v := v) o ax W ((h.below hW).more hW.size) ho hax
    obtain ⟨⟨N, U, c1, c2, rfl, -, -⟩, -, -, -⟩ := h
    have HC := Lib.hid hc
    have HRES := Lib.hid hres
    have H := Lib.hid ha
    have H' := Lib.hid hb
    have HLA := Lib.hid hla
    have HNA := Lib.hid hna
    have HNB := Lib.hid hnb
    have HRH := Lib.hid (RH.start w (.slice N names.length c1) (.slice U up.length c2))
    have hn9 : n ≤ 100000 := by omega
    have hnn := eq_len n
    rw [hna, hnb]
    clear hres ha hb hla hna hnb hn hl hc ho
    go_enter Try.func15, Try.ntmps15
    go_wp2
    go_loopw [19] (fun i wr => ∃ k : Nat, k ≤ n ∧ i = .int .i64 k ∧ Hid ((a.take k).map (Ev.seenI (Ev.viewL up o)) = (b.take k).map (Ev.seenI (Ev.viewL up o))) ∧ Hid (RH w (.slice N names.length c1) (.slice U up.length c2) wr)) (fun i _ => n - (intOf i).toNat)
    case atStart => exact ⟨0, Nat.zero_le _, rfl, Lib.hid rfl, HRH⟩
    case round =>
      clear HRH
      obtain ⟨k, hk, rfl, HT, HR⟩ := hrel
      have HB := Lib.hid HR.out.below
      by_cases hlt : k < n
      · obtain ⟨ad, x, rfl, hxb, hx, x0, x1, x2⟩ := inrow_at (H.out.below HB.out) (show k < a.length by rw [HNA.out]; exact hlt)
        obtain ⟨bd, y, rfl, hyb, hy, y0, y1, y2⟩ := inrow_at (H'.out.below HB.out) (show k < b.length by rw [HNB.out]; exact hlt)
        have hz := HB.out.size
        have hxb2 : (ad.add (k * 3)).block < wr.heap.size := by rw [add_block]; omega
        have hyb2 : (bd.add (k * 3)).block < wr.heap.size := by rw [add_block]; omega
        have hcall := fun W hW => HC.out x.l W hW (HLA.out x (List.mem_of_getElem? hx))
        have hnx := Ev.take_map_succ (f := Ev.seenI (Ev.viewL up o)) hx hy HT.out
        have hse := Ev.seenI_eq (Ev.viewL up o) x y
        obtain ⟨q, hq⟩ : ∃ q, Ev.at_ (Ev.viewL up o) x.l = q := ⟨_, rfl⟩
        rw [hq] at hcall hse
        have hba := (HB.out.alloc hz (.cells #[.int .i64 x.op, .int .i64 x.n, .int .i64 x.l] 67)).alloc (by simp; omega) (.cells #[.int .i64 y.op, .int .i64 y.n, .int .i64 y.l] 67)
        have hbr := ((Below.refl wr.heap.size wr).alloc (Nat.le_refl _) (.cells #[.int .i64 x.op, .int .i64 x.n, .int .i64 x.l] 67)).alloc (by simp) (.cells #[.int .i64 y.op, .int .i64 y.n, .int .i64 y.l] 67)
        have HCALL := Lib.hid (hcall _ hba)
        have HRA := Lib.hid (HR.out.next hbr)
        have HNX := Lib.hid hnx
        have HSE := Lib.hid hse
        have l0 : wr.cell? ⟨w.heap.size, 0, none⟩ = some (.slice N names.length c1) := HR.out.box.cell 0
        have l1 : wr.cell? ⟨w.heap.size, 1, none⟩ = some (.slice U up.length c2) := HR.out.box.cell 1
        have hwlt : w.heap.size < wr.heap.size := HR.out.box.lt
        clear hx hy hcall hnx hse hba hbr hq HT HB
        have key : ∀ s : Bool, (Ev.seenI (Ev.viewL up o) x = Ev.seenI (Ev.viewL up o) y ↔ s = true) → Hid (if s then (a.take (k + 1)).map (Ev.seenI (Ev.viewL up o)) = (b.take (k + 1)).map (Ev.seenI (Ev.viewL up o)) else res = false) := fun s hs => Lib.hid (by
          cases s
          · simp only [Bool.false_eq_true, if_false]
            rw [← HRES.out]
            exact Ev.alike_no (k := k + 1) fun e => by have := hs.1 (HNX.out.1 e); cases this
          · simp only [if_true]
            exact HNX.out.2 (hs.2 rfl))
        have HKEY := Lib.hid key
        clear key HNX
        generalize hx1 : x.op = xo at *
        generalize hx2 : x.n = xn at *
        generalize hx3 : x.l = xl at *
        generalize hy1 : y.op = yo at *
        generalize hy2 : y.n = yn at *
        generalize hy3 : y.l = yl at *
        clear hx1 hx2 hx3 hy1 hy2 hy3
        by_cases e1 : xo = yo
        · by_cases e2 : xl = yl
          · by_cases e3 : xn = yn
            · have f1 : (xo != yo) = false := by rw [bne_eq_false_iff_eq]; exact e1
              have f2 : (xl != yl) = false := by rw [bne_eq_false_iff_eq]; exact e2
              have f3 : (xn != yn) = false := by rw [bne_eq_false_iff_eq]; exact e3
              have HGO := HKEY.out true ⟨fun _ => rfl, fun _ => HSE.out.2 ⟨e1, e2, .inl e3⟩⟩
              clear e1 e2 e3 HKEY HSE
              go_wp2
              go_roundw
              case rel => exact ⟨k + 1, by omega, by go_num, Lib.hid (by have := HGO.out; simpa using this), HRA⟩
              case measure => simp [intOf]; omega
            · have f1 : (xo != yo) = false := by rw [bne_eq_false_iff_eq]; exact e1
              have f2 : (xl != yl) = false := by rw [bne_eq_false_iff_eq]; exact e2
              have f3 : (xn != yn) = true := by rw [bne_iff_ne]; exact e3
              by_cases e4 : xo = 1
              · have f4 : (xo != 1) = false := by rw [bne_eq_false_iff_eq]; exact e4
                have hk2 := HKEY.out (!q) (by
                  rw [HSE.out]
                  cases q
                  · exact ⟨fun _ => rfl, fun _ => ⟨e1, e2, .inr ⟨e4, rfl⟩⟩⟩
                  · exact ⟨fun h => (h.2.2.elim (fun h => absurd h e3) (fun h => absurd h.2 (by decide))), fun h => absurd h (by decide)⟩)
                have HK2 := Lib.hid hk2
                clear e1 e2 e3 e4 HKEY HSE hk2
                go_wp2_with (fail)
                refine HCALL.out.mono ?_
                rintro e w5 ⟨rfl, hb5⟩
                have HR5 := Lib.hid (HRA.out.next hb5)
                clear hb5 l0 l1 x0 x1 x2 y0 y1 y2
                cases q
                · have HGO := HK2.out
                  clear HK2
                  go_wp2
                  go_roundw
                  case rel => exact ⟨k + 1, by omega, by go_num, Lib.hid (by have := HGO.out; simpa using this), HR5⟩
                  case measure => simp [intOf]; omega
                · have hff : res = false := by have := HK2.out.out; simpa using this
                  have HFF := Lib.hid hff
                  clear hff HK2
                  go_wp2
                  go_ret
                  exact ⟨by rw [HFF.out]; rfl, HR5.out.below⟩
              · have f4 : (xo != 1) = true := by rw [bne_iff_ne]; exact e4
                have hff : res = false := by
                  have := (HKEY.out false (by rw [HSE.out]; simp [e3, e4])).out
                  simpa using this
                have HFF := Lib.hid hff
                clear e1 e2 e3 e4 HKEY HSE hff
                go_wp2
                go_ret
                exact ⟨by rw [HFF.out]; rfl, HRA.out.below⟩
          · have f1 : (xo != yo) = false := by rw [bne_eq_false_iff_eq]; exact e1
            have f2 : (xl != yl) = true := by rw [bne_iff_ne]; exact e2
            have hff : res = false := by
              have := (HKEY.out false (by rw [HSE.out]; simp [e2])).out
              simpa using this
            have HFF := Lib.hid hff
            clear e1 e2 HKEY HSE hff
            go_wp2
            go_ret
            exact ⟨by rw [HFF.out]; rfl, HRA.out.below⟩
        · have f1 : (xo != yo) = true := by rw [bne_iff_ne]; exact e1
          have hff : res = false := by
            have := (HKEY.out false (by rw [HSE.out]; simp [e1])).out
            simpa using this
          have HFF := Lib.hid hff
          clear e1 HKEY HSE hff
          go_wp2
          go_ret
          exact ⟨by rw [HFF.out]; rfl, HRA.out.below⟩
      · obtain rfl : n = k := by omega
        have htt : res = true := by
          rw [← HRES.out]
          exact Ev.alike_all HNA.out HNB.out HT.out
        have HTT := Lib.hid htt
        clear htt
        go_wp2
        go_ret
        exact ⟨by rw [HTT.out]; rfl, HB.out⟩
  · rw [Ev.alike_len hl]
    have h1 := neq_len hl
    generalize a.length = n at *
    generalize b.length = m at *
    obtain ⟨⟨N, U, c1, c2, rfl, -, -⟩, -, -, -⟩ := h
    clear ha hb hla
    go_enter Try.func15, Try.ntmps15
    go_wp2
    go_ret
    exact ⟨rfl, (Below.refl _ w).alloc (Nat.le_refl _) _⟩
end Go.Proofs.Ytlddglhjpiahfaa

/- The reference of layer 12: Seen, Outs, Crop. -/
namespace Go.Proofs.Ytlddglhjpiahfaa
set_option maxRecDepth 100000
open Go.RowKit Go.Shelf Go.Sort
attribute [local go_sem] Oper.semAt_some
set_option maxHeartbeats 8000000 in
theorem rSeen12_any {v : Value} {names : List ByteArray} {up : List Nat} {B : Option Addr} {a : List St.Atom} (o : Int) (ca : Nat) (w : World) (h : IsLat w w.heap.size v names up) (ho : isLab up o = true) (ha : Row w w.heap.size B (fcells avs a)) (hla : ∀ x ∈ a, isLab up x.l = true) (hn : a.length ≤ 100000) :
    Calls Try.prog 38 #[v, .int .i64 o, .slice B a.length ca] w (GotAtoms w (Ev.pub (Ev.viewL up o) a)) := by
  obtain ⟨i0, hi, hz0, hz1, hz2⟩ := info_parts Try.infoAtomE
  have hc := fun ax W (hW : Below w.heap.size w W) hax => rSees12_any (names := names) (up := up) (v := v) o ax W ((h.below hW).more hW.size) ho hax
  obtain ⟨⟨N, U, c1, c2, rfl, -, -⟩, -, -, -⟩ := h
  obtain ⟨n, hna⟩ : ∃ n, a.length = n := ⟨_, rfl⟩
  rw [hna]
  have hn9 : n ≤ 100000 := by omega
  have hr0 := (RH.start w (.slice N names.length c1) (.slice U up.length c2))
  obtain ⟨W0, hW0⟩ : ∃ W0, w.alloc (.cells #[.slice N names.length c1, .slice U up.length c2] 25) = W0 := ⟨_, rfl⟩
  have hs0 : W0.heap.size = w.heap.size + 1 := by rw [← hW0]; simp
  rw [hW0] at hr0
  have hr1 := hr0.next ((Below.refl _ W0).alloc (Nat.le_refl _) (.cells #[] 27))
  have hown0 := own_emptyK W0 27 2
  rw [hs0] at hown0
  have HR0 := Lib.hid hr1
  have HO0 := Lib.hid hown0
  have HS0 := Lib.hid hs0
  have HC := Lib.hid hc
  have H := Lib.hid ha
  have HLA := Lib.hid hla
  have HNA := Lib.hid hna
  generalize Ev.viewL up o = vw at *
  clear ha hla hna hn hc ho hr0 hr1 hown0 hs0
  go_enter Try.func38, Try.ntmps38
  go_wp2
  go_loopw [7, 13] (fun r i wr => ∃ k m : Nat, k ≤ n ∧ m ≤ k ∧ i = .int .i64 k ∧ Hid ((Ev.pub vw (a.take k)).length = m) ∧ Hid (wr.ownsRow (w.heap.size + 1) 27 2 r m (fcells avs (Ev.pub vw (a.take k)))) ∧ Hid (RH w (.slice N names.length c1) (.slice U up.length c2) wr)) (fun _ i _ => n - (intOf i).toNat)
  case atStart => exact ⟨0, 0, Nat.zero_le _, Nat.le_refl _, rfl, Lib.hid rfl, Lib.hid (by rw [HS0.out]; exact HO0.out), HR0⟩
  case round =>
    clear HR0 HO0 hW0
    obtain ⟨k, m, hk, hmk, rfl, HM, HO, HR⟩ := hrel
    obtain ⟨An, cn, rfl⟩ := ownT_slice HO.out
    by_cases hlt : k < n
    · obtain ⟨bd, x, rfl, hxb, hx, x0, x1⟩ := arow_at (H.out.below HR.out.below) (show k < a.length by rw [HNA.out]; exact hlt)
      have hps := Ev.pub_snoc vw (a.take k) x
      rw [← Ev.take_snoc hx] at hps
      obtain ⟨s, hs⟩ : ∃ s, Ev.at_ vw x.l = s := ⟨_, rfl⟩
      have hcall := fun W hW => HC.out x.l W hW (HLA.out x (List.mem_of_getElem? hx))
      have hfc : avs x = [.int .i64 x.v, .int .i64 x.l] := rfl
      rw [hs] at hps hcall
      have HPS := Lib.hid hps
      have HFC := Lib.hid hfc
      have hz := HR.out.below.size
      have hwlt : w.heap.size < wr.heap.size := HR.out.box.lt
      have hxb2 : (bd.add (k * 2)).block < wr.heap.size := by rw [add_block]; omega
      have HCALL0 := Lib.hid hcall
      clear hs hps hfc hx hcall
      generalize x.v = xv at *
      generalize x.l = xl at *
      have hal := (Below.refl wr.heap.size wr).alloc (Nat.le_refl _) (.cells #[.int .i64 xv, .int .i64 xl] 27)
      obtain ⟨Wb, hWb⟩ : ∃ Wb, wr.alloc (.cells #[.int .i64 xv, .int .i64 xl] 27) = Wb := ⟨_, rfl⟩
      have hob := HO.out.alloc (.cells #[.int .i64 xv, .int .i64 xl] 27)
      have hkb := Blk.new wr 27 #[.int .i64 xv, .int .i64 xl]
      have hrb := HR.out.next hal
      rw [hWb] at hob hkb hrb
      have z0 : Wb.cell? ⟨wr.heap.size, 0, none⟩ = some (.int .i64 xv) := hkb.cell 0
      have z1 : Wb.cell? ⟨wr.heap.size, 1, none⟩ = some (.int .i64 xl) := hkb.cell 1
      have l0 : Wb.cell? ⟨w.heap.size, 0, none⟩ = some (.slice N names.length c1) := hrb.box.cell 0
      have l1 : Wb.cell? ⟨w.heap.size, 1, none⟩ = some (.slice U up.length c2) := hrb.box.cell 1
      have HCALL := Lib.hid (HCALL0.out Wb hrb.below)
      have HRB := Lib.hid hrb
      have HOB := Lib.hid hob
      have HKB := Lib.hid hkb
      clear hal hob hkb hrb HCALL0
      go_wp2_with (fail)
      refine HCALL.out.mono ?_
      rintro e w3 ⟨rfl, hb3⟩
      have hr3 := HRB.out.next hb3
      have ho3 := ownT_below HOB.out hb3
      have hk3 := HKB.out.below hb3 HKB.out.lt
      have HR3 := Lib.hid hr3
      clear z0 z1 l0 l1 x0 x1
      have z0 : w3.cell? ⟨wr.heap.size, 0, none⟩ = some (.int .i64 xv) := hk3.cell 0
      have z1 : w3.cell? ⟨wr.heap.size, 1, none⟩ = some (.int .i64 xl) := hk3.cell 1
      cases s
      · have HO6 : Hid (w3.ownsRow (w.heap.size + 1) 27 2 (.slice An m cn) m (fcells avs (Ev.pub vw (a.take (k + 1))))) := Lib.hid (by rw [HPS.out]; exact ho3)
        have HM6 : Hid ((Ev.pub vw (a.take (k + 1))).length = m) := Lib.hid (by rw [HPS.out]; exact HM.out)
        clear hb3 hr3 ho3 hk3
        go_wp2
        go_roundw
        case rel => exact ⟨k + 1, m, by omega, by omega, by go_num, HM6, HO6, HR3⟩
        case measure => simp [intOf]; omega
      · obtain ⟨v', W5, hrun, hown5, hb5, hk5⟩ := append_runE (P := Try.prog) (w := w3.alloc (.cells #[.int .i64 xv, .int .i64 xl] 27)) (w.heap.size + 1) 29 29 27 i0 (.agg #[.int .i64 0, .int .i64 0]) 2 16 Try.underlying29 hi hz0 hz1 hz2 rfl (by decide) _ m _ (ho3.alloc _) (some ⟨w3.heap.size, 0, none⟩) 1 1 [.int .i64 xv, .int .i64 xl] rfl (two_row w3 _ _ _) (by intro u hu; simp at hu; rcases hu with rfl | rfl <;> rfl) (by unfold maxLen; omega) (by omega) (by have := hr3.box.lt; simp; omega)
        have hbox6 := hk5 _ _ _ (fun he => by have := (ho3.lt _ he.symm).1; omega) (hr3.box.alloc (.cells #[.int .i64 xv, .int .i64 xl] 27))
        have HRUN := Lib.hid hrun
        have HR6 : Hid (RH w (.slice N names.length c1) (.slice U up.length c2) W5) := Lib.hid ⟨hbox6, (hr3.below.alloc hr3.below.size (.cells #[.int .i64 xv, .int .i64 xl] 27)).trans (hb5.mono (Nat.le_succ _))⟩
        have HO6 : Hid (W5.ownsRow (w.heap.size + 1) 27 2 v' (m + 1) (fcells avs (Ev.pub vw (a.take (k + 1))))) := Lib.hid (by rw [HPS.out, if_pos rfl, fcells_snoc, HFC.out]; exact hown5)
        have HM6 : Hid ((Ev.pub vw (a.take (k + 1))).length = m + 1) := Lib.hid (by rw [HPS.out, if_pos rfl, List.length_append, HM.out]; rfl)
        clear hb3 hr3 ho3 hk3 hrun hown5 hb5 hk5 hbox6
        go_wp2_with (at_builtin; refine wpList_app_run rfl _ _ 29 29 rfl _ _ rfl rfl _ _ HRUN.out ?_)
        go_wp2
        go_roundw
        case rel => exact ⟨k + 1, m + 1, by omega, by omega, by go_num, HM6, HO6, HR6⟩
        case measure => simp [intOf]; omega
    · obtain rfl : n = k := by omega
      have hall : a.take n = a := List.take_of_length_le (by rw [HNA.out]; exact Nat.le_refl _)
      have hres := HO.out
      have hlen := HM.out
      rw [hall] at hres hlen
      have HRES := Lib.hid (ownT_row hres).1
      have HLEN := Lib.hid hlen
      clear hall hres hlen
      go_wp2
      go_ret
      exact ⟨An, cn, by rw [HLEN.out]; rfl, HRES.out, HR.out.below⟩
set_option maxHeartbeats 8000000 in
theorem rOuts12_any {v : Value} {names : List ByteArray} {up : List Nat} {B D : Option Addr} {a b : List St.Atom} (o : Int) (ca cb : Nat) (w : World) (h : IsLat w w.heap.size v names up) (ho : isLab up o = true) (ha : Row w w.heap.size B (fcells avs a)) (hb : Row w w.heap.size D (fcells avs b)) (hla : ∀ x ∈ a, isLab up x.l = true) (hlb : ∀ x ∈ b, isLab up x.l = true) (hn : a.length ≤ 1000) (hn2 : b.length ≤ 1000) :
    Calls Try.prog 13 #[v, .int .i64 o, .slice B a.length ca, .slice D b.length cb] w (Tells w (Ev.outs (Ev.viewL up o) a b)) := by
  have h1 := fun W (hW : Below w.heap.size w W) => rSeen12_any o ca W ((h.below hW).more hW.size) ho ((ha.below hW).more hW.size) hla (by omega)
  have h2 := fun W (hW : Below w.heap.size w W) => rSeen12_any o cb W ((h.below hW).more hW.size) ho ((hb.below hW).more hW.size) hlb (by omega)
  have h3 := fun (A1 A2 : Option Addr) d1 d2 W (r1 : Row W W.heap.size A1 (fcells avs (Ev.pub (Ev.viewL up o) a))) (r2 : Row W W.heap.size A2 (fcells avs (Ev.pub (Ev.viewL up o) b))) => rAtomsSame_any d1 d2 W r1 r2 (Nat.le_trans (pub_len _ a) hn) (Nat.le_trans (pub_len _ b) hn2)
  unfold GotAtoms at h1 h2
  have hout : Ev.outs (Ev.viewL up o) a b = decide (Ev.pub (Ev.viewL up o) a = Ev.pub (Ev.viewL up o) b) := rfl
  rw [hout]
  obtain ⟨⟨N, U, c1, c2, rfl, -, -⟩, -, -, -⟩ := h
  generalize Ev.pub (Ev.viewL up o) a = pa at *
  generalize Ev.pub (Ev.viewL up o) b = pb at *
  generalize decide (pa = pb) = ans at *
  have hr0 := (RH.start w (.slice N names.length c1) (.slice U up.length c2))
  obtain ⟨W0, hW0⟩ : ∃ W0, w.alloc (.cells #[.slice N names.length c1, .slice U up.length c2] 25) = W0 := ⟨_, rfl⟩
  rw [hW0] at hr0
  have H1 := Lib.hid h1
  have H2 := Lib.hid h2
  have H3 := Lib.hid h3
  have HR0 := Lib.hid hr0
  have l0 : W0.cell? ⟨w.heap.size, 0, none⟩ = some (.slice N names.length c1) := hr0.box.cell 0
  have l1 : W0.cell? ⟨w.heap.size, 1, none⟩ = some (.slice U up.length c2) := hr0.box.cell 1
  clear ha hb hla hlb hn hn2 h1 h2 h3 hout hr0 ho
  go_enter Try.func13, Try.ntmps13
  go_wp2_with (fail)
  clear hW0
  refine Free.region_seq [3, 7, 8] [0, 4] 8 (fun W' => W'.cell? ⟨w.heap.size, 0, none⟩ = some (.slice N names.length c1) ∧ W'.cell? ⟨w.heap.size, 1, none⟩ = some (.slice U up.length c2)) (by kernel_rfl) (by kernel_rfl) (by kernel_rfl) (by kernel_rfl) (⟨l0, l1⟩) (fun ops hops => ?_)
  clear hops
  iterate 3
    refine Free.Seq.quiet (v := ?_) (a' := ?_) rfl rfl (fun W' hW' => ?_) ?_ ?_
    rotate_left 2
    · first | obtain ⟨s0, s1⟩ := hW' rfl | skip
      go_simp
      try with_reducible rfl
    · simp only [Act.put, List.setIfInBounds_toArray, List.set_cons_zero, List.set_cons_succ]
      try with_reducible rfl
  refine Free.Seq.loud_ rfl (.inl rfl) (fun K hK => ?_)
  go_simp
  refine (H1.out W0.drew HR0.out.below.drew).mono ?_
  rintro e w1 ⟨A1, d1, rfl, hr1, hb1⟩
  have hb1 := (Below.refl _ W0).drew.trans hb1
  have HR1 := Lib.hid (HR0.out.next hb1)
  have HX1 := Lib.hid hr1
  refine hK.out _ _ rfl (fun _ => ⟨HR1.out.box.cell 0, HR1.out.box.cell 1⟩) ?_
  clear hK K hb1 hr1 HR0
  iterate 3
    refine Free.Seq.quiet (v := ?_) (a' := ?_) rfl rfl (fun W' hW' => ?_) ?_ ?_
    rotate_left 2
    · first | obtain ⟨s0, s1⟩ := hW' rfl | skip
      go_simp
      try with_reducible rfl
    · simp only [Act.put, List.setIfInBounds_toArray, List.set_cons_zero, List.set_cons_succ]
      try with_reducible rfl
  refine Free.Seq.loud_ rfl (.inl rfl) (fun K hK => ?_)
  go_simp
  refine (H2.out w1 HR1.out.below).mono ?_
  rintro e w2 ⟨A2, d2, rfl, hr2, hb2⟩
  have HR2 := Lib.hid (HR1.out.next hb2)
  have HC := Lib.hid (H3.out A1 A2 d1 d2 w2 ((HX1.out.below hb2).more hb2.size) hr2)
  refine hK.out _ _ rfl (fun _ => ⟨HR2.out.box.cell 0, HR2.out.box.cell 1⟩) ?_
  clear hK K hb2 hr2 HR1
  refine Free.Seq.loud_ rfl (.inl rfl) (fun K hK => ?_)
  go_simp
  refine HC.out.mono ?_
  rintro e w3 ⟨rfl, hb3⟩
  have HR3 := Lib.hid (HR2.out.next hb3)
  refine hK.out _ _ rfl (fun h => absurd h (by decide)) ?_
  clear hK K hb3
  iterate 1
    refine Free.Seq.quiet (v := ?_) (a' := ?_) rfl rfl (fun W' hW' => ?_) ?_ ?_
    rotate_left 2
    · skip
      go_simp
      try with_reducible rfl
    · simp only [Act.put, List.setIfInBounds_toArray, List.set_cons_zero, List.set_cons_succ]
      try with_reducible rfl
  refine Free.Seq.nil_ ?_
  clear l0 l1
  go_wp2
  go_ret
  exact ⟨rfl, HR3.out.below⟩
set_option maxHeartbeats 8000000 in
theorem rCrop12_any {v : Value} {names : List ByteArray} {up : List Nat} {B : Option Addr} {s : List St.Slot} (o : Int) (cs : Nat) (w : World) (h : IsLat w w.heap.size v names up) (ho : isLab up o = true) (hs : Row w w.heap.size B (fcells svs s)) (hla : ∀ x ∈ s, isLab up x.l = true) (hn : s.length ≤ 100000) (hcs : s.length ≤ cs) :
    Calls Try.prog 21 #[v, .int .i64 o, .slice B s.length cs] w fun e w' => ∃ A' c', e = .returned (.slice A' (Ev.cropN (Ev.viewL up o) s) c') ∧ Row w' w'.heap.size A' (fcells svs (Ev.crop (Ev.viewL up o) s)) ∧ Below w.heap.size w w' := by
  have hc := fun ax W (hW : Below w.heap.size w W) hax => rSees12_any (names := names) (up := up) (v := v) o ax W ((h.below hW).more hW.size) ho hax
  obtain ⟨⟨N, U, c1, c2, rfl, -, -⟩, -, -, -⟩ := h
  obtain ⟨n, hna⟩ : ∃ n, s.length = n := ⟨_, rfl⟩
  rw [hna]
  have hn9 : n ≤ 100000 := by omega
  have hncs : n ≤ cs := by omega
  have HR0 := Lib.hid (RH.start w (.slice N names.length c1) (.slice U up.length c2))
  have HC := Lib.hid hc
  have H := Lib.hid hs
  have HLA := Lib.hid hla
  have HNA := Lib.hid hna
  generalize Ev.viewL up o = vw at *
  clear hs hla hna hn hc ho hcs
  go_enter Try.func21, Try.ntmps21
  go_wp2
  go_loopw [7, 12] (fun q i wr => ∃ k m : Nat, k ≤ n ∧ m ≤ k ∧ i = .int .i64 k ∧ q = .int .i64 m ∧ Hid (Ev.cropN vw (s.take k) = m) ∧ Hid (RH w (.slice N names.length c1) (.slice U up.length c2) wr)) (fun _ i _ => n - (intOf i).toNat)
  case atStart => exact ⟨0, 0, Nat.zero_le _, Nat.le_refl _, rfl, rfl, Lib.hid rfl, HR0⟩
  case round =>
    clear HR0
    obtain ⟨k, m, hk, hmk, rfl, rfl, HM, HR⟩ := hrel
    by_cases hlt : k < n
    · obtain ⟨bd, x, rfl, hxb, hx, x0, x1, x2⟩ := srow_at (H.out.below HR.out.below) (show k < s.length by rw [HNA.out]; exact hlt)
      have hps := Ev.cropN_snoc vw x (s.take k)
      rw [← Ev.take_snoc hx, show (s.take k).length = k by rw [List.length_take, HNA.out]; omega, HM.out, show Ev.kept vw x = (x.ret && Ev.at_ vw x.l) from rfl] at hps
      obtain ⟨q, hq⟩ : ∃ q, Ev.at_ vw x.l = q := ⟨_, rfl⟩
      have hcall := fun W hW => HC.out x.l W hW (HLA.out x (List.mem_of_getElem? hx))
      rw [hq] at hps hcall
      have HPS := Lib.hid hps
      have hz := HR.out.below.size
      have hwlt : w.heap.size < wr.heap.size := HR.out.box.lt
      have hxb2 : (bd.add (k * 3)).block < wr.heap.size := by rw [add_block]; omega
      have HCALL0 := Lib.hid hcall
      clear hq hps hx hcall
      generalize x.ret = xr at *
      generalize x.v = xv at *
      generalize x.l = xl at *
      have hal := (Below.refl wr.heap.size wr).alloc (Nat.le_refl _) (.cells #[.bool xr, .int .i64 xv, .int .i64 xl] 53)
      obtain ⟨Wb, hWb⟩ : ∃ Wb, wr.alloc (.cells #[.bool xr, .int .i64 xv, .int .i64 xl] 53) = Wb := ⟨_, rfl⟩
      have hkb := Blk.new wr 53 #[.bool xr, .int .i64 xv, .int .i64 xl]
      have hrb := HR.out.next hal
      rw [hWb] at hkb hrb
      have z0 : Wb.cell? ⟨wr.heap.size, 0, none⟩ = some (.bool xr) := hkb.cell 0
      have z2 : Wb.cell? ⟨wr.heap.size, 2, none⟩ = some (.int .i64 xl) := hkb.cell 2
      have l0 : Wb.cell? ⟨w.heap.size, 0, none⟩ = some (.slice N names.length c1) := hrb.box.cell 0
      have l1 : Wb.cell? ⟨w.heap.size, 1, none⟩ = some (.slice U up.length c2) := hrb.box.cell 1
      have HCALL := Lib.hid (HCALL0.out Wb hrb.below)
      have HRB := Lib.hid hrb
      clear hal hkb hrb HCALL0
      cases xr
      · have HM6 : Hid (Ev.cropN vw (s.take (k + 1)) = m) := Lib.hid (by rw [HPS.out]; simp)
        clear HPS
        go_wp2
        go_roundw
        case rel => exact ⟨k + 1, m, by omega, by omega, by go_num, rfl, HM6, HRB⟩
        case measure => simp [intOf]; omega
      · go_wp2_with (fail)
        refine HCALL.out.mono ?_
        rintro e w3 ⟨rfl, hb3⟩
        have HR3 := Lib.hid (HRB.out.next hb3)
        clear hb3 z0 z2 l0 l1 x0 x1 x2
        cases q
        · have HM6 : Hid (Ev.cropN vw (s.take (k + 1)) = m) := Lib.hid (by rw [HPS.out]; simp)
          clear HPS
          go_wp2
          go_roundw
          case rel => exact ⟨k + 1, m, by omega, by omega, by go_num, rfl, HM6, HR3⟩
          case measure => simp [intOf]; omega
        · have HM6 : Hid (Ev.cropN vw (s.take (k + 1)) = k + 1) := Lib.hid (by rw [HPS.out]; simp)
          clear HPS
          go_wp2
          go_roundw
          case rel => exact ⟨k + 1, k + 1, by omega, by omega, by go_num, by go_num, HM6, HR3⟩
          case measure => simp [intOf]; omega
    · obtain rfl : n = k := by omega
      have hall : s.take n = s := List.take_of_length_le (by rw [HNA.out]; exact Nat.le_refl _)
      have hlen := HM.out
      rw [hall] at hlen
      have HLEN := Lib.hid hlen
      have hmcs : m ≤ cs := by omega
      have hm9 : m ≤ 100000 := by omega
      clear hall hlen
      go_wp2
      go_ret
      refine ⟨B, cs, by rw [HLEN.out]; rfl, ?_, HR.out.below⟩
      unfold Ev.crop
      rw [HLEN.out, fcells_take svs_len]
      exact ((H.out.below HR.out.below).more HR.out.below.size).take _
end Go.Proofs.Ytlddglhjpiahfaa

/- The reference of layer 12: label, Labels, May (by gen_eqvx.py). -/
namespace Go.Proofs.Ytlddglhjpiahfaa
set_option maxRecDepth 100000
open Go.RowKit Go.Shelf Go.Sort
attribute [local go_sem] Oper.semAt_some
set_option maxHeartbeats 4000000 in
theorem rLabel12_any {v : Value} {names : List ByteArray} {up : List Nat} (a : Int) (w : World) (h : IsLat w w.heap.size v names up) :
    Calls Try.prog 35 #[v, .int .i64 a] w (Tells w (isLab up a)) := by
  obtain ⟨⟨N, U, c1, c2, rfl, -, -⟩, -, ⟨-, hf⟩, -⟩ := h
  have hb0 := (Below.refl w.heap.size w).alloc (Nat.le_refl _) (.cells #[.slice N names.length c1, .slice U up.length c2] 25)
  have HB := Lib.hid hb0
  have hd : isLab up a = (decide (0 ≤ a) && decide (a < up.length)) := by unfold isLab; rw [Bool.eq_iff_iff]; simp
  rw [hd]
  clear hb0 hd
  generalize up.length = n at *
  by_cases h1 : 0 ≤ a
  · by_cases h2 : a < n
    · rw [decide_eq_true h1, decide_eq_true h2]
      go_enter Try.func35, Try.ntmps35
      go_wp2
      go_ret
      exact ⟨rfl, HB.out⟩
    · have h3 : (a < (n : Int)) = False := eq_false h2
      rw [decide_eq_true h1, decide_eq_false h2]
      clear h2
      go_enter Try.func35, Try.ntmps35
      go_wp2
      go_ret
      exact ⟨rfl, HB.out⟩
  · have h3 : (0 ≤ a) = False := eq_false h1
    rw [decide_eq_false h1]
    clear h1
    go_enter Try.func35, Try.ntmps35
    go_wp2
    go_ret
    exact ⟨rfl, HB.out⟩
/-- The head of Labels' rounds: two boxes. -/
structure RLb (w : World) (x0 x1 : Value) (cs : Array Value) (W : World) : Prop where
  rh : RH w x0 x1 W
  st : Blk W (w.heap.size + 1) 32 cs
theorem RLb.next {w : World} {x0 x1 : Value} {cs : Array Value} {W W' : World} (h : RLb w x0 x1 cs W) (hb : Below W.heap.size W W') : RLb w x0 x1 cs W' := ⟨h.rh.next hb, h.st.below hb h.st.lt⟩
theorem RLb.start (w : World) (x0 x1 : Value) (cs : Array Value) : RLb w x0 x1 cs ((w.alloc (.cells #[x0, x1] 25)).alloc (.cells cs 32)) :=
  ⟨(RH.start w x0 x1).next ((Below.refl _ _).alloc (Nat.le_refl _) _), Blk.new' _ _ _ _ (by simp)⟩
theorem labs_no {up : List Nat} {ls : List Int} {x : Int} (h : x ∈ ls) (hx : isLab up x = false) : ls.all (isLab up) = false := by
  rw [Bool.eq_false_iff]
  intro e
  rw [List.all_eq_true.1 e x h] at hx
  cases hx

set_option maxRecDepth 100000 in
set_option maxHeartbeats 32000000 in
theorem rLabels12_any {v sv : Value} {names : List ByteArray} {up : List Nat} {s : St.State} (w : World) (h : IsLat w w.heap.size v names up) (hs : IsSt w w.heap.size sv s) (hsf : Fif s) :
    Calls Try.prog 36 #[v, sv] w (Tells w ((Ev.labsOf s).all (isLab up))) := by
  obtain ⟨res, hres⟩ : ∃ res, (Ev.labsOf s).all (isLab up) = res := ⟨_, rfl⟩
  rw [hres]
  have hc := fun a W (hW : Below w.heap.size w W) => rLabel12_any (names := names) (up := up) (v := v) a W ((h.below hW).more hW.size)
  obtain ⟨⟨N, U, c1, c2, rfl, -, -⟩, -, -, -⟩ := h
  obtain ⟨cv, mv, stv_, ov, rfl, ⟨cA, cc, rfl, hcr, -⟩, ⟨mA, mc, rfl, hmr, -⟩, ⟨sA, sc, rfl, hsr, -⟩, ⟨oA, oc, rfl, hor, -⟩⟩ := hs
  obtain ⟨f1, f2, f3, f4⟩ := hsf
  unfold stv
  obtain ⟨n1, hn1⟩ : ∃ n, s.code.length = n := ⟨_, rfl⟩
  obtain ⟨n2, hn2⟩ : ∃ n, s.mem.length = n := ⟨_, rfl⟩
  obtain ⟨n3, hn3⟩ : ∃ n, s.stack.length = n := ⟨_, rfl⟩
  obtain ⟨n4, hn4⟩ : ∃ n, s.out.length = n := ⟨_, rfl⟩
  rw [hn1, hn2, hn3, hn4]
  rw [hn1] at f1
  rw [hn2] at f2
  rw [hn3] at f3
  rw [hn4] at f4
  obtain ⟨W0, hW0⟩ : ∃ W0, (w.alloc (.cells #[.slice N names.length c1, .slice U up.length c2] 25)).alloc (.cells #[.int .i64 s.pc.v, .int .i64 s.pc.l, .slice cA n1 cc, .slice mA n2 mc, .slice sA n3 sc, .slice oA n4 oc] 32) = W0 := ⟨_, rfl⟩
  have hr0 := RLb.start w (.slice N names.length c1) (.slice U up.length c2) #[.int .i64 s.pc.v, .int .i64 s.pc.l, .slice cA n1 cc, .slice mA n2 mc, .slice sA n3 sc, .slice oA n4 oc]
  rw [hW0] at hr0
  have HR0 := Lib.hid hr0
  have HC := Lib.hid hc
  have HRES := Lib.hid hres
  have HN0 := Lib.hid hn1
  have HN1 := Lib.hid hn2
  have HN2 := Lib.hid hn3
  have HN3 := Lib.hid hn4
  have H1 := Lib.hid hcr
  have H2 := Lib.hid hmr
  have H3 := Lib.hid hsr
  have H4 := Lib.hid hor
  clear hr0 hc hres hn1 hn2 hn3 hn4 hcr hmr hsr hor
  go_enter Try.func36, Try.ntmps36
  have l2 : W0.cell? ⟨w.heap.size + 1, 2, none⟩ = some (.slice cA n1 cc) := HR0.out.st.cell 2
  go_wp2
  go_loopw [16] (fun i wr => ∃ k : Nat, k ≤ n1 ∧ i = .int .i64 k ∧ Hid (∀ x ∈ s.code.take k, isLab up x.l = true) ∧ Hid (RLb w (.slice N names.length c1) (.slice U up.length c2) #[.int .i64 s.pc.v, .int .i64 s.pc.l, .slice cA n1 cc, .slice mA n2 mc, .slice sA n3 sc, .slice oA n4 oc] wr)) (fun i _ => n1 - (intOf i).toNat)
  case atStart => exact ⟨0, Nat.zero_le _, rfl, Lib.hid (by simp), HR0⟩
  case round =>
    clear HR0 l2
    obtain ⟨k, hk, rfl, HA, HR⟩ := hrel
    have HB := Lib.hid HR.out.rh.below
    by_cases hlt : k < n1
    · obtain ⟨bd, x, rfl, hxb, hx, x0, x1, x2⟩ := inrow_at (H1.out.below HB.out) (show k < s.code.length by rw [HN0.out]; exact hlt)
      have hz := HB.out.size
      have hxb2 : (bd.add (k * 3)).block < wr.heap.size := by rw [add_block]; omega
      have HTS := Lib.hid (Ev.take_snoc hx)
      have HX := Lib.hid (List.mem_of_getElem? hx)
      obtain ⟨q, hq⟩ : ∃ q, isLab up x.l = q := ⟨_, rfl⟩
      have hcall := fun W hW => HC.out x.l W hW
      rw [hq] at hcall
      have HQ := Lib.hid hq
      have HCALL0 := Lib.hid hcall
      have hwlt : w.heap.size < wr.heap.size := HR.out.rh.box.lt
      clear hx hq hcall
      obtain ⟨xl, hxl⟩ : ∃ l, x.l = l := ⟨_, rfl⟩
      rw [hxl] at HCALL0 x2
      obtain ⟨xa, hxxa⟩ : ∃ l, x.op = l := ⟨_, rfl⟩
      rw [hxxa] at x0
      clear hxxa
      obtain ⟨xb, hxxb⟩ : ∃ l, x.n = l := ⟨_, rfl⟩
      rw [hxxb] at x1
      clear hxxb
      clear hxl
      have hal := (Below.refl wr.heap.size wr).alloc (Nat.le_refl _) (.cells #[.int .i64 xa, .int .i64 xb, .int .i64 xl] 67)
      obtain ⟨Wb, hWb⟩ : ∃ Wb, wr.alloc (.cells #[.int .i64 xa, .int .i64 xb, .int .i64 xl] 67) = Wb := ⟨_, rfl⟩
      have hkb := Blk.new wr 67 #[.int .i64 xa, .int .i64 xb, .int .i64 xl]
      have hrb := HR.out.next hal
      rw [hWb] at hkb hrb
      have z2 : Wb.cell? ⟨wr.heap.size, 2, none⟩ = some (.int .i64 xl) := hkb.cell 2
      have l0 : Wb.cell? ⟨w.heap.size, 0, none⟩ = some (.slice N names.length c1) := hrb.rh.box.cell 0
      have l1 : Wb.cell? ⟨w.heap.size, 1, none⟩ = some (.slice U up.length c2) := hrb.rh.box.cell 1
      have HCALL := Lib.hid (HCALL0.out Wb hrb.rh.below)
      have HRB := Lib.hid hrb
      clear hal hkb hrb HCALL0
      go_wp2_with (fail)
      refine HCALL.out.mono ?_
      rintro e w3 ⟨rfl, hb3⟩
      have HR3 := Lib.hid (HRB.out.next hb3)
      clear hb3 z2 l0 l1 x0 x1 x2
      cases q
      · have hff : res = false := by
          rw [← HRES.out]
          refine labs_no (x := x.l) ?_ HQ.out
          unfold Ev.labsOf
          simp only [List.mem_append, List.mem_map]
          exact .inr (.inl ⟨x, HX.out, rfl⟩)
        have HFF := Lib.hid hff
        clear hff
        go_wp2
        go_ret
        exact ⟨by rw [HFF.out]; rfl, HR3.out.rh.below⟩
      · have HA2 : Hid (∀ x ∈ s.code.take (k + 1), isLab up x.l = true) := Lib.hid fun y hy => by
          rw [HTS.out, List.mem_append, List.mem_singleton] at hy
          rcases hy with hy | rfl
          · exact HA.out y hy
          · exact HQ.out
        go_wp2
        go_roundw
        case rel => exact ⟨k + 1, by omega, by go_num, HA2, HR3⟩
        case measure => simp [intOf]; omega
    · have hkn : n1 = k := by omega
      have hall : ∀ x ∈ s.code, isLab up x.l = true := by
        have h9 := HA.out
        rw [List.take_of_length_le (by rw [HN0.out]; omega)] at h9
        exact h9
      have HALL0 := Lib.hid hall
      have hge : ((k : Int) < (n1 : Int)) = False := eq_false (by omega)
      clear hall HA hlt hk
      obtain ⟨W1, hW1⟩ : ∃ W, wr = W := ⟨_, rfl⟩
      rw [hW1] at HR HB ⊢
      clear hW1
      have HR1 := Lib.hid HR.out
      clear HR HB hkn
      have l3 : W1.cell? ⟨w.heap.size + 1, 3, none⟩ = some (.slice mA n2 mc) := HR1.out.st.cell 3
      go_wp2
      go_loopw [29] (fun i wr => ∃ k : Nat, k ≤ n2 ∧ i = .int .i64 k ∧ Hid (∀ x ∈ s.mem.take k, isLab up x.l = true) ∧ Hid (RLb w (.slice N names.length c1) (.slice U up.length c2) #[.int .i64 s.pc.v, .int .i64 s.pc.l, .slice cA n1 cc, .slice mA n2 mc, .slice sA n3 sc, .slice oA n4 oc] wr)) (fun i _ => n2 - (intOf i).toNat)
      case atStart => exact ⟨0, Nat.zero_le _, rfl, Lib.hid (by simp), HR1⟩
      case round =>
        clear HR1 l3
        obtain ⟨k, hk, rfl, HA, HR⟩ := hrel
        have HB := Lib.hid HR.out.rh.below
        by_cases hlt : k < n2
        · obtain ⟨bd, x, rfl, hxb, hx, x0, x1⟩ := arow_at (H2.out.below HB.out) (show k < s.mem.length by rw [HN1.out]; exact hlt)
          have hz := HB.out.size
          have hxb2 : (bd.add (k * 2)).block < wr.heap.size := by rw [add_block]; omega
          have HTS := Lib.hid (Ev.take_snoc hx)
          have HX := Lib.hid (List.mem_of_getElem? hx)
          obtain ⟨q, hq⟩ : ∃ q, isLab up x.l = q := ⟨_, rfl⟩
          have hcall := fun W hW => HC.out x.l W hW
          rw [hq] at hcall
          have HQ := Lib.hid hq
          have HCALL0 := Lib.hid hcall
          have hwlt : w.heap.size < wr.heap.size := HR.out.rh.box.lt
          clear hx hq hcall
          obtain ⟨xl, hxl⟩ : ∃ l, x.l = l := ⟨_, rfl⟩
          rw [hxl] at HCALL0 x1
          obtain ⟨xa, hxxa⟩ : ∃ l, x.v = l := ⟨_, rfl⟩
          rw [hxxa] at x0
          clear hxxa
          clear hxl
          have hal := (Below.refl wr.heap.size wr).alloc (Nat.le_refl _) (.cells #[.int .i64 xa, .int .i64 xl] 27)
          obtain ⟨Wb, hWb⟩ : ∃ Wb, wr.alloc (.cells #[.int .i64 xa, .int .i64 xl] 27) = Wb := ⟨_, rfl⟩
          have hkb := Blk.new wr 27 #[.int .i64 xa, .int .i64 xl]
          have hrb := HR.out.next hal
          rw [hWb] at hkb hrb
          have z1 : Wb.cell? ⟨wr.heap.size, 1, none⟩ = some (.int .i64 xl) := hkb.cell 1
          have l0 : Wb.cell? ⟨w.heap.size, 0, none⟩ = some (.slice N names.length c1) := hrb.rh.box.cell 0
          have l1 : Wb.cell? ⟨w.heap.size, 1, none⟩ = some (.slice U up.length c2) := hrb.rh.box.cell 1
          have HCALL := Lib.hid (HCALL0.out Wb hrb.rh.below)
          have HRB := Lib.hid hrb
          clear hal hkb hrb HCALL0
          go_wp2_with (fail)
          refine HCALL.out.mono ?_
          rintro e w3 ⟨rfl, hb3⟩
          have HR3 := Lib.hid (HRB.out.next hb3)
          clear hb3 z1 l0 l1 x0 x1
          cases q
          · have hff : res = false := by
              rw [← HRES.out]
              refine labs_no (x := x.l) ?_ HQ.out
              unfold Ev.labsOf
              simp only [List.mem_append, List.mem_map]
              exact .inr (.inr (.inl ⟨x, HX.out, rfl⟩))
            have HFF := Lib.hid hff
            clear hff
            go_wp2
            go_ret
            exact ⟨by rw [HFF.out]; rfl, HR3.out.rh.below⟩
          · have HA2 : Hid (∀ x ∈ s.mem.take (k + 1), isLab up x.l = true) := Lib.hid fun y hy => by
              rw [HTS.out, List.mem_append, List.mem_singleton] at hy
              rcases hy with hy | rfl
              · exact HA.out y hy
              · exact HQ.out
            go_wp2
            go_roundw
            case rel => exact ⟨k + 1, by omega, by go_num, HA2, HR3⟩
            case measure => simp [intOf]; omega
        · have hkn : n2 = k := by omega
          have hall : ∀ x ∈ s.mem, isLab up x.l = true := by
            have h9 := HA.out
            rw [List.take_of_length_le (by rw [HN1.out]; omega)] at h9
            exact h9
          have HALL1 := Lib.hid hall
          have hge : ((k : Int) < (n2 : Int)) = False := eq_false (by omega)
          clear hall HA hlt hk
          obtain ⟨W2, hW2⟩ : ∃ W, wr = W := ⟨_, rfl⟩
          rw [hW2] at HR HB ⊢
          clear hW2
          have HR2 := Lib.hid HR.out
          clear HR HB hkn
          have l4 : W2.cell? ⟨w.heap.size + 1, 4, none⟩ = some (.slice sA n3 sc) := HR2.out.st.cell 4
          go_wp2
          go_loopw [42] (fun i wr => ∃ k : Nat, k ≤ n3 ∧ i = .int .i64 k ∧ Hid (∀ x ∈ s.stack.take k, isLab up x.l = true) ∧ Hid (RLb w (.slice N names.length c1) (.slice U up.length c2) #[.int .i64 s.pc.v, .int .i64 s.pc.l, .slice cA n1 cc, .slice mA n2 mc, .slice sA n3 sc, .slice oA n4 oc] wr)) (fun i _ => n3 - (intOf i).toNat)
          case atStart => exact ⟨0, Nat.zero_le _, rfl, Lib.hid (by simp), HR2⟩
          case round =>
            clear HR2 l4
            obtain ⟨k, hk, rfl, HA, HR⟩ := hrel
            have HB := Lib.hid HR.out.rh.below
            by_cases hlt : k < n3
            · obtain ⟨bd, x, rfl, hxb, hx, x0, x1, x2⟩ := srow_at (H3.out.below HB.out) (show k < s.stack.length by rw [HN2.out]; exact hlt)
              have hz := HB.out.size
              have hxb2 : (bd.add (k * 3)).block < wr.heap.size := by rw [add_block]; omega
              have HTS := Lib.hid (Ev.take_snoc hx)
              have HX := Lib.hid (List.mem_of_getElem? hx)
              obtain ⟨q, hq⟩ : ∃ q, isLab up x.l = q := ⟨_, rfl⟩
              have hcall := fun W hW => HC.out x.l W hW
              rw [hq] at hcall
              have HQ := Lib.hid hq
              have HCALL0 := Lib.hid hcall
              have hwlt : w.heap.size < wr.heap.size := HR.out.rh.box.lt
              clear hx hq hcall
              obtain ⟨xl, hxl⟩ : ∃ l, x.l = l := ⟨_, rfl⟩
              rw [hxl] at HCALL0 x2
              obtain ⟨xa, hxxa⟩ : ∃ l, x.ret = l := ⟨_, rfl⟩
              rw [hxxa] at x0
              clear hxxa
              obtain ⟨xb, hxxb⟩ : ∃ l, x.v = l := ⟨_, rfl⟩
              rw [hxxb] at x1
              clear hxxb
              clear hxl
              have hal := (Below.refl wr.heap.size wr).alloc (Nat.le_refl _) (.cells #[.bool xa, .int .i64 xb, .int .i64 xl] 53)
              obtain ⟨Wb, hWb⟩ : ∃ Wb, wr.alloc (.cells #[.bool xa, .int .i64 xb, .int .i64 xl] 53) = Wb := ⟨_, rfl⟩
              have hkb := Blk.new wr 53 #[.bool xa, .int .i64 xb, .int .i64 xl]
              have hrb := HR.out.next hal
              rw [hWb] at hkb hrb
              have z2 : Wb.cell? ⟨wr.heap.size, 2, none⟩ = some (.int .i64 xl) := hkb.cell 2
              have l0 : Wb.cell? ⟨w.heap.size, 0, none⟩ = some (.slice N names.length c1) := hrb.rh.box.cell 0
              have l1 : Wb.cell? ⟨w.heap.size, 1, none⟩ = some (.slice U up.length c2) := hrb.rh.box.cell 1
              have HCALL := Lib.hid (HCALL0.out Wb hrb.rh.below)
              have HRB := Lib.hid hrb
              clear hal hkb hrb HCALL0
              go_wp2_with (fail)
              refine HCALL.out.mono ?_
              rintro e w3 ⟨rfl, hb3⟩
              have HR3 := Lib.hid (HRB.out.next hb3)
              clear hb3 z2 l0 l1 x0 x1 x2
              cases q
              · have hff : res = false := by
                  rw [← HRES.out]
                  refine labs_no (x := x.l) ?_ HQ.out
                  unfold Ev.labsOf
                  simp only [List.mem_append, List.mem_map]
                  exact .inr (.inr (.inr (.inl ⟨x, HX.out, rfl⟩)))
                have HFF := Lib.hid hff
                clear hff
                go_wp2
                go_ret
                exact ⟨by rw [HFF.out]; rfl, HR3.out.rh.below⟩
              · have HA2 : Hid (∀ x ∈ s.stack.take (k + 1), isLab up x.l = true) := Lib.hid fun y hy => by
                  rw [HTS.out, List.mem_append, List.mem_singleton] at hy
                  rcases hy with hy | rfl
                  · exact HA.out y hy
                  · exact HQ.out
                go_wp2
                go_roundw
                case rel => exact ⟨k + 1, by omega, by go_num, HA2, HR3⟩
                case measure => simp [intOf]; omega
            · have hkn : n3 = k := by omega
              have hall : ∀ x ∈ s.stack, isLab up x.l = true := by
                have h9 := HA.out
                rw [List.take_of_length_le (by rw [HN2.out]; omega)] at h9
                exact h9
              have HALL2 := Lib.hid hall
              have hge : ((k : Int) < (n3 : Int)) = False := eq_false (by omega)
              clear hall HA hlt hk
              obtain ⟨W3, hW3⟩ : ∃ W, wr = W := ⟨_, rfl⟩
              rw [hW3] at HR HB ⊢
              clear hW3
              have HR3 := Lib.hid HR.out
              clear HR HB hkn
              have l5 : W3.cell? ⟨w.heap.size + 1, 5, none⟩ = some (.slice oA n4 oc) := HR3.out.st.cell 5
              go_wp2
              go_loopw [55] (fun i wr => ∃ k : Nat, k ≤ n4 ∧ i = .int .i64 k ∧ Hid (∀ x ∈ s.out.take k, isLab up x.l = true) ∧ Hid (RLb w (.slice N names.length c1) (.slice U up.length c2) #[.int .i64 s.pc.v, .int .i64 s.pc.l, .slice cA n1 cc, .slice mA n2 mc, .slice sA n3 sc, .slice oA n4 oc] wr)) (fun i _ => n4 - (intOf i).toNat)
              case atStart => exact ⟨0, Nat.zero_le _, rfl, Lib.hid (by simp), HR3⟩
              case round =>
                clear HR3 l5
                obtain ⟨k, hk, rfl, HA, HR⟩ := hrel
                have HB := Lib.hid HR.out.rh.below
                by_cases hlt : k < n4
                · obtain ⟨bd, x, rfl, hxb, hx, x0, x1⟩ := arow_at (H4.out.below HB.out) (show k < s.out.length by rw [HN3.out]; exact hlt)
                  have hz := HB.out.size
                  have hxb2 : (bd.add (k * 2)).block < wr.heap.size := by rw [add_block]; omega
                  have HTS := Lib.hid (Ev.take_snoc hx)
                  have HX := Lib.hid (List.mem_of_getElem? hx)
                  obtain ⟨q, hq⟩ : ∃ q, isLab up x.l = q := ⟨_, rfl⟩
                  have hcall := fun W hW => HC.out x.l W hW
                  rw [hq] at hcall
                  have HQ := Lib.hid hq
                  have HCALL0 := Lib.hid hcall
                  have hwlt : w.heap.size < wr.heap.size := HR.out.rh.box.lt
                  clear hx hq hcall
                  obtain ⟨xl, hxl⟩ : ∃ l, x.l = l := ⟨_, rfl⟩
                  rw [hxl] at HCALL0 x1
                  obtain ⟨xa, hxxa⟩ : ∃ l, x.v = l := ⟨_, rfl⟩
                  rw [hxxa] at x0
                  clear hxxa
                  clear hxl
                  have hal := (Below.refl wr.heap.size wr).alloc (Nat.le_refl _) (.cells #[.int .i64 xa, .int .i64 xl] 27)
                  obtain ⟨Wb, hWb⟩ : ∃ Wb, wr.alloc (.cells #[.int .i64 xa, .int .i64 xl] 27) = Wb := ⟨_, rfl⟩
                  have hkb := Blk.new wr 27 #[.int .i64 xa, .int .i64 xl]
                  have hrb := HR.out.next hal
                  rw [hWb] at hkb hrb
                  have z1 : Wb.cell? ⟨wr.heap.size, 1, none⟩ = some (.int .i64 xl) := hkb.cell 1
                  have l0 : Wb.cell? ⟨w.heap.size, 0, none⟩ = some (.slice N names.length c1) := hrb.rh.box.cell 0
                  have l1 : Wb.cell? ⟨w.heap.size, 1, none⟩ = some (.slice U up.length c2) := hrb.rh.box.cell 1
                  have HCALL := Lib.hid (HCALL0.out Wb hrb.rh.below)
                  have HRB := Lib.hid hrb
                  clear hal hkb hrb HCALL0
                  go_wp2_with (fail)
                  refine HCALL.out.mono ?_
                  rintro e w3 ⟨rfl, hb3⟩
                  have HR3 := Lib.hid (HRB.out.next hb3)
                  clear hb3 z1 l0 l1 x0 x1
                  cases q
                  · have hff : res = false := by
                      rw [← HRES.out]
                      refine labs_no (x := x.l) ?_ HQ.out
                      unfold Ev.labsOf
                      simp only [List.mem_append, List.mem_map]
                      exact .inr (.inr (.inr (.inr ⟨x, HX.out, rfl⟩)))
                    have HFF := Lib.hid hff
                    clear hff
                    go_wp2
                    go_ret
                    exact ⟨by rw [HFF.out]; rfl, HR3.out.rh.below⟩
                  · have HA2 : Hid (∀ x ∈ s.out.take (k + 1), isLab up x.l = true) := Lib.hid fun y hy => by
                      rw [HTS.out, List.mem_append, List.mem_singleton] at hy
                      rcases hy with hy | rfl
                      · exact HA.out y hy
                      · exact HQ.out
                    go_wp2
                    go_roundw
                    case rel => exact ⟨k + 1, by omega, by go_num, HA2, HR3⟩
                    case measure => simp [intOf]; omega
                · have hkn : n4 = k := by omega
                  have hall : ∀ x ∈ s.out, isLab up x.l = true := by
                    have h9 := HA.out
                    rw [List.take_of_length_le (by rw [HN3.out]; omega)] at h9
                    exact h9
                  have HALL3 := Lib.hid hall
                  have hge : ((k : Int) < (n4 : Int)) = False := eq_false (by omega)
                  clear hall HA hlt hk
                  obtain ⟨W4, hW4⟩ : ∃ W, wr = W := ⟨_, rfl⟩
                  rw [hW4] at HR HB ⊢
                  clear hW4
                  have HR4 := Lib.hid HR.out
                  clear HR HB hkn
                  have l0 : W4.cell? ⟨w.heap.size, 0, none⟩ = some (.slice N names.length c1) := HR4.out.rh.box.cell 0
                  have l1 : W4.cell? ⟨w.heap.size, 1, none⟩ = some (.slice U up.length c2) := HR4.out.rh.box.cell 1
                  have p1 : W4.cell? ⟨w.heap.size + 1, 1, none⟩ = some (.int .i64 s.pc.l) := HR4.out.st.cell 1
                  have hcall := HC.out s.pc.l W4 HR4.out.rh.below
                  have hre : res = isLab up s.pc.l := by
                    rw [← HRES.out, Bool.eq_iff_iff, List.all_eq_true]
                    unfold Ev.labsOf
                    simp only [List.mem_append, List.mem_map, List.mem_singleton]
                    refine ⟨fun h => h _ (.inl rfl), fun h l hl => ?_⟩
                    rcases hl with rfl | ⟨x, hx, rfl⟩ | ⟨x, hx, rfl⟩ | ⟨x, hx, rfl⟩ | ⟨x, hx, rfl⟩
                    · exact h
                    · exact HALL0.out x hx
                    · exact HALL1.out x hx
                    · exact HALL2.out x hx
                    · exact HALL3.out x hx
                  rw [← hre] at hcall
                  have HCALL := Lib.hid hcall
                  clear hre hcall HALL0 HALL1 HALL2 HALL3
                  generalize s.pc.l = spl at *
                  go_wp2_with (fail)
                  refine HCALL.out.mono ?_
                  rintro e w9 ⟨rfl, hb9⟩
                  have HR9 := Lib.hid (HR4.out.next hb9)
                  clear hb9 l0 l1 p1
                  go_wp2
                  go_ret
                  exact ⟨rfl, HR9.out.rh.below⟩

set_option maxHeartbeats 8000000 in
theorem rMay12_any {v sv tv : Value} {names : List ByteArray} {up : List Nat} {s t : St.State} (o : Int) (w : World) (h : IsLat w w.heap.size v names up) (hs : IsSt w w.heap.size sv s) (ht : IsSt w w.heap.size tv t) (hsf : Fif s) (htf : Fif t) :
    Calls Try.prog 12 #[v, .int .i64 o, sv, tv] w (TellsN w (Ev.lookN names up o (Ev.labsOf s ++ Ev.labsOf t) : Nat)) := by
  have hck := fun W (hW : Below w.heap.size w W) => rCheck_any W ((h.below hW).more hW.size)
  have hlb := fun W (hW : Below w.heap.size w W) => rLabel12_any o W ((h.below hW).more hW.size)
  have hl1 := fun W (hW : Below w.heap.size w W) => rLabels12_any W ((h.below hW).more hW.size) ((hs.below hW).more hW.size) hsf
  have hl2 := fun W (hW : Below w.heap.size w W) => rLabels12_any W ((h.below hW).more hW.size) ((ht.below hW).more hW.size) htf
  have hres : Ev.lookN names up o (Ev.labsOf s ++ Ev.labsOf t) = if rCheckN names up = 0 then (if isLab up o = true then (if (Ev.labsOf s).all (isLab up) = true then (if (Ev.labsOf t).all (isLab up) = true then 0 else 9) else 9) else 9) else rCheckN names up := by
    unfold Ev.lookN
    rw [Ev.labN_same, List.all_append]
    by_cases h1 : rCheckN names up = 0
    · rw [if_pos h1, if_pos h1]
      cases isLab up o <;> cases (Ev.labsOf s).all (isLab up) <;> cases (Ev.labsOf t).all (isLab up) <;> rfl
    · rw [if_neg h1, if_neg h1, if_neg h1]
  rw [hres]
  obtain ⟨⟨N, U, c1, c2, rfl, -, -⟩, -, -, -⟩ := h
  obtain ⟨cv, mv, stv_, ov, rfl, ⟨cA, cc, rfl, -, -⟩, ⟨mA, mc, rfl, -, -⟩, ⟨sA, sc, rfl, -, -⟩, ⟨oA, oc, rfl, -, -⟩⟩ := hs
  obtain ⟨cv', mv', stv', ov', rfl, ⟨cB, cd, rfl, -, -⟩, ⟨mB, md, rfl, -, -⟩, ⟨sB, sd, rfl, -, -⟩, ⟨oB, od, rfl, -, -⟩⟩ := ht
  unfold stv at hl1 hl2 ⊢
  have HCK := Lib.hid hck
  have HLB := Lib.hid hlb
  have HL1 := Lib.hid hl1
  have HL2 := Lib.hid hl2
  clear hck hlb hl1 hl2 hres hsf htf
  generalize rCheckN names up = r at *
  generalize isLab up o = b1 at *
  generalize (Ev.labsOf s).all (isLab up) = b2 at *
  generalize (Ev.labsOf t).all (isLab up) = b3 at *
  generalize s.code.length = n1 at *
  generalize s.mem.length = n2 at *
  generalize s.stack.length = n3 at *
  generalize s.out.length = n4 at *
  generalize t.code.length = m1 at *
  generalize t.mem.length = m2 at *
  generalize t.stack.length = m3 at *
  generalize t.out.length = m4 at *
  generalize s.pc.v = spv at *
  generalize s.pc.l = spl at *
  generalize t.pc.v = tpv at *
  generalize t.pc.l = tpl at *
  obtain ⟨ans, hans⟩ : ∃ ans : Nat, (if r = 0 then (if b1 = true then (if b2 = true then (if b3 = true then 0 else 9) else 9) else 9) else r) = ans := ⟨_, rfl⟩
  rw [hans]
  have HANS := Lib.hid hans
  clear hans
  obtain ⟨W0, hW0⟩ : ∃ W0, ((w.alloc (.cells #[.slice N names.length c1, .slice U up.length c2] 25)).alloc (.cells #[.int .i64 spv, .int .i64 spl, .slice cA n1 cc, .slice mA n2 mc, .slice sA n3 sc, .slice oA n4 oc] 32)).alloc (.cells #[.int .i64 tpv, .int .i64 tpl, .slice cB m1 cd, .slice mB m2 md, .slice sB m3 sd, .slice oB m4 od] 32) = W0 := ⟨_, rfl⟩
  have hr0 : RLb w (.slice N names.length c1) (.slice U up.length c2) #[.int .i64 spv, .int .i64 spl, .slice cA n1 cc, .slice mA n2 mc, .slice sA n3 sc, .slice oA n4 oc] W0 := by rw [← hW0]; exact (RLb.start w _ _ _).next ((Below.refl _ _).alloc (Nat.le_refl _) _)
  have hk0 : Blk W0 (w.heap.size + 1 + 1) 32 #[.int .i64 tpv, .int .i64 tpl, .slice cB m1 cd, .slice mB m2 md, .slice sB m3 sd, .slice oB m4 od] := by rw [← hW0]; exact Blk.new' _ _ _ _ (by simp)
  have HR0 := Lib.hid hr0
  have HK0 := Lib.hid hk0
  have l0 : W0.cell? ⟨w.heap.size, 0, none⟩ = some (.slice N names.length c1) := hr0.rh.box.cell 0
  have l1 : W0.cell? ⟨w.heap.size, 1, none⟩ = some (.slice U up.length c2) := hr0.rh.box.cell 1
  clear hr0 hk0
  by_cases hz : r = 0
  · subst hz
    go_enter Try.func12, Try.ntmps12
    go_wp2_with (fail)
    refine (HCK.out W0 HR0.out.rh.below).mono ?_
    rintro e w1 ⟨rfl, hb1⟩
    have hr1 := HR0.out.next hb1
    have hk1 := HK0.out.below hb1 HK0.out.lt
    clear hW0 l0 l1 HR0 HK0 HCK hb1
    have l0 : w1.cell? ⟨w.heap.size, 0, none⟩ = some (.slice N names.length c1) := hr1.rh.box.cell 0
    have l1 : w1.cell? ⟨w.heap.size, 1, none⟩ = some (.slice U up.length c2) := hr1.rh.box.cell 1
    have x0 : w1.cell? ⟨w.heap.size + 1, 0, none⟩ = some (.int .i64 spv) := hr1.st.cell 0
    have x1 : w1.cell? ⟨w.heap.size + 1, 1, none⟩ = some (.int .i64 spl) := hr1.st.cell 1
    have x2 : w1.cell? ⟨w.heap.size + 1, 2, none⟩ = some (.slice cA n1 cc) := hr1.st.cell 2
    have x3 : w1.cell? ⟨w.heap.size + 1, 3, none⟩ = some (.slice mA n2 mc) := hr1.st.cell 3
    have x4 : w1.cell? ⟨w.heap.size + 1, 4, none⟩ = some (.slice sA n3 sc) := hr1.st.cell 4
    have x5 : w1.cell? ⟨w.heap.size + 1, 5, none⟩ = some (.slice oA n4 oc) := hr1.st.cell 5
    have y0 : w1.cell? ⟨w.heap.size + 1 + 1, 0, none⟩ = some (.int .i64 tpv) := hk1.cell 0
    have y1 : w1.cell? ⟨w.heap.size + 1 + 1, 1, none⟩ = some (.int .i64 tpl) := hk1.cell 1
    have y2 : w1.cell? ⟨w.heap.size + 1 + 1, 2, none⟩ = some (.slice cB m1 cd) := hk1.cell 2
    have y3 : w1.cell? ⟨w.heap.size + 1 + 1, 3, none⟩ = some (.slice mB m2 md) := hk1.cell 3
    have y4 : w1.cell? ⟨w.heap.size + 1 + 1, 4, none⟩ = some (.slice sB m3 sd) := hk1.cell 4
    have y5 : w1.cell? ⟨w.heap.size + 1 + 1, 5, none⟩ = some (.slice oB m4 od) := hk1.cell 5
    have HR1 := Lib.hid hr1
    have HK1 := Lib.hid hk1
    clear hr1 hk1
    go_wp2_with (fail)
    refine (HLB.out w1 HR1.out.rh.below).mono ?_
    rintro e w2 ⟨rfl, hb2⟩
    have hr2 := HR1.out.next hb2
    have hk2 := HK1.out.below hb2 HK1.out.lt
    clear l0 l1 x0 x1 x2 x3 x4 x5 y0 y1 y2 y3 y4 y5 HR1 HK1 HLB hb2
    cases b1
    · have HB := Lib.hid hr2.rh.below
      clear hr2 hk2
      go_wp2
      go_ret
      exact ⟨by have h := HANS.out; simp at h; rw [← h]; rfl, HB.out⟩
    · skip
      have l0 : w2.cell? ⟨w.heap.size, 0, none⟩ = some (.slice N names.length c1) := hr2.rh.box.cell 0
      have l1 : w2.cell? ⟨w.heap.size, 1, none⟩ = some (.slice U up.length c2) := hr2.rh.box.cell 1
      have x0 : w2.cell? ⟨w.heap.size + 1, 0, none⟩ = some (.int .i64 spv) := hr2.st.cell 0
      have x1 : w2.cell? ⟨w.heap.size + 1, 1, none⟩ = some (.int .i64 spl) := hr2.st.cell 1
      have x2 : w2.cell? ⟨w.heap.size + 1, 2, none⟩ = some (.slice cA n1 cc) := hr2.st.cell 2
      have x3 : w2.cell? ⟨w.heap.size + 1, 3, none⟩ = some (.slice mA n2 mc) := hr2.st.cell 3
      have x4 : w2.cell? ⟨w.heap.size + 1, 4, none⟩ = some (.slice sA n3 sc) := hr2.st.cell 4
      have x5 : w2.cell? ⟨w.heap.size + 1, 5, none⟩ = some (.slice oA n4 oc) := hr2.st.cell 5
      have y0 : w2.cell? ⟨w.heap.size + 1 + 1, 0, none⟩ = some (.int .i64 tpv) := hk2.cell 0
      have y1 : w2.cell? ⟨w.heap.size + 1 + 1, 1, none⟩ = some (.int .i64 tpl) := hk2.cell 1
      have y2 : w2.cell? ⟨w.heap.size + 1 + 1, 2, none⟩ = some (.slice cB m1 cd) := hk2.cell 2
      have y3 : w2.cell? ⟨w.heap.size + 1 + 1, 3, none⟩ = some (.slice mB m2 md) := hk2.cell 3
      have y4 : w2.cell? ⟨w.heap.size + 1 + 1, 4, none⟩ = some (.slice sB m3 sd) := hk2.cell 4
      have y5 : w2.cell? ⟨w.heap.size + 1 + 1, 5, none⟩ = some (.slice oB m4 od) := hk2.cell 5
      have HR2 := Lib.hid hr2
      have HK2 := Lib.hid hk2
      clear hr2 hk2
      go_wp2_with (fail)
      refine (HL1.out w2 HR2.out.rh.below).mono ?_
      rintro e w3 ⟨rfl, hb3⟩
      have hr3 := HR2.out.next hb3
      have hk3 := HK2.out.below hb3 HK2.out.lt
      clear l0 l1 x0 x1 x2 x3 x4 x5 y0 y1 y2 y3 y4 y5 HR2 HK2 HL1 hb3
      cases b2
      · have HB := Lib.hid hr3.rh.below
        clear hr3 hk3
        go_wp2
        go_ret
        exact ⟨by have h := HANS.out; simp at h; rw [← h]; rfl, HB.out⟩
      · skip
        have l0 : w3.cell? ⟨w.heap.size, 0, none⟩ = some (.slice N names.length c1) := hr3.rh.box.cell 0
        have l1 : w3.cell? ⟨w.heap.size, 1, none⟩ = some (.slice U up.length c2) := hr3.rh.box.cell 1
        have x0 : w3.cell? ⟨w.heap.size + 1, 0, none⟩ = some (.int .i64 spv) := hr3.st.cell 0
        have x1 : w3.cell? ⟨w.heap.size + 1, 1, none⟩ = some (.int .i64 spl) := hr3.st.cell 1
        have x2 : w3.cell? ⟨w.heap.size + 1, 2, none⟩ = some (.slice cA n1 cc) := hr3.st.cell 2
        have x3 : w3.cell? ⟨w.heap.size + 1, 3, none⟩ = some (.slice mA n2 mc) := hr3.st.cell 3
        have x4 : w3.cell? ⟨w.heap.size + 1, 4, none⟩ = some (.slice sA n3 sc) := hr3.st.cell 4
        have x5 : w3.cell? ⟨w.heap.size + 1, 5, none⟩ = some (.slice oA n4 oc) := hr3.st.cell 5
        have y0 : w3.cell? ⟨w.heap.size + 1 + 1, 0, none⟩ = some (.int .i64 tpv) := hk3.cell 0
        have y1 : w3.cell? ⟨w.heap.size + 1 + 1, 1, none⟩ = some (.int .i64 tpl) := hk3.cell 1
        have y2 : w3.cell? ⟨w.heap.size + 1 + 1, 2, none⟩ = some (.slice cB m1 cd) := hk3.cell 2
        have y3 : w3.cell? ⟨w.heap.size + 1 + 1, 3, none⟩ = some (.slice mB m2 md) := hk3.cell 3
        have y4 : w3.cell? ⟨w.heap.size + 1 + 1, 4, none⟩ = some (.slice sB m3 sd) := hk3.cell 4
        have y5 : w3.cell? ⟨w.heap.size + 1 + 1, 5, none⟩ = some (.slice oB m4 od) := hk3.cell 5
        have HR3 := Lib.hid hr3
        have HK3 := Lib.hid hk3
        clear hr3 hk3
        go_wp2_with (fail)
        refine (HL2.out w3 HR3.out.rh.below).mono ?_
        rintro e w4 ⟨rfl, hb4⟩
        have HB := Lib.hid (HR3.out.next hb4).rh.below
        clear l0 l1 x0 x1 x2 x3 x4 x5 y0 y1 y2 y3 y4 y5 HR3 HK3 HL2 hb4
        cases b3
        all_goals
          go_wp2
          go_ret
          exact ⟨by have h := HANS.out; simp at h; rw [← h]; rfl, HB.out⟩
  · have hz1 : ((r : Int) == 0) = false := by rw [beq_eq_false_iff_ne]; omega
    have hz2 : ((r : Int) != 0) = true := by rw [bne_iff_ne]; omega
    have HZ := Lib.hid hz
    clear hz
    go_enter Try.func12, Try.ntmps12
    go_wp2_with (fail)
    refine (HCK.out W0 HR0.out.rh.below).mono ?_
    rintro e w1 ⟨rfl, hb1⟩
    have HB := Lib.hid (HR0.out.next hb1).rh.below
    clear hb1 l0 l1 hW0
    go_wp2
    go_ret
    exact ⟨by have h := HANS.out; rw [if_neg HZ.out] at h; rw [← h]; rfl, HB.out⟩
end Go.Proofs.Ytlddglhjpiahfaa

/- The reference of layer 12: States (by gen_eqvy.py). -/
namespace Go.Proofs.Ytlddglhjpiahfaa
set_option maxRecDepth 100000
open Go.RowKit Go.Shelf Go.Sort
attribute [local go_sem] Oper.semAt_some
/-- Three boxes. -/
structure RT12 (w : World) (x0 x1 : Value) (cs ds : Array Value) (W : World) : Prop where
  a : RLb w x0 x1 cs W
  b : Blk W (w.heap.size + 1 + 1) 32 ds
theorem RT12.below {w : World} {x0 x1 : Value} {cs ds : Array Value} {W : World} (h : RT12 w x0 x1 cs ds W) : Below w.heap.size w W := h.a.rh.below
theorem RT12.next {w : World} {x0 x1 : Value} {cs ds : Array Value} {W W' : World} (h : RT12 w x0 x1 cs ds W) (hb : Below W.heap.size W W') : RT12 w x0 x1 cs ds W' := ⟨h.a.next hb, h.b.below hb h.b.lt⟩
theorem RT12.start (w : World) (x0 x1 : Value) (cs ds : Array Value) : RT12 w x0 x1 cs ds (((w.alloc (.cells #[x0, x1] 25)).alloc (.cells cs 32)).alloc (.cells ds 32)) :=
  ⟨(RLb.start w x0 x1 cs).next ((Below.refl _ _).alloc (Nat.le_refl _) _), Blk.new' _ _ _ _ (by simp)⟩
/-- All labels of a state are the lattice's. -/
def LabsOk (up : List Nat) (s : St.State) : Prop := ∀ l ∈ Ev.labsOf s, isLab up l = true
section
variable {up : List Nat} {s : St.State} (h : LabsOk up s)
include h
theorem LabsOk.pc : isLab up s.pc.l = true := h _ (by unfold Ev.labsOf; simp)
theorem LabsOk.code : ∀ x ∈ s.code, isLab up x.l = true := fun x hx => h _ (by unfold Ev.labsOf; simp only [List.mem_append, List.mem_map]; exact .inr (.inl ⟨x, hx, rfl⟩))
theorem LabsOk.mem : ∀ x ∈ s.mem, isLab up x.l = true := fun x hx => h _ (by unfold Ev.labsOf; simp only [List.mem_append, List.mem_map]; exact .inr (.inr (.inl ⟨x, hx, rfl⟩)))
theorem LabsOk.stack : ∀ x ∈ s.stack, isLab up x.l = true := fun x hx => h _ (by unfold Ev.labsOf; simp only [List.mem_append, List.mem_map]; exact .inr (.inr (.inr (.inl ⟨x, hx, rfl⟩))))
theorem LabsOk.out : ∀ x ∈ s.out, isLab up x.l = true := fun x hx => h _ (by unfold Ev.labsOf; simp only [List.mem_append, List.mem_map]; exact .inr (.inr (.inr (.inr ⟨x, hx, rfl⟩))))
end
set_option maxRecDepth 100000 in
set_option maxHeartbeats 32000000 in
theorem rStates12_any {v sv tv : Value} {names : List ByteArray} {up : List Nat} {s t : St.State} (o : Int) (w : World) (h : IsLat w w.heap.size v names up) (ho : isLab up o = true) (hs : IsSt w w.heap.size sv s) (ht : IsSt w w.heap.size tv t) (hsf : Fif s) (htf : Fif t) (hsl : LabsOk up s) (htl : LabsOk up t) :
    Calls Try.prog 22 #[v, .int .i64 o, sv, tv] w (Tells w (Ev.states (Ev.viewL up o) s t)) := by
  have hl := fun W (hW : Below w.heap.size w W) => (h.below hW).more hW.size
  obtain ⟨cv, mv, stv_, ov, rfl, ⟨cA, cc, rfl, hcr, -⟩, ⟨mA, mc, rfl, hmr, -⟩, ⟨sA, sc, rfl, hsr, hsc⟩, ⟨oA, oc, rfl, hor, -⟩⟩ := hs
  obtain ⟨cv', mv', stv', ov', rfl, ⟨cB, cd, rfl, hcr', -⟩, ⟨mB, md, rfl, hmr', -⟩, ⟨sB, sd, rfl, hsr', hsd⟩, ⟨oB, od, rfl, hor', -⟩⟩ := ht
  unfold stv
  obtain ⟨f1, f2, f3, f4⟩ := hsf
  obtain ⟨g1, g2, g3, g4⟩ := htf
  have k1 := fun W (hW : Below w.heap.size w W) => rCodes12_any (a := s.code) (b := t.code) o cc cd W (hl W hW) ho ((hcr.below hW).more hW.size) ((hcr'.below hW).more hW.size) hsl.code (by omega)
  have k2 := fun W (hW : Below w.heap.size w W) => rAtoms12_any (a := s.mem) (b := t.mem) o mc md W (hl W hW) ho ((hmr.below hW).more hW.size) ((hmr'.below hW).more hW.size) hsl.mem (by omega)
  have k3 := fun W (hW : Below w.heap.size w W) => rOuts12_any (a := s.out) (b := t.out) o oc od W (hl W hW) ho ((hor.below hW).more hW.size) ((hor'.below hW).more hW.size) hsl.out htl.out (by omega) (by omega)
  have k4 := fun W (hW : Below w.heap.size w W) => rSees12_any o s.pc.l W (hl W hW) ho hsl.pc
  have k5 := fun W (hW : Below w.heap.size w W) => rSees12_any o t.pc.l W (hl W hW) ho htl.pc
  have k6 := fun W (hW : Below w.heap.size w W) => rStacks12_any (a := s.stack) (b := t.stack) o sc sd W (hl W hW) ho ((hsr.below hW).more hW.size) ((hsr'.below hW).more hW.size) hsl.stack (by omega)
  have k7 := fun W (hW : Below w.heap.size w W) => rCrop12_any (s := s.stack) o sc W (hl W hW) ho ((hsr.below hW).more hW.size) hsl.stack (by omega) hsc
  have k8 := fun W (hW : Below w.heap.size w W) => rCrop12_any (s := t.stack) o sd W (hl W hW) ho ((hsr'.below hW).more hW.size) htl.stack (by omega) hsd
  have k9 := fun (P Q : Option Addr) cp cq W (hW : Below w.heap.size w W) (r1 : Row W W.heap.size P (fcells svs (Ev.crop (Ev.viewL up o) s.stack))) (r2 : Row W W.heap.size Q (fcells svs (Ev.crop (Ev.viewL up o) t.stack))) => rStacks12_any (a := Ev.crop (Ev.viewL up o) s.stack) (b := Ev.crop (Ev.viewL up o) t.stack) o cp cq W (hl W hW) ho r1 r2 (fun x hx => hsl.stack x (List.mem_of_mem_take hx)) (by rw [Ev.crop_len]; have := Ev.cropN_le (Ev.viewL up o) s.stack; omega)
  simp only [Ev.crop_len] at k9
  have heq := fun w => run_at_eql s.pc t.pc w
  obtain ⟨ans, hans⟩ : ∃ ans, Ev.states (Ev.viewL up o) s t = ans := ⟨_, rfl⟩
  rw [hans]
  have hpl : (Ev.alike (Ev.seenI (Ev.viewL up o)) s.code t.code && Ev.alike (Ev.seenA (Ev.viewL up o)) s.mem t.mem && Ev.outs (Ev.viewL up o) s.out t.out && (if Ev.at_ (Ev.viewL up o) s.pc.l = true then (if Ev.at_ (Ev.viewL up o) t.pc.l = true then decide (s.pc = t.pc) && Ev.alike (Ev.seenS (Ev.viewL up o)) s.stack t.stack else false)
    else if Ev.at_ (Ev.viewL up o) t.pc.l = true then false else Ev.alike (Ev.seenS (Ev.viewL up o)) (Ev.crop (Ev.viewL up o) s.stack) (Ev.crop (Ev.viewL up o) t.stack))) = ans := hans
  obtain ⟨⟨N, U, c1, c2, rfl, -, -⟩, -, -, -⟩ := h
  clear hans hcr hmr hsr hor hcr' hmr' hsr' hor' hsl htl hl ho f1 f2 f3 f4 g1 g2 g3 g4 hsc hsd
  generalize Ev.viewL up o = vw at *
  generalize Ev.alike (Ev.seenI vw) s.code t.code = q1 at *
  generalize Ev.alike (Ev.seenA vw) s.mem t.mem = q2 at *
  generalize Ev.outs vw s.out t.out = q3 at *
  generalize Ev.at_ vw s.pc.l = q4 at *
  generalize Ev.at_ vw t.pc.l = q5 at *
  generalize Ev.alike (Ev.seenS vw) s.stack t.stack = q6 at *
  generalize Ev.alike (Ev.seenS vw) (Ev.crop vw s.stack) (Ev.crop vw t.stack) = q7 at *
  generalize decide (s.pc = t.pc) = q8 at *
  generalize Ev.crop vw s.stack = ra at *
  generalize Ev.crop vw t.stack = rb at *
  generalize Ev.cropN vw s.stack = na at *
  generalize Ev.cropN vw t.stack = nb at *
  generalize s.code.length = n1 at *
  generalize t.code.length = m1 at *
  generalize s.mem.length = n2 at *
  generalize t.mem.length = m2 at *
  generalize s.stack.length = n3 at *
  generalize t.stack.length = m3 at *
  generalize s.out.length = n4 at *
  generalize t.out.length = m4 at *
  generalize s.pc.v = spv at *
  generalize s.pc.l = spl at *
  generalize t.pc.v = tpv at *
  generalize t.pc.l = tpl at *
  obtain ⟨W0, hW0⟩ : ∃ W0, ((w.alloc (.cells #[.slice N names.length c1, .slice U up.length c2] 25)).alloc (.cells #[.int .i64 spv, .int .i64 spl, .slice cA n1 cc, .slice mA n2 mc, .slice sA n3 sc, .slice oA n4 oc] 32)).alloc (.cells #[.int .i64 tpv, .int .i64 tpl, .slice cB m1 cd, .slice mB m2 md, .slice sB m3 sd, .slice oB m4 od] 32) = W0 := ⟨_, rfl⟩
  have hr0 := RT12.start w (.slice N names.length c1) (.slice U up.length c2) #[.int .i64 spv, .int .i64 spl, .slice cA n1 cc, .slice mA n2 mc, .slice sA n3 sc, .slice oA n4 oc] #[.int .i64 tpv, .int .i64 tpl, .slice cB m1 cd, .slice mB m2 md, .slice sB m3 sd, .slice oB m4 od]
  rw [hW0] at hr0
  have HR0 := Lib.hid hr0
  have HANS := Lib.hid hpl
  have K1 := Lib.hid k1
  have K2 := Lib.hid k2
  have K3 := Lib.hid k3
  have K4 := Lib.hid k4
  have K5 := Lib.hid k5
  have K6 := Lib.hid k6
  have K7 := Lib.hid k7
  have K8 := Lib.hid k8
  have K9 := Lib.hid k9
  clear hr0 hpl k1 k2 k3 k4 k5 k6 k7 k8 k9
  go_enter Try.func22, Try.ntmps22
  have l0 : W0.cell? ⟨w.heap.size, 0, none⟩ = some (.slice N names.length c1) := HR0.out.a.rh.box.cell 0
  have l1 : W0.cell? ⟨w.heap.size, 1, none⟩ = some (.slice U up.length c2) := HR0.out.a.rh.box.cell 1
  have x0 : W0.cell? ⟨w.heap.size + 1, 0, none⟩ = some (.int .i64 spv) := HR0.out.a.st.cell 0
  have x1 : W0.cell? ⟨w.heap.size + 1, 1, none⟩ = some (.int .i64 spl) := HR0.out.a.st.cell 1
  have x2 : W0.cell? ⟨w.heap.size + 1, 2, none⟩ = some (.slice cA n1 cc) := HR0.out.a.st.cell 2
  have x3 : W0.cell? ⟨w.heap.size + 1, 3, none⟩ = some (.slice mA n2 mc) := HR0.out.a.st.cell 3
  have x4 : W0.cell? ⟨w.heap.size + 1, 4, none⟩ = some (.slice sA n3 sc) := HR0.out.a.st.cell 4
  have x5 : W0.cell? ⟨w.heap.size + 1, 5, none⟩ = some (.slice oA n4 oc) := HR0.out.a.st.cell 5
  have y0 : W0.cell? ⟨w.heap.size + 1 + 1, 0, none⟩ = some (.int .i64 tpv) := HR0.out.b.cell 0
  have y1 : W0.cell? ⟨w.heap.size + 1 + 1, 1, none⟩ = some (.int .i64 tpl) := HR0.out.b.cell 1
  have y2 : W0.cell? ⟨w.heap.size + 1 + 1, 2, none⟩ = some (.slice cB m1 cd) := HR0.out.b.cell 2
  have y3 : W0.cell? ⟨w.heap.size + 1 + 1, 3, none⟩ = some (.slice mB m2 md) := HR0.out.b.cell 3
  have y4 : W0.cell? ⟨w.heap.size + 1 + 1, 4, none⟩ = some (.slice sB m3 sd) := HR0.out.b.cell 4
  have y5 : W0.cell? ⟨w.heap.size + 1 + 1, 5, none⟩ = some (.slice oB m4 od) := HR0.out.b.cell 5
  go_wp2_with (fail)
  refine (K1.out W0 HR0.out.below).mono ?_
  rintro e v1 ⟨rfl, hb1⟩
  have HR1 := Lib.hid (HR0.out.next hb1)
  clear hW0 l0 l1 x0 x1 x2 x3 x4 x5 y0 y1 y2 y3 y4 y5 hb1
  cases q1
  · clear HR0 K1 K2 K3 K4 K5 K6 K7 K8 K9
    have HB9 := Lib.hid HR1.out.below
    go_wp2
    go_ret
    exact ⟨by have h := HANS.out; simp at h; rw [← h]; try rfl, HB9.out⟩
  · skip
    have l0 : v1.cell? ⟨w.heap.size, 0, none⟩ = some (.slice N names.length c1) := HR1.out.a.rh.box.cell 0
    have l1 : v1.cell? ⟨w.heap.size, 1, none⟩ = some (.slice U up.length c2) := HR1.out.a.rh.box.cell 1
    have x0 : v1.cell? ⟨w.heap.size + 1, 0, none⟩ = some (.int .i64 spv) := HR1.out.a.st.cell 0
    have x1 : v1.cell? ⟨w.heap.size + 1, 1, none⟩ = some (.int .i64 spl) := HR1.out.a.st.cell 1
    have x2 : v1.cell? ⟨w.heap.size + 1, 2, none⟩ = some (.slice cA n1 cc) := HR1.out.a.st.cell 2
    have x3 : v1.cell? ⟨w.heap.size + 1, 3, none⟩ = some (.slice mA n2 mc) := HR1.out.a.st.cell 3
    have x4 : v1.cell? ⟨w.heap.size + 1, 4, none⟩ = some (.slice sA n3 sc) := HR1.out.a.st.cell 4
    have x5 : v1.cell? ⟨w.heap.size + 1, 5, none⟩ = some (.slice oA n4 oc) := HR1.out.a.st.cell 5
    have y0 : v1.cell? ⟨w.heap.size + 1 + 1, 0, none⟩ = some (.int .i64 tpv) := HR1.out.b.cell 0
    have y1 : v1.cell? ⟨w.heap.size + 1 + 1, 1, none⟩ = some (.int .i64 tpl) := HR1.out.b.cell 1
    have y2 : v1.cell? ⟨w.heap.size + 1 + 1, 2, none⟩ = some (.slice cB m1 cd) := HR1.out.b.cell 2
    have y3 : v1.cell? ⟨w.heap.size + 1 + 1, 3, none⟩ = some (.slice mB m2 md) := HR1.out.b.cell 3
    have y4 : v1.cell? ⟨w.heap.size + 1 + 1, 4, none⟩ = some (.slice sB m3 sd) := HR1.out.b.cell 4
    have y5 : v1.cell? ⟨w.heap.size + 1 + 1, 5, none⟩ = some (.slice oB m4 od) := HR1.out.b.cell 5
    go_wp2_with (fail)
    refine (K2.out v1 HR1.out.below).mono ?_
    rintro e v2 ⟨rfl, hb2⟩
    have HR2 := Lib.hid (HR1.out.next hb2)
    clear l0 l1 x0 x1 x2 x3 x4 x5 y0 y1 y2 y3 y4 y5 hb2
    cases q2
    · clear HR0 HR1 K1 K2 K3 K4 K5 K6 K7 K8 K9
      have HB9 := Lib.hid HR2.out.below
      go_wp2
      go_ret
      exact ⟨by have h := HANS.out; simp at h; rw [← h]; try rfl, HB9.out⟩
    · skip
      have l0 : v2.cell? ⟨w.heap.size, 0, none⟩ = some (.slice N names.length c1) := HR2.out.a.rh.box.cell 0
      have l1 : v2.cell? ⟨w.heap.size, 1, none⟩ = some (.slice U up.length c2) := HR2.out.a.rh.box.cell 1
      have x0 : v2.cell? ⟨w.heap.size + 1, 0, none⟩ = some (.int .i64 spv) := HR2.out.a.st.cell 0
      have x1 : v2.cell? ⟨w.heap.size + 1, 1, none⟩ = some (.int .i64 spl) := HR2.out.a.st.cell 1
      have x2 : v2.cell? ⟨w.heap.size + 1, 2, none⟩ = some (.slice cA n1 cc) := HR2.out.a.st.cell 2
      have x3 : v2.cell? ⟨w.heap.size + 1, 3, none⟩ = some (.slice mA n2 mc) := HR2.out.a.st.cell 3
      have x4 : v2.cell? ⟨w.heap.size + 1, 4, none⟩ = some (.slice sA n3 sc) := HR2.out.a.st.cell 4
      have x5 : v2.cell? ⟨w.heap.size + 1, 5, none⟩ = some (.slice oA n4 oc) := HR2.out.a.st.cell 5
      have y0 : v2.cell? ⟨w.heap.size + 1 + 1, 0, none⟩ = some (.int .i64 tpv) := HR2.out.b.cell 0
      have y1 : v2.cell? ⟨w.heap.size + 1 + 1, 1, none⟩ = some (.int .i64 tpl) := HR2.out.b.cell 1
      have y2 : v2.cell? ⟨w.heap.size + 1 + 1, 2, none⟩ = some (.slice cB m1 cd) := HR2.out.b.cell 2
      have y3 : v2.cell? ⟨w.heap.size + 1 + 1, 3, none⟩ = some (.slice mB m2 md) := HR2.out.b.cell 3
      have y4 : v2.cell? ⟨w.heap.size + 1 + 1, 4, none⟩ = some (.slice sB m3 sd) := HR2.out.b.cell 4
      have y5 : v2.cell? ⟨w.heap.size + 1 + 1, 5, none⟩ = some (.slice oB m4 od) := HR2.out.b.cell 5
      go_wp2_with (fail)
      refine (K3.out v2 HR2.out.below).mono ?_
      rintro e v3 ⟨rfl, hb3⟩
      have HR3 := Lib.hid (HR2.out.next hb3)
      clear l0 l1 x0 x1 x2 x3 x4 x5 y0 y1 y2 y3 y4 y5 hb3
      cases q3
      · clear HR0 HR1 HR2 K1 K2 K3 K4 K5 K6 K7 K8 K9
        have HB9 := Lib.hid HR3.out.below
        go_wp2
        go_ret
        exact ⟨by have h := HANS.out; simp at h; rw [← h]; try rfl, HB9.out⟩
      · clear HR0 HR1 HR2 K1 K2 K3
        have l0 : v3.cell? ⟨w.heap.size, 0, none⟩ = some (.slice N names.length c1) := HR3.out.a.rh.box.cell 0
        have l1 : v3.cell? ⟨w.heap.size, 1, none⟩ = some (.slice U up.length c2) := HR3.out.a.rh.box.cell 1
        have x0 : v3.cell? ⟨w.heap.size + 1, 0, none⟩ = some (.int .i64 spv) := HR3.out.a.st.cell 0
        have x1 : v3.cell? ⟨w.heap.size + 1, 1, none⟩ = some (.int .i64 spl) := HR3.out.a.st.cell 1
        have x2 : v3.cell? ⟨w.heap.size + 1, 2, none⟩ = some (.slice cA n1 cc) := HR3.out.a.st.cell 2
        have x3 : v3.cell? ⟨w.heap.size + 1, 3, none⟩ = some (.slice mA n2 mc) := HR3.out.a.st.cell 3
        have x4 : v3.cell? ⟨w.heap.size + 1, 4, none⟩ = some (.slice sA n3 sc) := HR3.out.a.st.cell 4
        have x5 : v3.cell? ⟨w.heap.size + 1, 5, none⟩ = some (.slice oA n4 oc) := HR3.out.a.st.cell 5
        have y0 : v3.cell? ⟨w.heap.size + 1 + 1, 0, none⟩ = some (.int .i64 tpv) := HR3.out.b.cell 0
        have y1 : v3.cell? ⟨w.heap.size + 1 + 1, 1, none⟩ = some (.int .i64 tpl) := HR3.out.b.cell 1
        have y2 : v3.cell? ⟨w.heap.size + 1 + 1, 2, none⟩ = some (.slice cB m1 cd) := HR3.out.b.cell 2
        have y3 : v3.cell? ⟨w.heap.size + 1 + 1, 3, none⟩ = some (.slice mB m2 md) := HR3.out.b.cell 3
        have y4 : v3.cell? ⟨w.heap.size + 1 + 1, 4, none⟩ = some (.slice sB m3 sd) := HR3.out.b.cell 4
        have y5 : v3.cell? ⟨w.heap.size + 1 + 1, 5, none⟩ = some (.slice oB m4 od) := HR3.out.b.cell 5
        go_wp2_with (fail)
        refine (K4.out v3 HR3.out.below).mono ?_
        rintro e v4 ⟨rfl, hb4⟩
        have HR4 := Lib.hid (HR3.out.next hb4)
        clear l0 l1 x0 x1 x2 x3 x4 x5 y0 y1 y2 y3 y4 y5 hb4
        cases q4
        · skip
          have l0 : v4.cell? ⟨w.heap.size, 0, none⟩ = some (.slice N names.length c1) := HR4.out.a.rh.box.cell 0
          have l1 : v4.cell? ⟨w.heap.size, 1, none⟩ = some (.slice U up.length c2) := HR4.out.a.rh.box.cell 1
          have x0 : v4.cell? ⟨w.heap.size + 1, 0, none⟩ = some (.int .i64 spv) := HR4.out.a.st.cell 0
          have x1 : v4.cell? ⟨w.heap.size + 1, 1, none⟩ = some (.int .i64 spl) := HR4.out.a.st.cell 1
          have x2 : v4.cell? ⟨w.heap.size + 1, 2, none⟩ = some (.slice cA n1 cc) := HR4.out.a.st.cell 2
          have x3 : v4.cell? ⟨w.heap.size + 1, 3, none⟩ = some (.slice mA n2 mc) := HR4.out.a.st.cell 3
          have x4 : v4.cell? ⟨w.heap.size + 1, 4, none⟩ = some (.slice sA n3 sc) := HR4.out.a.st.cell 4
          have x5 : v4.cell? ⟨w.heap.size + 1, 5, none⟩ = some (.slice oA n4 oc) := HR4.out.a.st.cell 5
          have y0 : v4.cell? ⟨w.heap.size + 1 + 1, 0, none⟩ = some (.int .i64 tpv) := HR4.out.b.cell 0
          have y1 : v4.cell? ⟨w.heap.size + 1 + 1, 1, none⟩ = some (.int .i64 tpl) := HR4.out.b.cell 1
          have y2 : v4.cell? ⟨w.heap.size + 1 + 1, 2, none⟩ = some (.slice cB m1 cd) := HR4.out.b.cell 2
          have y3 : v4.cell? ⟨w.heap.size + 1 + 1, 3, none⟩ = some (.slice mB m2 md) := HR4.out.b.cell 3
          have y4 : v4.cell? ⟨w.heap.size + 1 + 1, 4, none⟩ = some (.slice sB m3 sd) := HR4.out.b.cell 4
          have y5 : v4.cell? ⟨w.heap.size + 1 + 1, 5, none⟩ = some (.slice oB m4 od) := HR4.out.b.cell 5
          go_wp2_with (fail)
          refine (K4.out v4 HR4.out.below).mono ?_
          rintro e v5 ⟨rfl, hb5⟩
          have HR5 := Lib.hid (HR4.out.next hb5)
          clear l0 l1 x0 x1 x2 x3 x4 x5 y0 y1 y2 y3 y4 y5 hb5
          have l0 : v5.cell? ⟨w.heap.size, 0, none⟩ = some (.slice N names.length c1) := HR5.out.a.rh.box.cell 0
          have l1 : v5.cell? ⟨w.heap.size, 1, none⟩ = some (.slice U up.length c2) := HR5.out.a.rh.box.cell 1
          have x0 : v5.cell? ⟨w.heap.size + 1, 0, none⟩ = some (.int .i64 spv) := HR5.out.a.st.cell 0
          have x1 : v5.cell? ⟨w.heap.size + 1, 1, none⟩ = some (.int .i64 spl) := HR5.out.a.st.cell 1
          have x2 : v5.cell? ⟨w.heap.size + 1, 2, none⟩ = some (.slice cA n1 cc) := HR5.out.a.st.cell 2
          have x3 : v5.cell? ⟨w.heap.size + 1, 3, none⟩ = some (.slice mA n2 mc) := HR5.out.a.st.cell 3
          have x4 : v5.cell? ⟨w.heap.size + 1, 4, none⟩ = some (.slice sA n3 sc) := HR5.out.a.st.cell 4
          have x5 : v5.cell? ⟨w.heap.size + 1, 5, none⟩ = some (.slice oA n4 oc) := HR5.out.a.st.cell 5
          have y0 : v5.cell? ⟨w.heap.size + 1 + 1, 0, none⟩ = some (.int .i64 tpv) := HR5.out.b.cell 0
          have y1 : v5.cell? ⟨w.heap.size + 1 + 1, 1, none⟩ = some (.int .i64 tpl) := HR5.out.b.cell 1
          have y2 : v5.cell? ⟨w.heap.size + 1 + 1, 2, none⟩ = some (.slice cB m1 cd) := HR5.out.b.cell 2
          have y3 : v5.cell? ⟨w.heap.size + 1 + 1, 3, none⟩ = some (.slice mB m2 md) := HR5.out.b.cell 3
          have y4 : v5.cell? ⟨w.heap.size + 1 + 1, 4, none⟩ = some (.slice sB m3 sd) := HR5.out.b.cell 4
          have y5 : v5.cell? ⟨w.heap.size + 1 + 1, 5, none⟩ = some (.slice oB m4 od) := HR5.out.b.cell 5
          go_wp2_with (fail)
          refine (K5.out v5 HR5.out.below).mono ?_
          rintro e v6 ⟨rfl, hb6⟩
          have HR6 := Lib.hid (HR5.out.next hb6)
          clear l0 l1 x0 x1 x2 x3 x4 x5 y0 y1 y2 y3 y4 y5 hb6
          cases q5
          · skip
            have l0 : v6.cell? ⟨w.heap.size, 0, none⟩ = some (.slice N names.length c1) := HR6.out.a.rh.box.cell 0
            have l1 : v6.cell? ⟨w.heap.size, 1, none⟩ = some (.slice U up.length c2) := HR6.out.a.rh.box.cell 1
            have x0 : v6.cell? ⟨w.heap.size + 1, 0, none⟩ = some (.int .i64 spv) := HR6.out.a.st.cell 0
            have x1 : v6.cell? ⟨w.heap.size + 1, 1, none⟩ = some (.int .i64 spl) := HR6.out.a.st.cell 1
            have x2 : v6.cell? ⟨w.heap.size + 1, 2, none⟩ = some (.slice cA n1 cc) := HR6.out.a.st.cell 2
            have x3 : v6.cell? ⟨w.heap.size + 1, 3, none⟩ = some (.slice mA n2 mc) := HR6.out.a.st.cell 3
            have x4 : v6.cell? ⟨w.heap.size + 1, 4, none⟩ = some (.slice sA n3 sc) := HR6.out.a.st.cell 4
            have x5 : v6.cell? ⟨w.heap.size + 1, 5, none⟩ = some (.slice oA n4 oc) := HR6.out.a.st.cell 5
            have y0 : v6.cell? ⟨w.heap.size + 1 + 1, 0, none⟩ = some (.int .i64 tpv) := HR6.out.b.cell 0
            have y1 : v6.cell? ⟨w.heap.size + 1 + 1, 1, none⟩ = some (.int .i64 tpl) := HR6.out.b.cell 1
            have y2 : v6.cell? ⟨w.heap.size + 1 + 1, 2, none⟩ = some (.slice cB m1 cd) := HR6.out.b.cell 2
            have y3 : v6.cell? ⟨w.heap.size + 1 + 1, 3, none⟩ = some (.slice mB m2 md) := HR6.out.b.cell 3
            have y4 : v6.cell? ⟨w.heap.size + 1 + 1, 4, none⟩ = some (.slice sB m3 sd) := HR6.out.b.cell 4
            have y5 : v6.cell? ⟨w.heap.size + 1 + 1, 5, none⟩ = some (.slice oB m4 od) := HR6.out.b.cell 5
            go_wp2_with (fail)
            clear l0 l1 x0 x1 x2 x3 x4 x5 y0 y1 y2 y3 y4 y5
            refine Free.region_seq [6, 11, 12] [0, 2, 5, 7, 10] 12 (fun W' => W'.cell? ⟨w.heap.size, 0, none⟩ = some (.slice N names.length c1) ∧ W'.cell? ⟨w.heap.size, 1, none⟩ = some (.slice U up.length c2) ∧ W'.cell? ⟨w.heap.size + 1, 4, none⟩ = some (.slice sA n3 sc) ∧ W'.cell? ⟨w.heap.size + 1 + 1, 4, none⟩ = some (.slice sB m3 sd)) (by kernel_rfl) (by kernel_rfl) (by kernel_rfl) (by kernel_rfl) (⟨HR6.out.a.rh.box.cell 0, HR6.out.a.rh.box.cell 1, HR6.out.a.st.cell 4, HR6.out.b.cell 4⟩) (fun ops hops => ?_)
            clear hops
            iterate 6
              refine Free.Seq.quiet (v := ?_) (a' := ?_) rfl rfl (fun W' hW' => ?_) ?_ ?_
              rotate_left 2
              · first | obtain ⟨s0, s1, s2, s3⟩ := hW' rfl | skip
                go_simp
                try with_reducible rfl
              · simp only [Act.put, List.setIfInBounds_toArray, List.set_cons_zero, List.set_cons_succ]
                try with_reducible rfl
            refine Free.Seq.loud_ rfl (.inl rfl) (fun K hK => ?_)
            go_simp
            refine (K7.out v6.drew HR6.out.below.drew).mono ?_
            rintro e u1 ⟨P, cp, rfl, hr1, hb1⟩
            have hb1 := (Below.refl _ v6).drew.trans hb1
            have HU1 := Lib.hid (HR6.out.next hb1)
            have HX1 := Lib.hid hr1
            refine hK.out _ _ rfl (fun _ => ⟨HU1.out.a.rh.box.cell 0, HU1.out.a.rh.box.cell 1, HU1.out.a.st.cell 4, HU1.out.b.cell 4⟩) ?_
            clear hK K hb1 hr1
            iterate 4
              refine Free.Seq.quiet (v := ?_) (a' := ?_) rfl rfl (fun W' hW' => ?_) ?_ ?_
              rotate_left 2
              · first | obtain ⟨s0, s1, s2, s3⟩ := hW' rfl | skip
                go_simp
                try with_reducible rfl
              · simp only [Act.put, List.setIfInBounds_toArray, List.set_cons_zero, List.set_cons_succ]
                try with_reducible rfl
            refine Free.Seq.loud_ rfl (.inl rfl) (fun K hK => ?_)
            go_simp
            refine (K8.out u1 HU1.out.below).mono ?_
            rintro e u2 ⟨Q, cq, rfl, hr2, hb2⟩
            have HU2 := Lib.hid (HU1.out.next hb2)
            have HX2 := Lib.hid ((HX1.out.below hb2).more hb2.size)
            have HX3 := Lib.hid hr2
            refine hK.out _ _ rfl (fun _ => ⟨HU2.out.a.rh.box.cell 0, HU2.out.a.rh.box.cell 1, HU2.out.a.st.cell 4, HU2.out.b.cell 4⟩) ?_
            clear hK K hb2 hr2
            refine Free.Seq.loud_ rfl (.inl rfl) (fun K hK => ?_)
            go_simp
            refine (K9.out P Q cp cq u2 HU2.out.below HX2.out HX3.out).mono ?_
            rintro e u3 ⟨rfl, hb3⟩
            have HU3 := Lib.hid (HU2.out.next hb3)
            refine hK.out _ _ rfl (fun h => absurd h (by decide)) ?_
            clear hK K hb3
            iterate 1
              refine Free.Seq.quiet (v := ?_) (a' := ?_) rfl rfl (fun W' hW' => ?_) ?_ ?_
              rotate_left 2
              · skip
                go_simp
                try with_reducible rfl
              · simp only [Act.put, List.setIfInBounds_toArray, List.set_cons_zero, List.set_cons_succ]
                try with_reducible rfl
            refine Free.Seq.nil_ ?_
            have HB9 := Lib.hid HU3.out.below
            go_wp2
            go_ret
            exact ⟨by have h := HANS.out; simp at h; rw [← h]; try rfl, HB9.out⟩
          · skip
            have HB9 := Lib.hid HR6.out.below
            go_wp2
            go_ret
            exact ⟨by have h := HANS.out; simp at h; rw [← h]; try rfl, HB9.out⟩
        · skip
          have l0 : v4.cell? ⟨w.heap.size, 0, none⟩ = some (.slice N names.length c1) := HR4.out.a.rh.box.cell 0
          have l1 : v4.cell? ⟨w.heap.size, 1, none⟩ = some (.slice U up.length c2) := HR4.out.a.rh.box.cell 1
          have x0 : v4.cell? ⟨w.heap.size + 1, 0, none⟩ = some (.int .i64 spv) := HR4.out.a.st.cell 0
          have x1 : v4.cell? ⟨w.heap.size + 1, 1, none⟩ = some (.int .i64 spl) := HR4.out.a.st.cell 1
          have x2 : v4.cell? ⟨w.heap.size + 1, 2, none⟩ = some (.slice cA n1 cc) := HR4.out.a.st.cell 2
          have x3 : v4.cell? ⟨w.heap.size + 1, 3, none⟩ = some (.slice mA n2 mc) := HR4.out.a.st.cell 3
          have x4 : v4.cell? ⟨w.heap.size + 1, 4, none⟩ = some (.slice sA n3 sc) := HR4.out.a.st.cell 4
          have x5 : v4.cell? ⟨w.heap.size + 1, 5, none⟩ = some (.slice oA n4 oc) := HR4.out.a.st.cell 5
          have y0 : v4.cell? ⟨w.heap.size + 1 + 1, 0, none⟩ = some (.int .i64 tpv) := HR4.out.b.cell 0
          have y1 : v4.cell? ⟨w.heap.size + 1 + 1, 1, none⟩ = some (.int .i64 tpl) := HR4.out.b.cell 1
          have y2 : v4.cell? ⟨w.heap.size + 1 + 1, 2, none⟩ = some (.slice cB m1 cd) := HR4.out.b.cell 2
          have y3 : v4.cell? ⟨w.heap.size + 1 + 1, 3, none⟩ = some (.slice mB m2 md) := HR4.out.b.cell 3
          have y4 : v4.cell? ⟨w.heap.size + 1 + 1, 4, none⟩ = some (.slice sB m3 sd) := HR4.out.b.cell 4
          have y5 : v4.cell? ⟨w.heap.size + 1 + 1, 5, none⟩ = some (.slice oB m4 od) := HR4.out.b.cell 5
          go_wp2_with (fail)
          refine (K5.out v4 HR4.out.below).mono ?_
          rintro e v5 ⟨rfl, hb5⟩
          have HR5 := Lib.hid (HR4.out.next hb5)
          clear l0 l1 x0 x1 x2 x3 x4 x5 y0 y1 y2 y3 y4 y5 hb5
          cases q5
          · skip
            have l0 : v5.cell? ⟨w.heap.size, 0, none⟩ = some (.slice N names.length c1) := HR5.out.a.rh.box.cell 0
            have l1 : v5.cell? ⟨w.heap.size, 1, none⟩ = some (.slice U up.length c2) := HR5.out.a.rh.box.cell 1
            have x0 : v5.cell? ⟨w.heap.size + 1, 0, none⟩ = some (.int .i64 spv) := HR5.out.a.st.cell 0
            have x1 : v5.cell? ⟨w.heap.size + 1, 1, none⟩ = some (.int .i64 spl) := HR5.out.a.st.cell 1
            have x2 : v5.cell? ⟨w.heap.size + 1, 2, none⟩ = some (.slice cA n1 cc) := HR5.out.a.st.cell 2
            have x3 : v5.cell? ⟨w.heap.size + 1, 3, none⟩ = some (.slice mA n2 mc) := HR5.out.a.st.cell 3
            have x4 : v5.cell? ⟨w.heap.size + 1, 4, none⟩ = some (.slice sA n3 sc) := HR5.out.a.st.cell 4
            have x5 : v5.cell? ⟨w.heap.size + 1, 5, none⟩ = some (.slice oA n4 oc) := HR5.out.a.st.cell 5
            have y0 : v5.cell? ⟨w.heap.size + 1 + 1, 0, none⟩ = some (.int .i64 tpv) := HR5.out.b.cell 0
            have y1 : v5.cell? ⟨w.heap.size + 1 + 1, 1, none⟩ = some (.int .i64 tpl) := HR5.out.b.cell 1
            have y2 : v5.cell? ⟨w.heap.size + 1 + 1, 2, none⟩ = some (.slice cB m1 cd) := HR5.out.b.cell 2
            have y3 : v5.cell? ⟨w.heap.size + 1 + 1, 3, none⟩ = some (.slice mB m2 md) := HR5.out.b.cell 3
            have y4 : v5.cell? ⟨w.heap.size + 1 + 1, 4, none⟩ = some (.slice sB m3 sd) := HR5.out.b.cell 4
            have y5 : v5.cell? ⟨w.heap.size + 1 + 1, 5, none⟩ = some (.slice oB m4 od) := HR5.out.b.cell 5
            go_wp2_with (fail)
            refine (K4.out v5 HR5.out.below).mono ?_
            rintro e v6 ⟨rfl, hb6⟩
            have HR6 := Lib.hid (HR5.out.next hb6)
            clear l0 l1 x0 x1 x2 x3 x4 x5 y0 y1 y2 y3 y4 y5 hb6
            have HB9 := Lib.hid HR6.out.below
            go_wp2
            go_ret
            exact ⟨by have h := HANS.out; simp at h; rw [← h]; try rfl, HB9.out⟩
          · cases q8
            · skip
              have l0 : v5.cell? ⟨w.heap.size, 0, none⟩ = some (.slice N names.length c1) := HR5.out.a.rh.box.cell 0
              have l1 : v5.cell? ⟨w.heap.size, 1, none⟩ = some (.slice U up.length c2) := HR5.out.a.rh.box.cell 1
              have x0 : v5.cell? ⟨w.heap.size + 1, 0, none⟩ = some (.int .i64 spv) := HR5.out.a.st.cell 0
              have x1 : v5.cell? ⟨w.heap.size + 1, 1, none⟩ = some (.int .i64 spl) := HR5.out.a.st.cell 1
              have x2 : v5.cell? ⟨w.heap.size + 1, 2, none⟩ = some (.slice cA n1 cc) := HR5.out.a.st.cell 2
              have x3 : v5.cell? ⟨w.heap.size + 1, 3, none⟩ = some (.slice mA n2 mc) := HR5.out.a.st.cell 3
              have x4 : v5.cell? ⟨w.heap.size + 1, 4, none⟩ = some (.slice sA n3 sc) := HR5.out.a.st.cell 4
              have x5 : v5.cell? ⟨w.heap.size + 1, 5, none⟩ = some (.slice oA n4 oc) := HR5.out.a.st.cell 5
              have y0 : v5.cell? ⟨w.heap.size + 1 + 1, 0, none⟩ = some (.int .i64 tpv) := HR5.out.b.cell 0
              have y1 : v5.cell? ⟨w.heap.size + 1 + 1, 1, none⟩ = some (.int .i64 tpl) := HR5.out.b.cell 1
              have y2 : v5.cell? ⟨w.heap.size + 1 + 1, 2, none⟩ = some (.slice cB m1 cd) := HR5.out.b.cell 2
              have y3 : v5.cell? ⟨w.heap.size + 1 + 1, 3, none⟩ = some (.slice mB m2 md) := HR5.out.b.cell 3
              have y4 : v5.cell? ⟨w.heap.size + 1 + 1, 4, none⟩ = some (.slice sB m3 sd) := HR5.out.b.cell 4
              have y5 : v5.cell? ⟨w.heap.size + 1 + 1, 5, none⟩ = some (.slice oB m4 od) := HR5.out.b.cell 5
              have HB9 := Lib.hid HR5.out.below
              go_wp2
              go_ret
              exact ⟨by have h := HANS.out; simp at h; rw [← h]; try rfl, HB9.out⟩
            · skip
              have l0 : v5.cell? ⟨w.heap.size, 0, none⟩ = some (.slice N names.length c1) := HR5.out.a.rh.box.cell 0
              have l1 : v5.cell? ⟨w.heap.size, 1, none⟩ = some (.slice U up.length c2) := HR5.out.a.rh.box.cell 1
              have x0 : v5.cell? ⟨w.heap.size + 1, 0, none⟩ = some (.int .i64 spv) := HR5.out.a.st.cell 0
              have x1 : v5.cell? ⟨w.heap.size + 1, 1, none⟩ = some (.int .i64 spl) := HR5.out.a.st.cell 1
              have x2 : v5.cell? ⟨w.heap.size + 1, 2, none⟩ = some (.slice cA n1 cc) := HR5.out.a.st.cell 2
              have x3 : v5.cell? ⟨w.heap.size + 1, 3, none⟩ = some (.slice mA n2 mc) := HR5.out.a.st.cell 3
              have x4 : v5.cell? ⟨w.heap.size + 1, 4, none⟩ = some (.slice sA n3 sc) := HR5.out.a.st.cell 4
              have x5 : v5.cell? ⟨w.heap.size + 1, 5, none⟩ = some (.slice oA n4 oc) := HR5.out.a.st.cell 5
              have y0 : v5.cell? ⟨w.heap.size + 1 + 1, 0, none⟩ = some (.int .i64 tpv) := HR5.out.b.cell 0
              have y1 : v5.cell? ⟨w.heap.size + 1 + 1, 1, none⟩ = some (.int .i64 tpl) := HR5.out.b.cell 1
              have y2 : v5.cell? ⟨w.heap.size + 1 + 1, 2, none⟩ = some (.slice cB m1 cd) := HR5.out.b.cell 2
              have y3 : v5.cell? ⟨w.heap.size + 1 + 1, 3, none⟩ = some (.slice mB m2 md) := HR5.out.b.cell 3
              have y4 : v5.cell? ⟨w.heap.size + 1 + 1, 4, none⟩ = some (.slice sB m3 sd) := HR5.out.b.cell 4
              have y5 : v5.cell? ⟨w.heap.size + 1 + 1, 5, none⟩ = some (.slice oB m4 od) := HR5.out.b.cell 5
              go_wp2_with (fail)
              refine (K6.out v5 HR5.out.below).mono ?_
              rintro e v6 ⟨rfl, hb6⟩
              have HR6 := Lib.hid (HR5.out.next hb6)
              clear l0 l1 x0 x1 x2 x3 x4 x5 y0 y1 y2 y3 y4 y5 hb6
              have HB9 := Lib.hid HR6.out.below
              go_wp2
              go_ret
              exact ⟨by have h := HANS.out; simp at h; rw [← h]; try rfl, HB9.out⟩
end Go.Proofs.Ytlddglhjpiahfaa
