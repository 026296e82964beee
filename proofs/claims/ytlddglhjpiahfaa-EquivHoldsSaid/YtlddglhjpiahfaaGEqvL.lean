/- Walks of package equiv's states, States, Outs, Crop (by gen_eqvl.py). -/
import Derived.Test.YtlddglhjpiahfaaGEqvC
import Derived.Test.YtlddglhjpiahfaaGStpA
import Derived.Test.YtlddglhjpiahfaaGCodE
namespace Go.Proofs.Ytlddglhjpiahfaa
set_option maxRecDepth 100000
open Go.RowKit Go.Shelf Go.Sort
attribute [local go_sem] Oper.semAt_some
set_option maxRecDepth 100000 in
set_option maxHeartbeats 16000000 in
theorem states_any {A : Option Addr} {v : List Bool} {sv tv : Value} {s t : St.State} (c : Nat) (w : World) (h : Row w w.heap.size A (vbs v)) (hs : IsSt w w.heap.size sv s) (ht : IsSt w w.heap.size tv t) (hsf : Fif s) (htf : Fif t) (hsl : LabsIn v.length s) (htl : LabsIn v.length t) :
    Calls Try.prog 42 #[.slice A v.length c, sv, tv] w (Tells w (Ev.states v s t)) := by
  have hpl := fun W (hb : Below w.heap.size w W) => places_any c W ((h.below hb).more hb.size) ((hs.below hb).more hb.size) ((ht.below hb).more hb.size) hsf htf hsl htl
  obtain ⟨cv, mv, stv_, ov, rfl, ⟨cA, cc, rfl, hcr, -⟩, ⟨mA, mc, rfl, hmr, -⟩, ⟨sA, sc, rfl, hsr, hsc⟩, ⟨oA, oc, rfl, hor, -⟩⟩ := hs
  obtain ⟨cv', mv', stv', ov', rfl, ⟨cB, cd, rfl, hcr', -⟩, ⟨mB, md, rfl, hmr', -⟩, ⟨sB, sd, rfl, hsr', hsd⟩, ⟨oB, od, rfl, hor', -⟩⟩ := ht
  unfold stv at hpl ⊢
  obtain ⟨f1, f2, f3, f4⟩ := hsf
  obtain ⟨g1, g2, g3, g4⟩ := htf
  have hco := fun W (hb : Below w.heap.size w W) => alikeI_any (A := A) (a := s.code) (b := t.code) c cc cd W ((h.below hb).more hb.size) ((hcr.below hb).more hb.size) ((hcr'.below hb).more hb.size) hsl.code htl.code (by omega)
  have hme := fun W (hb : Below w.heap.size w W) => alikeA_any (A := A) (a := s.mem) (b := t.mem) c mc md W ((h.below hb).more hb.size) ((hmr.below hb).more hb.size) ((hmr'.below hb).more hb.size) hsl.mem htl.mem (by omega)
  have hou := fun W (hb : Below w.heap.size w W) => outs_any (A := A) (a := s.out) (b := t.out) c oc od W ((h.below hb).more hb.size) ((hor.below hb).more hb.size) ((hor'.below hb).more hb.size) hsl.out htl.out (by omega) (by omega)
  have hi := fun W => howI_any W
  have ha := fun W => howA_any W
  unfold howI at hco hi
  unfold howA at hme ha
  have hst : Ev.states v s t = (Ev.alike (Ev.seenI v) s.code t.code && Ev.alike (Ev.seenA v) s.mem t.mem && Ev.outs v s.out t.out && Ev.places v s t) := rfl
  rw [hst]
  obtain ⟨W0, hW0⟩ : ∃ W0, (w.alloc (.cells #[.int .i64 s.pc.v, .int .i64 s.pc.l, .slice cA s.code.length cc, .slice mA s.mem.length mc, .slice sA s.stack.length sc, .slice oA s.out.length oc] 32)).alloc (.cells #[.int .i64 t.pc.v, .int .i64 t.pc.l, .slice cB t.code.length cd, .slice mB t.mem.length md, .slice sB t.stack.length sd, .slice oB t.out.length od] 32) = W0 := ⟨_, rfl⟩
  have hb0 : Below w.heap.size w W0 := hW0 ▸ ((Below.refl _ w).alloc (Nat.le_refl _) _).alloc (by simp) _
  have hk0 : Blk W0 w.heap.size 32 #[.int .i64 s.pc.v, .int .i64 s.pc.l, .slice cA s.code.length cc, .slice mA s.mem.length mc, .slice sA s.stack.length sc, .slice oA s.out.length oc] := hW0 ▸ (Blk.new _ _ _).alloc _
  have hk1 : Blk W0 (w.heap.size + 1) 32 #[.int .i64 t.pc.v, .int .i64 t.pc.l, .slice cB t.code.length cd, .slice mB t.mem.length md, .slice sB t.stack.length sd, .slice oB t.out.length od] := by
    rw [← hW0]; exact Blk.new' _ _ _ _ (by simp)
  have H1 := Lib.hid (fun W (hb : Below W0.heap.size W0 W) => hco W (hb0.trans (hb.mono hb0.size)))
  have H2 := Lib.hid (fun W (hb : Below W0.heap.size W0 W) => hme W (hb0.trans (hb.mono hb0.size)))
  have H3 := Lib.hid (fun W (hb : Below W0.heap.size W0 W) => hou W (hb0.trans (hb.mono hb0.size)))
  have H4 := Lib.hid (fun W (hb : Below W0.heap.size W0 W) => hpl W (hb0.trans (hb.mono hb0.size)))
  have HI := Lib.hid hi
  have HA := Lib.hid ha
  have HB0 := Lib.hid hb0
  have x0 : W0.cell? ⟨w.heap.size, 0, none⟩ = some (.int .i64 s.pc.v) := hk0.cell 0
  have x1 : W0.cell? ⟨w.heap.size, 1, none⟩ = some (.int .i64 s.pc.l) := hk0.cell 1
  have x2 : W0.cell? ⟨w.heap.size, 2, none⟩ = some (.slice cA s.code.length cc) := hk0.cell 2
  have x3 : W0.cell? ⟨w.heap.size, 3, none⟩ = some (.slice mA s.mem.length mc) := hk0.cell 3
  have x4 : W0.cell? ⟨w.heap.size, 4, none⟩ = some (.slice sA s.stack.length sc) := hk0.cell 4
  have x5 : W0.cell? ⟨w.heap.size, 5, none⟩ = some (.slice oA s.out.length oc) := hk0.cell 5
  have y0 : W0.cell? ⟨w.heap.size + 1, 0, none⟩ = some (.int .i64 t.pc.v) := hk1.cell 0
  have y1 : W0.cell? ⟨w.heap.size + 1, 1, none⟩ = some (.int .i64 t.pc.l) := hk1.cell 1
  have y2 : W0.cell? ⟨w.heap.size + 1, 2, none⟩ = some (.slice cB t.code.length cd) := hk1.cell 2
  have y3 : W0.cell? ⟨w.heap.size + 1, 3, none⟩ = some (.slice mB t.mem.length md) := hk1.cell 3
  have y4 : W0.cell? ⟨w.heap.size + 1, 4, none⟩ = some (.slice sB t.stack.length sd) := hk1.cell 4
  have y5 : W0.cell? ⟨w.heap.size + 1, 5, none⟩ = some (.slice oB t.out.length od) := hk1.cell 5
  clear h hb0 hk0 hk1 hcr hmr hsr hor hcr' hmr' hsr' hor' hsl htl hco hme hou hpl hi ha hst hsc hsd f1 f2 f3 f4 g1 g2 g3 g4
  generalize Ev.alike (Ev.seenI v) s.code t.code = q1 at *
  generalize Ev.alike (Ev.seenA v) s.mem t.mem = q2 at *
  generalize Ev.outs v s.out t.out = q3 at *
  generalize Ev.places v s t = q4 at *
  generalize s.pc.v = spv at *
  generalize s.pc.l = spl at *
  generalize t.pc.v = tpv at *
  generalize t.pc.l = tpl at *
  generalize v.length = nv at *
  generalize s.code.length = ns0 at *
  generalize s.mem.length = ns1 at *
  generalize s.stack.length = ns2 at *
  generalize s.out.length = ns3 at *
  generalize t.code.length = nt0 at *
  generalize t.mem.length = nt1 at *
  generalize t.stack.length = nt2 at *
  generalize t.out.length = nt3 at *
  have main : ∀ b1 b2 b3 : Bool, q1 = b1 → q2 = b2 → q3 = b3 → Calls Try.prog 42 #[.slice A nv c, .agg #[.int .i64 spv, .int .i64 spl, .slice cA ns0 cc, .slice mA ns1 mc, .slice sA ns2 sc, .slice oA ns3 oc], .agg #[.int .i64 tpv, .int .i64 tpl, .slice cB nt0 cd, .slice mB nt1 md, .slice sB nt2 sd, .slice oB nt3 od]] w (Tells w (b1 && b2 && b3 && q4)) := by
    intro b1 b2 b3 hb1 hb2 hb3
    rw [hb1] at H1
    rw [hb2] at H2
    rw [hb3] at H3
    clear hb1 hb2 hb3
    cases b1 <;> cases b2 <;> cases b3
    all_goals
      go_enter Try.func42, Try.ntmps42
      go_wp2_with (fail)
      clear hW0
      have r0 := fun d os => cell_regrown x0 d os
      have r1 := fun d os => cell_regrown x1 d os
      have r2 := fun d os => cell_regrown x2 d os
      have r3 := fun d os => cell_regrown x3 d os
      have r4 := fun d os => cell_regrown x4 d os
      have r5 := fun d os => cell_regrown x5 d os
      have r6 := fun d os => cell_regrown y0 d os
      have r7 := fun d os => cell_regrown y1 d os
      have r8 := fun d os => cell_regrown y2 d os
      have r9 := fun d os => cell_regrown y3 d os
      have r10 := fun d os => cell_regrown y4 d os
      have r11 := fun d os => cell_regrown y5 d os
      refine wp_region_quiet_below (by kernel_rfl) (by kernel_rfl) ?_
      refine quiet_hideE fun ops hops => ?_
      have hy7 : (ops[7]?.bind fun x => x.dst) = some 14 := by rw [hops]; rfl
      have hy16 : (ops[16]?.bind fun x => x.dst) = some 23 := by rw [hops]; rfl
      have hy24 : (ops[24]?.bind fun x => x.dst) = some 31 := by rw [hops]; rfl
      clear hops
      repeat (quiet_step (first | (go_at_call 28; with_reducible exact Calls.regrown_of (HI.out _)) | (go_at_call 26; with_reducible exact Calls.regrown_of (HA.out _)) | (go_at_call 55; with_reducible exact Calls.regrown_of (H1.out _ (below_regrown _ _ _))) | (go_at_call 51; with_reducible exact Calls.regrown_of (H2.out _ (below_regrown _ _ _))) | (go_at_call 33; with_reducible exact Calls.regrown_of (H3.out _ (below_regrown _ _ _))) | (go_at_call 70; with_reducible exact Calls.regrown_of (H4.out _ (below_regrown _ _ _)))))
      refine wpQuiet_nil ?_
      rintro _ ⟨⟨d9, os9⟩, rfl⟩
      have HB9 := Lib.hid (HB0.out.trans ((below_regrown W0 d9 os9).mono HB0.out.size))
      clear r0 r1 r2 r3 r4 r5 r6 r7 r8 r9 r10 r11 x0 x1 x2 x3 x4 x5 y0 y1 y2 y3 y4 y5
      generalize grow (redrawn W0 d9) os9 = w9 at *
      go_wp2
      go_ret
      exact ⟨by simp, HB9.out⟩
  exact main q1 q2 q3 rfl rfl rfl

theorem labsIn_of {up : List Nat} {o : Int} {s : St.State} (h : ∀ l ∈ Ev.labsOf s, isLab up l = true) : LabsIn (Ev.viewL up o).length s := fun l hl => by
  have := h l hl
  unfold isLab at this
  rw [decide_eq_true_eq] at this
  rw [Ev.viewL_len]
  exact this
theorem labsOf_len {s : St.State} (h : Fif s) : (Ev.labsOf s).length ≤ 61 := by
  obtain ⟨h1, h2, h3, h4⟩ := h
  unfold Ev.labsOf
  simp; omega
set_option maxRecDepth 100000 in
set_option maxHeartbeats 16000000 in
theorem States_any {v sv tv : Value} {names : List ByteArray} {up : List Nat} {s t : St.State} (o : Int) (w : World) (h : IsLat w w.heap.size v names up) (hs : IsSt w w.heap.size sv s) (ht : IsSt w w.heap.size tv t) (hsf : Fif s) (htf : Fif t) :
    Calls Try.prog 18 #[v, .int .i64 o, sv, tv] w (TellsBE w (Ev.told (Ev.lookN names up o (Ev.labsOf s ++ Ev.labsOf t)) (Ev.states (Ev.viewL up o) s t)) (Ev.lookN names up o (Ev.labsOf s ++ Ev.labsOf t))) := by
  obtain ⟨res, hres⟩ : ∃ res, Ev.lookN names up o (Ev.labsOf s ++ Ev.labsOf t) = res := ⟨_, rfl⟩
  rw [hres]
  have hl0 := h
  obtain ⟨⟨N, U, c1, c2, rfl, -, -⟩, -, -, -⟩ := h
  have hs0 := hs
  have ht0 := ht
  obtain ⟨cv, mv, stv_, ov, rfl, ⟨cA, cc, rfl, hcr, -⟩, ⟨mA, mc, rfl, hmr, -⟩, ⟨sA, sc, rfl, hsr, hsc⟩, ⟨oA, oc, rfl, hor, -⟩⟩ := hs
  obtain ⟨cv', mv', stv', ov', rfl, ⟨cB, cd, rfl, hcr', -⟩, ⟨mB, md, rfl, hmr', -⟩, ⟨sB, sd, rfl, hsr', hsd⟩, ⟨oB, od, rfl, hor', -⟩⟩ := ht
  unfold stv at hs0 ht0 ⊢
  obtain ⟨W0, hW0⟩ : ∃ W0, ((w.alloc (.cells #[.slice N names.length c1, .slice U up.length c2] 25)).alloc (.cells #[.int .i64 s.pc.v, .int .i64 s.pc.l, .slice cA s.code.length cc, .slice mA s.mem.length mc, .slice sA s.stack.length sc, .slice oA s.out.length oc] 32)).alloc (.cells #[.int .i64 t.pc.v, .int .i64 t.pc.l, .slice cB t.code.length cd, .slice mB t.mem.length md, .slice sB t.stack.length sd, .slice oB t.out.length od] 32) = W0 := ⟨_, rfl⟩
  have hb0 : Below w.heap.size w W0 := hW0 ▸ (((Below.refl _ w).alloc (Nat.le_refl _) _).alloc (by simp) _).alloc (by simp; omega) _
  have hp0 : Blk W0 w.heap.size 25 #[.slice N names.length c1, .slice U up.length c2] := hW0 ▸ ((Blk.new _ _ _).alloc _).alloc _
  have hq0 : Blk W0 (w.heap.size + 1) 32 #[.int .i64 s.pc.v, .int .i64 s.pc.l, .slice cA s.code.length cc, .slice mA s.mem.length mc, .slice sA s.stack.length sc, .slice oA s.out.length oc] := by rw [← hW0]; exact (Blk.new' _ _ _ _ (by simp)).alloc _
  have hr0 : Blk W0 (w.heap.size + 1 + 1) 32 #[.int .i64 t.pc.v, .int .i64 t.pc.l, .slice cB t.code.length cd, .slice mB t.mem.length md, .slice sB t.stack.length sd, .slice oB t.out.length od] := by rw [← hW0]; exact Blk.new' _ _ _ _ (by simp)
  have hla := fun W (hb : Below W0.heap.size W0 W) => labelsOf_any (s := s) W ((hs0.below (hb0.trans (hb.mono hb0.size))).more (Nat.le_trans hb0.size hb.size)) hsf
  have hlb := fun W (hb : Below W0.heap.size W0 W) => labelsOf_any (s := t) W ((ht0.below (hb0.trans (hb.mono hb0.size))).more (Nat.le_trans hb0.size hb.size)) htf
  have hlk := fun g cl W (hW : Below W0.heap.size W0 W) (hg : IntsAt W g [Ev.labsOf s, Ev.labsOf t]) => look_any o g cl W ((hl0.below (hb0.trans (hW.mono hb0.size))).more (Nat.le_trans hb0.size hW.size)) hg (by simp) (by intro l hl; simp at hl; have := labsOf_len hsf; have := labsOf_len htf; rcases hl with rfl | rfl <;> omega)
  have hal := fun A c W (hW : Below W0.heap.size W0 W) (hr : Row W W.heap.size A (vbs (Ev.viewL up o))) (hl1 : LabsIn (Ev.viewL up o).length s) (hl2 : LabsIn (Ev.viewL up o).length t) => states_any (A := A) c W hr ((hs0.below (hb0.trans (hW.mono hb0.size))).more (Nat.le_trans hb0.size hW.size)) ((ht0.below (hb0.trans (hW.mono hb0.size))).more (Nat.le_trans hb0.size hW.size)) hsf htf hl1 hl2
  have hlz : res = 0 → LabsIn up.length s ∧ LabsIn up.length t := fun e => by
    have h9 := (Ev.lookN_zero (hres.trans e)).2
    have e1 := labsIn_of (o := o) fun x hx => h9 x (List.mem_append_left _ hx)
    have e2 := labsIn_of (o := o) fun x hx => h9 x (List.mem_append_right _ hx)
    rw [Ev.viewL_len] at e1 e2
    exact ⟨e1, e2⟩
  simp only [flat_two, hres, Ev.viewL_len] at hlk hal
  unfold LabsGot at hla hlb
  generalize Ev.states (Ev.viewL up o) s t = ans at *
  generalize Ev.labsOf s = la at *
  generalize Ev.labsOf t = lb at *
  have HLA := Lib.hid hla
  have HLB := Lib.hid hlb
  have HLK := Lib.hid hlk
  have HAL := Lib.hid hal
  have HLZ := Lib.hid hlz
  have HB0 := Lib.hid hb0
  have HP := Lib.hid hp0
  have HQ := Lib.hid hq0
  have HR := Lib.hid hr0
  clear hb0 hla hlb hlk hal hlz hres hl0 hcr hmr hsr hor hcr' hmr' hsr' hor' hsc hsd hsf htf hs0 ht0
  go_enter Try.func18, Try.ntmps18
  go_wp2_with (fail)
  clear hW0
  refine Free.region_seq [3, 5, 6, 7] [0, 2, 4] 7 (fun W' => W'.cell? ⟨w.heap.size, 0, none⟩ = some (.slice N names.length c1) ∧ W'.cell? ⟨w.heap.size, 1, none⟩ = some (.slice U up.length c2) ∧ W'.cell? ⟨w.heap.size + 1, 0, none⟩ = some (.int .i64 s.pc.v) ∧ W'.cell? ⟨w.heap.size + 1, 1, none⟩ = some (.int .i64 s.pc.l) ∧ W'.cell? ⟨w.heap.size + 1, 2, none⟩ = some (.slice cA s.code.length cc) ∧ W'.cell? ⟨w.heap.size + 1, 3, none⟩ = some (.slice mA s.mem.length mc) ∧ W'.cell? ⟨w.heap.size + 1, 4, none⟩ = some (.slice sA s.stack.length sc) ∧ W'.cell? ⟨w.heap.size + 1, 5, none⟩ = some (.slice oA s.out.length oc) ∧ W'.cell? ⟨w.heap.size + 1 + 1, 0, none⟩ = some (.int .i64 t.pc.v) ∧ W'.cell? ⟨w.heap.size + 1 + 1, 1, none⟩ = some (.int .i64 t.pc.l) ∧ W'.cell? ⟨w.heap.size + 1 + 1, 2, none⟩ = some (.slice cB t.code.length cd) ∧ W'.cell? ⟨w.heap.size + 1 + 1, 3, none⟩ = some (.slice mB t.mem.length md) ∧ W'.cell? ⟨w.heap.size + 1 + 1, 4, none⟩ = some (.slice sB t.stack.length sd) ∧ W'.cell? ⟨w.heap.size + 1 + 1, 5, none⟩ = some (.slice oB t.out.length od)) (by kernel_rfl) (by kernel_rfl) (by kernel_rfl) (by kernel_rfl) (⟨hp0.cell 0, hp0.cell 1, hq0.cell 0, hq0.cell 1, hq0.cell 2, hq0.cell 3, hq0.cell 4, hq0.cell 5, hr0.cell 0, hr0.cell 1, hr0.cell 2, hr0.cell 3, hr0.cell 4, hr0.cell 5⟩) (fun ops hops => ?_)
  clear hops
  clear hp0 hq0 hr0
  iterate 3
    refine Free.Seq.quiet (v := ?_) (a' := ?_) rfl rfl (fun W' hW' => ?_) ?_ ?_
    rotate_left 2
    · first | obtain ⟨s0, s1, s2, s3, s4, s5, s6, s7, s8, s9, s10, s11, s12, s13⟩ := hW' rfl | skip
      go_simp
      try with_reducible rfl
    · simp only [Act.put, List.setIfInBounds_toArray, List.set_cons_zero, List.set_cons_succ]
      try with_reducible rfl
  refine Free.Seq.loud_ rfl (.inl rfl) (fun K hK => ?_)
  go_simp
  refine (HLA.out W0.drew (Below.refl _ W0).drew).mono ?_
  rintro e w1 ⟨A1, d1, rfl, hr1', hb1⟩
  have hb1 := (Below.refl _ W0).drew.trans hb1
  have hp1 := HP.out.below hb1 HP.out.lt
  have hq1 := HQ.out.below hb1 HQ.out.lt
  have hr1 := HR.out.below hb1 HR.out.lt
  have HB1 := Lib.hid hb1
  have HR1 := Lib.hid hr1'
  refine hK.out _ _ rfl (fun _ => ⟨hp1.cell 0, hp1.cell 1, hq1.cell 0, hq1.cell 1, hq1.cell 2, hq1.cell 3, hq1.cell 4, hq1.cell 5, hr1.cell 0, hr1.cell 1, hr1.cell 2, hr1.cell 3, hr1.cell 4, hr1.cell 5⟩) ?_
  clear hK K hp1 hq1 hr1 hb1 hr1'
  iterate 1
    refine Free.Seq.quiet (v := ?_) (a' := ?_) rfl rfl (fun W' hW' => ?_) ?_ ?_
    rotate_left 2
    · first | obtain ⟨s0, s1, s2, s3, s4, s5, s6, s7, s8, s9, s10, s11, s12, s13⟩ := hW' rfl | skip
      go_simp
      try with_reducible rfl
    · simp only [Act.put, List.setIfInBounds_toArray, List.set_cons_zero, List.set_cons_succ]
      try with_reducible rfl
  refine Free.Seq.loud_ rfl (.inl rfl) (fun K hK => ?_)
  go_simp
  refine (HLB.out w1 HB1.out).mono ?_
  rintro e w2 ⟨A2, d2, rfl, hr2', hb2⟩
  have hB2 := HB1.out.trans (hb2.mono HB1.out.size)
  have hp2 := HP.out.below hB2 HP.out.lt
  have hq2 := HQ.out.below hB2 HQ.out.lt
  have hr2 := HR.out.below hB2 HR.out.lt
  have HB2 := Lib.hid hB2
  have HR1b := Lib.hid ((HR1.out.below hb2).more hb2.size)
  have HR2 := Lib.hid hr2'
  refine hK.out _ _ rfl (fun _ => ⟨hp2.cell 0, hp2.cell 1, hq2.cell 0, hq2.cell 1, hq2.cell 2, hq2.cell 3, hq2.cell 4, hq2.cell 5, hr2.cell 0, hr2.cell 1, hr2.cell 2, hr2.cell 3, hr2.cell 4, hr2.cell 5⟩) ?_
  clear hK K hp2 hq2 hr2 hB2 hb2 hr2' HR1
  refine Free.Seq.loud_ rfl (.inl rfl) (fun K hK => ?_)
  go_simp
  have hk3 := Blk.new w2 83 #[.slice A1 la.length d1, .slice A2 lb.length d2]
  have hb3 := (Below.refl _ w2).alloc (Nat.le_refl _) (.cells #[.slice A1 la.length d1, .slice A2 lb.length d2] 83)
  have hi3 := ints_two w2.heap.size rfl rfl hk3 ((HR1b.out.below hb3).more hb3.size) ((HR2.out.below hb3).more hb3.size)
  have HI3 := Lib.hid hi3
  have hB3 := HB2.out.trans (hb3.mono HB2.out.size)
  have hp3 := HP.out.below hB3 HP.out.lt
  have hq3 := HQ.out.below hB3 HQ.out.lt
  have hr3 := HR.out.below hB3 HR.out.lt
  have HB3 := Lib.hid hB3
  refine hK.out _ _ rfl (fun _ => ⟨hp3.cell 0, hp3.cell 1, hq3.cell 0, hq3.cell 1, hq3.cell 2, hq3.cell 3, hq3.cell 4, hq3.cell 5, hr3.cell 0, hr3.cell 1, hr3.cell 2, hr3.cell 3, hr3.cell 4, hr3.cell 5⟩) ?_
  clear hK K hp3 hq3 hr3 hk3 hb3 hi3 hB3
  refine Free.Seq.loud_ rfl (.inl rfl) (fun K hK => ?_)
  go_simp
  refine (HLK.out w2.heap.size 2 _ HB3.out HI3.out).mono ?_
  rintro e w4 ⟨A4, n4, c4, rfl, hz4, hb4⟩
  have hB4 := HB3.out.trans (hb4.mono HB3.out.size)
  have hp4 := HP.out.below hB4 HP.out.lt
  have hq4 := HQ.out.below hB4 HQ.out.lt
  have hr4 := HR.out.below hB4 HR.out.lt
  have HZ4 := Lib.hid hz4
  have HB4 := Lib.hid hB4
  refine hK.out _ _ rfl (fun h => absurd h (by decide)) ?_
  clear hK K hb4 hz4 hB4 hp4
  iterate 5
    refine Free.Seq.quiet (v := ?_) (a' := ?_) rfl rfl (fun W' hW' => ?_) ?_ ?_
    rotate_left 2
    · skip
      go_simp
      try with_reducible rfl
    · simp only [Act.put, List.setIfInBounds_toArray, List.set_cons_zero, List.set_cons_succ]
      try with_reducible rfl
  refine Free.Seq.nil_ ?_
  have x0 : w4.cell? ⟨w.heap.size + 1, 0, none⟩ = some (.int .i64 s.pc.v) := hq4.cell 0
  have x1 : w4.cell? ⟨w.heap.size + 1, 1, none⟩ = some (.int .i64 s.pc.l) := hq4.cell 1
  have x2 : w4.cell? ⟨w.heap.size + 1, 2, none⟩ = some (.slice cA s.code.length cc) := hq4.cell 2
  have x3 : w4.cell? ⟨w.heap.size + 1, 3, none⟩ = some (.slice mA s.mem.length mc) := hq4.cell 3
  have x4 : w4.cell? ⟨w.heap.size + 1, 4, none⟩ = some (.slice sA s.stack.length sc) := hq4.cell 4
  have x5 : w4.cell? ⟨w.heap.size + 1, 5, none⟩ = some (.slice oA s.out.length oc) := hq4.cell 5
  have y0 : w4.cell? ⟨w.heap.size + 1 + 1, 0, none⟩ = some (.int .i64 t.pc.v) := hr4.cell 0
  have y1 : w4.cell? ⟨w.heap.size + 1 + 1, 1, none⟩ = some (.int .i64 t.pc.l) := hr4.cell 1
  have y2 : w4.cell? ⟨w.heap.size + 1 + 1, 2, none⟩ = some (.slice cB t.code.length cd) := hr4.cell 2
  have y3 : w4.cell? ⟨w.heap.size + 1 + 1, 3, none⟩ = some (.slice mB t.mem.length md) := hr4.cell 3
  have y4 : w4.cell? ⟨w.heap.size + 1 + 1, 4, none⟩ = some (.slice sB t.stack.length sd) := hr4.cell 4
  have y5 : w4.cell? ⟨w.heap.size + 1 + 1, 5, none⟩ = some (.slice oB t.out.length od) := hr4.cell 5
  clear hq4 hr4
  by_cases hz : res = 0
  · subst hz
    obtain ⟨rfl, hr4⟩ := HZ4.out rfl
    have hcall := HAL.out A4 c4 w4 HB4.out hr4 (HLZ.out rfl).1 (HLZ.out rfl).2
    have HC := Lib.hid hcall
    clear hr4 hcall
    go_wp2_with (fail)
    refine HC.out.mono ?_
    rintro e w5 ⟨rfl, hb5⟩
    have HB5 := Lib.hid (HB0.out.trans ((HB4.out.trans (hb5.mono HB4.out.size)).mono HB0.out.size))
    clear hb5
    go_wp2
    go_ret2
    exact ⟨rfl, HB5.out⟩
  · have hz1 : ((res : Int) == 0) = false := by rw [beq_eq_false_iff_ne]; omega
    have hz2 : ((res : Int) != 0) = true := by rw [bne_iff_ne]; omega
    have HT := Lib.hid (show Ev.told res ans = false from if_neg hz)
    clear hz
    go_wp2
    go_ret2
    exact ⟨by rw [HT.out]; rfl, HB0.out.trans (HB4.out.mono HB0.out.size)⟩
end Go.Proofs.Ytlddglhjpiahfaa

/- Layer 12, plainly: what the law EquivHolds asks, of the answers' plain data. -/
namespace Go.Proofs.Ytlddglhjpiahfaa
set_option maxRecDepth 100000
theorem fif_small {s : St.State} (h : Fif s) : SmallS s := ⟨by have := h.1; omega, by have := h.2.1; omega, by have := h.2.2.1; omega, by have := h.2.2.2; omega⟩
theorem told_err {r : Nat} {b : Bool} (h : r ≠ 0) : Ev.told r b = false := if_neg h
theorem holds_plain (names : List ByteArray) (up : List Nat) (o : Int) (a b c : St.State) :
    (Ev.lookN names up o (Ev.labsOf a ++ Ev.labsOf a) = 0 → checkN names up = 0 ∧ Ev.lookN names up o (Ev.labsOf a ++ Ev.labsOf b) = Ev.lookN names up o (Ev.labsOf b ++ Ev.labsOf a) ∧ Ev.states (Ev.viewL up o) a b = Ev.states (Ev.viewL up o) b a) ∧
    (Ev.lookN names up o (Ev.labsOf a ++ Ev.labsOf a) ≠ 0 → Ev.told (Ev.lookN names up o (Ev.labsOf a ++ Ev.labsOf a)) (Ev.states (Ev.viewL up o) a a) = false) ∧
    (Ev.lookN names up o (Ev.labsOf a ++ Ev.labsOf a) = 0 → true = Ev.told (Ev.lookN names up o (Ev.labsOf a ++ Ev.labsOf a)) (Ev.states (Ev.viewL up o) a a)) ∧
    (Ev.lookN names up o (Ev.labsOf a ++ Ev.labsOf b) = 0 → Ev.lookN names up (topR names up : Nat) (Ev.labsOf a ++ Ev.labsOf b) = 0 ∧ Ev.states (Ev.viewL up (topR names up : Nat)) a b = sameB a b ∧ (sameB a b = true → Ev.told (Ev.lookN names up o (Ev.labsOf a ++ Ev.labsOf b)) (Ev.states (Ev.viewL up o) a b) = true)) ∧
    (Ev.lookN names up o (Ev.labsOf a ++ Ev.labsOf b) = 0 → Ev.lookN names up o (Ev.labsOf b ++ Ev.labsOf c) = Ev.lookN names up o (Ev.labsOf a ++ Ev.labsOf c)) ∧
    (Ev.lookN names up o (Ev.labsOf b ++ Ev.labsOf c) = 0 → Ev.told (Ev.lookN names up o (Ev.labsOf a ++ Ev.labsOf b)) (Ev.states (Ev.viewL up o) a b) = true → Ev.told (Ev.lookN names up o (Ev.labsOf b ++ Ev.labsOf c)) (Ev.states (Ev.viewL up o) b c) = true → Ev.told (Ev.lookN names up o (Ev.labsOf b ++ Ev.labsOf c)) (Ev.states (Ev.viewL up o) a c) = true) := by
  refine ⟨fun h => ?_, fun h => told_err h, fun h => ?_, fun h => ?_, fun h => ?_, fun h h1 h2 => ?_⟩
  · refine ⟨(labN_zero (Ev.lookN_zero h).1).1, Ev.lookN_eq ?_, Ev.states_symm _ _ _⟩
    simp only [List.mem_append]
    exact ⟨fun k l hl => k l hl.symm, fun k l hl => k l hl.symm⟩
  · rw [h, Ev.states_self]; rfl
  · obtain ⟨h1, h2⟩ := Ev.lookN_zero h
    have hz := (labN_zero h1).1
    have ha : ∀ l ∈ Ev.labsOf a, Ev.at_ (Ev.viewL up (topR names up : Nat)) l = true := fun l hl => Ev.top_sees hz (h2 l (List.mem_append_left _ hl))
    have hb : ∀ l ∈ Ev.labsOf b, Ev.at_ (Ev.viewL up (topR names up : Nat)) l = true := fun l hl => Ev.top_sees hz (h2 l (List.mem_append_right _ hl))
    refine ⟨Ev.lookN_ok (Ev.top_lab hz) h2, ?_, fun hs => ?_⟩
    · rw [Bool.eq_iff_iff, Ev.states_top ha hb, sameB_iff]
    · rw [sameB_iff] at hs
      subst hs
      rw [h, Ev.states_self]; rfl
  · obtain ⟨h1, h2⟩ := Ev.lookN_zero h
    refine Ev.lookN_eq ?_
    simp only [List.mem_append]
    exact ⟨fun k l hl => hl.elim (fun hl => h2 l (List.mem_append_left _ hl)) (fun hl => k l (.inr hl)), fun k l hl => hl.elim (fun hl => h2 l (List.mem_append_right _ hl)) (fun hl => k l (.inr hl))⟩
  · rw [h] at h2 ⊢
    have e1 : Ev.states (Ev.viewL up o) a b = true := by
      unfold Ev.told at h1
      split at h1
      · exact h1
      · cases h1
    exact Ev.states_trans e1 h2
end Go.Proofs.Ytlddglhjpiahfaa
