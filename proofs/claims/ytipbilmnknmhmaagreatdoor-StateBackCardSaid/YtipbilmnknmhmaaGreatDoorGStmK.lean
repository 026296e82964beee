/- Walk of the law StateBack (by gen_stmk.py). -/
import Derived.Test.YtipbilmnknmhmaaGreatDoorGStmJ
import Derived.Test.YtipbilmnknmhmaaGreatDoorGStmT
import Derived.Test.YtipbilmnknmhmaaGreatDoorGCodP
import Derived.Test.YtipbilmnknmhmaaGreatDoorGLawO
namespace Go.Proofs.YtipbilmnknmhmaaGreatDoor
set_option maxRecDepth 100000
open Go.RowKit Go.Shelf Go.Sort
attribute [local go_sem] Oper.semAt_some
theorem textS_len {names : List ByteArray} {k : Nat} (hN : Cd.Names names k) {s : St.State} (h : St.rightB k s = true) : (Lx.pack (St.textL names s)).size ≤ 2000 := by
  unfold St.rightB at h
  simp only [Bool.and_eq_true] at h
  obtain ⟨⟨⟨⟨r1, ⟨r2a, r2b⟩⟩, ⟨r3a, r3b⟩⟩, ⟨r4a, r4b⟩⟩, ⟨r5a, r5b⟩⟩ := h
  have m6 := of_decide_eq_true r3a
  have m12 := of_decide_eq_true r4a
  have m8 := of_decide_eq_true r5a
  have hcl := Cd.textL_len hN r1
  have z1 := atomL_len hN (show St.valB s.pc.v = true from by unfold St.pcB at r2a; unfold St.valB; have := of_decide_eq_true r2a; exact decide_eq_true (by omega)) r2b
  have z2 := rowL_len hN (s.mem.map St.toSlot) (fun x hx => by obtain ⟨y, hy, rfl⟩ := List.mem_map.1 hx; rw [slotB_toSlot]; exact List.all_eq_true.1 r3b y hy)
  have z3 := rowL_len hN s.stack (fun x hx => List.all_eq_true.1 r4b x hx)
  have z4 := rowL_len hN (s.out.map St.toSlot) (fun x hx => by obtain ⟨y, hy, rfl⟩ := List.mem_map.1 hx; rw [slotB_toSlot]; exact List.all_eq_true.1 r5b y hy)
  rw [List.length_map] at z2 z4
  rw [St.text_byte, Lx.pack_size]
  unfold St.textB St.lineW
  have z5 : (if s.code = [] then ([] : List UInt8) else 32 :: Cd.textL names s.code).length ≤ 349 := by
    split
    · decide
    · simp only [List.length_cons]; omega
  simp only [List.length_append, List.length_cons, List.length_nil]
  omega
/-- What a text tells, and what is read of it. -/
theorem text_back9 {names : List ByteArray} {up : List Nat} {a : St.State} {s : ByteArray} (h : St.text names up a = (s, 0)) : (St.parse names up s.data.toList = (a, 0, 0) ∨ St.parse names up s.data.toList = (St.zero, 0, 8)) ∧ s.size ≤ 2000 := by
  unfold St.text at h
  by_cases hc : checkN names up = 0
  · rw [if_pos hc] at h
    by_cases hr : St.rightB up.length a = true
    · rw [if_pos hr] at h
      injection h with h _
      subst h
      rw [Lx.pack_list]
      exact ⟨St.parse_text hc hr, textS_len (Cd.names_of hc) hr⟩
    · rw [if_neg hr] at h
      injection h with _ h
      cases h
  · rw [if_neg hc] at h
    injection h with _ h
    exact absurd h hc
/-- What the law holds of its boxes. -/
structure Law9 (w : World) (x0 x1 : Value) (names : List ByteArray) (up : List Nat) (cs : Array Value) (W : World) : Prop where
  one : One w x0 x1 names up W
  st : Blk W (w.heap.size + 1) 42 cs
theorem Law9.next {w : World} {x0 x1 : Value} {names : List ByteArray} {up : List Nat} {cs : Array Value} {W W' : World} (h : Law9 w x0 x1 names up cs W) (hb : Below W.heap.size W W') : Law9 w x0 x1 names up cs W' :=
  ⟨one_stable _ _ _ _ _ _ _ h.one hb, h.st.below hb h.st.lt⟩
theorem right_small {k : Nat} {s : St.State} (h : St.rightB k s = true) : SmallS s := by
  unfold St.rightB at h
  simp only [Bool.and_eq_true] at h
  obtain ⟨⟨⟨⟨r1, -⟩, ⟨r3, -⟩⟩, ⟨r4, -⟩⟩, ⟨r5, -⟩⟩ := h
  unfold Cd.rightB at r1
  rw [Bool.and_eq_true] at r1
  have a := of_decide_eq_true r1.1
  have b := of_decide_eq_true r3
  have c := of_decide_eq_true r4
  have d := of_decide_eq_true r5
  exact ⟨by omega, by omega, by omega, by omega⟩
set_option maxHeartbeats 32000000 in
theorem stateBack_any {A A' : Option Addr} {n1 : List ByteArray} {u1 : List Nat} {s0 : St.State} {cA mA sA oA : Option Addr} {cc mc sc oc : Nat} (c c' : Nat) (s : ByteArray) (w : World) (hi : Ins w) (hN : Row w w.heap.size A (strs n1)) (hU : Ups w w.heap.size A' u1) (hst : StIn w w.heap.size s0 cA cc mA mc sA sc oA oc) (hc : n1.length ≤ c) (hc' : u1.length ≤ c') (hm : c ≤ maxLen) (hm' : c' ≤ maxLen) (hs : ∀ s ∈ n1, s.size ≤ maxLen) (hsz : s.size ≤ maxLen) :
    Calls Tryz.prog 6 #[.agg #[.slice A n1.length c, .slice A' u1.length c'], incv s0 cA cc mA mc sA sc oA oc, .string s] w (Tells w true) := by
  obtain ⟨M, hM⟩ : ∃ M, min s.size 2010 = M := ⟨_, rfl⟩
  have hmin : min (s.size : Int) 2010 = (M : Int) := by omega
  have hM1 : M ≤ s.size := by omega
  have hM2 : M ≤ 2010 := by omega
  obtain ⟨x, hx⟩ : ∃ x, s.extract 0 M = x := ⟨_, rfl⟩
  have hxs : x.size ≤ maxLen := by rw [← hx, ByteArray.size_extract]; unfold maxLen; omega
  have hfa := fun W (hW : Below w.heap.size w W) => few_any w.heap.size c c' W hW.size (hN.below hW) (hU.below hW) hc hc' hm hm' hs
  have hcut := fun W => scut_any W hst
  have his := fun W (hb : Below w.heap.size w W) => ((hst.cut.below hb).more hb.size).isSt
  have HSM := Lib.hid (cutS_small s0)
  rw [incv_cut] at his hcut
  obtain ⟨a, ha⟩ : ∃ a, cutS s0 = a := ⟨_, rfl⟩
  rw [ha] at his HSM
  unfold incv at hcut ⊢
  unfold maxLen at hsz
  clear hst ha
  generalize s0.pc.v = pv at *
  generalize s0.pc.l = pl at *
  generalize hcn : min 15 s0.code.length = cN at *
  generalize hmn : min 15 s0.mem.length = mN at *
  generalize hsn : min 15 s0.stack.length = sN at *
  generalize hon : min 15 s0.out.length = oN at *
  generalize s0.code.length = cn at *
  generalize s0.mem.length = mn at *
  generalize s0.stack.length = sn at *
  generalize s0.out.length = on at *
  clear hcn hmn hsn hon
  have hb0 := ((((Below.refl _ w).alloc (Nat.le_refl _) (.cells #[.slice A n1.length c, .slice A' u1.length c'] 25)).alloc (by simp) (.cells #[.int .i64 pv, .int .i64 pl, .slice cA cn cc, .slice mA mn mc, .slice sA sn sc, .slice oA on oc] 42))).drew
  obtain ⟨W0, hW0⟩ : ∃ W0, (w.alloc (.cells #[.slice A n1.length c, .slice A' u1.length c'] 25)).alloc (.cells #[.int .i64 pv, .int .i64 pl, .slice cA cn cc, .slice mA mn mc, .slice sA sn sc, .slice oA on oc] 42) = W0 := ⟨_, rfl⟩
  have hp0 : Blk W0 w.heap.size 25 #[.slice A n1.length c, .slice A' u1.length c'] := hW0 ▸ (Blk.new _ _ _).alloc _
  have hq0 : Blk W0 (w.heap.size + 1) 42 #[.int .i64 pv, .int .i64 pl, .slice cA cn cc, .slice mA mn mc, .slice sA sn sc, .slice oA on oc] := by
    have h1 := Blk.new (w.alloc (.cells #[.slice A n1.length c, .slice A' u1.length c'] 25)) 42 #[.int .i64 pv, .int .i64 pl, .slice cA cn cc, .slice mA mn mc, .slice sA sn sc, .slice oA on oc]
    rw [show (w.alloc (.cells #[.slice A n1.length c, .slice A' u1.length c'] 25)).heap.size = w.heap.size + 1 by simp] at h1
    rw [← hW0]; exact h1
  have hz0 : W0.heap.size = w.heap.size + 2 := by rw [← hW0]; simp
  rw [hW0] at hb0
  have HX0 := Lib.hid hxs
  have HFA := Lib.hid hfa
  have HCUT := Lib.hid hcut
  have HIA := Lib.hid his
  have HP := Lib.hid hp0
  have HQ := Lib.hid hq0
  have HB0 := Lib.hid hb0
  have HZ0 := Lib.hid hz0
  have HI := Lib.hid hi
  have l0 : W0.cell? ⟨w.heap.size, 0, none⟩ = some (.slice A n1.length c) := hp0.cell 0
  have l1 : W0.cell? ⟨w.heap.size, 1, none⟩ = some (.slice A' u1.length c') := hp0.cell 1
  have b0 : W0.cell? ⟨w.heap.size + 1, 0, none⟩ = some (.int .i64 pv) := hq0.cell 0
  have b1 : W0.cell? ⟨w.heap.size + 1, 1, none⟩ = some (.int .i64 pl) := hq0.cell 1
  have b2 : W0.cell? ⟨w.heap.size + 1, 2, none⟩ = some (.slice cA cn cc) := hq0.cell 2
  have b3 : W0.cell? ⟨w.heap.size + 1, 3, none⟩ = some (.slice mA mn mc) := hq0.cell 3
  have b4 : W0.cell? ⟨w.heap.size + 1, 4, none⟩ = some (.slice sA sn sc) := hq0.cell 4
  have b5 : W0.cell? ⟨w.heap.size + 1, 5, none⟩ = some (.slice oA on oc) := hq0.cell 5
  clear hM hxs hfa hcut his hb0 hp0 hq0 hz0 hN hU hc hc' hm hm' hs hi
  go_enter Tryz.func6, Tryz.ntmps6
  go_wp2_with (fail)
  refine Free.region_seq [1, 3, 9, 10, 11] [0, 2] 3 (fun W' => W'.cell? ⟨w.heap.size, 0, none⟩ = some (.slice A n1.length c) ∧ W'.cell? ⟨w.heap.size, 1, none⟩ = some (.slice A' u1.length c') ∧ W'.cell? ⟨w.heap.size + 1, 0, none⟩ = some (.int .i64 pv) ∧ W'.cell? ⟨w.heap.size + 1, 1, none⟩ = some (.int .i64 pl) ∧ W'.cell? ⟨w.heap.size + 1, 2, none⟩ = some (.slice cA cn cc) ∧ W'.cell? ⟨w.heap.size + 1, 3, none⟩ = some (.slice mA mn mc) ∧ W'.cell? ⟨w.heap.size + 1, 4, none⟩ = some (.slice sA sn sc) ∧ W'.cell? ⟨w.heap.size + 1, 5, none⟩ = some (.slice oA on oc)) (by kernel_rfl) (by kernel_rfl) (by kernel_rfl) (by kernel_rfl) (⟨l0, l1, b0, b1, b2, b3, b4, b5⟩) (fun ops hops => ?_)
  clear hops
  iterate 1
    refine Free.Seq.quiet (v := ?_) (a' := ?_) rfl rfl (fun W' hW' => ?_) ?_ ?_
    rotate_left 2
    · first | obtain ⟨t0, t1, t2, t3, t4, t5, t6, t7⟩ := hW' rfl | skip
      go_simp
      try with_reducible rfl
    · simp only [Act.put, List.setIfInBounds_toArray, List.set_cons_zero, List.set_cons_succ]
      try with_reducible rfl
  refine Free.Seq.loud_ rfl (.inl rfl) (fun K hK => ?_)
  go_simp
  refine (HFA.out _ HB0.out).mono ?_
  rintro e w1 ⟨v, names, up, rfl, hlw, hb1⟩
  have hlat : ∀ W2, Keeps w.heap.size (w.heap.size + 2) w1 W2 → IsLat W2 W2.heap.size v names up := fun W2 k => hlw W2 (k.mono_ (by show w.heap.size + 2 ≤ W0.heap.size; rw [HZ0.out]; exact Nat.le_refl _))
  obtain ⟨A1, k1, c1, A2, k2, c2, rfl⟩ := lat_two (hlat w1 ⟨Nat.le_refl _, fun _ _ _ => rfl⟩)
  have hp1 := (Blk.drew9 HP.out).below hb1 HP.out.lt
  have hq1 := (Blk.drew9 HQ.out).below hb1 HQ.out.lt
  have HB1 := Lib.hid (HB0.out.trans (hb1.mono HB0.out.size))
  have HLAT := Lib.hid hlat
  have HP1 := Lib.hid hp1
  have HQ1 := Lib.hid hq1
  refine hK.out _ _ rfl (fun _ => ⟨HP1.out.cell 0, HP1.out.cell 1, HQ1.out.cell 0, HQ1.out.cell 1, HQ1.out.cell 2, HQ1.out.cell 3, HQ1.out.cell 4, HQ1.out.cell 5⟩) ?_
  clear hK K hb1 hlw hp1 hq1 hlat
  iterate 1
    refine Free.Seq.quiet (v := ?_) (a' := ?_) rfl rfl (fun W' hW' => ?_) ?_ ?_
    rotate_left 2
    · first | obtain ⟨t0, t1, t2, t3, t4, t5, t6, t7⟩ := hW' rfl | skip
      go_simp
      try with_reducible rfl
    · simp only [Act.put, List.setIfInBounds_toArray, List.set_cons_zero, List.set_cons_succ]
      try with_reducible rfl
  refine Free.Seq.loud_ rfl (.inl rfl) (fun K hK => ?_)
  go_simp
  refine (HCUT.out w1).mono ?_
  rintro e w2 ⟨rfl, hb2⟩
  have hp2 := HP1.out.below hb2 HP1.out.lt
  have hq2 := HQ1.out.below hb2 HQ1.out.lt
  have HB2 := Lib.hid (HB1.out.trans (hb2.mono HB1.out.size))
  have hkb : Keeps w.heap.size (w.heap.size + 2) w1 w2 := Keeps.below hb2
  have i0 := hp2.cell 0
  have f0 := hp2.frozen 0
  have i1 := hp2.cell 1
  have f1 := hp2.frozen 1
  have j0 := hq2.cell 0
  have g0 := hq2.frozen 0
  have j1 := hq2.cell 1
  have g1 := hq2.frozen 1
  have j2 := hq2.cell 2
  have g2 := hq2.frozen 2
  have j3 := hq2.cell 3
  have g3 := hq2.frozen 3
  have j4 := hq2.cell 4
  have g4 := hq2.frozen 4
  have j5 := hq2.cell 5
  have g5 := hq2.frozen 5
  refine hK.out _ _ rfl (fun h => absurd h (by decide)) ?_
  clear hK K
  iterate 5
    refine Free.Seq.quiet (v := ?_) (a' := ?_) rfl rfl (fun W' hW' => ?_) ?_ ?_
    rotate_left 2
    · skip
      go_simp
      try with_reducible rfl
    · simp only [Act.put, List.setIfInBounds_toArray, List.set_cons_zero, List.set_cons_succ]
      try with_reducible rfl
  refine Free.Seq.loud_ rfl (.inl rfl) (fun K hK => ?_)
  go_simp
  refine hK.out _ _ rfl (fun h => absurd h (by decide)) ?_
  clear hK K
  refine Free.Seq.loud_ rfl (.inl rfl) (fun K hK => ?_)
  go_simp
  refine hK.out _ _ rfl (fun h => absurd h (by decide)) ?_
  clear hK K
  refine Free.Seq.loud_ rfl (.inl rfl) (fun K hK => ?_)
  go_simp
  refine hK.out _ _ rfl (fun h => absurd h (by decide)) ?_
  clear hK K
  refine Free.Seq.nil_ ?_
  obtain ⟨W3, hW3⟩ : ∃ W3, ((((((((w2.setCell ⟨w.heap.size, 0, none⟩ (.slice A1 k1 c1)).setCell ⟨w.heap.size, 1, none⟩ (.slice A2 k2 c2)).setCell ⟨w.heap.size + 1, 0, none⟩ (.int .i64 pv)).setCell ⟨w.heap.size + 1, 1, none⟩ (.int .i64 pl)).setCell ⟨w.heap.size + 1, 2, none⟩ (.slice cA cN cc)).setCell ⟨w.heap.size + 1, 3, none⟩ (.slice mA mN mc)).setCell ⟨w.heap.size + 1, 4, none⟩ (.slice sA sN sc)).setCell ⟨w.heap.size + 1, 5, none⟩ (.slice oA oN oc)) = W3 := ⟨_, rfl⟩
  have hlw : Law9 w (.slice A1 k1 c1) (.slice A2 k2 c2) names up #[.int .i64 pv, .int .i64 pl, .slice cA cN cc, .slice mA mN mc, .slice sA sN sc, .slice oA oN oc] W3 := by
    rw [← hW3]
    exact ⟨⟨((((((((hp2).set_ 0 _).set_ 1 _).other (by show w.heap.size + 1 ≠ _; omega) _).other (by show w.heap.size + 1 ≠ _; omega) _).other (by show w.heap.size + 1 ≠ _; omega) _).other (by show w.heap.size + 1 ≠ _; omega) _).other (by show w.heap.size + 1 ≠ _; omega) _).other (by show w.heap.size + 1 ≠ _; omega) _, HLAT.out _ (((((((((hkb).trans_ (Keeps.set_ (p := ⟨w.heap.size, 0, none⟩) (Nat.le_refl _) (by show w.heap.size < w.heap.size + 2; omega))).trans_ (Keeps.set_ (p := ⟨w.heap.size, 1, none⟩) (Nat.le_refl _) (by show w.heap.size < w.heap.size + 2; omega))).trans_ (Keeps.set_ (p := ⟨w.heap.size + 1, 0, none⟩) (by show w.heap.size ≤ w.heap.size + 1; omega) (by show w.heap.size + 1 < w.heap.size + 2; omega))).trans_ (Keeps.set_ (p := ⟨w.heap.size + 1, 1, none⟩) (by show w.heap.size ≤ w.heap.size + 1; omega) (by show w.heap.size + 1 < w.heap.size + 2; omega))).trans_ (Keeps.set_ (p := ⟨w.heap.size + 1, 2, none⟩) (by show w.heap.size ≤ w.heap.size + 1; omega) (by show w.heap.size + 1 < w.heap.size + 2; omega))).trans_ (Keeps.set_ (p := ⟨w.heap.size + 1, 3, none⟩) (by show w.heap.size ≤ w.heap.size + 1; omega) (by show w.heap.size + 1 < w.heap.size + 2; omega))).trans_ (Keeps.set_ (p := ⟨w.heap.size + 1, 4, none⟩) (by show w.heap.size ≤ w.heap.size + 1; omega) (by show w.heap.size + 1 < w.heap.size + 2; omega))).trans_ (Keeps.set_ (p := ⟨w.heap.size + 1, 5, none⟩) (by show w.heap.size ≤ w.heap.size + 1; omega) (by show w.heap.size + 1 < w.heap.size + 2; omega))), ((((((((HB2.out).setCell (p := ⟨w.heap.size, 0, none⟩) (Nat.le_refl _) _).setCell (p := ⟨w.heap.size, 1, none⟩) (Nat.le_refl _) _).setCell (p := ⟨w.heap.size + 1, 0, none⟩) (by show w.heap.size ≤ w.heap.size + 1; omega) _).setCell (p := ⟨w.heap.size + 1, 1, none⟩) (by show w.heap.size ≤ w.heap.size + 1; omega) _).setCell (p := ⟨w.heap.size + 1, 2, none⟩) (by show w.heap.size ≤ w.heap.size + 1; omega) _).setCell (p := ⟨w.heap.size + 1, 3, none⟩) (by show w.heap.size ≤ w.heap.size + 1; omega) _).setCell (p := ⟨w.heap.size + 1, 4, none⟩) (by show w.heap.size ≤ w.heap.size + 1; omega) _).setCell (p := ⟨w.heap.size + 1, 5, none⟩) (by show w.heap.size ≤ w.heap.size + 1; omega) _⟩, ((((((((hq2).other (by show w.heap.size ≠ _; omega) _).other (by show w.heap.size ≠ _; omega) _).set_ 0 _).set_ 1 _).set_ 2 _).set_ 3 _).set_ 4 _).set_ 5 _⟩
  rw [hW3]
  have HLW := Lib.hid hlw
  clear hW3 hlw hp2 hq2 hkb HB2 HB1 HB0 HLAT HP HQ HP1 HQ1 HFA HCUT HZ0 hb2 l0 l1 b0 b1 b2 b3 b4 b5 i0 i1 f0 f1 j0 j1 j2 j3 j4 j5 g0 g1 g2 g3 g4 g5 hx hmin hM1 hM2 hsz hW0
  have HTX := Lib.hid (fun W (hW : Law9 w (.slice A1 k1 c1) (.slice A2 k2 c2) names up #[.int .i64 pv, .int .i64 pl, .slice cA cN cc, .slice mA mN mc, .slice sA sN sc, .slice oA oN oc] W) => stext_any W hW.one.la (HIA.out W hW.one.below) HSM.out (HI.out.below hW.one.below HI.out.lt))
  have HPS := Lib.hid (fun (x : ByteArray) W (hx : x.size ≤ maxLen) (hW : Law9 w (.slice A1 k1 c1) (.slice A2 k2 c2) names up #[.int .i64 pv, .int .i64 pl, .slice cA cN cc, .slice mA mN mc, .slice sA sN sc, .slice oA oN oc] W) => sparse_any x hx W hW.one.la (HI.out.below hW.one.below HI.out.lt))
  have HAL := Lib.hid (fun W (hW : Law9 w (.slice A1 k1 c1) (.slice A2 k2 c2) names up #[.int .i64 pv, .int .i64 pl, .slice cA cN cc, .slice mA mN mc, .slice sA sN sc, .slice oA oN oc] W) => alive9_any W (HI.out.below hW.one.below HI.out.lt))
  have l0 : W3.cell? ⟨w.heap.size, 0, none⟩ = some (.slice A1 k1 c1) := HLW.out.one.a.cell 0
  have l1 : W3.cell? ⟨w.heap.size, 1, none⟩ = some (.slice A2 k2 c2) := HLW.out.one.a.cell 1
  have b0 : W3.cell? ⟨w.heap.size + 1, 0, none⟩ = some (.int .i64 pv) := HLW.out.st.cell 0
  have b1 : W3.cell? ⟨w.heap.size + 1, 1, none⟩ = some (.int .i64 pl) := HLW.out.st.cell 1
  have b2 : W3.cell? ⟨w.heap.size + 1, 2, none⟩ = some (.slice cA cN cc) := HLW.out.st.cell 2
  have b3 : W3.cell? ⟨w.heap.size + 1, 3, none⟩ = some (.slice mA mN mc) := HLW.out.st.cell 3
  have b4 : W3.cell? ⟨w.heap.size + 1, 4, none⟩ = some (.slice sA sN sc) := HLW.out.st.cell 4
  have b5 : W3.cell? ⟨w.heap.size + 1, 5, none⟩ = some (.slice oA oN oc) := HLW.out.st.cell 5
  obtain ⟨⟨s1, n1'⟩, hs1⟩ : ∃ r, St.text names up a = r := ⟨_, rfl⟩
  have htx := HTX.out W3 HLW.out
  rw [hs1] at htx
  have HT1 := Lib.hid htx
  have HS1 := Lib.hid hs1
  clear htx hs1 HTX
  go_wp2_with (fail)
  refine HT1.out.mono ?_
  rintro e w4 ⟨rfl, hb⟩
  clear l0 l1 b0 b1 b2 b3 b4 b5
  have hlw := HLW.out.next hb
  clear HLW
  have HLW := Lib.hid hlw
  clear hlw
  have l0 : w4.cell? ⟨w.heap.size, 0, none⟩ = some (.slice A1 k1 c1) := HLW.out.one.a.cell 0
  have l1 : w4.cell? ⟨w.heap.size, 1, none⟩ = some (.slice A2 k2 c2) := HLW.out.one.a.cell 1
  have b0 : w4.cell? ⟨w.heap.size + 1, 0, none⟩ = some (.int .i64 pv) := HLW.out.st.cell 0
  have b1 : w4.cell? ⟨w.heap.size + 1, 1, none⟩ = some (.int .i64 pl) := HLW.out.st.cell 1
  have b2 : w4.cell? ⟨w.heap.size + 1, 2, none⟩ = some (.slice cA cN cc) := HLW.out.st.cell 2
  have b3 : w4.cell? ⟨w.heap.size + 1, 3, none⟩ = some (.slice mA mN mc) := HLW.out.st.cell 3
  have b4 : w4.cell? ⟨w.heap.size + 1, 4, none⟩ = some (.slice sA sN sc) := HLW.out.st.cell 4
  have b5 : w4.cell? ⟨w.heap.size + 1, 5, none⟩ = some (.slice oA oN oc) := HLW.out.st.cell 5
  clear hb HT1
  dsimp only
  by_cases hn1 : n1' = 0
  · subst hn1
    obtain ⟨htb, htz⟩ := text_back9 HS1.out
    have hp1 := HPS.out s1 w4 (by unfold maxLen; omega) HLW.out
    rcases htb with htb | htb
    · rw [htb] at hp1
      have HP1 := Lib.hid hp1
      clear hp1 htb htz HS1
      go_wp2_with (fail)
      refine (HP1.out).mono ?_
      rintro e w5 ⟨ya, yb, yA, yn, yc, zA, zn, zc, tA, tn, tc, uA, un, uc, rfl, hks, hb⟩
      obtain ⟨rfl, rfl, rfl, rfl, rfl, rfl, -, his⟩ := hks.open9
      have hal := (Below.refl _ w5).alloc (Nat.le_refl _) (.cells #[.int .i64 a.pc.v, .int .i64 a.pc.l, .slice yA a.code.length yc, .slice zA a.mem.length zc, .slice tA a.stack.length tc, .slice uA a.out.length uc] 42)
      have hbx := Blk.new w5 42 #[.int .i64 a.pc.v, .int .i64 a.pc.l, .slice yA a.code.length yc, .slice zA a.mem.length zc, .slice tA a.stack.length tc, .slice uA a.out.length uc]
      have hb2 := hb.alloc hb.size (.cells #[.int .i64 a.pc.v, .int .i64 a.pc.l, .slice yA a.code.length yc, .slice zA a.mem.length zc, .slice tA a.stack.length tc, .slice uA a.out.length uc] 42)
      have his2 := (his.below hal).more hal.size
      clear l0 l1 b0 b1 b2 b3 b4 b5
      obtain ⟨W5, hW5⟩ : ∃ W5, w5.alloc (.cells #[.int .i64 a.pc.v, .int .i64 a.pc.l, .slice yA a.code.length yc, .slice zA a.mem.length zc, .slice tA a.stack.length tc, .slice uA a.out.length uc] 42) = W5 := ⟨_, rfl⟩
      rw [hW5] at hal hbx hb2 his2
      have hlw := HLW.out.next hb2
      clear HLW
      have HLW := Lib.hid hlw
      clear hlw
      have HX := Lib.hid hbx
      have HIS := Lib.hid his2
      have hxl := hbx.lt
      clear hks hb his hal hbx hb2 his2
      have l0 : W5.cell? ⟨w.heap.size, 0, none⟩ = some (.slice A1 k1 c1) := HLW.out.one.a.cell 0
      have l1 : W5.cell? ⟨w.heap.size, 1, none⟩ = some (.slice A2 k2 c2) := HLW.out.one.a.cell 1
      have b0 : W5.cell? ⟨w.heap.size + 1, 0, none⟩ = some (.int .i64 pv) := HLW.out.st.cell 0
      have b1 : W5.cell? ⟨w.heap.size + 1, 1, none⟩ = some (.int .i64 pl) := HLW.out.st.cell 1
      have b2 : W5.cell? ⟨w.heap.size + 1, 2, none⟩ = some (.slice cA cN cc) := HLW.out.st.cell 2
      have b3 : W5.cell? ⟨w.heap.size + 1, 3, none⟩ = some (.slice mA mN mc) := HLW.out.st.cell 3
      have b4 : W5.cell? ⟨w.heap.size + 1, 4, none⟩ = some (.slice sA sN sc) := HLW.out.st.cell 4
      have b5 : W5.cell? ⟨w.heap.size + 1, 5, none⟩ = some (.slice oA oN oc) := HLW.out.st.cell 5
      have x0 : W5.cell? ⟨w5.heap.size, 0, none⟩ = some (.int .i64 a.pc.v) := HX.out.cell 0
      have x1 : W5.cell? ⟨w5.heap.size, 1, none⟩ = some (.int .i64 a.pc.l) := HX.out.cell 1
      have x2 : W5.cell? ⟨w5.heap.size, 2, none⟩ = some (.slice yA a.code.length yc) := HX.out.cell 2
      have x3 : W5.cell? ⟨w5.heap.size, 3, none⟩ = some (.slice zA a.mem.length zc) := HX.out.cell 3
      have x4 : W5.cell? ⟨w5.heap.size, 4, none⟩ = some (.slice tA a.stack.length tc) := HX.out.cell 4
      have x5 : W5.cell? ⟨w5.heap.size, 5, none⟩ = some (.slice uA a.out.length uc) := HX.out.cell 5
      dsimp only
      have hsm := rSame9_any W5 HIS.out (HIA.out W5 HLW.out.one.below) HSM.out HSM.out
      rw [sameB_refl] at hsm
      have HSA := Lib.hid hsm
      clear hsm
      go_wp2_with (fail)
      refine HSA.out.mono ?_
      rintro e w6 ⟨rfl, hb⟩
      clear l0 l1 b0 b1 b2 b3 b4 b5
      clear x0 x1 x2 x3 x4 x5
      have hlw := HLW.out.next hb
      clear HLW
      have HLW := Lib.hid hlw
      clear hlw
      have l0 : w6.cell? ⟨w.heap.size, 0, none⟩ = some (.slice A1 k1 c1) := HLW.out.one.a.cell 0
      have l1 : w6.cell? ⟨w.heap.size, 1, none⟩ = some (.slice A2 k2 c2) := HLW.out.one.a.cell 1
      have b0 : w6.cell? ⟨w.heap.size + 1, 0, none⟩ = some (.int .i64 pv) := HLW.out.st.cell 0
      have b1 : w6.cell? ⟨w.heap.size + 1, 1, none⟩ = some (.int .i64 pl) := HLW.out.st.cell 1
      have b2 : w6.cell? ⟨w.heap.size + 1, 2, none⟩ = some (.slice cA cN cc) := HLW.out.st.cell 2
      have b3 : w6.cell? ⟨w.heap.size + 1, 3, none⟩ = some (.slice mA mN mc) := HLW.out.st.cell 3
      have b4 : w6.cell? ⟨w.heap.size + 1, 4, none⟩ = some (.slice sA sN sc) := HLW.out.st.cell 4
      have b5 : w6.cell? ⟨w.heap.size + 1, 5, none⟩ = some (.slice oA oN oc) := HLW.out.st.cell 5
      clear hb HSA HX HIS HP1
      have hp2 := HPS.out x w6 HX0.out HLW.out
      obtain ⟨⟨y, at2, e2⟩, hy⟩ : ∃ r, St.parse names up x.data.toList = r := ⟨_, rfl⟩
      rw [hy] at hp2
      have HP2 := Lib.hid hp2
      clear hp2
      by_cases he2 : e2 = 0
      · subst he2
        have hpr := St.parse_right (names := names) (up := up) (s := x.data.toList) (by rw [hy])
        rw [hy] at hpr
        dsimp only at hpr
        have hpb : pubS names up y = true := by unfold pubS; rw [decide_eq_true hpr.1, hpr.2]; rfl
        have hsy := right_small hpr.2
        have HSY := Lib.hid hsy
        have HRI := Lib.hid (fun (v : Value) W (hW : Law9 w (.slice A1 k1 c1) (.slice A2 k2 c2) names up #[.int .i64 pv, .int .i64 pl, .slice cA cN cc, .slice mA mN mc, .slice sA sN sc, .slice oA oN oc] W) (hs : IsSt W W.heap.size v y) => hpb ▸ sright_any W hW.one.la hs hsy)
        clear hpr hpb hsy hy
        go_wp2_with (fail)
        refine (HP2.out).mono ?_
        rintro e w7 ⟨ya, yb, yA, yn, yc, zA, zn, zc, tA, tn, tc, uA, un, uc, rfl, hks, hb⟩
        obtain ⟨rfl, rfl, rfl, rfl, rfl, rfl, -, his⟩ := hks.open9
        have hal := (Below.refl _ w7).alloc (Nat.le_refl _) (.cells #[.int .i64 y.pc.v, .int .i64 y.pc.l, .slice yA y.code.length yc, .slice zA y.mem.length zc, .slice tA y.stack.length tc, .slice uA y.out.length uc] 42)
        have hbx := Blk.new w7 42 #[.int .i64 y.pc.v, .int .i64 y.pc.l, .slice yA y.code.length yc, .slice zA y.mem.length zc, .slice tA y.stack.length tc, .slice uA y.out.length uc]
        have hb2 := hb.alloc hb.size (.cells #[.int .i64 y.pc.v, .int .i64 y.pc.l, .slice yA y.code.length yc, .slice zA y.mem.length zc, .slice tA y.stack.length tc, .slice uA y.out.length uc] 42)
        have his2 := (his.below hal).more hal.size
        clear l0 l1 b0 b1 b2 b3 b4 b5
        obtain ⟨W7, hW7⟩ : ∃ W7, w7.alloc (.cells #[.int .i64 y.pc.v, .int .i64 y.pc.l, .slice yA y.code.length yc, .slice zA y.mem.length zc, .slice tA y.stack.length tc, .slice uA y.out.length uc] 42) = W7 := ⟨_, rfl⟩
        rw [hW7] at hal hbx hb2 his2
        have hlw := HLW.out.next hb2
        clear HLW
        have HLW := Lib.hid hlw
        clear hlw
        have HX := Lib.hid hbx
        have HIS := Lib.hid his2
        have hxl := hbx.lt
        clear hks hb his hal hbx hb2 his2
        have l0 : W7.cell? ⟨w.heap.size, 0, none⟩ = some (.slice A1 k1 c1) := HLW.out.one.a.cell 0
        have l1 : W7.cell? ⟨w.heap.size, 1, none⟩ = some (.slice A2 k2 c2) := HLW.out.one.a.cell 1
        have b0 : W7.cell? ⟨w.heap.size + 1, 0, none⟩ = some (.int .i64 pv) := HLW.out.st.cell 0
        have b1 : W7.cell? ⟨w.heap.size + 1, 1, none⟩ = some (.int .i64 pl) := HLW.out.st.cell 1
        have b2 : W7.cell? ⟨w.heap.size + 1, 2, none⟩ = some (.slice cA cN cc) := HLW.out.st.cell 2
        have b3 : W7.cell? ⟨w.heap.size + 1, 3, none⟩ = some (.slice mA mN mc) := HLW.out.st.cell 3
        have b4 : W7.cell? ⟨w.heap.size + 1, 4, none⟩ = some (.slice sA sN sc) := HLW.out.st.cell 4
        have b5 : W7.cell? ⟨w.heap.size + 1, 5, none⟩ = some (.slice oA oN oc) := HLW.out.st.cell 5
        have x0 : W7.cell? ⟨w7.heap.size, 0, none⟩ = some (.int .i64 y.pc.v) := HX.out.cell 0
        have x1 : W7.cell? ⟨w7.heap.size, 1, none⟩ = some (.int .i64 y.pc.l) := HX.out.cell 1
        have x2 : W7.cell? ⟨w7.heap.size, 2, none⟩ = some (.slice yA y.code.length yc) := HX.out.cell 2
        have x3 : W7.cell? ⟨w7.heap.size, 3, none⟩ = some (.slice zA y.mem.length zc) := HX.out.cell 3
        have x4 : W7.cell? ⟨w7.heap.size, 4, none⟩ = some (.slice tA y.stack.length tc) := HX.out.cell 4
        have x5 : W7.cell? ⟨w7.heap.size, 5, none⟩ = some (.slice uA y.out.length uc) := HX.out.cell 5
        dsimp only
        have HALC := Lib.hid (HAL.out W7 HLW.out)
        go_wp2_with (fail)
        refine HALC.out.mono ?_
        rintro e w8 ⟨rfl, hb⟩
        have hx8 := HX.out.below hb HX.out.lt
        have hi8 := (HIS.out.below hb).more hb.size
        clear l0 l1 b0 b1 b2 b3 b4 b5
        clear x0 x1 x2 x3 x4 x5
        have hlw := HLW.out.next hb
        clear HLW
        have HLW := Lib.hid hlw
        clear hlw
        have hxl8 := hx8.lt
        have HRC := Lib.hid (HRI.out _ w8 HLW.out hi8)
        have l0 : w8.cell? ⟨w.heap.size, 0, none⟩ = some (.slice A1 k1 c1) := HLW.out.one.a.cell 0
        have l1 : w8.cell? ⟨w.heap.size, 1, none⟩ = some (.slice A2 k2 c2) := HLW.out.one.a.cell 1
        have b0 : w8.cell? ⟨w.heap.size + 1, 0, none⟩ = some (.int .i64 pv) := HLW.out.st.cell 0
        have b1 : w8.cell? ⟨w.heap.size + 1, 1, none⟩ = some (.int .i64 pl) := HLW.out.st.cell 1
        have b2 : w8.cell? ⟨w.heap.size + 1, 2, none⟩ = some (.slice cA cN cc) := HLW.out.st.cell 2
        have b3 : w8.cell? ⟨w.heap.size + 1, 3, none⟩ = some (.slice mA mN mc) := HLW.out.st.cell 3
        have b4 : w8.cell? ⟨w.heap.size + 1, 4, none⟩ = some (.slice sA sN sc) := HLW.out.st.cell 4
        have b5 : w8.cell? ⟨w.heap.size + 1, 5, none⟩ = some (.slice oA oN oc) := HLW.out.st.cell 5
        have x0 : w8.cell? ⟨w7.heap.size, 0, none⟩ = some (.int .i64 y.pc.v) := hx8.cell 0
        have x1 : w8.cell? ⟨w7.heap.size, 1, none⟩ = some (.int .i64 y.pc.l) := hx8.cell 1
        have x2 : w8.cell? ⟨w7.heap.size, 2, none⟩ = some (.slice yA y.code.length yc) := hx8.cell 2
        have x3 : w8.cell? ⟨w7.heap.size, 3, none⟩ = some (.slice zA y.mem.length zc) := hx8.cell 3
        have x4 : w8.cell? ⟨w7.heap.size, 4, none⟩ = some (.slice tA y.stack.length tc) := hx8.cell 4
        have x5 : w8.cell? ⟨w7.heap.size, 5, none⟩ = some (.slice uA y.out.length uc) := hx8.cell 5
        clear hb hx8 hi8 HX HIS HALC
        go_wp2_with (fail)
        refine HRC.out.mono ?_
        rintro e w9 ⟨rfl, hb⟩
        clear l0 l1 b0 b1 b2 b3 b4 b5
        clear x0 x1 x2 x3 x4 x5
        have hlw := HLW.out.next hb
        clear HLW
        have HLW := Lib.hid hlw
        clear hlw
        clear hb
        go_wp2
        go_ret
        exact ⟨rfl, HLW.out.one.below⟩
      · have hnil : y = St.zero := by
          have := St.parse_none (names := names) (up := up) (s := x.data.toList) (by rw [hy]; exact he2)
          rw [hy] at this
          exact this
        subst hnil
        have he3 : ((e2 : Int) != 0) = true := by rw [bne_iff_ne]; omega
        clear hy he2
        go_wp2_with (fail)
        refine (HP2.out).mono ?_
        rintro e w7 ⟨ya, yb, yA, yn, yc, zA, zn, zc, tA, tn, tc, uA, un, uc, rfl, hks, hb⟩
        obtain ⟨rfl, rfl, rfl, rfl, rfl, rfl, -, his⟩ := hks.open9
        have hal := (Below.refl _ w7).alloc (Nat.le_refl _) (.cells #[.int .i64 St.zero.pc.v, .int .i64 St.zero.pc.l, .slice yA St.zero.code.length yc, .slice zA St.zero.mem.length zc, .slice tA St.zero.stack.length tc, .slice uA St.zero.out.length uc] 42)
        have hbx := Blk.new w7 42 #[.int .i64 St.zero.pc.v, .int .i64 St.zero.pc.l, .slice yA St.zero.code.length yc, .slice zA St.zero.mem.length zc, .slice tA St.zero.stack.length tc, .slice uA St.zero.out.length uc]
        have hb2 := hb.alloc hb.size (.cells #[.int .i64 St.zero.pc.v, .int .i64 St.zero.pc.l, .slice yA St.zero.code.length yc, .slice zA St.zero.mem.length zc, .slice tA St.zero.stack.length tc, .slice uA St.zero.out.length uc] 42)
        have his2 := (his.below hal).more hal.size
        clear l0 l1 b0 b1 b2 b3 b4 b5
        obtain ⟨W7, hW7⟩ : ∃ W7, w7.alloc (.cells #[.int .i64 St.zero.pc.v, .int .i64 St.zero.pc.l, .slice yA St.zero.code.length yc, .slice zA St.zero.mem.length zc, .slice tA St.zero.stack.length tc, .slice uA St.zero.out.length uc] 42) = W7 := ⟨_, rfl⟩
        rw [hW7] at hal hbx hb2 his2
        have hlw := HLW.out.next hb2
        clear HLW
        have HLW := Lib.hid hlw
        clear hlw
        have HX := Lib.hid hbx
        have HIS := Lib.hid his2
        have hxl := hbx.lt
        clear hks hb his hal hbx hb2 his2
        have l0 : W7.cell? ⟨w.heap.size, 0, none⟩ = some (.slice A1 k1 c1) := HLW.out.one.a.cell 0
        have l1 : W7.cell? ⟨w.heap.size, 1, none⟩ = some (.slice A2 k2 c2) := HLW.out.one.a.cell 1
        have b0 : W7.cell? ⟨w.heap.size + 1, 0, none⟩ = some (.int .i64 pv) := HLW.out.st.cell 0
        have b1 : W7.cell? ⟨w.heap.size + 1, 1, none⟩ = some (.int .i64 pl) := HLW.out.st.cell 1
        have b2 : W7.cell? ⟨w.heap.size + 1, 2, none⟩ = some (.slice cA cN cc) := HLW.out.st.cell 2
        have b3 : W7.cell? ⟨w.heap.size + 1, 3, none⟩ = some (.slice mA mN mc) := HLW.out.st.cell 3
        have b4 : W7.cell? ⟨w.heap.size + 1, 4, none⟩ = some (.slice sA sN sc) := HLW.out.st.cell 4
        have b5 : W7.cell? ⟨w.heap.size + 1, 5, none⟩ = some (.slice oA oN oc) := HLW.out.st.cell 5
        have x0 : W7.cell? ⟨w7.heap.size, 0, none⟩ = some (.int .i64 St.zero.pc.v) := HX.out.cell 0
        have x1 : W7.cell? ⟨w7.heap.size, 1, none⟩ = some (.int .i64 St.zero.pc.l) := HX.out.cell 1
        have x2 : W7.cell? ⟨w7.heap.size, 2, none⟩ = some (.slice yA St.zero.code.length yc) := HX.out.cell 2
        have x3 : W7.cell? ⟨w7.heap.size, 3, none⟩ = some (.slice zA St.zero.mem.length zc) := HX.out.cell 3
        have x4 : W7.cell? ⟨w7.heap.size, 4, none⟩ = some (.slice tA St.zero.stack.length tc) := HX.out.cell 4
        have x5 : W7.cell? ⟨w7.heap.size, 5, none⟩ = some (.slice uA St.zero.out.length uc) := HX.out.cell 5
        dsimp only
        have HALC := Lib.hid (HAL.out W7 HLW.out)
        go_wp2_with (fail)
        refine HALC.out.mono ?_
        rintro e w8 ⟨rfl, hb⟩
        have hx8 := HX.out.below hb HX.out.lt
        have hi8 := (HIS.out.below hb).more hb.size
        clear l0 l1 b0 b1 b2 b3 b4 b5
        clear x0 x1 x2 x3 x4 x5
        have hlw := HLW.out.next hb
        clear HLW
        have HLW := Lib.hid hlw
        clear hlw
        have hxl8 := hx8.lt
        have hz8 : IsSt w8 w8.heap.size (.agg #[.int .i64 0, .int .i64 0, .slice none 0 0, .slice none 0 0, .slice none 0 0, .slice none 0 0]) St.zero := IsSt.zero _ _
        have hsm := rSame9_any w8 hi8 hz8 small_zero small_zero
        rw [sameB_refl] at hsm
        have HRC := Lib.hid hsm
        have l0 : w8.cell? ⟨w.heap.size, 0, none⟩ = some (.slice A1 k1 c1) := HLW.out.one.a.cell 0
        have l1 : w8.cell? ⟨w.heap.size, 1, none⟩ = some (.slice A2 k2 c2) := HLW.out.one.a.cell 1
        have b0 : w8.cell? ⟨w.heap.size + 1, 0, none⟩ = some (.int .i64 pv) := HLW.out.st.cell 0
        have b1 : w8.cell? ⟨w.heap.size + 1, 1, none⟩ = some (.int .i64 pl) := HLW.out.st.cell 1
        have b2 : w8.cell? ⟨w.heap.size + 1, 2, none⟩ = some (.slice cA cN cc) := HLW.out.st.cell 2
        have b3 : w8.cell? ⟨w.heap.size + 1, 3, none⟩ = some (.slice mA mN mc) := HLW.out.st.cell 3
        have b4 : w8.cell? ⟨w.heap.size + 1, 4, none⟩ = some (.slice sA sN sc) := HLW.out.st.cell 4
        have b5 : w8.cell? ⟨w.heap.size + 1, 5, none⟩ = some (.slice oA oN oc) := HLW.out.st.cell 5
        have x0 : w8.cell? ⟨w7.heap.size, 0, none⟩ = some (.int .i64 St.zero.pc.v) := hx8.cell 0
        have x1 : w8.cell? ⟨w7.heap.size, 1, none⟩ = some (.int .i64 St.zero.pc.l) := hx8.cell 1
        have x2 : w8.cell? ⟨w7.heap.size, 2, none⟩ = some (.slice yA St.zero.code.length yc) := hx8.cell 2
        have x3 : w8.cell? ⟨w7.heap.size, 3, none⟩ = some (.slice zA St.zero.mem.length zc) := hx8.cell 3
        have x4 : w8.cell? ⟨w7.heap.size, 4, none⟩ = some (.slice tA St.zero.stack.length tc) := hx8.cell 4
        have x5 : w8.cell? ⟨w7.heap.size, 5, none⟩ = some (.slice uA St.zero.out.length uc) := hx8.cell 5
        clear hb hx8 hi8 hz8 hsm HX HIS HALC
        dsimp only [St.zero, List.length_nil] at *
        go_wp2_with (fail)
        refine HRC.out.mono ?_
        rintro e w9 ⟨rfl, hb⟩
        clear l0 l1 b0 b1 b2 b3 b4 b5
        clear x0 x1 x2 x3 x4 x5
        have hlw := HLW.out.next hb
        clear HLW
        have HLW := Lib.hid hlw
        clear hlw
        clear hb
        go_wp2
        go_ret
        exact ⟨rfl, HLW.out.one.below⟩
    · rw [htb] at hp1
      have HP1 := Lib.hid hp1
      clear hp1 htb htz HS1
      go_wp2_with (fail)
      refine (HP1.out).mono ?_
      rintro e w5 ⟨ya, yb, yA, yn, yc, zA, zn, zc, tA, tn, tc, uA, un, uc, rfl, hks, hb⟩
      obtain ⟨rfl, rfl, rfl, rfl, rfl, rfl, -, his⟩ := hks.open9
      have hal := (Below.refl _ w5).alloc (Nat.le_refl _) (.cells #[.int .i64 St.zero.pc.v, .int .i64 St.zero.pc.l, .slice yA St.zero.code.length yc, .slice zA St.zero.mem.length zc, .slice tA St.zero.stack.length tc, .slice uA St.zero.out.length uc] 42)
      have hbx := Blk.new w5 42 #[.int .i64 St.zero.pc.v, .int .i64 St.zero.pc.l, .slice yA St.zero.code.length yc, .slice zA St.zero.mem.length zc, .slice tA St.zero.stack.length tc, .slice uA St.zero.out.length uc]
      have hb2 := hb.alloc hb.size (.cells #[.int .i64 St.zero.pc.v, .int .i64 St.zero.pc.l, .slice yA St.zero.code.length yc, .slice zA St.zero.mem.length zc, .slice tA St.zero.stack.length tc, .slice uA St.zero.out.length uc] 42)
      have his2 := (his.below hal).more hal.size
      clear l0 l1 b0 b1 b2 b3 b4 b5
      obtain ⟨W5, hW5⟩ : ∃ W5, w5.alloc (.cells #[.int .i64 St.zero.pc.v, .int .i64 St.zero.pc.l, .slice yA St.zero.code.length yc, .slice zA St.zero.mem.length zc, .slice tA St.zero.stack.length tc, .slice uA St.zero.out.length uc] 42) = W5 := ⟨_, rfl⟩
      rw [hW5] at hal hbx hb2 his2
      have hlw := HLW.out.next hb2
      clear HLW
      have HLW := Lib.hid hlw
      clear hlw
      have HX := Lib.hid hbx
      have HIS := Lib.hid his2
      have hxl := hbx.lt
      clear hks hb his hal hbx hb2 his2
      have l0 : W5.cell? ⟨w.heap.size, 0, none⟩ = some (.slice A1 k1 c1) := HLW.out.one.a.cell 0
      have l1 : W5.cell? ⟨w.heap.size, 1, none⟩ = some (.slice A2 k2 c2) := HLW.out.one.a.cell 1
      have b0 : W5.cell? ⟨w.heap.size + 1, 0, none⟩ = some (.int .i64 pv) := HLW.out.st.cell 0
      have b1 : W5.cell? ⟨w.heap.size + 1, 1, none⟩ = some (.int .i64 pl) := HLW.out.st.cell 1
      have b2 : W5.cell? ⟨w.heap.size + 1, 2, none⟩ = some (.slice cA cN cc) := HLW.out.st.cell 2
      have b3 : W5.cell? ⟨w.heap.size + 1, 3, none⟩ = some (.slice mA mN mc) := HLW.out.st.cell 3
      have b4 : W5.cell? ⟨w.heap.size + 1, 4, none⟩ = some (.slice sA sN sc) := HLW.out.st.cell 4
      have b5 : W5.cell? ⟨w.heap.size + 1, 5, none⟩ = some (.slice oA oN oc) := HLW.out.st.cell 5
      have x0 : W5.cell? ⟨w5.heap.size, 0, none⟩ = some (.int .i64 St.zero.pc.v) := HX.out.cell 0
      have x1 : W5.cell? ⟨w5.heap.size, 1, none⟩ = some (.int .i64 St.zero.pc.l) := HX.out.cell 1
      have x2 : W5.cell? ⟨w5.heap.size, 2, none⟩ = some (.slice yA St.zero.code.length yc) := HX.out.cell 2
      have x3 : W5.cell? ⟨w5.heap.size, 3, none⟩ = some (.slice zA St.zero.mem.length zc) := HX.out.cell 3
      have x4 : W5.cell? ⟨w5.heap.size, 4, none⟩ = some (.slice tA St.zero.stack.length tc) := HX.out.cell 4
      have x5 : W5.cell? ⟨w5.heap.size, 5, none⟩ = some (.slice uA St.zero.out.length uc) := HX.out.cell 5
      dsimp only
      clear HX HIS HP1
      clear x0 x1 x2 x3 x4 x5
      have hp2 := HPS.out x W5 HX0.out HLW.out
      obtain ⟨⟨y, at2, e2⟩, hy⟩ : ∃ r, St.parse names up x.data.toList = r := ⟨_, rfl⟩
      rw [hy] at hp2
      have HP2 := Lib.hid hp2
      clear hp2
      by_cases he2 : e2 = 0
      · subst he2
        have hpr := St.parse_right (names := names) (up := up) (s := x.data.toList) (by rw [hy])
        rw [hy] at hpr
        dsimp only at hpr
        have hpb : pubS names up y = true := by unfold pubS; rw [decide_eq_true hpr.1, hpr.2]; rfl
        have hsy := right_small hpr.2
        have HSY := Lib.hid hsy
        have HRI := Lib.hid (fun (v : Value) W (hW : Law9 w (.slice A1 k1 c1) (.slice A2 k2 c2) names up #[.int .i64 pv, .int .i64 pl, .slice cA cN cc, .slice mA mN mc, .slice sA sN sc, .slice oA oN oc] W) (hs : IsSt W W.heap.size v y) => hpb ▸ sright_any W hW.one.la hs hsy)
        clear hpr hpb hsy hy
        go_wp2_with (fail)
        refine (HP2.out).mono ?_
        rintro e w7 ⟨ya, yb, yA, yn, yc, zA, zn, zc, tA, tn, tc, uA, un, uc, rfl, hks, hb⟩
        obtain ⟨rfl, rfl, rfl, rfl, rfl, rfl, -, his⟩ := hks.open9
        have hal := (Below.refl _ w7).alloc (Nat.le_refl _) (.cells #[.int .i64 y.pc.v, .int .i64 y.pc.l, .slice yA y.code.length yc, .slice zA y.mem.length zc, .slice tA y.stack.length tc, .slice uA y.out.length uc] 42)
        have hbx := Blk.new w7 42 #[.int .i64 y.pc.v, .int .i64 y.pc.l, .slice yA y.code.length yc, .slice zA y.mem.length zc, .slice tA y.stack.length tc, .slice uA y.out.length uc]
        have hb2 := hb.alloc hb.size (.cells #[.int .i64 y.pc.v, .int .i64 y.pc.l, .slice yA y.code.length yc, .slice zA y.mem.length zc, .slice tA y.stack.length tc, .slice uA y.out.length uc] 42)
        have his2 := (his.below hal).more hal.size
        clear l0 l1 b0 b1 b2 b3 b4 b5
        obtain ⟨W7, hW7⟩ : ∃ W7, w7.alloc (.cells #[.int .i64 y.pc.v, .int .i64 y.pc.l, .slice yA y.code.length yc, .slice zA y.mem.length zc, .slice tA y.stack.length tc, .slice uA y.out.length uc] 42) = W7 := ⟨_, rfl⟩
        rw [hW7] at hal hbx hb2 his2
        have hlw := HLW.out.next hb2
        clear HLW
        have HLW := Lib.hid hlw
        clear hlw
        have HX := Lib.hid hbx
        have HIS := Lib.hid his2
        have hxl := hbx.lt
        clear hks hb his hal hbx hb2 his2
        have l0 : W7.cell? ⟨w.heap.size, 0, none⟩ = some (.slice A1 k1 c1) := HLW.out.one.a.cell 0
        have l1 : W7.cell? ⟨w.heap.size, 1, none⟩ = some (.slice A2 k2 c2) := HLW.out.one.a.cell 1
        have b0 : W7.cell? ⟨w.heap.size + 1, 0, none⟩ = some (.int .i64 pv) := HLW.out.st.cell 0
        have b1 : W7.cell? ⟨w.heap.size + 1, 1, none⟩ = some (.int .i64 pl) := HLW.out.st.cell 1
        have b2 : W7.cell? ⟨w.heap.size + 1, 2, none⟩ = some (.slice cA cN cc) := HLW.out.st.cell 2
        have b3 : W7.cell? ⟨w.heap.size + 1, 3, none⟩ = some (.slice mA mN mc) := HLW.out.st.cell 3
        have b4 : W7.cell? ⟨w.heap.size + 1, 4, none⟩ = some (.slice sA sN sc) := HLW.out.st.cell 4
        have b5 : W7.cell? ⟨w.heap.size + 1, 5, none⟩ = some (.slice oA oN oc) := HLW.out.st.cell 5
        have x0 : W7.cell? ⟨w7.heap.size, 0, none⟩ = some (.int .i64 y.pc.v) := HX.out.cell 0
        have x1 : W7.cell? ⟨w7.heap.size, 1, none⟩ = some (.int .i64 y.pc.l) := HX.out.cell 1
        have x2 : W7.cell? ⟨w7.heap.size, 2, none⟩ = some (.slice yA y.code.length yc) := HX.out.cell 2
        have x3 : W7.cell? ⟨w7.heap.size, 3, none⟩ = some (.slice zA y.mem.length zc) := HX.out.cell 3
        have x4 : W7.cell? ⟨w7.heap.size, 4, none⟩ = some (.slice tA y.stack.length tc) := HX.out.cell 4
        have x5 : W7.cell? ⟨w7.heap.size, 5, none⟩ = some (.slice uA y.out.length uc) := HX.out.cell 5
        dsimp only
        have HALC := Lib.hid (HAL.out W7 HLW.out)
        go_wp2_with (fail)
        refine HALC.out.mono ?_
        rintro e w8 ⟨rfl, hb⟩
        have hx8 := HX.out.below hb HX.out.lt
        have hi8 := (HIS.out.below hb).more hb.size
        clear l0 l1 b0 b1 b2 b3 b4 b5
        clear x0 x1 x2 x3 x4 x5
        have hlw := HLW.out.next hb
        clear HLW
        have HLW := Lib.hid hlw
        clear hlw
        have hxl8 := hx8.lt
        have HRC := Lib.hid (HRI.out _ w8 HLW.out hi8)
        have l0 : w8.cell? ⟨w.heap.size, 0, none⟩ = some (.slice A1 k1 c1) := HLW.out.one.a.cell 0
        have l1 : w8.cell? ⟨w.heap.size, 1, none⟩ = some (.slice A2 k2 c2) := HLW.out.one.a.cell 1
        have b0 : w8.cell? ⟨w.heap.size + 1, 0, none⟩ = some (.int .i64 pv) := HLW.out.st.cell 0
        have b1 : w8.cell? ⟨w.heap.size + 1, 1, none⟩ = some (.int .i64 pl) := HLW.out.st.cell 1
        have b2 : w8.cell? ⟨w.heap.size + 1, 2, none⟩ = some (.slice cA cN cc) := HLW.out.st.cell 2
        have b3 : w8.cell? ⟨w.heap.size + 1, 3, none⟩ = some (.slice mA mN mc) := HLW.out.st.cell 3
        have b4 : w8.cell? ⟨w.heap.size + 1, 4, none⟩ = some (.slice sA sN sc) := HLW.out.st.cell 4
        have b5 : w8.cell? ⟨w.heap.size + 1, 5, none⟩ = some (.slice oA oN oc) := HLW.out.st.cell 5
        have x0 : w8.cell? ⟨w7.heap.size, 0, none⟩ = some (.int .i64 y.pc.v) := hx8.cell 0
        have x1 : w8.cell? ⟨w7.heap.size, 1, none⟩ = some (.int .i64 y.pc.l) := hx8.cell 1
        have x2 : w8.cell? ⟨w7.heap.size, 2, none⟩ = some (.slice yA y.code.length yc) := hx8.cell 2
        have x3 : w8.cell? ⟨w7.heap.size, 3, none⟩ = some (.slice zA y.mem.length zc) := hx8.cell 3
        have x4 : w8.cell? ⟨w7.heap.size, 4, none⟩ = some (.slice tA y.stack.length tc) := hx8.cell 4
        have x5 : w8.cell? ⟨w7.heap.size, 5, none⟩ = some (.slice uA y.out.length uc) := hx8.cell 5
        clear hb hx8 hi8 HX HIS HALC
        go_wp2_with (fail)
        refine HRC.out.mono ?_
        rintro e w9 ⟨rfl, hb⟩
        clear l0 l1 b0 b1 b2 b3 b4 b5
        clear x0 x1 x2 x3 x4 x5
        have hlw := HLW.out.next hb
        clear HLW
        have HLW := Lib.hid hlw
        clear hlw
        clear hb
        go_wp2
        go_ret
        exact ⟨rfl, HLW.out.one.below⟩
      · have hnil : y = St.zero := by
          have := St.parse_none (names := names) (up := up) (s := x.data.toList) (by rw [hy]; exact he2)
          rw [hy] at this
          exact this
        subst hnil
        have he3 : ((e2 : Int) != 0) = true := by rw [bne_iff_ne]; omega
        clear hy he2
        go_wp2_with (fail)
        refine (HP2.out).mono ?_
        rintro e w7 ⟨ya, yb, yA, yn, yc, zA, zn, zc, tA, tn, tc, uA, un, uc, rfl, hks, hb⟩
        obtain ⟨rfl, rfl, rfl, rfl, rfl, rfl, -, his⟩ := hks.open9
        have hal := (Below.refl _ w7).alloc (Nat.le_refl _) (.cells #[.int .i64 St.zero.pc.v, .int .i64 St.zero.pc.l, .slice yA St.zero.code.length yc, .slice zA St.zero.mem.length zc, .slice tA St.zero.stack.length tc, .slice uA St.zero.out.length uc] 42)
        have hbx := Blk.new w7 42 #[.int .i64 St.zero.pc.v, .int .i64 St.zero.pc.l, .slice yA St.zero.code.length yc, .slice zA St.zero.mem.length zc, .slice tA St.zero.stack.length tc, .slice uA St.zero.out.length uc]
        have hb2 := hb.alloc hb.size (.cells #[.int .i64 St.zero.pc.v, .int .i64 St.zero.pc.l, .slice yA St.zero.code.length yc, .slice zA St.zero.mem.length zc, .slice tA St.zero.stack.length tc, .slice uA St.zero.out.length uc] 42)
        have his2 := (his.below hal).more hal.size
        clear l0 l1 b0 b1 b2 b3 b4 b5
        obtain ⟨W7, hW7⟩ : ∃ W7, w7.alloc (.cells #[.int .i64 St.zero.pc.v, .int .i64 St.zero.pc.l, .slice yA St.zero.code.length yc, .slice zA St.zero.mem.length zc, .slice tA St.zero.stack.length tc, .slice uA St.zero.out.length uc] 42) = W7 := ⟨_, rfl⟩
        rw [hW7] at hal hbx hb2 his2
        have hlw := HLW.out.next hb2
        clear HLW
        have HLW := Lib.hid hlw
        clear hlw
        have HX := Lib.hid hbx
        have HIS := Lib.hid his2
        have hxl := hbx.lt
        clear hks hb his hal hbx hb2 his2
        have l0 : W7.cell? ⟨w.heap.size, 0, none⟩ = some (.slice A1 k1 c1) := HLW.out.one.a.cell 0
        have l1 : W7.cell? ⟨w.heap.size, 1, none⟩ = some (.slice A2 k2 c2) := HLW.out.one.a.cell 1
        have b0 : W7.cell? ⟨w.heap.size + 1, 0, none⟩ = some (.int .i64 pv) := HLW.out.st.cell 0
        have b1 : W7.cell? ⟨w.heap.size + 1, 1, none⟩ = some (.int .i64 pl) := HLW.out.st.cell 1
        have b2 : W7.cell? ⟨w.heap.size + 1, 2, none⟩ = some (.slice cA cN cc) := HLW.out.st.cell 2
        have b3 : W7.cell? ⟨w.heap.size + 1, 3, none⟩ = some (.slice mA mN mc) := HLW.out.st.cell 3
        have b4 : W7.cell? ⟨w.heap.size + 1, 4, none⟩ = some (.slice sA sN sc) := HLW.out.st.cell 4
        have b5 : W7.cell? ⟨w.heap.size + 1, 5, none⟩ = some (.slice oA oN oc) := HLW.out.st.cell 5
        have x0 : W7.cell? ⟨w7.heap.size, 0, none⟩ = some (.int .i64 St.zero.pc.v) := HX.out.cell 0
        have x1 : W7.cell? ⟨w7.heap.size, 1, none⟩ = some (.int .i64 St.zero.pc.l) := HX.out.cell 1
        have x2 : W7.cell? ⟨w7.heap.size, 2, none⟩ = some (.slice yA St.zero.code.length yc) := HX.out.cell 2
        have x3 : W7.cell? ⟨w7.heap.size, 3, none⟩ = some (.slice zA St.zero.mem.length zc) := HX.out.cell 3
        have x4 : W7.cell? ⟨w7.heap.size, 4, none⟩ = some (.slice tA St.zero.stack.length tc) := HX.out.cell 4
        have x5 : W7.cell? ⟨w7.heap.size, 5, none⟩ = some (.slice uA St.zero.out.length uc) := HX.out.cell 5
        dsimp only
        have HALC := Lib.hid (HAL.out W7 HLW.out)
        go_wp2_with (fail)
        refine HALC.out.mono ?_
        rintro e w8 ⟨rfl, hb⟩
        have hx8 := HX.out.below hb HX.out.lt
        have hi8 := (HIS.out.below hb).more hb.size
        clear l0 l1 b0 b1 b2 b3 b4 b5
        clear x0 x1 x2 x3 x4 x5
        have hlw := HLW.out.next hb
        clear HLW
        have HLW := Lib.hid hlw
        clear hlw
        have hxl8 := hx8.lt
        have hz8 : IsSt w8 w8.heap.size (.agg #[.int .i64 0, .int .i64 0, .slice none 0 0, .slice none 0 0, .slice none 0 0, .slice none 0 0]) St.zero := IsSt.zero _ _
        have hsm := rSame9_any w8 hi8 hz8 small_zero small_zero
        rw [sameB_refl] at hsm
        have HRC := Lib.hid hsm
        have l0 : w8.cell? ⟨w.heap.size, 0, none⟩ = some (.slice A1 k1 c1) := HLW.out.one.a.cell 0
        have l1 : w8.cell? ⟨w.heap.size, 1, none⟩ = some (.slice A2 k2 c2) := HLW.out.one.a.cell 1
        have b0 : w8.cell? ⟨w.heap.size + 1, 0, none⟩ = some (.int .i64 pv) := HLW.out.st.cell 0
        have b1 : w8.cell? ⟨w.heap.size + 1, 1, none⟩ = some (.int .i64 pl) := HLW.out.st.cell 1
        have b2 : w8.cell? ⟨w.heap.size + 1, 2, none⟩ = some (.slice cA cN cc) := HLW.out.st.cell 2
        have b3 : w8.cell? ⟨w.heap.size + 1, 3, none⟩ = some (.slice mA mN mc) := HLW.out.st.cell 3
        have b4 : w8.cell? ⟨w.heap.size + 1, 4, none⟩ = some (.slice sA sN sc) := HLW.out.st.cell 4
        have b5 : w8.cell? ⟨w.heap.size + 1, 5, none⟩ = some (.slice oA oN oc) := HLW.out.st.cell 5
        have x0 : w8.cell? ⟨w7.heap.size, 0, none⟩ = some (.int .i64 St.zero.pc.v) := hx8.cell 0
        have x1 : w8.cell? ⟨w7.heap.size, 1, none⟩ = some (.int .i64 St.zero.pc.l) := hx8.cell 1
        have x2 : w8.cell? ⟨w7.heap.size, 2, none⟩ = some (.slice yA St.zero.code.length yc) := hx8.cell 2
        have x3 : w8.cell? ⟨w7.heap.size, 3, none⟩ = some (.slice zA St.zero.mem.length zc) := hx8.cell 3
        have x4 : w8.cell? ⟨w7.heap.size, 4, none⟩ = some (.slice tA St.zero.stack.length tc) := hx8.cell 4
        have x5 : w8.cell? ⟨w7.heap.size, 5, none⟩ = some (.slice uA St.zero.out.length uc) := hx8.cell 5
        clear hb hx8 hi8 hz8 hsm HX HIS HALC
        dsimp only [St.zero, List.length_nil] at *
        go_wp2_with (fail)
        refine HRC.out.mono ?_
        rintro e w9 ⟨rfl, hb⟩
        clear l0 l1 b0 b1 b2 b3 b4 b5
        clear x0 x1 x2 x3 x4 x5
        have hlw := HLW.out.next hb
        clear HLW
        have HLW := Lib.hid hlw
        clear hlw
        clear hb
        go_wp2
        go_ret
        exact ⟨rfl, HLW.out.one.below⟩
  · have hne : ((n1' : Int) == 0) = false := by rw [beq_eq_false_iff_ne]; omega
    clear HS1 hn1
    have hp2 := HPS.out x w4 HX0.out HLW.out
    obtain ⟨⟨y, at2, e2⟩, hy⟩ : ∃ r, St.parse names up x.data.toList = r := ⟨_, rfl⟩
    rw [hy] at hp2
    have HP2 := Lib.hid hp2
    clear hp2
    by_cases he2 : e2 = 0
    · subst he2
      have hpr := St.parse_right (names := names) (up := up) (s := x.data.toList) (by rw [hy])
      rw [hy] at hpr
      dsimp only at hpr
      have hpb : pubS names up y = true := by unfold pubS; rw [decide_eq_true hpr.1, hpr.2]; rfl
      have hsy := right_small hpr.2
      have HSY := Lib.hid hsy
      have HRI := Lib.hid (fun (v : Value) W (hW : Law9 w (.slice A1 k1 c1) (.slice A2 k2 c2) names up #[.int .i64 pv, .int .i64 pl, .slice cA cN cc, .slice mA mN mc, .slice sA sN sc, .slice oA oN oc] W) (hs : IsSt W W.heap.size v y) => hpb ▸ sright_any W hW.one.la hs hsy)
      clear hpr hpb hsy hy
      go_wp2_with (fail)
      refine (HP2.out).mono ?_
      rintro e w7 ⟨ya, yb, yA, yn, yc, zA, zn, zc, tA, tn, tc, uA, un, uc, rfl, hks, hb⟩
      obtain ⟨rfl, rfl, rfl, rfl, rfl, rfl, -, his⟩ := hks.open9
      have hal := (Below.refl _ w7).alloc (Nat.le_refl _) (.cells #[.int .i64 y.pc.v, .int .i64 y.pc.l, .slice yA y.code.length yc, .slice zA y.mem.length zc, .slice tA y.stack.length tc, .slice uA y.out.length uc] 42)
      have hbx := Blk.new w7 42 #[.int .i64 y.pc.v, .int .i64 y.pc.l, .slice yA y.code.length yc, .slice zA y.mem.length zc, .slice tA y.stack.length tc, .slice uA y.out.length uc]
      have hb2 := hb.alloc hb.size (.cells #[.int .i64 y.pc.v, .int .i64 y.pc.l, .slice yA y.code.length yc, .slice zA y.mem.length zc, .slice tA y.stack.length tc, .slice uA y.out.length uc] 42)
      have his2 := (his.below hal).more hal.size
      clear l0 l1 b0 b1 b2 b3 b4 b5
      obtain ⟨W7, hW7⟩ : ∃ W7, w7.alloc (.cells #[.int .i64 y.pc.v, .int .i64 y.pc.l, .slice yA y.code.length yc, .slice zA y.mem.length zc, .slice tA y.stack.length tc, .slice uA y.out.length uc] 42) = W7 := ⟨_, rfl⟩
      rw [hW7] at hal hbx hb2 his2
      have hlw := HLW.out.next hb2
      clear HLW
      have HLW := Lib.hid hlw
      clear hlw
      have HX := Lib.hid hbx
      have HIS := Lib.hid his2
      have hxl := hbx.lt
      clear hks hb his hal hbx hb2 his2
      have l0 : W7.cell? ⟨w.heap.size, 0, none⟩ = some (.slice A1 k1 c1) := HLW.out.one.a.cell 0
      have l1 : W7.cell? ⟨w.heap.size, 1, none⟩ = some (.slice A2 k2 c2) := HLW.out.one.a.cell 1
      have b0 : W7.cell? ⟨w.heap.size + 1, 0, none⟩ = some (.int .i64 pv) := HLW.out.st.cell 0
      have b1 : W7.cell? ⟨w.heap.size + 1, 1, none⟩ = some (.int .i64 pl) := HLW.out.st.cell 1
      have b2 : W7.cell? ⟨w.heap.size + 1, 2, none⟩ = some (.slice cA cN cc) := HLW.out.st.cell 2
      have b3 : W7.cell? ⟨w.heap.size + 1, 3, none⟩ = some (.slice mA mN mc) := HLW.out.st.cell 3
      have b4 : W7.cell? ⟨w.heap.size + 1, 4, none⟩ = some (.slice sA sN sc) := HLW.out.st.cell 4
      have b5 : W7.cell? ⟨w.heap.size + 1, 5, none⟩ = some (.slice oA oN oc) := HLW.out.st.cell 5
      have x0 : W7.cell? ⟨w7.heap.size, 0, none⟩ = some (.int .i64 y.pc.v) := HX.out.cell 0
      have x1 : W7.cell? ⟨w7.heap.size, 1, none⟩ = some (.int .i64 y.pc.l) := HX.out.cell 1
      have x2 : W7.cell? ⟨w7.heap.size, 2, none⟩ = some (.slice yA y.code.length yc) := HX.out.cell 2
      have x3 : W7.cell? ⟨w7.heap.size, 3, none⟩ = some (.slice zA y.mem.length zc) := HX.out.cell 3
      have x4 : W7.cell? ⟨w7.heap.size, 4, none⟩ = some (.slice tA y.stack.length tc) := HX.out.cell 4
      have x5 : W7.cell? ⟨w7.heap.size, 5, none⟩ = some (.slice uA y.out.length uc) := HX.out.cell 5
      dsimp only
      have HALC := Lib.hid (HAL.out W7 HLW.out)
      go_wp2_with (fail)
      refine HALC.out.mono ?_
      rintro e w8 ⟨rfl, hb⟩
      have hx8 := HX.out.below hb HX.out.lt
      have hi8 := (HIS.out.below hb).more hb.size
      clear l0 l1 b0 b1 b2 b3 b4 b5
      clear x0 x1 x2 x3 x4 x5
      have hlw := HLW.out.next hb
      clear HLW
      have HLW := Lib.hid hlw
      clear hlw
      have hxl8 := hx8.lt
      have HRC := Lib.hid (HRI.out _ w8 HLW.out hi8)
      have l0 : w8.cell? ⟨w.heap.size, 0, none⟩ = some (.slice A1 k1 c1) := HLW.out.one.a.cell 0
      have l1 : w8.cell? ⟨w.heap.size, 1, none⟩ = some (.slice A2 k2 c2) := HLW.out.one.a.cell 1
      have b0 : w8.cell? ⟨w.heap.size + 1, 0, none⟩ = some (.int .i64 pv) := HLW.out.st.cell 0
      have b1 : w8.cell? ⟨w.heap.size + 1, 1, none⟩ = some (.int .i64 pl) := HLW.out.st.cell 1
      have b2 : w8.cell? ⟨w.heap.size + 1, 2, none⟩ = some (.slice cA cN cc) := HLW.out.st.cell 2
      have b3 : w8.cell? ⟨w.heap.size + 1, 3, none⟩ = some (.slice mA mN mc) := HLW.out.st.cell 3
      have b4 : w8.cell? ⟨w.heap.size + 1, 4, none⟩ = some (.slice sA sN sc) := HLW.out.st.cell 4
      have b5 : w8.cell? ⟨w.heap.size + 1, 5, none⟩ = some (.slice oA oN oc) := HLW.out.st.cell 5
      have x0 : w8.cell? ⟨w7.heap.size, 0, none⟩ = some (.int .i64 y.pc.v) := hx8.cell 0
      have x1 : w8.cell? ⟨w7.heap.size, 1, none⟩ = some (.int .i64 y.pc.l) := hx8.cell 1
      have x2 : w8.cell? ⟨w7.heap.size, 2, none⟩ = some (.slice yA y.code.length yc) := hx8.cell 2
      have x3 : w8.cell? ⟨w7.heap.size, 3, none⟩ = some (.slice zA y.mem.length zc) := hx8.cell 3
      have x4 : w8.cell? ⟨w7.heap.size, 4, none⟩ = some (.slice tA y.stack.length tc) := hx8.cell 4
      have x5 : w8.cell? ⟨w7.heap.size, 5, none⟩ = some (.slice uA y.out.length uc) := hx8.cell 5
      clear hb hx8 hi8 HX HIS HALC
      go_wp2_with (fail)
      refine HRC.out.mono ?_
      rintro e w9 ⟨rfl, hb⟩
      clear l0 l1 b0 b1 b2 b3 b4 b5
      clear x0 x1 x2 x3 x4 x5
      have hlw := HLW.out.next hb
      clear HLW
      have HLW := Lib.hid hlw
      clear hlw
      clear hb
      go_wp2
      go_ret
      exact ⟨rfl, HLW.out.one.below⟩
    · have hnil : y = St.zero := by
        have := St.parse_none (names := names) (up := up) (s := x.data.toList) (by rw [hy]; exact he2)
        rw [hy] at this
        exact this
      subst hnil
      have he3 : ((e2 : Int) != 0) = true := by rw [bne_iff_ne]; omega
      clear hy he2
      go_wp2_with (fail)
      refine (HP2.out).mono ?_
      rintro e w7 ⟨ya, yb, yA, yn, yc, zA, zn, zc, tA, tn, tc, uA, un, uc, rfl, hks, hb⟩
      obtain ⟨rfl, rfl, rfl, rfl, rfl, rfl, -, his⟩ := hks.open9
      have hal := (Below.refl _ w7).alloc (Nat.le_refl _) (.cells #[.int .i64 St.zero.pc.v, .int .i64 St.zero.pc.l, .slice yA St.zero.code.length yc, .slice zA St.zero.mem.length zc, .slice tA St.zero.stack.length tc, .slice uA St.zero.out.length uc] 42)
      have hbx := Blk.new w7 42 #[.int .i64 St.zero.pc.v, .int .i64 St.zero.pc.l, .slice yA St.zero.code.length yc, .slice zA St.zero.mem.length zc, .slice tA St.zero.stack.length tc, .slice uA St.zero.out.length uc]
      have hb2 := hb.alloc hb.size (.cells #[.int .i64 St.zero.pc.v, .int .i64 St.zero.pc.l, .slice yA St.zero.code.length yc, .slice zA St.zero.mem.length zc, .slice tA St.zero.stack.length tc, .slice uA St.zero.out.length uc] 42)
      have his2 := (his.below hal).more hal.size
      clear l0 l1 b0 b1 b2 b3 b4 b5
      obtain ⟨W7, hW7⟩ : ∃ W7, w7.alloc (.cells #[.int .i64 St.zero.pc.v, .int .i64 St.zero.pc.l, .slice yA St.zero.code.length yc, .slice zA St.zero.mem.length zc, .slice tA St.zero.stack.length tc, .slice uA St.zero.out.length uc] 42) = W7 := ⟨_, rfl⟩
      rw [hW7] at hal hbx hb2 his2
      have hlw := HLW.out.next hb2
      clear HLW
      have HLW := Lib.hid hlw
      clear hlw
      have HX := Lib.hid hbx
      have HIS := Lib.hid his2
      have hxl := hbx.lt
      clear hks hb his hal hbx hb2 his2
      have l0 : W7.cell? ⟨w.heap.size, 0, none⟩ = some (.slice A1 k1 c1) := HLW.out.one.a.cell 0
      have l1 : W7.cell? ⟨w.heap.size, 1, none⟩ = some (.slice A2 k2 c2) := HLW.out.one.a.cell 1
      have b0 : W7.cell? ⟨w.heap.size + 1, 0, none⟩ = some (.int .i64 pv) := HLW.out.st.cell 0
      have b1 : W7.cell? ⟨w.heap.size + 1, 1, none⟩ = some (.int .i64 pl) := HLW.out.st.cell 1
      have b2 : W7.cell? ⟨w.heap.size + 1, 2, none⟩ = some (.slice cA cN cc) := HLW.out.st.cell 2
      have b3 : W7.cell? ⟨w.heap.size + 1, 3, none⟩ = some (.slice mA mN mc) := HLW.out.st.cell 3
      have b4 : W7.cell? ⟨w.heap.size + 1, 4, none⟩ = some (.slice sA sN sc) := HLW.out.st.cell 4
      have b5 : W7.cell? ⟨w.heap.size + 1, 5, none⟩ = some (.slice oA oN oc) := HLW.out.st.cell 5
      have x0 : W7.cell? ⟨w7.heap.size, 0, none⟩ = some (.int .i64 St.zero.pc.v) := HX.out.cell 0
      have x1 : W7.cell? ⟨w7.heap.size, 1, none⟩ = some (.int .i64 St.zero.pc.l) := HX.out.cell 1
      have x2 : W7.cell? ⟨w7.heap.size, 2, none⟩ = some (.slice yA St.zero.code.length yc) := HX.out.cell 2
      have x3 : W7.cell? ⟨w7.heap.size, 3, none⟩ = some (.slice zA St.zero.mem.length zc) := HX.out.cell 3
      have x4 : W7.cell? ⟨w7.heap.size, 4, none⟩ = some (.slice tA St.zero.stack.length tc) := HX.out.cell 4
      have x5 : W7.cell? ⟨w7.heap.size, 5, none⟩ = some (.slice uA St.zero.out.length uc) := HX.out.cell 5
      dsimp only
      have HALC := Lib.hid (HAL.out W7 HLW.out)
      go_wp2_with (fail)
      refine HALC.out.mono ?_
      rintro e w8 ⟨rfl, hb⟩
      have hx8 := HX.out.below hb HX.out.lt
      have hi8 := (HIS.out.below hb).more hb.size
      clear l0 l1 b0 b1 b2 b3 b4 b5
      clear x0 x1 x2 x3 x4 x5
      have hlw := HLW.out.next hb
      clear HLW
      have HLW := Lib.hid hlw
      clear hlw
      have hxl8 := hx8.lt
      have hz8 : IsSt w8 w8.heap.size (.agg #[.int .i64 0, .int .i64 0, .slice none 0 0, .slice none 0 0, .slice none 0 0, .slice none 0 0]) St.zero := IsSt.zero _ _
      have hsm := rSame9_any w8 hi8 hz8 small_zero small_zero
      rw [sameB_refl] at hsm
      have HRC := Lib.hid hsm
      have l0 : w8.cell? ⟨w.heap.size, 0, none⟩ = some (.slice A1 k1 c1) := HLW.out.one.a.cell 0
      have l1 : w8.cell? ⟨w.heap.size, 1, none⟩ = some (.slice A2 k2 c2) := HLW.out.one.a.cell 1
      have b0 : w8.cell? ⟨w.heap.size + 1, 0, none⟩ = some (.int .i64 pv) := HLW.out.st.cell 0
      have b1 : w8.cell? ⟨w.heap.size + 1, 1, none⟩ = some (.int .i64 pl) := HLW.out.st.cell 1
      have b2 : w8.cell? ⟨w.heap.size + 1, 2, none⟩ = some (.slice cA cN cc) := HLW.out.st.cell 2
      have b3 : w8.cell? ⟨w.heap.size + 1, 3, none⟩ = some (.slice mA mN mc) := HLW.out.st.cell 3
      have b4 : w8.cell? ⟨w.heap.size + 1, 4, none⟩ = some (.slice sA sN sc) := HLW.out.st.cell 4
      have b5 : w8.cell? ⟨w.heap.size + 1, 5, none⟩ = some (.slice oA oN oc) := HLW.out.st.cell 5
      have x0 : w8.cell? ⟨w7.heap.size, 0, none⟩ = some (.int .i64 St.zero.pc.v) := hx8.cell 0
      have x1 : w8.cell? ⟨w7.heap.size, 1, none⟩ = some (.int .i64 St.zero.pc.l) := hx8.cell 1
      have x2 : w8.cell? ⟨w7.heap.size, 2, none⟩ = some (.slice yA St.zero.code.length yc) := hx8.cell 2
      have x3 : w8.cell? ⟨w7.heap.size, 3, none⟩ = some (.slice zA St.zero.mem.length zc) := hx8.cell 3
      have x4 : w8.cell? ⟨w7.heap.size, 4, none⟩ = some (.slice tA St.zero.stack.length tc) := hx8.cell 4
      have x5 : w8.cell? ⟨w7.heap.size, 5, none⟩ = some (.slice uA St.zero.out.length uc) := hx8.cell 5
      clear hb hx8 hi8 hz8 hsm HX HIS HALC
      dsimp only [St.zero, List.length_nil] at *
      go_wp2_with (fail)
      refine HRC.out.mono ?_
      rintro e w9 ⟨rfl, hb⟩
      clear l0 l1 b0 b1 b2 b3 b4 b5
      clear x0 x1 x2 x3 x4 x5
      have hlw := HLW.out.next hb
      clear HLW
      have HLW := Lib.hid hlw
      clear hlw
      clear hb
      go_wp2
      go_ret
      exact ⟨rfl, HLW.out.one.below⟩
end Go.Proofs.YtipbilmnknmhmaaGreatDoor
