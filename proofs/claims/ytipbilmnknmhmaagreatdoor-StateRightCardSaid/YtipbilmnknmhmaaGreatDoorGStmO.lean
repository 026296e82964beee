/- Walk of the law StateRight (by gen_stmo.py). -/
import Derived.Test.YtipbilmnknmhmaaGreatDoorGStmK
import Derived.Test.YtipbilmnknmhmaaGreatDoorGStmL
import Derived.Test.YtipbilmnknmhmaaGreatDoorGStmM
import Derived.Test.YtipbilmnknmhmaaGreatDoorGStmT
import Derived.Test.YtipbilmnknmhmaaGreatDoorGPub
namespace Go.Proofs.YtipbilmnknmhmaaGreatDoor
set_option maxRecDepth 100000
open Go.RowKit Go.Shelf Go.Sort
attribute [local go_sem] Oper.semAt_some
/-- What the law holds of its boxes. -/
structure Law93 (w : World) (x0 x1 : Value) (names : List ByteArray) (up : List Nat) (cs ds : Array Value) (W : World) : Prop where
  one : One w x0 x1 names up W
  sa : Blk W (w.heap.size + 1) 42 cs
  sb : Blk W (w.heap.size + 1 + 1) 42 ds
theorem Law93.next {w : World} {x0 x1 : Value} {names : List ByteArray} {up : List Nat} {cs ds : Array Value} {W W' : World} (h : Law93 w x0 x1 names up cs ds W) (hb : Below W.heap.size W W') : Law93 w x0 x1 names up cs ds W' :=
  ⟨one_stable _ _ _ _ _ _ _ h.one hb, h.sa.below hb h.sa.lt, h.sb.below hb h.sb.lt⟩
set_option maxHeartbeats 32000000 in
theorem stateRight_any {A A' : Option Addr} {n1 : List ByteArray} {u1 : List Nat} {s0 t0 : St.State} {acA amA asA aoA bcA bmA bsA boA : Option Addr} {acc amc asc aoc bcc bmc bsc boc : Nat} (c c' : Nat) (w : World) (hi : Ins w) (hN : Row w w.heap.size A (strs n1)) (hU : Ups w w.heap.size A' u1) (hst : StIn w w.heap.size s0 acA acc amA amc asA asc aoA aoc) (htt : StIn w w.heap.size t0 bcA bcc bmA bmc bsA bsc boA boc) (hc : n1.length ≤ c) (hc' : u1.length ≤ c') (hm : c ≤ maxLen) (hm' : c' ≤ maxLen) (hs : ∀ s ∈ n1, s.size ≤ maxLen) :
    Calls Tryz.prog 4 #[.agg #[.slice A n1.length c, .slice A' u1.length c'], incv s0 acA acc amA amc asA asc aoA aoc, incv t0 bcA bcc bmA bmc bsA bsc boA boc] w (Tells w true) := by
  have hfa := fun W (hW : Below w.heap.size w W) => few_any w.heap.size c c' W hW.size (hN.below hW) (hU.below hW) hc hc' hm hm' hs
  have acut := fun W => scut_any W hst
  have ais := fun W (hb : Below w.heap.size w W) => ((hst.cut.below hb).more hb.size).isSt
  have HSMa := Lib.hid (cutS_small s0)
  rw [incv_cut] at ais acut
  have bcut := fun W => scut_any W htt
  have bis := fun W (hb : Below w.heap.size w W) => ((htt.cut.below hb).more hb.size).isSt
  have HSMb := Lib.hid (cutS_small t0)
  rw [incv_cut] at bis bcut
  obtain ⟨a, ha⟩ : ∃ a, cutS s0 = a := ⟨_, rfl⟩
  obtain ⟨b, hb9⟩ : ∃ b, cutS t0 = b := ⟨_, rfl⟩
  rw [ha] at ais HSMa
  rw [hb9] at bis HSMb
  unfold incv at acut bcut ⊢
  clear hst htt ha hb9
  generalize s0.pc.v = apv at *
  generalize s0.pc.l = apl at *
  generalize hac9 : min 15 s0.code.length = acN at *
  generalize ham9 : min 15 s0.mem.length = amN at *
  generalize has9 : min 15 s0.stack.length = asN at *
  generalize hao9 : min 15 s0.out.length = aoN at *
  generalize s0.code.length = acn at *
  generalize s0.mem.length = amn at *
  generalize s0.stack.length = asn at *
  generalize s0.out.length = aon at *
  clear hac9 ham9 has9 hao9
  generalize t0.pc.v = bpv at *
  generalize t0.pc.l = bpl at *
  generalize hbc9 : min 15 t0.code.length = bcN at *
  generalize hbm9 : min 15 t0.mem.length = bmN at *
  generalize hbs9 : min 15 t0.stack.length = bsN at *
  generalize hbo9 : min 15 t0.out.length = boN at *
  generalize t0.code.length = bcn at *
  generalize t0.mem.length = bmn at *
  generalize t0.stack.length = bsn at *
  generalize t0.out.length = bon at *
  clear hbc9 hbm9 hbs9 hbo9
  have hb0 := (((((Below.refl _ w).alloc (Nat.le_refl _) (.cells #[.slice A n1.length c, .slice A' u1.length c'] 25)).alloc (by simp) (.cells #[.int .i64 apv, .int .i64 apl, .slice acA acn acc, .slice amA amn amc, .slice asA asn asc, .slice aoA aon aoc] 42)).alloc (by simp; omega) (.cells #[.int .i64 bpv, .int .i64 bpl, .slice bcA bcn bcc, .slice bmA bmn bmc, .slice bsA bsn bsc, .slice boA bon boc] 42))).drew
  obtain ⟨W0, hW0⟩ : ∃ W0, ((w.alloc (.cells #[.slice A n1.length c, .slice A' u1.length c'] 25)).alloc (.cells #[.int .i64 apv, .int .i64 apl, .slice acA acn acc, .slice amA amn amc, .slice asA asn asc, .slice aoA aon aoc] 42)).alloc (.cells #[.int .i64 bpv, .int .i64 bpl, .slice bcA bcn bcc, .slice bmA bmn bmc, .slice bsA bsn bsc, .slice boA bon boc] 42) = W0 := ⟨_, rfl⟩
  have hp0 : Blk W0 w.heap.size 25 #[.slice A n1.length c, .slice A' u1.length c'] := hW0 ▸ ((Blk.new _ _ _).alloc _).alloc _
  have hq0 : Blk W0 (w.heap.size + 1) 42 #[.int .i64 apv, .int .i64 apl, .slice acA acn acc, .slice amA amn amc, .slice asA asn asc, .slice aoA aon aoc] := by
    have h1 := Blk.new (w.alloc (.cells #[.slice A n1.length c, .slice A' u1.length c'] 25)) 42 #[.int .i64 apv, .int .i64 apl, .slice acA acn acc, .slice amA amn amc, .slice asA asn asc, .slice aoA aon aoc]
    rw [show (w.alloc (.cells #[.slice A n1.length c, .slice A' u1.length c'] 25)).heap.size = w.heap.size + 1 by simp] at h1
    rw [← hW0]; exact h1.alloc _
  have hr0 : Blk W0 (w.heap.size + 1 + 1) 42 #[.int .i64 bpv, .int .i64 bpl, .slice bcA bcn bcc, .slice bmA bmn bmc, .slice bsA bsn bsc, .slice boA bon boc] := by
    have h1 := Blk.new ((w.alloc (.cells #[.slice A n1.length c, .slice A' u1.length c'] 25)).alloc (.cells #[.int .i64 apv, .int .i64 apl, .slice acA acn acc, .slice amA amn amc, .slice asA asn asc, .slice aoA aon aoc] 42)) 42 #[.int .i64 bpv, .int .i64 bpl, .slice bcA bcn bcc, .slice bmA bmn bmc, .slice bsA bsn bsc, .slice boA bon boc]
    rw [show ((w.alloc (.cells #[.slice A n1.length c, .slice A' u1.length c'] 25)).alloc (.cells #[.int .i64 apv, .int .i64 apl, .slice acA acn acc, .slice amA amn amc, .slice asA asn asc, .slice aoA aon aoc] 42)).heap.size = w.heap.size + 1 + 1 by simp] at h1
    rw [← hW0]; exact h1
  have hz0 : W0.heap.size = w.heap.size + 3 := by rw [← hW0]; simp
  rw [hW0] at hb0
  have HFA := Lib.hid hfa
  have HCA := Lib.hid acut
  have HCB := Lib.hid bcut
  have HIA := Lib.hid ais
  have HIB := Lib.hid bis
  have HP := Lib.hid hp0
  have HQ := Lib.hid hq0
  have HR := Lib.hid hr0
  have HB0 := Lib.hid hb0
  have HZ0 := Lib.hid hz0
  have HI := Lib.hid hi
  have l0 : W0.cell? ⟨w.heap.size, 0, none⟩ = some (.slice A n1.length c) := hp0.cell 0
  have l1 : W0.cell? ⟨w.heap.size, 1, none⟩ = some (.slice A' u1.length c') := hp0.cell 1
  have l2 : W0.cell? ⟨w.heap.size + 1, 0, none⟩ = some (.int .i64 apv) := hq0.cell 0
  have l3 : W0.cell? ⟨w.heap.size + 1, 1, none⟩ = some (.int .i64 apl) := hq0.cell 1
  have l4 : W0.cell? ⟨w.heap.size + 1, 2, none⟩ = some (.slice acA acn acc) := hq0.cell 2
  have l5 : W0.cell? ⟨w.heap.size + 1, 3, none⟩ = some (.slice amA amn amc) := hq0.cell 3
  have l6 : W0.cell? ⟨w.heap.size + 1, 4, none⟩ = some (.slice asA asn asc) := hq0.cell 4
  have l7 : W0.cell? ⟨w.heap.size + 1, 5, none⟩ = some (.slice aoA aon aoc) := hq0.cell 5
  have l8 : W0.cell? ⟨w.heap.size + 1 + 1, 0, none⟩ = some (.int .i64 bpv) := hr0.cell 0
  have l9 : W0.cell? ⟨w.heap.size + 1 + 1, 1, none⟩ = some (.int .i64 bpl) := hr0.cell 1
  have l10 : W0.cell? ⟨w.heap.size + 1 + 1, 2, none⟩ = some (.slice bcA bcn bcc) := hr0.cell 2
  have l11 : W0.cell? ⟨w.heap.size + 1 + 1, 3, none⟩ = some (.slice bmA bmn bmc) := hr0.cell 3
  have l12 : W0.cell? ⟨w.heap.size + 1 + 1, 4, none⟩ = some (.slice bsA bsn bsc) := hr0.cell 4
  have l13 : W0.cell? ⟨w.heap.size + 1 + 1, 5, none⟩ = some (.slice boA bon boc) := hr0.cell 5
  clear hfa acut bcut ais bis hb0 hp0 hq0 hr0 hz0 hN hU hc hc' hm hm' hs hi
  go_enter Tryz.func4, Tryz.ntmps4
  go_wp2_with (fail)
  refine Free.region_seq [1, 3, 5, 6, 7, 8] [0, 2, 4] 5 (fun W' => W'.cell? ⟨w.heap.size, 0, none⟩ = some (.slice A n1.length c) ∧ W'.cell? ⟨w.heap.size, 1, none⟩ = some (.slice A' u1.length c') ∧ W'.cell? ⟨w.heap.size + 1, 0, none⟩ = some (.int .i64 apv) ∧ W'.cell? ⟨w.heap.size + 1, 1, none⟩ = some (.int .i64 apl) ∧ W'.cell? ⟨w.heap.size + 1, 2, none⟩ = some (.slice acA acn acc) ∧ W'.cell? ⟨w.heap.size + 1, 3, none⟩ = some (.slice amA amn amc) ∧ W'.cell? ⟨w.heap.size + 1, 4, none⟩ = some (.slice asA asn asc) ∧ W'.cell? ⟨w.heap.size + 1, 5, none⟩ = some (.slice aoA aon aoc) ∧ W'.cell? ⟨w.heap.size + 1 + 1, 0, none⟩ = some (.int .i64 bpv) ∧ W'.cell? ⟨w.heap.size + 1 + 1, 1, none⟩ = some (.int .i64 bpl) ∧ W'.cell? ⟨w.heap.size + 1 + 1, 2, none⟩ = some (.slice bcA bcn bcc) ∧ W'.cell? ⟨w.heap.size + 1 + 1, 3, none⟩ = some (.slice bmA bmn bmc) ∧ W'.cell? ⟨w.heap.size + 1 + 1, 4, none⟩ = some (.slice bsA bsn bsc) ∧ W'.cell? ⟨w.heap.size + 1 + 1, 5, none⟩ = some (.slice boA bon boc)) (by kernel_rfl) (by kernel_rfl) (by kernel_rfl) (by kernel_rfl) (⟨l0, l1, l2, l3, l4, l5, l6, l7, l8, l9, l10, l11, l12, l13⟩) (fun ops hops => ?_)
  clear hops
  iterate 1
    refine Free.Seq.quiet (v := ?_) (a' := ?_) rfl rfl (fun W' hW' => ?_) ?_ ?_
    rotate_left 2
    · first | obtain ⟨t0, t1, t2, t3, t4, t5, t6, t7, t8, t9, t10, t11, t12, t13⟩ := hW' rfl | skip
      go_simp
      try with_reducible rfl
    · simp only [Act.put, List.setIfInBounds_toArray, List.set_cons_zero, List.set_cons_succ]
      try with_reducible rfl
  refine Free.Seq.loud_ rfl (.inl rfl) (fun K hK => ?_)
  go_simp
  refine (HFA.out _ HB0.out).mono ?_
  rintro e w1 ⟨v, names, up, rfl, hlw, hb1⟩
  have hlat : ∀ W2, Keeps w.heap.size (w.heap.size + 3) w1 W2 → IsLat W2 W2.heap.size v names up := fun W2 k => hlw W2 (k.mono_ (by show w.heap.size + 3 ≤ W0.heap.size; rw [HZ0.out]; exact Nat.le_refl _))
  obtain ⟨A1, k1, c1, A2, k2, c2, rfl⟩ := lat_two (hlat w1 ⟨Nat.le_refl _, fun _ _ _ => rfl⟩)
  have HB1 := Lib.hid (HB0.out.trans (hb1.mono HB0.out.size))
  have HLAT := Lib.hid hlat
  have HP1 := Lib.hid ((Blk.drew9 HP.out).below hb1 HP.out.lt)
  have HQ1 := Lib.hid ((Blk.drew9 HQ.out).below hb1 HQ.out.lt)
  have HR1 := Lib.hid ((Blk.drew9 HR.out).below hb1 HR.out.lt)
  refine hK.out _ _ rfl (fun _ => ⟨HP1.out.cell 0, HP1.out.cell 1, HQ1.out.cell 0, HQ1.out.cell 1, HQ1.out.cell 2, HQ1.out.cell 3, HQ1.out.cell 4, HQ1.out.cell 5, HR1.out.cell 0, HR1.out.cell 1, HR1.out.cell 2, HR1.out.cell 3, HR1.out.cell 4, HR1.out.cell 5⟩) ?_
  clear hK K hb1 hlw hlat
  iterate 1
    refine Free.Seq.quiet (v := ?_) (a' := ?_) rfl rfl (fun W' hW' => ?_) ?_ ?_
    rotate_left 2
    · first | obtain ⟨t0, t1, t2, t3, t4, t5, t6, t7, t8, t9, t10, t11, t12, t13⟩ := hW' rfl | skip
      go_simp
      try with_reducible rfl
    · simp only [Act.put, List.setIfInBounds_toArray, List.set_cons_zero, List.set_cons_succ]
      try with_reducible rfl
  refine Free.Seq.loud_ rfl (.inl rfl) (fun K hK => ?_)
  go_simp
  refine (HCA.out w1).mono ?_
  rintro e w2 ⟨rfl, hb2⟩
  have HP2 := Lib.hid (HP1.out.below hb2 HP1.out.lt)
  have HQ2 := Lib.hid (HQ1.out.below hb2 HQ1.out.lt)
  have HR2 := Lib.hid (HR1.out.below hb2 HR1.out.lt)
  have HB2 := Lib.hid (HB1.out.trans (hb2.mono HB1.out.size))
  have hkb1 : Keeps w.heap.size (w.heap.size + 3) w1 w2 := Keeps.below hb2
  refine hK.out _ _ rfl (fun _ => ⟨HP2.out.cell 0, HP2.out.cell 1, HQ2.out.cell 0, HQ2.out.cell 1, HQ2.out.cell 2, HQ2.out.cell 3, HQ2.out.cell 4, HQ2.out.cell 5, HR2.out.cell 0, HR2.out.cell 1, HR2.out.cell 2, HR2.out.cell 3, HR2.out.cell 4, HR2.out.cell 5⟩) ?_
  clear hK K hb2
  iterate 1
    refine Free.Seq.quiet (v := ?_) (a' := ?_) rfl rfl (fun W' hW' => ?_) ?_ ?_
    rotate_left 2
    · first | obtain ⟨t0, t1, t2, t3, t4, t5, t6, t7, t8, t9, t10, t11, t12, t13⟩ := hW' rfl | skip
      go_simp
      try with_reducible rfl
    · simp only [Act.put, List.setIfInBounds_toArray, List.set_cons_zero, List.set_cons_succ]
      try with_reducible rfl
  refine Free.Seq.loud_ rfl (.inl rfl) (fun K hK => ?_)
  go_simp
  refine (HCB.out w2).mono ?_
  rintro e w3 ⟨rfl, hb3⟩
  have hp3 := HP2.out.below hb3 HP2.out.lt
  have hq3 := HQ2.out.below hb3 HQ2.out.lt
  have hr3 := HR2.out.below hb3 HR2.out.lt
  have HB3 := Lib.hid (HB2.out.trans (hb3.mono HB2.out.size))
  have hkb : Keeps w.heap.size (w.heap.size + 3) w1 w3 := hkb1.trans_ (Keeps.below hb3)
  have i0 := hp3.cell 0
  have f0 := hp3.frozen 0
  have i1 := hp3.cell 1
  have f1 := hp3.frozen 1
  have i2 := hq3.cell 0
  have f2 := hq3.frozen 0
  have i3 := hq3.cell 1
  have f3 := hq3.frozen 1
  have i4 := hq3.cell 2
  have f4 := hq3.frozen 2
  have i5 := hq3.cell 3
  have f5 := hq3.frozen 3
  have i6 := hq3.cell 4
  have f6 := hq3.frozen 4
  have i7 := hq3.cell 5
  have f7 := hq3.frozen 5
  have i8 := hr3.cell 0
  have f8 := hr3.frozen 0
  have i9 := hr3.cell 1
  have f9 := hr3.frozen 1
  have i10 := hr3.cell 2
  have f10 := hr3.frozen 2
  have i11 := hr3.cell 3
  have f11 := hr3.frozen 3
  have i12 := hr3.cell 4
  have f12 := hr3.frozen 4
  have i13 := hr3.cell 5
  have f13 := hr3.frozen 5
  have z0 := hp3.lt
  have z1 := hq3.lt
  have z2 := hr3.lt
  refine hK.out _ _ rfl (fun h => absurd h (by decide)) ?_
  clear hK K hb3
  refine Free.Seq.loud_ rfl (.inl rfl) (fun K hK => ?_)
  go_simp
  refine hK.out _ _ rfl (fun h => absurd h (by decide)) ?_
  clear hK K
  refine Free.Seq.loud_ rfl (.inl rfl) (fun K hK => ?_)
  go_simp
  obtain ⟨w8, hW8⟩ : ∃ w8, ((((((((w3.setCell ⟨w.heap.size, 0, none⟩ (.slice A1 k1 c1)).setCell ⟨w.heap.size, 1, none⟩ (.slice A2 k2 c2)).setCell ⟨w.heap.size + 1, 0, none⟩ (.int .i64 apv)).setCell ⟨w.heap.size + 1, 1, none⟩ (.int .i64 apl)).setCell ⟨w.heap.size + 1, 2, none⟩ (.slice acA acN acc)).setCell ⟨w.heap.size + 1, 3, none⟩ (.slice amA amN amc)).setCell ⟨w.heap.size + 1, 4, none⟩ (.slice asA asN asc)).setCell ⟨w.heap.size + 1, 5, none⟩ (.slice aoA aoN aoc)) = w8 := ⟨_, rfl⟩
  have hp8 : Blk w8 w.heap.size 25 #[.slice A1 k1 c1, .slice A2 k2 c2] := hW8 ▸ ((((((((hp3).set_ 0 _).set_ 1 _).other (by show w.heap.size + 1 ≠ _; omega) _).other (by show w.heap.size + 1 ≠ _; omega) _).other (by show w.heap.size + 1 ≠ _; omega) _).other (by show w.heap.size + 1 ≠ _; omega) _).other (by show w.heap.size + 1 ≠ _; omega) _).other (by show w.heap.size + 1 ≠ _; omega) _
  have hq8 : Blk w8 (w.heap.size + 1) 42 #[.int .i64 apv, .int .i64 apl, .slice acA acN acc, .slice amA amN amc, .slice asA asN asc, .slice aoA aoN aoc] := hW8 ▸ ((((((((hq3).other (by show w.heap.size ≠ _; omega) _).other (by show w.heap.size ≠ _; omega) _).set_ 0 _).set_ 1 _).set_ 2 _).set_ 3 _).set_ 4 _).set_ 5 _
  have hr8 : Blk w8 (w.heap.size + 1 + 1) 42 #[.int .i64 bpv, .int .i64 bpl, .slice bcA bcn bcc, .slice bmA bmn bmc, .slice bsA bsn bsc, .slice boA bon boc] := hW8 ▸ ((((((((hr3).other (by show w.heap.size ≠ _; omega) _).other (by show w.heap.size ≠ _; omega) _).other (by show w.heap.size + 1 ≠ _; omega) _).other (by show w.heap.size + 1 ≠ _; omega) _).other (by show w.heap.size + 1 ≠ _; omega) _).other (by show w.heap.size + 1 ≠ _; omega) _).other (by show w.heap.size + 1 ≠ _; omega) _).other (by show w.heap.size + 1 ≠ _; omega) _
  have hkb8 : Keeps w.heap.size (w.heap.size + 3) w1 w8 := hW8 ▸ ((((((((hkb).trans_ (Keeps.set_ (p := ⟨w.heap.size, 0, none⟩) (by show w.heap.size ≤ w.heap.size; omega) (by show w.heap.size < w.heap.size + 3; omega))).trans_ (Keeps.set_ (p := ⟨w.heap.size, 1, none⟩) (by show w.heap.size ≤ w.heap.size; omega) (by show w.heap.size < w.heap.size + 3; omega))).trans_ (Keeps.set_ (p := ⟨w.heap.size + 1, 0, none⟩) (by show w.heap.size ≤ w.heap.size + 1; omega) (by show w.heap.size + 1 < w.heap.size + 3; omega))).trans_ (Keeps.set_ (p := ⟨w.heap.size + 1, 1, none⟩) (by show w.heap.size ≤ w.heap.size + 1; omega) (by show w.heap.size + 1 < w.heap.size + 3; omega))).trans_ (Keeps.set_ (p := ⟨w.heap.size + 1, 2, none⟩) (by show w.heap.size ≤ w.heap.size + 1; omega) (by show w.heap.size + 1 < w.heap.size + 3; omega))).trans_ (Keeps.set_ (p := ⟨w.heap.size + 1, 3, none⟩) (by show w.heap.size ≤ w.heap.size + 1; omega) (by show w.heap.size + 1 < w.heap.size + 3; omega))).trans_ (Keeps.set_ (p := ⟨w.heap.size + 1, 4, none⟩) (by show w.heap.size ≤ w.heap.size + 1; omega) (by show w.heap.size + 1 < w.heap.size + 3; omega))).trans_ (Keeps.set_ (p := ⟨w.heap.size + 1, 5, none⟩) (by show w.heap.size ≤ w.heap.size + 1; omega) (by show w.heap.size + 1 < w.heap.size + 3; omega))
  have HB8 : Below w.heap.size w w8 := hW8 ▸ ((((((((HB3.out).setCell (p := ⟨w.heap.size, 0, none⟩) (by show w.heap.size ≤ w.heap.size; omega) _).setCell (p := ⟨w.heap.size, 1, none⟩) (by show w.heap.size ≤ w.heap.size; omega) _).setCell (p := ⟨w.heap.size + 1, 0, none⟩) (by show w.heap.size ≤ w.heap.size + 1; omega) _).setCell (p := ⟨w.heap.size + 1, 1, none⟩) (by show w.heap.size ≤ w.heap.size + 1; omega) _).setCell (p := ⟨w.heap.size + 1, 2, none⟩) (by show w.heap.size ≤ w.heap.size + 1; omega) _).setCell (p := ⟨w.heap.size + 1, 3, none⟩) (by show w.heap.size ≤ w.heap.size + 1; omega) _).setCell (p := ⟨w.heap.size + 1, 4, none⟩) (by show w.heap.size ≤ w.heap.size + 1; omega) _).setCell (p := ⟨w.heap.size + 1, 5, none⟩) (by show w.heap.size ≤ w.heap.size + 1; omega) _
  rw [hW8]
  clear hW8 z0 z1 z2 i0 f0 i1 f1 i2 f2 i3 f3 i4 f4 i5 f5 i6 f6 i7 f7 i8 f8 i9 f9 i10 f10 i11 f11 i12 f12 i13 f13
  have i8 := hr8.cell 0
  have f8 := hr8.frozen 0
  have i9 := hr8.cell 1
  have f9 := hr8.frozen 1
  have i10 := hr8.cell 2
  have f10 := hr8.frozen 2
  have i11 := hr8.cell 3
  have f11 := hr8.frozen 3
  have i12 := hr8.cell 4
  have f12 := hr8.frozen 4
  have i13 := hr8.cell 5
  have f13 := hr8.frozen 5
  have z2 := hr8.lt
  refine hK.out _ _ rfl (fun h => absurd h (by decide)) ?_
  clear hK K
  refine Free.Seq.loud_ rfl (.inl rfl) (fun K hK => ?_)
  go_simp
  refine hK.out _ _ rfl (fun h => absurd h (by decide)) ?_
  clear hK K
  refine Free.Seq.nil_ ?_
  obtain ⟨W3, hW3⟩ : ∃ W3, ((((((w8.setCell ⟨w.heap.size + 1 + 1, 0, none⟩ (.int .i64 bpv)).setCell ⟨w.heap.size + 1 + 1, 1, none⟩ (.int .i64 bpl)).setCell ⟨w.heap.size + 1 + 1, 2, none⟩ (.slice bcA bcN bcc)).setCell ⟨w.heap.size + 1 + 1, 3, none⟩ (.slice bmA bmN bmc)).setCell ⟨w.heap.size + 1 + 1, 4, none⟩ (.slice bsA bsN bsc)).setCell ⟨w.heap.size + 1 + 1, 5, none⟩ (.slice boA boN boc)) = W3 := ⟨_, rfl⟩
  have hlw : Law93 w (.slice A1 k1 c1) (.slice A2 k2 c2) names up #[.int .i64 apv, .int .i64 apl, .slice acA acN acc, .slice amA amN amc, .slice asA asN asc, .slice aoA aoN aoc] #[.int .i64 bpv, .int .i64 bpl, .slice bcA bcN bcc, .slice bmA bmN bmc, .slice bsA bsN bsc, .slice boA boN boc] W3 := by
    rw [← hW3]
    exact ⟨⟨((((((hp8).other (by show w.heap.size + 1 + 1 ≠ _; omega) _).other (by show w.heap.size + 1 + 1 ≠ _; omega) _).other (by show w.heap.size + 1 + 1 ≠ _; omega) _).other (by show w.heap.size + 1 + 1 ≠ _; omega) _).other (by show w.heap.size + 1 + 1 ≠ _; omega) _).other (by show w.heap.size + 1 + 1 ≠ _; omega) _, HLAT.out _ (((((((hkb8).trans_ (Keeps.set_ (p := ⟨w.heap.size + 1 + 1, 0, none⟩) (by show w.heap.size ≤ w.heap.size + 1 + 1; omega) (by show w.heap.size + 1 + 1 < w.heap.size + 3; omega))).trans_ (Keeps.set_ (p := ⟨w.heap.size + 1 + 1, 1, none⟩) (by show w.heap.size ≤ w.heap.size + 1 + 1; omega) (by show w.heap.size + 1 + 1 < w.heap.size + 3; omega))).trans_ (Keeps.set_ (p := ⟨w.heap.size + 1 + 1, 2, none⟩) (by show w.heap.size ≤ w.heap.size + 1 + 1; omega) (by show w.heap.size + 1 + 1 < w.heap.size + 3; omega))).trans_ (Keeps.set_ (p := ⟨w.heap.size + 1 + 1, 3, none⟩) (by show w.heap.size ≤ w.heap.size + 1 + 1; omega) (by show w.heap.size + 1 + 1 < w.heap.size + 3; omega))).trans_ (Keeps.set_ (p := ⟨w.heap.size + 1 + 1, 4, none⟩) (by show w.heap.size ≤ w.heap.size + 1 + 1; omega) (by show w.heap.size + 1 + 1 < w.heap.size + 3; omega))).trans_ (Keeps.set_ (p := ⟨w.heap.size + 1 + 1, 5, none⟩) (by show w.heap.size ≤ w.heap.size + 1 + 1; omega) (by show w.heap.size + 1 + 1 < w.heap.size + 3; omega))), ((((((HB8).setCell (p := ⟨w.heap.size + 1 + 1, 0, none⟩) (by show w.heap.size ≤ w.heap.size + 1 + 1; omega) _).setCell (p := ⟨w.heap.size + 1 + 1, 1, none⟩) (by show w.heap.size ≤ w.heap.size + 1 + 1; omega) _).setCell (p := ⟨w.heap.size + 1 + 1, 2, none⟩) (by show w.heap.size ≤ w.heap.size + 1 + 1; omega) _).setCell (p := ⟨w.heap.size + 1 + 1, 3, none⟩) (by show w.heap.size ≤ w.heap.size + 1 + 1; omega) _).setCell (p := ⟨w.heap.size + 1 + 1, 4, none⟩) (by show w.heap.size ≤ w.heap.size + 1 + 1; omega) _).setCell (p := ⟨w.heap.size + 1 + 1, 5, none⟩) (by show w.heap.size ≤ w.heap.size + 1 + 1; omega) _⟩, ((((((hq8).other (by show w.heap.size + 1 + 1 ≠ _; omega) _).other (by show w.heap.size + 1 + 1 ≠ _; omega) _).other (by show w.heap.size + 1 + 1 ≠ _; omega) _).other (by show w.heap.size + 1 + 1 ≠ _; omega) _).other (by show w.heap.size + 1 + 1 ≠ _; omega) _).other (by show w.heap.size + 1 + 1 ≠ _; omega) _, ((((((hr8).set_ 0 _).set_ 1 _).set_ 2 _).set_ 3 _).set_ 4 _).set_ 5 _⟩
  rw [hW3]
  have HLW := Lib.hid hlw
  clear z2 hW3 hlw hp3 hq3 hr3 hp8 hq8 hr8 hkb8 HB8 hkb hkb1 HB3 HB2 HB1 HB0 HLAT HP HQ HR HP1 HQ1 HR1 HP2 HQ2 HR2 HFA HCA HCB HZ0 hW0 l0 l1 l2 l3 l4 l5 l6 l7 l8 l9 l10 l11 l12 l13 i8 f8 i9 f9 i10 f10 i11 f11 i12 f12 i13 f13
  have htx := fun W (hW : Law93 w (.slice A1 k1 c1) (.slice A2 k2 c2) names up #[.int .i64 apv, .int .i64 apl, .slice acA acN acc, .slice amA amN amc, .slice asA asN asc, .slice aoA aoN aoc] #[.int .i64 bpv, .int .i64 bpl, .slice bcA bcN bcc, .slice bmA bmN bmc, .slice bsA bsN bsc, .slice boA boN boc] W) => stext_any W hW.one.la (HIA.out W hW.one.below) HSMa.out (HI.out.below hW.one.below HI.out.lt)
  have hck := fun W (hW : Law93 w (.slice A1 k1 c1) (.slice A2 k2 c2) names up #[.int .i64 apv, .int .i64 apl, .slice acA acN acc, .slice amA amN amc, .slice asA asN asc, .slice aoA aoN aoc] #[.int .i64 bpv, .int .i64 bpl, .slice bcA bcN bcc, .slice bmA bmN bmc, .slice bsA bsN bsc, .slice boA boN boc] W) => rCheck_any W hW.one.la
  have hrr := fun W (hW : Law93 w (.slice A1 k1 c1) (.slice A2 k2 c2) names up #[.int .i64 apv, .int .i64 apl, .slice acA acN acc, .slice amA amN amc, .slice asA asN asc, .slice aoA aoN aoc] #[.int .i64 bpv, .int .i64 bpl, .slice bcA bcN bcc, .slice bmA bmN bmc, .slice bsA bsN bsc, .slice boA boN boc] W) => rRight9_any W hW.one.la (HIA.out W hW.one.below) HSMa.out
  have hri := fun W (hW : Law93 w (.slice A1 k1 c1) (.slice A2 k2 c2) names up #[.int .i64 apv, .int .i64 apl, .slice acA acN acc, .slice amA amN amc, .slice asA asN asc, .slice aoA aoN aoc] #[.int .i64 bpv, .int .i64 bpl, .slice bcA bcN bcc, .slice bmA bmN bmc, .slice bsA bsN bsc, .slice boA boN boc] W) => sright_any W hW.one.la (HIA.out W hW.one.below) HSMa.out
  have hlk := fun W (hW : Law93 w (.slice A1 k1 c1) (.slice A2 k2 c2) names up #[.int .i64 apv, .int .i64 apl, .slice acA acN acc, .slice amA amN amc, .slice asA asN asc, .slice aoA aoN aoc] #[.int .i64 bpv, .int .i64 bpl, .slice bcA bcN bcc, .slice bmA bmN bmc, .slice bsA bsN bsc, .slice boA boN boc] W) => sLike_any W (HIA.out W hW.one.below) (HIB.out W hW.one.below) HSMa.out HSMb.out
  have hsm := fun W (hW : Law93 w (.slice A1 k1 c1) (.slice A2 k2 c2) names up #[.int .i64 apv, .int .i64 apl, .slice acA acN acc, .slice amA amN amc, .slice asA asN asc, .slice aoA aoN aoc] #[.int .i64 bpv, .int .i64 bpl, .slice bcA bcN bcc, .slice bmA bmN bmc, .slice bsA bsN bsc, .slice boA boN boc] W) => rSame9_any W (HIA.out W hW.one.below) (HIB.out W hW.one.below) HSMa.out HSMb.out
  have hls := fun W (hW : Law93 w (.slice A1 k1 c1) (.slice A2 k2 c2) names up #[.int .i64 apv, .int .i64 apl, .slice acA acN acc, .slice amA amN amc, .slice asA asN asc, .slice aoA aoN aoc] #[.int .i64 bpv, .int .i64 bpl, .slice bcA bcN bcc, .slice bmA bmN bmc, .slice bsA bsN bsc, .slice boA boN boc] W) => sLike_any W (HIA.out W hW.one.below) (HIA.out W hW.one.below) HSMa.out HSMa.out
  have htr := fun (h0 : checkN names up = 0) (h1 : St.rightB up.length a = true) W (hW : Law93 w (.slice A1 k1 c1) (.slice A2 k2 c2) names up #[.int .i64 apv, .int .i64 apl, .slice acA acN acc, .slice amA amN amc, .slice asA asN asc, .slice aoA aoN aoc] #[.int .i64 bpv, .int .i64 bpl, .slice bcA bcN bcc, .slice bmA bmN bmc, .slice bsA bsN bsc, .slice boA boN boc] W) => rText9_any h0 h1 W hW.one.la (HIA.out W hW.one.below)
  have HAL := Lib.hid (fun W (hW : Law93 w (.slice A1 k1 c1) (.slice A2 k2 c2) names up #[.int .i64 apv, .int .i64 apl, .slice acA acN acc, .slice amA amN amc, .slice asA asN asc, .slice aoA aoN aoc] #[.int .i64 bpv, .int .i64 bpl, .slice bcA bcN bcc, .slice bmA bmN bmc, .slice bsA bsN bsc, .slice boA boN boc] W) => alive9_any W (HI.out.below hW.one.below HI.out.lt))
  rw [sameB_refl] at hls
  rw [← check_same] at hck
  unfold St.text at htx
  unfold pubS at hri
  generalize sameB a b = d at *
  have hdd : (d != d) = false := by cases d <;> rfl
  have HLIKE := Lib.hid hlk
  have HSAME := Lib.hid hsm
  have HSELF := Lib.hid hls
  generalize Lx.pack (St.textL names a) = tx at *
  obtain ⟨n, hn⟩ : ∃ n, checkN names up = n := ⟨_, rfl⟩
  obtain ⟨bb, hbr⟩ : ∃ bb, St.rightB up.length a = bb := ⟨_, rfl⟩
  rw [hn] at htx hck hri htr
  rw [hbr] at htx hrr hri htr
  clear hlk hsm hls hn hbr HIA HIB HSMa HSMb HI
  have l0 : W3.cell? ⟨w.heap.size, 0, none⟩ = some (.slice A1 k1 c1) := HLW.out.one.a.cell 0
  have l1 : W3.cell? ⟨w.heap.size, 1, none⟩ = some (.slice A2 k2 c2) := HLW.out.one.a.cell 1
  have l2 : W3.cell? ⟨w.heap.size + 1, 0, none⟩ = some (.int .i64 apv) := HLW.out.sa.cell 0
  have l3 : W3.cell? ⟨w.heap.size + 1, 1, none⟩ = some (.int .i64 apl) := HLW.out.sa.cell 1
  have l4 : W3.cell? ⟨w.heap.size + 1, 2, none⟩ = some (.slice acA acN acc) := HLW.out.sa.cell 2
  have l5 : W3.cell? ⟨w.heap.size + 1, 3, none⟩ = some (.slice amA amN amc) := HLW.out.sa.cell 3
  have l6 : W3.cell? ⟨w.heap.size + 1, 4, none⟩ = some (.slice asA asN asc) := HLW.out.sa.cell 4
  have l7 : W3.cell? ⟨w.heap.size + 1, 5, none⟩ = some (.slice aoA aoN aoc) := HLW.out.sa.cell 5
  have l8 : W3.cell? ⟨w.heap.size + 1 + 1, 0, none⟩ = some (.int .i64 bpv) := HLW.out.sb.cell 0
  have l9 : W3.cell? ⟨w.heap.size + 1 + 1, 1, none⟩ = some (.int .i64 bpl) := HLW.out.sb.cell 1
  have l10 : W3.cell? ⟨w.heap.size + 1 + 1, 2, none⟩ = some (.slice bcA bcN bcc) := HLW.out.sb.cell 2
  have l11 : W3.cell? ⟨w.heap.size + 1 + 1, 3, none⟩ = some (.slice bmA bmN bmc) := HLW.out.sb.cell 3
  have l12 : W3.cell? ⟨w.heap.size + 1 + 1, 4, none⟩ = some (.slice bsA bsN bsc) := HLW.out.sb.cell 4
  have l13 : W3.cell? ⟨w.heap.size + 1 + 1, 5, none⟩ = some (.slice boA boN boc) := HLW.out.sb.cell 5
  by_cases hz : n = 0
  · subst hz
    rw [decide_eq_true rfl, Bool.true_and] at hri
    rw [if_pos rfl] at htx
    have HCK := Lib.hid hck
    have HRR := Lib.hid hrr
    have HRI := Lib.hid hri
    clear hck hrr hri
    cases bb with
    | true =>
      rw [if_pos rfl] at htx
      have HTX := Lib.hid htx
      have HTR := Lib.hid (htr rfl rfl)
      have hbe : (tx.toList == tx.toList) = true := by simp
      clear htx htr
      go_wp2_with (fail)
      refine (HTX.out _ HLW.out).mono ?_
      rintro e w4 ⟨rfl, hb⟩
      clear l0 l1 l2 l3 l4 l5 l6 l7 l8 l9 l10 l11 l12 l13
      have hlw := HLW.out.next hb
      clear HLW
      have HLW := Lib.hid hlw
      clear hlw
      clear hb
      have l0 : w4.cell? ⟨w.heap.size, 0, none⟩ = some (.slice A1 k1 c1) := HLW.out.one.a.cell 0
      have l1 : w4.cell? ⟨w.heap.size, 1, none⟩ = some (.slice A2 k2 c2) := HLW.out.one.a.cell 1
      have l2 : w4.cell? ⟨w.heap.size + 1, 0, none⟩ = some (.int .i64 apv) := HLW.out.sa.cell 0
      have l3 : w4.cell? ⟨w.heap.size + 1, 1, none⟩ = some (.int .i64 apl) := HLW.out.sa.cell 1
      have l4 : w4.cell? ⟨w.heap.size + 1, 2, none⟩ = some (.slice acA acN acc) := HLW.out.sa.cell 2
      have l5 : w4.cell? ⟨w.heap.size + 1, 3, none⟩ = some (.slice amA amN amc) := HLW.out.sa.cell 3
      have l6 : w4.cell? ⟨w.heap.size + 1, 4, none⟩ = some (.slice asA asN asc) := HLW.out.sa.cell 4
      have l7 : w4.cell? ⟨w.heap.size + 1, 5, none⟩ = some (.slice aoA aoN aoc) := HLW.out.sa.cell 5
      have l8 : w4.cell? ⟨w.heap.size + 1 + 1, 0, none⟩ = some (.int .i64 bpv) := HLW.out.sb.cell 0
      have l9 : w4.cell? ⟨w.heap.size + 1 + 1, 1, none⟩ = some (.int .i64 bpl) := HLW.out.sb.cell 1
      have l10 : w4.cell? ⟨w.heap.size + 1 + 1, 2, none⟩ = some (.slice bcA bcN bcc) := HLW.out.sb.cell 2
      have l11 : w4.cell? ⟨w.heap.size + 1 + 1, 3, none⟩ = some (.slice bmA bmN bmc) := HLW.out.sb.cell 3
      have l12 : w4.cell? ⟨w.heap.size + 1 + 1, 4, none⟩ = some (.slice bsA bsN bsc) := HLW.out.sb.cell 4
      have l13 : w4.cell? ⟨w.heap.size + 1 + 1, 5, none⟩ = some (.slice boA boN boc) := HLW.out.sb.cell 5
      dsimp only
      go_wp2_with (fail)
      refine (HCK.out _ HLW.out).mono ?_
      rintro e w5 ⟨rfl, hb⟩
      clear l0 l1 l2 l3 l4 l5 l6 l7 l8 l9 l10 l11 l12 l13
      have hlw := HLW.out.next hb
      clear HLW
      have HLW := Lib.hid hlw
      clear hlw
      clear hb
      have l0 : w5.cell? ⟨w.heap.size, 0, none⟩ = some (.slice A1 k1 c1) := HLW.out.one.a.cell 0
      have l1 : w5.cell? ⟨w.heap.size, 1, none⟩ = some (.slice A2 k2 c2) := HLW.out.one.a.cell 1
      have l2 : w5.cell? ⟨w.heap.size + 1, 0, none⟩ = some (.int .i64 apv) := HLW.out.sa.cell 0
      have l3 : w5.cell? ⟨w.heap.size + 1, 1, none⟩ = some (.int .i64 apl) := HLW.out.sa.cell 1
      have l4 : w5.cell? ⟨w.heap.size + 1, 2, none⟩ = some (.slice acA acN acc) := HLW.out.sa.cell 2
      have l5 : w5.cell? ⟨w.heap.size + 1, 3, none⟩ = some (.slice amA amN amc) := HLW.out.sa.cell 3
      have l6 : w5.cell? ⟨w.heap.size + 1, 4, none⟩ = some (.slice asA asN asc) := HLW.out.sa.cell 4
      have l7 : w5.cell? ⟨w.heap.size + 1, 5, none⟩ = some (.slice aoA aoN aoc) := HLW.out.sa.cell 5
      have l8 : w5.cell? ⟨w.heap.size + 1 + 1, 0, none⟩ = some (.int .i64 bpv) := HLW.out.sb.cell 0
      have l9 : w5.cell? ⟨w.heap.size + 1 + 1, 1, none⟩ = some (.int .i64 bpl) := HLW.out.sb.cell 1
      have l10 : w5.cell? ⟨w.heap.size + 1 + 1, 2, none⟩ = some (.slice bcA bcN bcc) := HLW.out.sb.cell 2
      have l11 : w5.cell? ⟨w.heap.size + 1 + 1, 3, none⟩ = some (.slice bmA bmN bmc) := HLW.out.sb.cell 3
      have l12 : w5.cell? ⟨w.heap.size + 1 + 1, 4, none⟩ = some (.slice bsA bsN bsc) := HLW.out.sb.cell 4
      have l13 : w5.cell? ⟨w.heap.size + 1 + 1, 5, none⟩ = some (.slice boA boN boc) := HLW.out.sb.cell 5
      dsimp only
      go_wp2_with (fail)
      refine (HRR.out _ HLW.out).mono ?_
      rintro e w6 ⟨rfl, hb⟩
      clear l0 l1 l2 l3 l4 l5 l6 l7 l8 l9 l10 l11 l12 l13
      have hlw := HLW.out.next hb
      clear HLW
      have HLW := Lib.hid hlw
      clear hlw
      clear hb
      have l0 : w6.cell? ⟨w.heap.size, 0, none⟩ = some (.slice A1 k1 c1) := HLW.out.one.a.cell 0
      have l1 : w6.cell? ⟨w.heap.size, 1, none⟩ = some (.slice A2 k2 c2) := HLW.out.one.a.cell 1
      have l2 : w6.cell? ⟨w.heap.size + 1, 0, none⟩ = some (.int .i64 apv) := HLW.out.sa.cell 0
      have l3 : w6.cell? ⟨w.heap.size + 1, 1, none⟩ = some (.int .i64 apl) := HLW.out.sa.cell 1
      have l4 : w6.cell? ⟨w.heap.size + 1, 2, none⟩ = some (.slice acA acN acc) := HLW.out.sa.cell 2
      have l5 : w6.cell? ⟨w.heap.size + 1, 3, none⟩ = some (.slice amA amN amc) := HLW.out.sa.cell 3
      have l6 : w6.cell? ⟨w.heap.size + 1, 4, none⟩ = some (.slice asA asN asc) := HLW.out.sa.cell 4
      have l7 : w6.cell? ⟨w.heap.size + 1, 5, none⟩ = some (.slice aoA aoN aoc) := HLW.out.sa.cell 5
      have l8 : w6.cell? ⟨w.heap.size + 1 + 1, 0, none⟩ = some (.int .i64 bpv) := HLW.out.sb.cell 0
      have l9 : w6.cell? ⟨w.heap.size + 1 + 1, 1, none⟩ = some (.int .i64 bpl) := HLW.out.sb.cell 1
      have l10 : w6.cell? ⟨w.heap.size + 1 + 1, 2, none⟩ = some (.slice bcA bcN bcc) := HLW.out.sb.cell 2
      have l11 : w6.cell? ⟨w.heap.size + 1 + 1, 3, none⟩ = some (.slice bmA bmN bmc) := HLW.out.sb.cell 3
      have l12 : w6.cell? ⟨w.heap.size + 1 + 1, 4, none⟩ = some (.slice bsA bsN bsc) := HLW.out.sb.cell 4
      have l13 : w6.cell? ⟨w.heap.size + 1 + 1, 5, none⟩ = some (.slice boA boN boc) := HLW.out.sb.cell 5
      dsimp only
      go_wp2_with (fail)
      have hzw := HLW.out.one.a.lt
      have hza := HLW.out.sa.lt
      have hzb := HLW.out.sb.lt
      have g0 := fun d os => cell_regrown l0 d os
      have g1 := fun d os => cell_regrown l1 d os
      have g2 := fun d os => cell_regrown l2 d os
      have g3 := fun d os => cell_regrown l3 d os
      have g4 := fun d os => cell_regrown l4 d os
      have g5 := fun d os => cell_regrown l5 d os
      have g6 := fun d os => cell_regrown l6 d os
      have g7 := fun d os => cell_regrown l7 d os
      have g8 := fun d os => cell_regrown l8 d os
      have g9 := fun d os => cell_regrown l9 d os
      have g10 := fun d os => cell_regrown l10 d os
      have g11 := fun d os => cell_regrown l11 d os
      have g12 := fun d os => cell_regrown l12 d os
      have g13 := fun d os => cell_regrown l13 d os
      refine wp_region_quiet_below (by kernel_rfl) (by kernel_rfl) ?_
      repeat (quiet_step (first | (go_at_call 20; exact Calls.regrown_of (HRI.out _ (HLW.out.next (below_regrown _ _ _)))) | (go_at_call 22; exact Calls.regrown_of (HSAME.out _ (HLW.out.next (below_regrown _ _ _)))) | (go_at_call 21; first | with_reducible exact Calls.regrown_of (HLIKE.out _ (HLW.out.next (below_regrown _ _ _))) | with_reducible exact Calls.regrown_of (HSELF.out _ (HLW.out.next (below_regrown _ _ _)))) | (go_at_call 23; exact Calls.regrown_of (HAL.out _ (HLW.out.next (below_regrown _ _ _))))))
      refine wpQuiet_nil ?_
      rintro _ ⟨⟨d9, os9⟩, rfl⟩
      clear g0 g1 g2 g3 g4 g5 g6 g7 g8 g9 g10 g11 g12 g13
      have hlw := HLW.out.next (below_regrown w6 d9 os9)
      clear l0 l1 l2 l3 l4 l5 l6 l7 l8 l9 l10 l11 l12 l13
      clear HLW
      have HLW := Lib.hid hlw
      clear hlw
      generalize grow (redrawn w6 d9) os9 = w9 at *
      have l0 : w9.cell? ⟨w.heap.size, 0, none⟩ = some (.slice A1 k1 c1) := HLW.out.one.a.cell 0
      have l1 : w9.cell? ⟨w.heap.size, 1, none⟩ = some (.slice A2 k2 c2) := HLW.out.one.a.cell 1
      have l2 : w9.cell? ⟨w.heap.size + 1, 0, none⟩ = some (.int .i64 apv) := HLW.out.sa.cell 0
      have l3 : w9.cell? ⟨w.heap.size + 1, 1, none⟩ = some (.int .i64 apl) := HLW.out.sa.cell 1
      have l4 : w9.cell? ⟨w.heap.size + 1, 2, none⟩ = some (.slice acA acN acc) := HLW.out.sa.cell 2
      have l5 : w9.cell? ⟨w.heap.size + 1, 3, none⟩ = some (.slice amA amN amc) := HLW.out.sa.cell 3
      have l6 : w9.cell? ⟨w.heap.size + 1, 4, none⟩ = some (.slice asA asN asc) := HLW.out.sa.cell 4
      have l7 : w9.cell? ⟨w.heap.size + 1, 5, none⟩ = some (.slice aoA aoN aoc) := HLW.out.sa.cell 5
      have l8 : w9.cell? ⟨w.heap.size + 1 + 1, 0, none⟩ = some (.int .i64 bpv) := HLW.out.sb.cell 0
      have l9 : w9.cell? ⟨w.heap.size + 1 + 1, 1, none⟩ = some (.int .i64 bpl) := HLW.out.sb.cell 1
      have l10 : w9.cell? ⟨w.heap.size + 1 + 1, 2, none⟩ = some (.slice bcA bcN bcc) := HLW.out.sb.cell 2
      have l11 : w9.cell? ⟨w.heap.size + 1 + 1, 3, none⟩ = some (.slice bmA bmN bmc) := HLW.out.sb.cell 3
      have l12 : w9.cell? ⟨w.heap.size + 1 + 1, 4, none⟩ = some (.slice bsA bsN bsc) := HLW.out.sb.cell 4
      have l13 : w9.cell? ⟨w.heap.size + 1 + 1, 5, none⟩ = some (.slice boA boN boc) := HLW.out.sb.cell 5
      go_wp2_with (fail)
      refine (HTR.out _ HLW.out).mono ?_
      rintro e w10 ⟨rfl, hb⟩
      clear l0 l1 l2 l3 l4 l5 l6 l7 l8 l9 l10 l11 l12 l13
      have hlw := HLW.out.next hb
      clear HLW
      have HLW := Lib.hid hlw
      clear hlw
      clear hb
      go_wp2
      go_ret
      exact ⟨rfl, HLW.out.one.below⟩
    | false =>
      rw [if_neg (by decide)] at htx
      have HTX := Lib.hid htx
      clear htx htr
      go_wp2_with (fail)
      refine (HTX.out _ HLW.out).mono ?_
      rintro e w4 ⟨rfl, hb⟩
      clear l0 l1 l2 l3 l4 l5 l6 l7 l8 l9 l10 l11 l12 l13
      have hlw := HLW.out.next hb
      clear HLW
      have HLW := Lib.hid hlw
      clear hlw
      clear hb
      have l0 : w4.cell? ⟨w.heap.size, 0, none⟩ = some (.slice A1 k1 c1) := HLW.out.one.a.cell 0
      have l1 : w4.cell? ⟨w.heap.size, 1, none⟩ = some (.slice A2 k2 c2) := HLW.out.one.a.cell 1
      have l2 : w4.cell? ⟨w.heap.size + 1, 0, none⟩ = some (.int .i64 apv) := HLW.out.sa.cell 0
      have l3 : w4.cell? ⟨w.heap.size + 1, 1, none⟩ = some (.int .i64 apl) := HLW.out.sa.cell 1
      have l4 : w4.cell? ⟨w.heap.size + 1, 2, none⟩ = some (.slice acA acN acc) := HLW.out.sa.cell 2
      have l5 : w4.cell? ⟨w.heap.size + 1, 3, none⟩ = some (.slice amA amN amc) := HLW.out.sa.cell 3
      have l6 : w4.cell? ⟨w.heap.size + 1, 4, none⟩ = some (.slice asA asN asc) := HLW.out.sa.cell 4
      have l7 : w4.cell? ⟨w.heap.size + 1, 5, none⟩ = some (.slice aoA aoN aoc) := HLW.out.sa.cell 5
      have l8 : w4.cell? ⟨w.heap.size + 1 + 1, 0, none⟩ = some (.int .i64 bpv) := HLW.out.sb.cell 0
      have l9 : w4.cell? ⟨w.heap.size + 1 + 1, 1, none⟩ = some (.int .i64 bpl) := HLW.out.sb.cell 1
      have l10 : w4.cell? ⟨w.heap.size + 1 + 1, 2, none⟩ = some (.slice bcA bcN bcc) := HLW.out.sb.cell 2
      have l11 : w4.cell? ⟨w.heap.size + 1 + 1, 3, none⟩ = some (.slice bmA bmN bmc) := HLW.out.sb.cell 3
      have l12 : w4.cell? ⟨w.heap.size + 1 + 1, 4, none⟩ = some (.slice bsA bsN bsc) := HLW.out.sb.cell 4
      have l13 : w4.cell? ⟨w.heap.size + 1 + 1, 5, none⟩ = some (.slice boA boN boc) := HLW.out.sb.cell 5
      dsimp only
      go_wp2_with (fail)
      refine (HCK.out _ HLW.out).mono ?_
      rintro e w5 ⟨rfl, hb⟩
      clear l0 l1 l2 l3 l4 l5 l6 l7 l8 l9 l10 l11 l12 l13
      have hlw := HLW.out.next hb
      clear HLW
      have HLW := Lib.hid hlw
      clear hlw
      clear hb
      have l0 : w5.cell? ⟨w.heap.size, 0, none⟩ = some (.slice A1 k1 c1) := HLW.out.one.a.cell 0
      have l1 : w5.cell? ⟨w.heap.size, 1, none⟩ = some (.slice A2 k2 c2) := HLW.out.one.a.cell 1
      have l2 : w5.cell? ⟨w.heap.size + 1, 0, none⟩ = some (.int .i64 apv) := HLW.out.sa.cell 0
      have l3 : w5.cell? ⟨w.heap.size + 1, 1, none⟩ = some (.int .i64 apl) := HLW.out.sa.cell 1
      have l4 : w5.cell? ⟨w.heap.size + 1, 2, none⟩ = some (.slice acA acN acc) := HLW.out.sa.cell 2
      have l5 : w5.cell? ⟨w.heap.size + 1, 3, none⟩ = some (.slice amA amN amc) := HLW.out.sa.cell 3
      have l6 : w5.cell? ⟨w.heap.size + 1, 4, none⟩ = some (.slice asA asN asc) := HLW.out.sa.cell 4
      have l7 : w5.cell? ⟨w.heap.size + 1, 5, none⟩ = some (.slice aoA aoN aoc) := HLW.out.sa.cell 5
      have l8 : w5.cell? ⟨w.heap.size + 1 + 1, 0, none⟩ = some (.int .i64 bpv) := HLW.out.sb.cell 0
      have l9 : w5.cell? ⟨w.heap.size + 1 + 1, 1, none⟩ = some (.int .i64 bpl) := HLW.out.sb.cell 1
      have l10 : w5.cell? ⟨w.heap.size + 1 + 1, 2, none⟩ = some (.slice bcA bcN bcc) := HLW.out.sb.cell 2
      have l11 : w5.cell? ⟨w.heap.size + 1 + 1, 3, none⟩ = some (.slice bmA bmN bmc) := HLW.out.sb.cell 3
      have l12 : w5.cell? ⟨w.heap.size + 1 + 1, 4, none⟩ = some (.slice bsA bsN bsc) := HLW.out.sb.cell 4
      have l13 : w5.cell? ⟨w.heap.size + 1 + 1, 5, none⟩ = some (.slice boA boN boc) := HLW.out.sb.cell 5
      dsimp only
      go_wp2_with (fail)
      refine (HRR.out _ HLW.out).mono ?_
      rintro e w6 ⟨rfl, hb⟩
      clear l0 l1 l2 l3 l4 l5 l6 l7 l8 l9 l10 l11 l12 l13
      have hlw := HLW.out.next hb
      clear HLW
      have HLW := Lib.hid hlw
      clear hlw
      clear hb
      have l0 : w6.cell? ⟨w.heap.size, 0, none⟩ = some (.slice A1 k1 c1) := HLW.out.one.a.cell 0
      have l1 : w6.cell? ⟨w.heap.size, 1, none⟩ = some (.slice A2 k2 c2) := HLW.out.one.a.cell 1
      have l2 : w6.cell? ⟨w.heap.size + 1, 0, none⟩ = some (.int .i64 apv) := HLW.out.sa.cell 0
      have l3 : w6.cell? ⟨w.heap.size + 1, 1, none⟩ = some (.int .i64 apl) := HLW.out.sa.cell 1
      have l4 : w6.cell? ⟨w.heap.size + 1, 2, none⟩ = some (.slice acA acN acc) := HLW.out.sa.cell 2
      have l5 : w6.cell? ⟨w.heap.size + 1, 3, none⟩ = some (.slice amA amN amc) := HLW.out.sa.cell 3
      have l6 : w6.cell? ⟨w.heap.size + 1, 4, none⟩ = some (.slice asA asN asc) := HLW.out.sa.cell 4
      have l7 : w6.cell? ⟨w.heap.size + 1, 5, none⟩ = some (.slice aoA aoN aoc) := HLW.out.sa.cell 5
      have l8 : w6.cell? ⟨w.heap.size + 1 + 1, 0, none⟩ = some (.int .i64 bpv) := HLW.out.sb.cell 0
      have l9 : w6.cell? ⟨w.heap.size + 1 + 1, 1, none⟩ = some (.int .i64 bpl) := HLW.out.sb.cell 1
      have l10 : w6.cell? ⟨w.heap.size + 1 + 1, 2, none⟩ = some (.slice bcA bcN bcc) := HLW.out.sb.cell 2
      have l11 : w6.cell? ⟨w.heap.size + 1 + 1, 3, none⟩ = some (.slice bmA bmN bmc) := HLW.out.sb.cell 3
      have l12 : w6.cell? ⟨w.heap.size + 1 + 1, 4, none⟩ = some (.slice bsA bsN bsc) := HLW.out.sb.cell 4
      have l13 : w6.cell? ⟨w.heap.size + 1 + 1, 5, none⟩ = some (.slice boA boN boc) := HLW.out.sb.cell 5
      dsimp only
      go_wp2_with (fail)
      have hzw := HLW.out.one.a.lt
      have hza := HLW.out.sa.lt
      have hzb := HLW.out.sb.lt
      have g0 := fun d os => cell_regrown l0 d os
      have g1 := fun d os => cell_regrown l1 d os
      have g2 := fun d os => cell_regrown l2 d os
      have g3 := fun d os => cell_regrown l3 d os
      have g4 := fun d os => cell_regrown l4 d os
      have g5 := fun d os => cell_regrown l5 d os
      have g6 := fun d os => cell_regrown l6 d os
      have g7 := fun d os => cell_regrown l7 d os
      have g8 := fun d os => cell_regrown l8 d os
      have g9 := fun d os => cell_regrown l9 d os
      have g10 := fun d os => cell_regrown l10 d os
      have g11 := fun d os => cell_regrown l11 d os
      have g12 := fun d os => cell_regrown l12 d os
      have g13 := fun d os => cell_regrown l13 d os
      refine wp_region_quiet_below (by kernel_rfl) (by kernel_rfl) ?_
      repeat (quiet_step (first | (go_at_call 20; exact Calls.regrown_of (HRI.out _ (HLW.out.next (below_regrown _ _ _)))) | (go_at_call 22; exact Calls.regrown_of (HSAME.out _ (HLW.out.next (below_regrown _ _ _)))) | (go_at_call 21; first | with_reducible exact Calls.regrown_of (HLIKE.out _ (HLW.out.next (below_regrown _ _ _))) | with_reducible exact Calls.regrown_of (HSELF.out _ (HLW.out.next (below_regrown _ _ _)))) | (go_at_call 23; exact Calls.regrown_of (HAL.out _ (HLW.out.next (below_regrown _ _ _))))))
      refine wpQuiet_nil ?_
      rintro _ ⟨⟨d9, os9⟩, rfl⟩
      clear g0 g1 g2 g3 g4 g5 g6 g7 g8 g9 g10 g11 g12 g13
      have hlw := HLW.out.next (below_regrown w6 d9 os9)
      clear l0 l1 l2 l3 l4 l5 l6 l7 l8 l9 l10 l11 l12 l13
      clear HLW
      have HLW := Lib.hid hlw
      clear hlw
      generalize grow (redrawn w6 d9) os9 = w9 at *
      go_wp2
      go_ret
      exact ⟨rfl, HLW.out.one.below⟩
  · rw [if_neg hz] at htx
    rw [decide_eq_false hz, Bool.false_and] at hri
    have hz1 : ((n : Int) == 0) = false := by rw [beq_eq_false_iff_ne]; omega
    have hz2 : ((n : Int) != 0) = true := by rw [bne_iff_ne]; omega
    have HTX := Lib.hid htx
    have HCK := Lib.hid hck
    have HRI := Lib.hid hri
    clear htx htr hck hrr hri hz
    go_wp2_with (fail)
    refine (HTX.out _ HLW.out).mono ?_
    rintro e w4 ⟨rfl, hb⟩
    clear l0 l1 l2 l3 l4 l5 l6 l7 l8 l9 l10 l11 l12 l13
    have hlw := HLW.out.next hb
    clear HLW
    have HLW := Lib.hid hlw
    clear hlw
    clear hb
    have l0 : w4.cell? ⟨w.heap.size, 0, none⟩ = some (.slice A1 k1 c1) := HLW.out.one.a.cell 0
    have l1 : w4.cell? ⟨w.heap.size, 1, none⟩ = some (.slice A2 k2 c2) := HLW.out.one.a.cell 1
    have l2 : w4.cell? ⟨w.heap.size + 1, 0, none⟩ = some (.int .i64 apv) := HLW.out.sa.cell 0
    have l3 : w4.cell? ⟨w.heap.size + 1, 1, none⟩ = some (.int .i64 apl) := HLW.out.sa.cell 1
    have l4 : w4.cell? ⟨w.heap.size + 1, 2, none⟩ = some (.slice acA acN acc) := HLW.out.sa.cell 2
    have l5 : w4.cell? ⟨w.heap.size + 1, 3, none⟩ = some (.slice amA amN amc) := HLW.out.sa.cell 3
    have l6 : w4.cell? ⟨w.heap.size + 1, 4, none⟩ = some (.slice asA asN asc) := HLW.out.sa.cell 4
    have l7 : w4.cell? ⟨w.heap.size + 1, 5, none⟩ = some (.slice aoA aoN aoc) := HLW.out.sa.cell 5
    have l8 : w4.cell? ⟨w.heap.size + 1 + 1, 0, none⟩ = some (.int .i64 bpv) := HLW.out.sb.cell 0
    have l9 : w4.cell? ⟨w.heap.size + 1 + 1, 1, none⟩ = some (.int .i64 bpl) := HLW.out.sb.cell 1
    have l10 : w4.cell? ⟨w.heap.size + 1 + 1, 2, none⟩ = some (.slice bcA bcN bcc) := HLW.out.sb.cell 2
    have l11 : w4.cell? ⟨w.heap.size + 1 + 1, 3, none⟩ = some (.slice bmA bmN bmc) := HLW.out.sb.cell 3
    have l12 : w4.cell? ⟨w.heap.size + 1 + 1, 4, none⟩ = some (.slice bsA bsN bsc) := HLW.out.sb.cell 4
    have l13 : w4.cell? ⟨w.heap.size + 1 + 1, 5, none⟩ = some (.slice boA boN boc) := HLW.out.sb.cell 5
    dsimp only
    go_wp2_with (fail)
    refine (HCK.out _ HLW.out).mono ?_
    rintro e w5 ⟨rfl, hb⟩
    clear l0 l1 l2 l3 l4 l5 l6 l7 l8 l9 l10 l11 l12 l13
    have hlw := HLW.out.next hb
    clear HLW
    have HLW := Lib.hid hlw
    clear hlw
    clear hb
    have l0 : w5.cell? ⟨w.heap.size, 0, none⟩ = some (.slice A1 k1 c1) := HLW.out.one.a.cell 0
    have l1 : w5.cell? ⟨w.heap.size, 1, none⟩ = some (.slice A2 k2 c2) := HLW.out.one.a.cell 1
    have l2 : w5.cell? ⟨w.heap.size + 1, 0, none⟩ = some (.int .i64 apv) := HLW.out.sa.cell 0
    have l3 : w5.cell? ⟨w.heap.size + 1, 1, none⟩ = some (.int .i64 apl) := HLW.out.sa.cell 1
    have l4 : w5.cell? ⟨w.heap.size + 1, 2, none⟩ = some (.slice acA acN acc) := HLW.out.sa.cell 2
    have l5 : w5.cell? ⟨w.heap.size + 1, 3, none⟩ = some (.slice amA amN amc) := HLW.out.sa.cell 3
    have l6 : w5.cell? ⟨w.heap.size + 1, 4, none⟩ = some (.slice asA asN asc) := HLW.out.sa.cell 4
    have l7 : w5.cell? ⟨w.heap.size + 1, 5, none⟩ = some (.slice aoA aoN aoc) := HLW.out.sa.cell 5
    have l8 : w5.cell? ⟨w.heap.size + 1 + 1, 0, none⟩ = some (.int .i64 bpv) := HLW.out.sb.cell 0
    have l9 : w5.cell? ⟨w.heap.size + 1 + 1, 1, none⟩ = some (.int .i64 bpl) := HLW.out.sb.cell 1
    have l10 : w5.cell? ⟨w.heap.size + 1 + 1, 2, none⟩ = some (.slice bcA bcN bcc) := HLW.out.sb.cell 2
    have l11 : w5.cell? ⟨w.heap.size + 1 + 1, 3, none⟩ = some (.slice bmA bmN bmc) := HLW.out.sb.cell 3
    have l12 : w5.cell? ⟨w.heap.size + 1 + 1, 4, none⟩ = some (.slice bsA bsN bsc) := HLW.out.sb.cell 4
    have l13 : w5.cell? ⟨w.heap.size + 1 + 1, 5, none⟩ = some (.slice boA boN boc) := HLW.out.sb.cell 5
    dsimp only
    go_wp2_with (fail)
    have hzw := HLW.out.one.a.lt
    have hza := HLW.out.sa.lt
    have hzb := HLW.out.sb.lt
    have g0 := fun d os => cell_regrown l0 d os
    have g1 := fun d os => cell_regrown l1 d os
    have g2 := fun d os => cell_regrown l2 d os
    have g3 := fun d os => cell_regrown l3 d os
    have g4 := fun d os => cell_regrown l4 d os
    have g5 := fun d os => cell_regrown l5 d os
    have g6 := fun d os => cell_regrown l6 d os
    have g7 := fun d os => cell_regrown l7 d os
    have g8 := fun d os => cell_regrown l8 d os
    have g9 := fun d os => cell_regrown l9 d os
    have g10 := fun d os => cell_regrown l10 d os
    have g11 := fun d os => cell_regrown l11 d os
    have g12 := fun d os => cell_regrown l12 d os
    have g13 := fun d os => cell_regrown l13 d os
    refine wp_region_quiet_below (by kernel_rfl) (by kernel_rfl) ?_
    repeat (quiet_step (first | (go_at_call 20; exact Calls.regrown_of (HRI.out _ (HLW.out.next (below_regrown _ _ _)))) | (go_at_call 22; exact Calls.regrown_of (HSAME.out _ (HLW.out.next (below_regrown _ _ _)))) | (go_at_call 21; first | with_reducible exact Calls.regrown_of (HLIKE.out _ (HLW.out.next (below_regrown _ _ _))) | with_reducible exact Calls.regrown_of (HSELF.out _ (HLW.out.next (below_regrown _ _ _)))) | (go_at_call 23; exact Calls.regrown_of (HAL.out _ (HLW.out.next (below_regrown _ _ _))))))
    refine wpQuiet_nil ?_
    rintro _ ⟨⟨d9, os9⟩, rfl⟩
    clear g0 g1 g2 g3 g4 g5 g6 g7 g8 g9 g10 g11 g12 g13
    have hlw := HLW.out.next (below_regrown w5 d9 os9)
    clear l0 l1 l2 l3 l4 l5 l6 l7 l8 l9 l10 l11 l12 l13
    clear HLW
    have HLW := Lib.hid hlw
    clear hlw
    generalize grow (redrawn w5 d9) os9 = w9 at *
    go_wp2
    go_ret
    exact ⟨rfl, HLW.out.one.below⟩
end Go.Proofs.YtipbilmnknmhmaaGreatDoor
