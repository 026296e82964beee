/- Walk of the law StateReads (by gen_stmv.py). -/
import Derived.Test.YtipbilmnknmhmaaGreatDoorGStmS
import Derived.Test.YtipbilmnknmhmaaGreatDoorGStmK
import Derived.Test.YtipbilmnknmhmaaGreatDoorGLawO
import Derived.Test.YtipbilmnknmhmaaGreatDoorGFree
namespace Go.Proofs.YtipbilmnknmhmaaGreatDoor
set_option maxRecDepth 100000
open Go.RowKit Go.Shelf Go.Sort
attribute [local go_sem] Oper.semAt_some
theorem ks1 {W X : World} {B : Nat} {v : Value} {s : St.State} (h : Hid (KSt B W v s)) (hb : Below W.heap.size W X) : Hid (KSt B X v s) := Lib.hid (h.out.below hb)
theorem parse_small9 (names : List ByteArray) (up : List Nat) (s : List UInt8) : SmallS (St.parse names up s).1 := by
  by_cases h : (St.parse names up s).2.2 = 0
  · exact right_small (St.parse_right h).2
  · rw [St.parse_none h]
    exact small_zero
set_option maxHeartbeats 16000000 in
theorem stateReads_any {A A' : Option Addr} {n1 : List ByteArray} {u1 : List Nat} (c c' : Nat) (s : ByteArray) (w : World) (hi : Ins w) (hN : Row w w.heap.size A (strs n1)) (hU : Ups w w.heap.size A' u1) (hc : n1.length ≤ c) (hc' : u1.length ≤ c') (hm : c ≤ maxLen) (hm' : c' ≤ maxLen) (hs : ∀ s ∈ n1, s.size ≤ maxLen) (hsz : s.size ≤ maxLen) :
    Calls Tryz.prog 5 #[.agg #[.slice A n1.length c, .slice A' u1.length c'], .string s] w (Tells w true) := by
  obtain ⟨M, hM⟩ : ∃ M, min s.size 2010 = M := ⟨_, rfl⟩
  have hmin : min (s.size : Int) 2010 = (M : Int) := by omega
  have hM1 : M ≤ s.size := by omega
  have hM2 : M ≤ 2010 := by omega
  obtain ⟨x, hx⟩ : ∃ x, s.extract 0 M = x := ⟨_, rfl⟩
  have hxs : x.size ≤ maxLen := by rw [← hx, ByteArray.size_extract]; unfold maxLen; omega
  have hfa := fun W (hW : Below w.heap.size w W) => few_any w.heap.size c c' W hW.size (hN.below hW) (hU.below hW) hc hc' hm hm' hs
  have hbk := Blk.new w 25 #[.slice A n1.length c, .slice A' u1.length c']
  have hb0 : Below w.heap.size w (w.alloc (.cells #[.slice A n1.length c, .slice A' u1.length c'] 25)).drew := ((Below.refl _ w).alloc (Nat.le_refl _) _).drew
  unfold maxLen at hsz
  have HX := Lib.hid hxs
  have HFA := Lib.hid hfa
  have HBK := Lib.hid hbk
  have HB0 := Lib.hid hb0
  have HI := Lib.hid hi
  clear hM hxs hfa hbk hb0 hN hU hc hc' hm hm' hs hi
  go_enter Tryz.func5, Tryz.ntmps5
  go_wp2
  refine Free.region_seq [1, 7, 8] [0] 1 (fun W' => W'.cell? ⟨w.heap.size, 0, none⟩ = some (.slice A n1.length c) ∧ W'.cell? ⟨w.heap.size, 1, none⟩ = some (.slice A' u1.length c')) (by kernel_rfl) (by kernel_rfl) (by kernel_rfl) (by kernel_rfl) (⟨HBK.out.cell 0, HBK.out.cell 1⟩) (fun ops hops => ?_)
  clear hops
  iterate 1
    refine Free.Seq.quiet (v := ?_) (a' := ?_) rfl rfl (fun W' hW' => ?_) ?_ ?_
    rotate_left 2
    · first | obtain ⟨s0, s1⟩ := hW' rfl | skip
      go_simp
      try with_reducible rfl
    · simp only [Act.put, List.setIfInBounds_toArray, List.set_cons_zero, List.set_cons_succ]
      try with_reducible rfl
  refine Free.Seq.loud_ rfl (.inl rfl) (fun K hK => ?_)
  go_simp
  refine (HFA.out _ HB0.out).mono ?_
  rintro e w1 ⟨v, names, up, rfl, hlw, hb1⟩
  have hfw : FewW w w1 v := ⟨names, up, fun W2 k => hlw W2 (k.mono_ (by simp))⟩
  obtain ⟨A1, k1, c1, A2, k2, c2, rfl⟩ := hfw.two
  dsimp only
  have hk1 : Blk w1 w.heap.size 25 #[.slice A n1.length c, .slice A' u1.length c'] := HBK.out.drew.below hb1 HBK.out.drew.lt
  have hc0 := hk1.cell 0
  have hc1 := hk1.cell 1
  have hf0 := hk1.frozen 0
  have hf1 := hk1.frozen 1
  have HB1 := Lib.hid (HB0.out.trans (hb1.mono HB0.out.size))
  refine hK.out _ _ rfl (fun h => absurd h (by decide)) ?_
  clear hK K hb1
  iterate 5
    refine Free.Seq.quiet (v := ?_) (a' := ?_) rfl rfl (fun W' hW' => ?_) ?_ ?_
    rotate_left 2
    · skip
      go_simp
      try with_reducible rfl
    · simp only [Act.put, List.setIfInBounds_toArray, List.set_cons_zero, List.set_cons_succ]
      try with_reducible rfl
  refine Free.Seq.loud_ rfl (.inl rfl) (fun K hK => ?_)
  go_simp
  refine hK.out _ _ rfl (fun h => absurd h (by decide)) ?_
  clear hK K
  refine Free.Seq.loud_ rfl (.inl rfl) (fun K hK => ?_)
  go_simp
  refine hK.out _ _ rfl (fun h => absurd h (by decide)) ?_
  clear hK K
  refine Free.Seq.nil_ ?_
  obtain ⟨W2, hW2⟩ : ∃ W2, (w1.setCell ⟨w.heap.size, 0, none⟩ (.slice A1 k1 c1)).setCell ⟨w.heap.size, 1, none⟩ (.slice A2 k2 c2) = W2 := ⟨_, rfl⟩
  have hone : One w (.slice A1 k1 c1) (.slice A2 k2 c2) names up W2 := by
    rw [← hW2]
    refine ⟨(hk1.set_ 0 _).set_ 1 _, hlw _ ?_, (HB1.out.setCell (p := ⟨w.heap.size, 0, none⟩) (Nat.le_refl _) _).setCell (p := ⟨w.heap.size, 1, none⟩) (Nat.le_refl _) _⟩
    exact ((Keeps.set_ (p := ⟨w.heap.size, 0, none⟩) (Nat.le_refl _) (by simp)).trans_ (Keeps.set_ (p := ⟨w.heap.size, 1, none⟩) (Nat.le_refl _) (by simp)))
  have HB2 := Lib.hid hone.below
  have hps := fun W (hb : Below W2.heap.size W2 W) => sparse_any x HX.out W (one_stable _ _ _ _ _ _ _ hone hb).la (HI.out.below (hone.below.trans (hb.mono hone.below.size)) HI.out.lt)
  have hrp := fun W (hb : Below W2.heap.size W2 W) => rParse9_any x HX.out W (one_stable _ _ _ _ _ _ _ hone hb).la
  have HAL := Lib.hid (fun W (hb : Below W2.heap.size W2 W) => alive9_any W (HI.out.below (hone.below.trans (hb.mono hone.below.size)) HI.out.lt))
  have hsm := parse_small9 names up x.data.toList
  obtain ⟨⟨⟨⟨ypv, ypl⟩, yc, ym, yt, yo⟩, at2, e2⟩, hy⟩ : ∃ r, St.parse names up x.data.toList = r := ⟨_, rfl⟩
  rw [hy] at hps hrp hsm
  have HPS := Lib.hid hps
  have HRP := Lib.hid hrp
  have HSM := Lib.hid hsm
  have Hl := Lib.hid (show Blk W2 (w.heap.size) 25 #[.slice A1 k1 c1, .slice A2 k2 c2] from hone.a)
  have HBW := Lib.hid (Below.refl W2.heap.size W2)
  rw [hW2]
  clear hW2 hlw hfw hk1 hc0 hc1 hf0 hf1 hps hrp hone hx hy hsm
  obtain ⟨u1_0, u1_1⟩ := cel2 Hl
  have hy2_l := Hl.out.lt
  go_wp2_with (fail)
  refine (HPS.out W2 HBW.out).mono ?_
  rintro e' w3 ⟨av, bv, cA, cn, cc, mA, mn, mc, sA, sn, sc, oA, on, oc, rfl, hks, hb⟩
  replace Hl := bk1 Hl hb
  replace HBW := bw1 HBW hb
  clear hb
  clear u1_0 u1_1
  clear HPS
  dsimp only
  have HKS := Lib.hid hks
  clear hks
  obtain ⟨X3, hX3⟩ : ∃ X3, w3.alloc (.cells #[.int .i64 av, .int .i64 bv, .slice cA cn cc, .slice mA mn mc, .slice sA sn sc, .slice oA on oc] 42) = X3 := ⟨_, rfl⟩
  have hal := alw hX3
  have hz3_l := Hl.out.lt
  have hzb3 := HBW.out.size
  replace Hl := bk1 Hl hal
  replace HKS := ks1 HKS hal
  replace HBW := bw1 HBW hal
  have Hs := bka hX3
  clear hal
  obtain ⟨u4_0, u4_1⟩ := cel2 Hl
  have hy5_l := Hl.out.lt
  have hy5_s := Hs.out.lt
  go_wp2_with (fail)
  refine (HRP.out X3 HBW.out).mono ?_
  rintro e' w4 ⟨x1_, x2_, x3_, x4_, rfl, ⟨hk1, hk2, hk3, hk4⟩, hb⟩
  replace Hl := bk1 Hl hb
  replace Hs := bk1 Hs hb
  replace HKS := ks1 HKS hb
  replace HBW := bw1 HBW hb
  clear hb
  clear u4_0 u4_1
  clear HRP
  obtain ⟨Bc, dc, hx1_⟩ : ∃ A c, x1_ = Value.slice A yc.length c := by
    obtain ⟨A, c, e, -⟩ := hk1
    exact ⟨A, c, e⟩
  subst hx1_
  have Kc := Lib.hid hk1
  clear hk1
  obtain ⟨Ba, da, hx2_⟩ : ∃ A c, x2_ = Value.slice A ym.length c := by
    obtain ⟨A, c, e, -⟩ := hk2
    exact ⟨A, c, e⟩
  subst hx2_
  have Ka := Lib.hid hk2
  clear hk2
  obtain ⟨Bk, dk, hx3_⟩ : ∃ A c, x3_ = Value.slice A yt.length c := by
    obtain ⟨A, c, e, -⟩ := hk3
    exact ⟨A, c, e⟩
  subst hx3_
  have Kk := Lib.hid hk3
  clear hk3
  obtain ⟨Bb, db, hx4_⟩ : ∃ A c, x4_ = Value.slice A yo.length c := by
    obtain ⟨A, c, e, -⟩ := hk4
    exact ⟨A, c, e⟩
  subst hx4_
  have Kb := Lib.hid hk4
  clear hk4
  dsimp only
  obtain ⟨X6, hX6⟩ : ∃ X6, w4.alloc (.cells #[.int .i64 ypv, .int .i64 ypl, .slice Bc yc.length dc, .slice Ba ym.length da, .slice Bk yt.length dk, .slice Bb yo.length db, .int .i64 at2, .int .i64 (e2 : Int)] 52) = X6 := ⟨_, rfl⟩
  have hal := alw hX6
  have hz6_l := Hl.out.lt
  have hz6_s := Hs.out.lt
  have hzb6 := HBW.out.size
  replace Hl := bk1 Hl hal
  replace Hs := bk1 Hs hal
  replace HKS := ks1 HKS hal
  replace Kc := kn1 Kc hal
  replace Ka := kn1 Ka hal
  replace Kk := kn1 Kk hal
  replace Kb := kn1 Kb hal
  replace HBW := bw1 HBW hal
  have Hf := bka hX6
  clear hal
  have hy7_l := Hl.out.lt
  have hy7_s := Hs.out.lt
  have hy7_f := Hf.out.lt
  go_wp2_with (fail)
  refine (HAL.out X6 HBW.out).mono ?_
  rintro e' w6 ⟨rfl, hb⟩
  replace Hl := bk1 Hl hb
  replace Hs := bk1 Hs hb
  replace Hf := bk1 Hf hb
  replace HKS := ks1 HKS hb
  replace Kc := kn1 Kc hb
  replace Ka := kn1 Ka hb
  replace Kk := kn1 Kk hb
  replace Kb := kn1 Kb hb
  replace HBW := bw1 HBW hb
  clear hb
  clear HAL
  obtain ⟨u8_0, u8_1, u8_2, u8_3, u8_4, u8_5⟩ := cel6 Hs
  obtain ⟨u9_0, u9_1, u9_2, u9_3, u9_4, u9_5, u9_6, u9_7⟩ := cel8 Hf
  have hsm := rSame9_any w6 HKS.out.isSt ⟨_, _, _, _, rfl, Kc.out.ins, Ka.out.isL, Kk.out.isL, Kb.out.isL⟩ HSM.out HSM.out
  rw [sameB_refl] at hsm
  unfold stv at hsm
  dsimp only at hsm
  have HSA := Lib.hid hsm
  clear hsm
  have hy10_l := Hl.out.lt
  have hy10_s := Hs.out.lt
  have hy10_f := Hf.out.lt
  go_wp2_with (fail)
  refine (HSA.out).mono ?_
  rintro e' w7 ⟨rfl, hb⟩
  replace Hl := bk1 Hl hb
  replace Hs := bk1 Hs hb
  replace Hf := bk1 Hf hb
  replace HKS := ks1 HKS hb
  replace Kc := kn1 Kc hb
  replace Ka := kn1 Ka hb
  replace Kk := kn1 Kk hb
  replace Kb := kn1 Kb hb
  replace HBW := bw1 HBW hb
  clear hb
  clear u8_0 u8_1 u8_2 u8_3 u8_4 u8_5 u9_0 u9_1 u9_2 u9_3 u9_4 u9_5 u9_6 u9_7
  go_wp2
  go_ret
  exact ⟨rfl, HB2.out.trans (HBW.out.mono HB2.out.size)⟩
end Go.Proofs.YtipbilmnknmhmaaGreatDoor
