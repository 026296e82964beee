/- The walk of the law PickSigned (by gen_picf.py). -/
import Derived.Test.YtmgaaejghfgbnaaPicH
import Derived.Test.YtmgaaejghfgbnaaDrwT
namespace Go.Proofs.Ytmgaaejghfgbnaa
set_option maxRecDepth 100000
open Go.RowKit Go.Shelf
attribute [local go_sem] Oper.semAt_some

set_option maxRecDepth 100000 in
set_option maxHeartbeats 16000000 in
theorem pickSigned_no {A L : Option Addr} (n c m d N M er : Nat) (i most k : Int) (r : Int × Nat) (w : World) (hmin : min (n : Int) 503 = (N : Int)) (hmin2 : min (m : Int) 2003 = (M : Int)) (hc : n ≤ c) (hd : m ≤ d) (hP : ∀ W, Below w.heap.size w W → Calls Try.prog 13 #[.agg #[.slice A N c, .int .i64 i, .slice L M d], .int .i64 most] W (TakeNo13 W er)) (hR : ∀ W, Below w.heap.size w W → Calls Try.prog 15 #[.agg #[.slice A N c, .int .i64 i, .slice L M d], .int .i64 most] W (RTakeNo W er)) (hPL : ∀ W, Below w.heap.size w W → Calls Try.prog 14 #[.int .i64 most, .int .i64 k] W (TellsP W r)) (hRL : ∀ W, Below w.heap.size w W → Calls Try.prog 16 #[.int .i64 most, .int .i64 k] W (TellsT W r)) :
    Calls Try.prog 4 #[.agg #[.slice A n c, .int .i64 i, .slice L m d], .int .i64 most, .int .i64 k] w (Tells w true) := by
  unfold TakeNo13 at hP
  unfold RTakeNo at hR
  unfold TellsP at hPL
  unfold TellsT at hRL
  obtain ⟨r1, r2⟩ := r
  have hez2 : ((er : Int) == (er : Int)) = true := by simp
  have hsame : ∀ W, Calls Try.prog 12 #[.agg #[.slice none 0 0, .int .i64 0, .slice none 0 0], .agg #[.slice none 0 0, .int .i64 0, .slice none 0 0]] W (Tells W true) := fun W =>
    rSame13_any (A := none) (B := none) (L := none) (M := none) (l1 := []) (l2 := []) (g1 := []) (g2 := []) 0 0 0 0 0 0 0 0 0 0 W Row.nil Row.nil Row.nil Row.nil rfl rfl rfl rfl (by decide) (by decide) (by decide) (by decide)
  have hfew := fun W => fewD_any (A := A) (L := L) n c m d N M i W hmin hmin2 hc hd
  have hbk := Blk.new w 24 #[.slice A n c, .int .i64 i, .slice L m d]
  have hb0 : Below w.heap.size w (w.alloc (.cells #[.slice A n c, .int .i64 i, .slice L m d] 24)) := (Below.refl _ w).alloc (Nat.le_refl _) _
  have HFW := Lib.hid hfew
  have HP := Lib.hid hP
  have HR := Lib.hid hR
  have HPL := Lib.hid hPL
  have HRL := Lib.hid hRL
  have HSM := Lib.hid hsame
  have HBK := Lib.hid hbk
  have HB0 := Lib.hid hb0
  have q0 := hbk.cell 0
  have q1 := hbk.cell 1
  have q2 := hbk.cell 2
  clear hfew hP hR hPL hRL hsame hbk hb0 hmin hmin2 hc hd
  go_enter Try.func4, Try.ntmps4
  go_wp2_with (fail)
  refine (HFW.out _).mono ?_
  rintro e w1 ⟨rfl, hb1⟩
  have hk1 : Blk w1 w.heap.size 24 #[.slice A n c, .int .i64 i, .slice L m d] := HBK.out.below hb1 HBK.out.lt
  obtain ⟨Y1, Y2, Y3, eY0, eY1, eY2, fY0, fY1, fY2, gY0, gY1, gY2, rY0, rY1, rY2, hyk, hyh, HYB⟩ := n3_steps hk1 (.slice A N c) (.int .i64 i) (.slice L M d)
  have HB1 := Lib.hid (HYB.out _ _ (Nat.le_refl _) (HB0.out.trans (hb1.mono HB0.out.size)))
  have HK1 := hyk
  clear hk1 hb1 hyk hyh HYB q0 q1 q2
  go_wp2_with (fail)
  refine (HP.out _ HB1.out).mono ?_
  rintro e w2 ⟨rfl, hb2⟩
  have hk2 := HK1.out.below hb2 HK1.out.lt
  have hb3 := HB1.out.trans (hb2.mono HB1.out.size)
  have hx := Blk.new w2 24 #[.slice none 0 0, .int .i64 0, .slice none 0 0]
  obtain ⟨X1, X2, X3, eX0, eX1, eX2, fX0, fX1, fX2, gX0, gX1, gX2, rX0, rX1, rX2, hxk, hxh, HXB⟩ := n3_steps hx (.slice none 0 0) (.int .i64 0) (.slice none 0 0)
  have hbx : Below w2.heap.size w2 X3 := HXB.out _ _ (Nat.le_refl _) ((Below.refl _ w2).alloc (Nat.le_refl _) (.cells #[.slice none 0 0, .int .i64 0, .slice none 0 0] 24))
  have HB2 := Lib.hid (hb3.trans (hbx.mono hb3.size))
  have HK2 := Lib.hid (hk2.below hbx hk2.lt)
  have HX2 := hxk
  clear hk2 hb2 hb3 hx hxk hxh HXB hbx HK1 HB1 eY0 eY1 eY2 fY0 fY1 fY2 gY0 gY1 gY2 rY0 rY1 rY2
  go_wp2_with (fail)
  refine (HPL.out _ HB2.out).mono ?_
  rintro e w3 ⟨rfl, hb3⟩
  have HB3 := Lib.hid (HB2.out.trans (hb3.mono HB2.out.size))
  have hk3 := HK2.out.below hb3 HK2.out.lt
  have HK3 := Lib.hid hk3
  have q0 := hk3.cell 0
  have q1 := hk3.cell 1
  have q2 := hk3.cell 2
  have HX3 := Lib.hid (HX2.out.below hb3 HX2.out.lt)
  clear hb3 hk3 HB2 HK2 HX2 eX0 eX1 eX2 fX0 fX1 fX2 gX0 gX1 gX2 rX0 rX1 rX2
  go_wp2_with (fail)
  refine (HR.out _ HB3.out).mono ?_
  rintro e w4 ⟨rfl, hb4⟩
  have HB4 := Lib.hid (HB3.out.trans (hb4.mono HB3.out.size))
  have HX4 := Lib.hid (HX3.out.below hb4 HX3.out.lt)
  clear hb4 HB3 HK3 HX3 q0 q1 q2
  go_wp2_with (fail)
  refine (HRL.out _ HB4.out).mono ?_
  rintro e w5 ⟨rfl, hb5⟩
  have hb6 := HB4.out.trans (hb5.mono HB4.out.size)
  have ht := (Blk.new w5 32 #[.slice none 0 0, .int .i64 0, .slice none 0 0, .int .i64 0, .slice none 0 0, .int .i64 0]).alloc (.cells #[.int .i64 0, .int .i64 0] 35)
  have hu := Blk.new (w5.alloc (.cells #[.slice none 0 0, .int .i64 0, .slice none 0 0, .int .i64 0, .slice none 0 0, .int .i64 0] 32)) 35 #[.int .i64 0, .int .i64 0]
  rw [World.size_alloc] at hu
  obtain ⟨Wa, hWa⟩ : ∃ Wa, (w5.alloc (.cells #[.slice none 0 0, .int .i64 0, .slice none 0 0, .int .i64 0, .slice none 0 0, .int .i64 0] 32)).alloc (.cells #[.int .i64 0, .int .i64 0] 35) = Wa := ⟨_, rfl⟩
  rw [hWa] at ht hu
  have hba : Below w5.heap.size w5 Wa := hWa ▸ ((Below.refl _ w5).alloc (Nat.le_refl _) _).alloc (by simp) _
  obtain ⟨V1, V2, V3, V4, V5, V6, eV0, eV1, eV2, eV3, eV4, eV5, fV0, fV1, fV2, fV3, fV4, fV5, gV0, gV1, gV2, gV3, gV4, gV5, rV0, rV1, rV2, rV3, rV4, rV5, hvk, hvh, HVB⟩ := n6_steps13 ht (.slice none 0 0) (.int .i64 0) (.slice none 0 0) (.int .i64 0) (.slice none 0 0) (.int .i64 (er : Int))
  have hu2 : Blk V6 (w5.heap.size + 1) 35 #[.int .i64 0, .int .i64 0] := (hvh.out _ (by omega)).trans hu
  obtain ⟨U1, U2, eU0, eU1, fU0, fU1, gU0, gU1, rU0, rU1, huk, huh, HUB⟩ := n2_steps13 hu2 (.int .i64 r1) (.int .i64 (r2 : Int))
  have hbz : Below w5.heap.size w5 U2 := HUB.out _ _ (by omega) (HVB.out _ _ (Nat.le_refl _) hba)
  have hT6 : Blk U2 w5.heap.size 32 #[.slice none 0 0, .int .i64 0, .slice none 0 0, .int .i64 0, .slice none 0 0, .int .i64 (er : Int)] := (huh.out w5.heap.size (by omega)).trans hvk.out
  have HT6 := Lib.hid hT6
  have HU6 := huk
  have HB6 := Lib.hid (hb6.trans (hbz.mono hb6.size))
  have hx5 := HX4.out.below hb5 HX4.out.lt
  have HX6 := Lib.hid (hx5.below hbz hx5.lt)
  clear hb5 hb6 ht hu hba hu2 hvk hvh HVB huk huh HUB hbz hx5 hT6 HB4 HX4
  go_wp2_with (fail)
  refine (alive14_any _).mono ?_
  rintro e w7 ⟨rfl, hb7⟩
  have HB7 := Lib.hid (HB6.out.trans (hb7.mono HB6.out.size))
  have hx7 := HX6.out.below hb7 HX6.out.lt
  have ht7 := HT6.out.below hb7 HT6.out.lt
  have hu7 := HU6.out.below hb7 HU6.out.lt
  have x0 := hx7.cell 0
  have x1 := hx7.cell 1
  have x2 := hx7.cell 2
  have t0 := ht7.cell 0
  have t1 := ht7.cell 1
  have t2 := ht7.cell 2
  have t3 := ht7.cell 3
  have t5 := ht7.cell 5
  have u0 := hu7.cell 0
  have u1 := hu7.cell 1
  have HU7 := Lib.hid hu7
  have HT7 := Lib.hid ht7
  clear hb7 hx7 ht7 hu7 HB6 HX6 HT6 HU6 eV0 eV1 eV2 eV3 eV4 eV5 fV0 fV1 fV2 fV3 fV4 fV5 gV0 gV1 gV2 gV3 gV4 gV5 rV0 rV1 rV2 rV3 rV4 rV5 eU0 eU1 fU0 fU1 gU0 gU1 rU0 rU1
  go_wp2_with (fail)
  refine (HSM.out _).mono ?_
  rintro e w8 ⟨rfl, hb8⟩
  have HB8 := Lib.hid (HB7.out.trans (hb8.mono HB7.out.size))
  have ht8 := HT7.out.below hb8 HT7.out.lt
  have hu8 := HU7.out.below hb8 HU7.out.lt
  have a0 := hu8.cell 0
  have a1 := hu8.cell 1
  clear hb8 ht8 hu8 HB7 HT7 HU7 x0 x1 x2 t0 t1 t2 t3 t5 u0 u1
  go_wp2
  go_ret
  exact ⟨rfl, HB8.out⟩
set_option maxRecDepth 100000 in
set_option maxHeartbeats 16000000 in
theorem pickSigned_yes {A L : Option Addr} {list log : List Int} (n c m d N M j : Nat) (i most k : Int) (x v : Int) (r : Int × Nat) (w : World) (hmin : min (n : Int) 503 = (N : Int)) (hmin2 : min (m : Int) 2003 = (M : Int)) (hc : n ≤ c) (hd : m ≤ d) (hA : Row w w.heap.size A (ints list)) (hn : list.length = N) (hm : log.length = M) (hP : ∀ W, Below w.heap.size w W → Calls Try.prog 13 #[.agg #[.slice A N c, .int .i64 i, .slice L M d], .int .i64 most] W (PTake14 W N M list log x v j)) (hR : ∀ W, Below w.heap.size w W → Calls Try.prog 15 #[.agg #[.slice A N c, .int .i64 i, .slice L M d], .int .i64 most] W (fun e w' => ∃ L' d', e = .returned (.agg #[.slice A N c, .int .i64 (j : Int), .slice L' (M + 1) d', .int .i64 v, .slice none 0 0, .int .i64 0]) ∧ w'.ownsRow W.heap.size 3 1 (.slice L' (M + 1) d') (M + 1) (ints (log ++ [x])) ∧ Below W.heap.size W w')) (hPL : ∀ W, Below w.heap.size w W → Calls Try.prog 14 #[.int .i64 most, .int .i64 k] W (TellsP W r)) (hRL : ∀ W, Below w.heap.size w W → Calls Try.prog 16 #[.int .i64 most, .int .i64 k] W (TellsT W r)) :
    Calls Try.prog 4 #[.agg #[.slice A n c, .int .i64 i, .slice L m d], .int .i64 most, .int .i64 k] w (Tells w true) := by
  unfold PTake14 at hP
  unfold TellsP at hPL
  unfold TellsT at hRL
  obtain ⟨r1, r2⟩ := r
  have hsame : ∀ (A1 L1 L2 : Option Addr) (c1 d1 d2 : Nat) (W : World), Below w.heap.size w W → Row W W.heap.size A1 (ints list) → Row W W.heap.size L1 (ints (log ++ [x])) → Row W W.heap.size L2 (ints (log ++ [x])) → Calls Try.prog 12 #[.agg #[.slice A1 N c1, .int .i64 (j : Int), .slice L1 (M + 1) d1], .agg #[.slice A N c, .int .i64 (j : Int), .slice L2 (M + 1) d2]] W (Tells W true) := fun A1 L1 L2 c1 d1 d2 W hW h1 h2 h3 => by
    have h := rSame13_any N N (M + 1) (M + 1) c1 c d1 d2 (j : Int) (j : Int) W h1 ((hA.below hW).more hW.size) h2 h3 hn hn (by simp; exact hm) (by simp; exact hm) (by omega) (by omega) (by omega) (by omega)
    rwa [decide_eq_true (⟨rfl, rfl, rfl⟩ : (j : Int) = (j : Int) ∧ list = list ∧ log ++ [x] = log ++ [x])] at h
  have hfew := fun W => fewD_any (A := A) (L := L) n c m d N M i W hmin hmin2 hc hd
  have hbk := Blk.new w 24 #[.slice A n c, .int .i64 i, .slice L m d]
  have hb0 : Below w.heap.size w (w.alloc (.cells #[.slice A n c, .int .i64 i, .slice L m d] 24)) := (Below.refl _ w).alloc (Nat.le_refl _) _
  have HFW := Lib.hid hfew
  have HP := Lib.hid hP
  have HR := Lib.hid hR
  have HPL := Lib.hid hPL
  have HRL := Lib.hid hRL
  have HSM := Lib.hid hsame
  have HBK := Lib.hid hbk
  have HB0 := Lib.hid hb0
  have q0 := hbk.cell 0
  have q1 := hbk.cell 1
  have q2 := hbk.cell 2
  clear hfew hP hR hPL hRL hsame hbk hb0 hmin hmin2 hc hd hA hn hm
  go_enter Try.func4, Try.ntmps4
  go_wp2_with (fail)
  refine (HFW.out _).mono ?_
  rintro e w1 ⟨rfl, hb1⟩
  have hk1 : Blk w1 w.heap.size 24 #[.slice A n c, .int .i64 i, .slice L m d] := HBK.out.below hb1 HBK.out.lt
  obtain ⟨Y1, Y2, Y3, eY0, eY1, eY2, fY0, fY1, fY2, gY0, gY1, gY2, rY0, rY1, rY2, hyk, hyh, HYB⟩ := n3_steps hk1 (.slice A N c) (.int .i64 i) (.slice L M d)
  have HB1 := Lib.hid (HYB.out _ _ (Nat.le_refl _) (HB0.out.trans (hb1.mono HB0.out.size)))
  have HK1 := hyk
  clear hk1 hb1 hyk hyh HYB q0 q1 q2
  go_wp2_with (fail)
  refine (HP.out _ HB1.out).mono ?_
  rintro e w2 ⟨A1, c1, L1, d1, rfl, hla, hlo, hb2⟩
  have hk2 := HK1.out.below hb2 HK1.out.lt
  have hb3 := HB1.out.trans (hb2.mono HB1.out.size)
  have hx := Blk.new w2 24 #[.slice none 0 0, .int .i64 0, .slice none 0 0]
  obtain ⟨X1, X2, X3, eX0, eX1, eX2, fX0, fX1, fX2, gX0, gX1, gX2, rX0, rX1, rX2, hxk, hxh, HXB⟩ := n3_steps hx (.slice A1 N c1) (.int .i64 (j : Int)) (.slice L1 (M + 1) d1)
  have hbx : Below w2.heap.size w2 X3 := HXB.out _ _ (Nat.le_refl _) ((Below.refl _ w2).alloc (Nat.le_refl _) (.cells #[.slice none 0 0, .int .i64 0, .slice none 0 0] 24))
  have HB2 := Lib.hid (hb3.trans (hbx.mono hb3.size))
  have HK2 := Lib.hid (hk2.below hbx hk2.lt)
  have HX2 := hxk
  have HLA2 := Lib.hid (((ownT_row hla).1.below hbx).more hbx.size)
  have HLO2 := Lib.hid (((ownT_row hlo).1.below hbx).more hbx.size)
  clear hk2 hb2 hb3 hx hxk hxh HXB hbx HK1 HB1 eY0 eY1 eY2 fY0 fY1 fY2 gY0 gY1 gY2 rY0 rY1 rY2 hla hlo
  go_wp2_with (fail)
  refine (HPL.out _ HB2.out).mono ?_
  rintro e w3 ⟨rfl, hb3⟩
  have HB3 := Lib.hid (HB2.out.trans (hb3.mono HB2.out.size))
  have hk3 := HK2.out.below hb3 HK2.out.lt
  have HK3 := Lib.hid hk3
  have q0 := hk3.cell 0
  have q1 := hk3.cell 1
  have q2 := hk3.cell 2
  have HX3 := Lib.hid (HX2.out.below hb3 HX2.out.lt)
  have HLA3 := Lib.hid ((HLA2.out.below hb3).more hb3.size)
  have HLO3 := Lib.hid ((HLO2.out.below hb3).more hb3.size)
  clear hb3 hk3 HB2 HK2 HX2 eX0 eX1 eX2 fX0 fX1 fX2 gX0 gX1 gX2 rX0 rX1 rX2 HLA2 HLO2
  go_wp2_with (fail)
  refine (HR.out _ HB3.out).mono ?_
  rintro e w4 ⟨L2, d2, rfl, hl2, hb4⟩
  have HB4 := Lib.hid (HB3.out.trans (hb4.mono HB3.out.size))
  have HX4 := Lib.hid (HX3.out.below hb4 HX3.out.lt)
  have HLA4 := Lib.hid ((HLA3.out.below hb4).more hb4.size)
  have HLO4 := Lib.hid ((HLO3.out.below hb4).more hb4.size)
  have HL24 := Lib.hid (ownT_row hl2).1
  clear hb4 HB3 HK3 HX3 q0 q1 q2 HLA3 HLO3 hl2
  go_wp2_with (fail)
  refine (HRL.out _ HB4.out).mono ?_
  rintro e w5 ⟨rfl, hb5⟩
  have hb6 := HB4.out.trans (hb5.mono HB4.out.size)
  have ht := (Blk.new w5 32 #[.slice none 0 0, .int .i64 0, .slice none 0 0, .int .i64 0, .slice none 0 0, .int .i64 0]).alloc (.cells #[.int .i64 0, .int .i64 0] 35)
  have hu := Blk.new (w5.alloc (.cells #[.slice none 0 0, .int .i64 0, .slice none 0 0, .int .i64 0, .slice none 0 0, .int .i64 0] 32)) 35 #[.int .i64 0, .int .i64 0]
  rw [World.size_alloc] at hu
  obtain ⟨Wa, hWa⟩ : ∃ Wa, (w5.alloc (.cells #[.slice none 0 0, .int .i64 0, .slice none 0 0, .int .i64 0, .slice none 0 0, .int .i64 0] 32)).alloc (.cells #[.int .i64 0, .int .i64 0] 35) = Wa := ⟨_, rfl⟩
  rw [hWa] at ht hu
  have hba : Below w5.heap.size w5 Wa := hWa ▸ ((Below.refl _ w5).alloc (Nat.le_refl _) _).alloc (by simp) _
  obtain ⟨V1, V2, V3, V4, V5, V6, eV0, eV1, eV2, eV3, eV4, eV5, fV0, fV1, fV2, fV3, fV4, fV5, gV0, gV1, gV2, gV3, gV4, gV5, rV0, rV1, rV2, rV3, rV4, rV5, hvk, hvh, HVB⟩ := n6_steps13 ht (.slice A N c) (.int .i64 (j : Int)) (.slice L2 (M + 1) d2) (.int .i64 v) (.slice none 0 0) (.int .i64 0)
  have hu2 : Blk V6 (w5.heap.size + 1) 35 #[.int .i64 0, .int .i64 0] := (hvh.out _ (by omega)).trans hu
  obtain ⟨U1, U2, eU0, eU1, fU0, fU1, gU0, gU1, rU0, rU1, huk, huh, HUB⟩ := n2_steps13 hu2 (.int .i64 r1) (.int .i64 (r2 : Int))
  have hbz : Below w5.heap.size w5 U2 := HUB.out _ _ (by omega) (HVB.out _ _ (Nat.le_refl _) hba)
  have hT6 : Blk U2 w5.heap.size 32 #[.slice A N c, .int .i64 (j : Int), .slice L2 (M + 1) d2, .int .i64 v, .slice none 0 0, .int .i64 0] := (huh.out w5.heap.size (by omega)).trans hvk.out
  have HT6 := Lib.hid hT6
  have HU6 := huk
  have HB6 := Lib.hid (hb6.trans (hbz.mono hb6.size))
  have hx5 := HX4.out.below hb5 HX4.out.lt
  have HX6 := Lib.hid (hx5.below hbz hx5.lt)
  have HLA6 := Lib.hid ((((HLA4.out.below hb5).more hb5.size).below hbz).more hbz.size)
  have HLO6 := Lib.hid ((((HLO4.out.below hb5).more hb5.size).below hbz).more hbz.size)
  have HL26 := Lib.hid ((((HL24.out.below hb5).more hb5.size).below hbz).more hbz.size)
  clear hb5 hb6 ht hu hba hu2 hvk hvh HVB huk huh HUB hbz hx5 hT6 HB4 HX4 HLA4 HLO4 HL24
  go_wp2_with (fail)
  refine (alive14_any _).mono ?_
  rintro e w7 ⟨rfl, hb7⟩
  have HB7 := Lib.hid (HB6.out.trans (hb7.mono HB6.out.size))
  have hx7 := HX6.out.below hb7 HX6.out.lt
  have ht7 := HT6.out.below hb7 HT6.out.lt
  have hu7 := HU6.out.below hb7 HU6.out.lt
  have x0 := hx7.cell 0
  have x1 := hx7.cell 1
  have x2 := hx7.cell 2
  have t0 := ht7.cell 0
  have t1 := ht7.cell 1
  have t2 := ht7.cell 2
  have t3 := ht7.cell 3
  have t5 := ht7.cell 5
  have u0 := hu7.cell 0
  have u1 := hu7.cell 1
  have HU7 := Lib.hid hu7
  have HT7 := Lib.hid ht7
  have HLA7 := Lib.hid ((HLA6.out.below hb7).more hb7.size)
  have HLO7 := Lib.hid ((HLO6.out.below hb7).more hb7.size)
  have HL27 := Lib.hid ((HL26.out.below hb7).more hb7.size)
  clear hb7 hx7 ht7 hu7 HB6 HX6 HT6 HU6 eV0 eV1 eV2 eV3 eV4 eV5 fV0 fV1 fV2 fV3 fV4 fV5 gV0 gV1 gV2 gV3 gV4 gV5 rV0 rV1 rV2 rV3 rV4 rV5 eU0 eU1 fU0 fU1 gU0 gU1 rU0 rU1 HLA6 HLO6 HL26
  go_wp2_with (fail)
  refine (HSM.out _ _ _ _ _ _ _ HB7.out HLA7.out HLO7.out HL27.out).mono ?_
  rintro e w8 ⟨rfl, hb8⟩
  have HB8 := Lib.hid (HB7.out.trans (hb8.mono HB7.out.size))
  have ht8 := HT7.out.below hb8 HT7.out.lt
  have hu8 := HU7.out.below hb8 HU7.out.lt
  have a0 := hu8.cell 0
  have a1 := hu8.cell 1
  clear hb8 ht8 hu8 HB7 HT7 HU7 x0 x1 x2 t0 t1 t2 t3 t5 u0 u1
  go_wp2
  go_ret
  exact ⟨rfl, HB8.out⟩
theorem pickSigned_any {A L : Option Addr} {list log : List Int} (c d : Nat) (i most k : Int) (w : World) (hA : Row w w.heap.size A (ints list)) (hL : Row w w.heap.size L (ints log)) (hc : list.length ≤ c) (hd : log.length ≤ d) (hi : i < 9223372036854775808) :
    Calls Try.prog 4 #[.agg #[.slice A list.length c, .int .i64 i, .slice L log.length d], .int .i64 most, .int .i64 k] w (Tells w true) := by
  obtain ⟨N, hN⟩ : ∃ N, min list.length 503 = N := ⟨_, rfl⟩
  obtain ⟨M, hM⟩ : ∃ M, min log.length 2003 = M := ⟨_, rfl⟩
  have h3 : Row w w.heap.size A (ints (list.take N)) := by have := hA.take N; rwa [ints_take14] at this
  have h4 : Row w w.heap.size L (ints (log.take M)) := by have := hL.take M; rwa [ints_take14] at this
  have hla : (list.take N).length = N := by rw [List.length_take]; omega
  have hlb : (log.take M).length = M := by rw [List.length_take]; omega
  by_cases hin : 0 ≤ most ∧ most ≤ 20
  · rcases takes14 (b := 2 * most + 1) N c M d i w h3 h4 hla hlb (by omega) (by omega) hi with ⟨er, he, h5, h6⟩ | ⟨j, x, hx0, hx, h5, h6⟩
    · exact pickSigned_no list.length c log.length d N M er i most k _ w (by omega) (by omega) hc hd (fun W hW => pSigned14_no N c M d er i most W hin he fun W2 h2 => h5 W2 (hW.trans (h2.mono hW.size))) (fun W hW => rSigned14_no N c M d er i most W hin he fun W2 h2 => h6 W2 (hW.trans (h2.mono hW.size))) (fun W _ => pUnsigned14_any most k W) (fun W _ => rUnsigned14_any most k W)
    · obtain ⟨z, rfl⟩ : ∃ z : Nat, x = (z : Int) := ⟨x.toNat, by omega⟩
      exact pickSigned_yes list.length c log.length d N M j i most k (z : Int) (Pk.made z) _ w (by omega) (by omega) hc hd h3 hla hlb (fun W hW => pSigned14_yes N c M d z j i most W hin (by omega) fun W2 h2 => h5 W2 (hW.trans (h2.mono hW.size))) (fun W hW => rSigned14_yes N c M d j z i most W hin (by omega) fun W2 h2 => h6 W2 (hW.trans (h2.mono hW.size))) (fun W _ => pUnsigned14_any most k W) (fun W _ => rUnsigned14_any most k W)
  · exact pickSigned_no list.length c log.length d N M 1 i most k _ w (by omega) (by omega) hc hd (fun W _ => pSigned14_bad N c M d i most W hin) (fun W _ => rSigned14_bad N c M d i most W hin) (fun W _ => pUnsigned14_any most k W) (fun W _ => rUnsigned14_any most k W)
end Go.Proofs.Ytmgaaejghfgbnaa
