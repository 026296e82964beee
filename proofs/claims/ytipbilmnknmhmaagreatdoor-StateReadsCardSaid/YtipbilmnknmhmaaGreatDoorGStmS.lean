/- The reference's Parse of a state (by gen_stms.py). -/
import Derived.Deep.Cut
import Derived.Test.YtipbilmnknmhmaaGreatDoorGStmR
import Derived.Test.YtipbilmnknmhmaaGreatDoorGStmF
import Derived.Test.YtipbilmnknmhmaaGreatDoorGCodK
import Derived.Test.YtipbilmnknmhmaaGreatDoorGRefM
import Derived.Test.YtipbilmnknmhmaaGreatDoorGPub
namespace Go.Proofs.YtipbilmnknmhmaaGreatDoor
set_option maxRecDepth 100000
open Go.RowKit Go.Shelf Go.Sort
attribute [local go_sem] Oper.semAt_some
/-- What Parse answers. -/
def RPRes9 (w : World) (r : St.State × Int × Nat) (e : Ending) (w' : World) : Prop :=
  ∃ cv mv sv ov, e = .returned (.agg #[.int .i64 r.1.pc.v, .int .i64 r.1.pc.l, cv, mv, sv, ov, .int .i64 r.2.1, .int .i64 (r.2.2 : Nat)]) ∧
    (KN ivs w.heap.size w' cv r.1.code ∧ KN avs w.heap.size w' mv r.1.mem ∧ KN svs w.heap.size w' sv r.1.stack ∧ KN avs w.heap.size w' ov r.1.out) ∧ Below w.heap.size w w'
theorem RPRes9.nil {w W : World} {j : Int} {e : Nat} (h : Below w.heap.size w W) : RPRes9 w (St.zero, j, e) (.returned (.agg #[.int .i64 0, .int .i64 0, .slice none 0 0, .slice none 0 0, .slice none 0 0, .slice none 0 0, .int .i64 j, .int .i64 (e : Nat)])) W :=
  ⟨_, _, _, _, rfl, ⟨KN.nil _ _ _, KN.nil _ _ _, KN.nil _ _ _, KN.nil _ _ _⟩, h⟩
set_option maxHeartbeats 32000000 in
theorem rParse9_any {v : Value} {names : List ByteArray} {up : List Nat} (s : ByteArray) (hs : s.size ≤ maxLen) (w : World) (hla : IsLat w w.heap.size v names up) :
    Calls Tryz.prog 26 #[v, .string s] w (RPRes9 w (St.parse names up s.data.toList)) := by
  obtain ⟨⟨N, U, c1, c2, rfl, hN, hU⟩, hsh, hfew, hcaps⟩ := id hla
  obtain ⟨res, hr⟩ : ∃ res, St.parse names up s.data.toList = res := ⟨_, rfl⟩
  rw [hr]
  obtain ⟨W0, hW0⟩ : ∃ W0, (w.alloc (.cells #[.slice N names.length c1, .slice U up.length c2] 25)).alloc (.cells #[.int .i64 0, .int .i64 0, .slice none 0 0, .slice none 0 0, .slice none 0 0, .slice none 0 0, .int .i64 0, .int .i64 0] 52) = W0 := ⟨_, rfl⟩
  have hb0 : Below w.heap.size w W0 := hW0 ▸ two_new w _ _
  have hl0 : Blk W0 (w.heap.size) 25 #[.slice N names.length c1, .slice U up.length c2] := hW0 ▸ (Blk.new _ _ _).alloc _
  have hr0 : Blk W0 (w.heap.size + 1) 52 #[.int .i64 0, .int .i64 0, .slice none 0 0, .slice none 0 0, .slice none 0 0, .slice none 0 0, .int .i64 0, .int .i64 0] := by
    have h1 := Blk.new (w.alloc (.cells #[.slice N names.length c1, .slice U up.length c2] 25)) 52 #[.int .i64 0, .int .i64 0, .slice none 0 0, .slice none 0 0, .slice none 0 0, .slice none 0 0, .int .i64 0, .int .i64 0]
    simp only [World.size_alloc] at h1
    rw [← hW0]; exact h1
  have hck := rCheck_any W0 ((hla.below hb0).more hb0.size)
  rw [← check_same] at hck
  obtain ⟨n, hn⟩ : ∃ n, checkN names up = n := ⟨_, rfl⟩
  rw [hn] at hck
  unfold St.parse at hr
  rw [hn] at hr
  have HLA := Lib.hid hla
  have HCK := Lib.hid hck
  have HBW := Lib.hid hb0
  have Hl := Lib.hid hl0
  have Hr := Lib.hid hr0
  have HLX := Lib.hid (fun W => rLex_any s W hs)
  clear hla hN hU hsh hfew hcaps hck hb0 hl0 hr0 hn hs
  by_cases hz : n = 0
  · subst hz
    rw [if_pos rfl] at hr
    obtain ⟨⟨l, a, er⟩, hlex⟩ : ∃ r, Lx.lex s.data.toList = r := ⟨_, rfl⟩
    rw [hlex] at hr HLX
    have h_ : Calls Tryz.prog 9 #[.agg #[.slice N names.length c1, .slice U up.length c2]] W0 (fun e w' => e = .returned (.int .i64 0) ∧ Below W0.heap.size W0 w') := HCK.out
    clear HCK
    have HCK := Lib.hid h_
    clear h_
    by_cases her : er = 0
    · subst her
      obtain ⟨hfine, h0, h200, ha⟩ := Tb.lex_fine hlex
      obtain ⟨⟨⟨⟨opv, opl⟩, oc, om, ot, oo⟩, q, e2⟩, hfr⟩ : ∃ r, St.fromS names up.length l 0 = r := ⟨_, rfl⟩
      have hq := fromS_lt hfine names up.length h0
      rw [hfr] at hq
      dsimp only at hq
      unfold St.parseL at hr
      rw [if_pos rfl, hfr] at hr
      unfold St.endT at hr
      dsimp only at hr
      have h_ : ∀ W, Calls Tryz.prog 61 #[.string s] W (fun e w' => ∃ v, e = .returned (.agg #[v, .int .i64 (a : Int), .int .i64 0]) ∧ IsToks w' w'.heap.size v l ∧ Below W.heap.size W w') := HLX.out
      clear HLX
      have HLX := Lib.hid h_
      clear h_
      have hcall : ∀ W A c, Row W W.heap.size A (tcells l) → Below w.heap.size w W → Calls Tryz.prog 62 #[.agg #[.slice N names.length c1, .slice U up.length c2], .slice A l.length c, .int .i64 0] W (fun e w' => ∃ cv mv sv ov, e = .returned (.agg #[.int .i64 opv, .int .i64 opl, cv, mv, sv, ov, .int .i64 (q : Int), .int .i64 (e2 : Int)]) ∧ (KN ivs W.heap.size w' cv oc ∧ KN avs W.heap.size w' mv om ∧ KN svs W.heap.size w' sv ot ∧ KN avs W.heap.size w' ov oo) ∧ Below W.heap.size W w') := fun W A c hr hb => by
        have h := rFrom9_any c 0 W ((HLA.out.below hb).more hb.size) hr hfine h0 (by omega)
        rw [St.fromR_fromS, hfr] at h
        exact h
      have HFC := Lib.hid hcall
      have HQ := Lib.hid hq
      have hlb : (l.length : Int) ≤ 100000 := by omega
      clear hfr hfine hcall ha hq hlex h0 h200
      by_cases h2 : e2 = 0
      · subst h2
        rw [if_pos rfl] at hr
        by_cases hk : (Tb.tok l q).kind = 0
        · rw [if_pos hk] at hr
          have HRZ := Lib.hid hr.symm
          have HKQ := Lib.hid hk
          obtain ⟨pq, hpq⟩ : ∃ pq, (Tb.tok l q).pos = pq := ⟨_, rfl⟩
          have HPQ := Lib.hid hpq
          clear hr hk hpq
          have h_ : ∀ W A c, Row W W.heap.size A (tcells l) → Below w.heap.size w W → Calls Tryz.prog 62 #[.agg #[.slice N names.length c1, .slice U up.length c2], .slice A l.length c, .int .i64 0] W (fun e w' => ∃ cv mv sv ov, e = .returned (.agg #[.int .i64 opv, .int .i64 opl, cv, mv, sv, ov, .int .i64 (q : Int), .int .i64 0]) ∧ (KN ivs W.heap.size w' cv oc ∧ KN avs W.heap.size w' mv om ∧ KN svs W.heap.size w' sv ot ∧ KN avs W.heap.size w' ov oo) ∧ Below W.heap.size W w') := HFC.out
          clear HFC
          have HFC := Lib.hid h_
          clear h_
          obtain ⟨u1_0, u1_1⟩ := cel2 Hl
          go_enter Tryz.func26, Tryz.ntmps26
          have hy2_l := Hl.out.lt
          have hy2_r := Hr.out.lt
          go_wp2_with (fail)
          refine (HCK.out).mono ?_
          rintro e' w1 ⟨rfl, hb⟩
          replace Hl := bk1 Hl hb
          replace Hr := bk1 Hr hb
          replace HBW := bw1 HBW hb
          clear hb
          clear u1_0 u1_1
          dsimp only
          have hy3_l := Hl.out.lt
          have hy3_r := Hr.out.lt
          go_wp2_with (fail)
          refine (HLX.out _).mono ?_
          rintro e' w2 ⟨v2, rfl, ⟨A, ct, rfl, hr2, -⟩, hb⟩
          replace Hl := bk1 Hl hb
          replace Hr := bk1 Hr hb
          replace HBW := bw1 HBW hb
          clear hb
          dsimp only
          have HTK := Lib.hid hr2
          clear hr2
          obtain ⟨u4_0, u4_1⟩ := cel2 Hl
          obtain ⟨X5, hX5⟩ : ∃ X5, w2.alloc (.cells #[.slice A l.length ct, .int .i64 (a : Int), .int .i64 0] 90) = X5 := ⟨_, rfl⟩
          have hal := alw hX5
          have hz5_l := Hl.out.lt
          have hz5_r := Hr.out.lt
          have hzb5 := HBW.out.size
          replace Hl := bk1 Hl hal
          replace Hr := bk1 Hr hal
          replace HTK := tk1 HTK hal
          replace HBW := bw1 HBW hal
          have Hx := bka hX5
          clear hal
          have HEX5 := Lib.hid hX5
          clear hX5
          have hfc := HFC.out X5 A ct HTK.out HBW.out
          have HFM := Lib.hid hfc
          clear hfc HFC
          have hy6_l := Hl.out.lt
          have hy6_r := Hr.out.lt
          have hy6_x := Hx.out.lt
          go_wp2_with (fail)
          rw [HEX5.out]
          refine (HFM.out).mono ?_
          rintro e' w4 ⟨x1_, x2_, x3_, x4_, rfl, ⟨hk1, hk2, hk3, hk4⟩, hb⟩
          replace Hl := bk1 Hl hb
          replace Hr := bk1 Hr hb
          replace Hx := bk1 Hx hb
          replace HTK := tk1 HTK hb
          replace HBW := bw1 HBW hb
          clear hb
          clear u4_0 u4_1
          clear HFM
          obtain ⟨Ac, cc, hx1_⟩ : ∃ A c, x1_ = Value.slice A oc.length c := by
            obtain ⟨A, c, e, -⟩ := hk1
            exact ⟨A, c, e⟩
          subst hx1_
          have Kc := Lib.hid hk1
          clear hk1
          obtain ⟨Aa, ca, hx2_⟩ : ∃ A c, x2_ = Value.slice A om.length c := by
            obtain ⟨A, c, e, -⟩ := hk2
            exact ⟨A, c, e⟩
          subst hx2_
          have Ka := Lib.hid hk2
          clear hk2
          obtain ⟨Ak, ck, hx3_⟩ : ∃ A c, x3_ = Value.slice A ot.length c := by
            obtain ⟨A, c, e, -⟩ := hk3
            exact ⟨A, c, e⟩
          subst hx3_
          have Kk := Lib.hid hk3
          clear hk3
          obtain ⟨Ab, cb, hx4_⟩ : ∃ A c, x4_ = Value.slice A oo.length c := by
            obtain ⟨A, c, e, -⟩ := hk4
            exact ⟨A, c, e⟩
          subst hx4_
          have Kb := Lib.hid hk4
          clear hk4
          dsimp only
          obtain ⟨X7, hX7⟩ : ∃ X7, w4.alloc (.cells #[.int .i64 opv, .int .i64 opl, .slice Ac oc.length cc, .slice Aa om.length ca, .slice Ak ot.length ck, .slice Ab oo.length cb, .int .i64 (q : Int), .int .i64 0] 52) = X7 := ⟨_, rfl⟩
          have hal := alw hX7
          have hz7_l := Hl.out.lt
          have hz7_r := Hr.out.lt
          have hz7_x := Hx.out.lt
          have hzb7 := HBW.out.size
          replace Hl := bk1 Hl hal
          replace Hr := bk1 Hr hal
          replace Hx := bk1 Hx hal
          replace HTK := tk1 HTK hal
          replace Kc := kn1 Kc hal
          replace Ka := kn1 Ka hal
          replace Kk := kn1 Kk hal
          replace Kb := kn1 Kb hal
          replace HBW := bw1 HBW hal
          have Hf := bka hX7
          clear hal
          have HEX7 := Lib.hid hX7
          clear hX7
          obtain ⟨ad, rfl, hbl, t0, t2⟩ := itok_at HTK.out HQ.out
          have hqq := HQ.out
          go_upto_region 8 with (fail)
          rw [HEX7.out]
          obtain ⟨u8_0, u8_1, u8_2⟩ := cel3 Hx
          obtain ⟨u9_0, u9_1, u9_2, u9_3, u9_4, u9_5, u9_6, u9_7⟩ := cel8 Hf
          rw [HPQ.out] at t2
          rw [HKQ.out] at t0
          obtain ⟨X10, hX10⟩ : ∃ X10, (X7.setCell ⟨w.heap.size + 1, 0, none⟩ (.int .i64 opv)) = X10 := ⟨_, rfl⟩
          have hs_ := kp1 hX10
          have o10_0 := c8_0 Hr
          have r10_0 := f8_0 Hr
          replace Hr := p8_0 Hr hX10
          clear Hl Hx Hf
          clear HTK
          replace Kc := kn2 Kc hs_ (by omega)
          replace Ka := kn2 Ka hs_ (by omega)
          replace Kk := kn2 Kk hs_ (by omega)
          replace Kb := kn2 Kb hs_ (by omega)
          replace HBW := bw2 HBW hs_ (by omega)
          clear hs_
          obtain ⟨X11, hX11⟩ : ∃ X11, (X10.setCell ⟨w.heap.size + 1, 1, none⟩ (.int .i64 opl)) = X11 := ⟨_, rfl⟩
          have hs_ := kp1 hX11
          have o11_1 := c8_1 Hr
          have r11_1 := f8_1 Hr
          replace Hr := p8_1 Hr hX11
          replace Kc := kn2 Kc hs_ (by omega)
          replace Ka := kn2 Ka hs_ (by omega)
          replace Kk := kn2 Kk hs_ (by omega)
          replace Kb := kn2 Kb hs_ (by omega)
          replace HBW := bw2 HBW hs_ (by omega)
          clear hs_
          obtain ⟨X12, hX12⟩ : ∃ X12, (X11.setCell ⟨w.heap.size + 1, 2, none⟩ (.slice Ac oc.length cc)) = X12 := ⟨_, rfl⟩
          have hs_ := kp1 hX12
          have o12_2 := c8_2 Hr
          have r12_2 := f8_2 Hr
          replace Hr := p8_2 Hr hX12
          replace Kc := kn2 Kc hs_ (by omega)
          replace Ka := kn2 Ka hs_ (by omega)
          replace Kk := kn2 Kk hs_ (by omega)
          replace Kb := kn2 Kb hs_ (by omega)
          replace HBW := bw2 HBW hs_ (by omega)
          clear hs_
          obtain ⟨X13, hX13⟩ : ∃ X13, (X12.setCell ⟨w.heap.size + 1, 3, none⟩ (.slice Aa om.length ca)) = X13 := ⟨_, rfl⟩
          have hs_ := kp1 hX13
          have o13_3 := c8_3 Hr
          have r13_3 := f8_3 Hr
          replace Hr := p8_3 Hr hX13
          replace Kc := kn2 Kc hs_ (by omega)
          replace Ka := kn2 Ka hs_ (by omega)
          replace Kk := kn2 Kk hs_ (by omega)
          replace Kb := kn2 Kb hs_ (by omega)
          replace HBW := bw2 HBW hs_ (by omega)
          clear hs_
          obtain ⟨X14, hX14⟩ : ∃ X14, (X13.setCell ⟨w.heap.size + 1, 4, none⟩ (.slice Ak ot.length ck)) = X14 := ⟨_, rfl⟩
          have hs_ := kp1 hX14
          have o14_4 := c8_4 Hr
          have r14_4 := f8_4 Hr
          replace Hr := p8_4 Hr hX14
          replace Kc := kn2 Kc hs_ (by omega)
          replace Ka := kn2 Ka hs_ (by omega)
          replace Kk := kn2 Kk hs_ (by omega)
          replace Kb := kn2 Kb hs_ (by omega)
          replace HBW := bw2 HBW hs_ (by omega)
          clear hs_
          obtain ⟨X15, hX15⟩ : ∃ X15, (X14.setCell ⟨w.heap.size + 1, 5, none⟩ (.slice Ab oo.length cb)) = X15 := ⟨_, rfl⟩
          have hs_ := kp1 hX15
          have o15_5 := c8_5 Hr
          have r15_5 := f8_5 Hr
          replace Hr := p8_5 Hr hX15
          replace Kc := kn2 Kc hs_ (by omega)
          replace Ka := kn2 Ka hs_ (by omega)
          replace Kk := kn2 Kk hs_ (by omega)
          replace Kb := kn2 Kb hs_ (by omega)
          replace HBW := bw2 HBW hs_ (by omega)
          clear hs_
          obtain ⟨X16, hX16⟩ : ∃ X16, (X15.setCell ⟨w.heap.size + 1, 6, none⟩ (.int .i64 0)) = X16 := ⟨_, rfl⟩
          have hs_ := kp1 hX16
          have o16_6 := c8_6 Hr
          have r16_6 := f8_6 Hr
          replace Hr := p8_6 Hr hX16
          replace Kc := kn2 Kc hs_ (by omega)
          replace Ka := kn2 Ka hs_ (by omega)
          replace Kk := kn2 Kk hs_ (by omega)
          replace Kb := kn2 Kb hs_ (by omega)
          replace HBW := bw2 HBW hs_ (by omega)
          clear hs_
          obtain ⟨X17, hX17⟩ : ∃ X17, (X16.setCell ⟨w.heap.size + 1, 7, none⟩ (.int .i64 0)) = X17 := ⟨_, rfl⟩
          have hs_ := kp1 hX17
          have o17_7 := c8_7 Hr
          have r17_7 := f8_7 Hr
          replace Hr := p8_7 Hr hX17
          replace Kc := kn2 Kc hs_ (by omega)
          replace Ka := kn2 Ka hs_ (by omega)
          replace Kk := kn2 Kk hs_ (by omega)
          replace Kb := kn2 Kb hs_ (by omega)
          replace HBW := bw2 HBW hs_ (by omega)
          clear hs_
          obtain ⟨q0, q1, q2, q3, q4, q5, q6, q7⟩ := cel8 Hr
          go_wp2_with (exact bodyPost_ret (v := .agg #[.int .i64 opv, .int .i64 opl, .slice Ac oc.length cc, .slice Aa om.length ca, .slice Ak ot.length ck, .slice Ab oo.length cb, .int .i64 0, .int .i64 0]) (by simp [results, Tryz.results26, go_sem, q0, q1, q2, q3, q4, q5, q6, q7]) rfl (by rw [HRZ.out]; exact ⟨_, _, _, _, rfl, ⟨KN.less Kc.out (show w.heap.size ≤ X5.heap.size by omega), KN.less Ka.out (show w.heap.size ≤ X5.heap.size by omega), KN.less Kk.out (show w.heap.size ≤ X5.heap.size by omega), KN.less Kb.out (show w.heap.size ≤ X5.heap.size by omega)⟩, HBW.out⟩))
        · rw [if_neg hk] at hr
          obtain ⟨pq, hpq⟩ : ∃ pq, (Tb.tok l q).pos = pq := ⟨_, rfl⟩
          rw [hpq] at hr
          have HRZ := Lib.hid hr.symm
          have hkb : ((Tb.tok l q).kind != 0) = true := by rw [bne_iff_ne]; exact hk
          clear hr hk
          obtain ⟨kq, hkq⟩ : ∃ kq, (Tb.tok l q).kind = kq := ⟨_, rfl⟩
          rw [hkq] at hkb
          have HKQ := Lib.hid hkq
          have HPQ := Lib.hid hpq
          clear hkq hpq
          have h_ : ∀ W A c, Row W W.heap.size A (tcells l) → Below w.heap.size w W → Calls Tryz.prog 62 #[.agg #[.slice N names.length c1, .slice U up.length c2], .slice A l.length c, .int .i64 0] W (fun e w' => ∃ cv mv sv ov, e = .returned (.agg #[.int .i64 opv, .int .i64 opl, cv, mv, sv, ov, .int .i64 (q : Int), .int .i64 0]) ∧ (KN ivs W.heap.size w' cv oc ∧ KN avs W.heap.size w' mv om ∧ KN svs W.heap.size w' sv ot ∧ KN avs W.heap.size w' ov oo) ∧ Below W.heap.size W w') := HFC.out
          clear HFC
          have HFC := Lib.hid h_
          clear h_
          obtain ⟨u1_0, u1_1⟩ := cel2 Hl
          go_enter Tryz.func26, Tryz.ntmps26
          have hy2_l := Hl.out.lt
          have hy2_r := Hr.out.lt
          go_wp2_with (fail)
          refine (HCK.out).mono ?_
          rintro e' w1 ⟨rfl, hb⟩
          replace Hl := bk1 Hl hb
          replace Hr := bk1 Hr hb
          replace HBW := bw1 HBW hb
          clear hb
          clear u1_0 u1_1
          dsimp only
          have hy3_l := Hl.out.lt
          have hy3_r := Hr.out.lt
          go_wp2_with (fail)
          refine (HLX.out _).mono ?_
          rintro e' w2 ⟨v2, rfl, ⟨A, ct, rfl, hr2, -⟩, hb⟩
          replace Hl := bk1 Hl hb
          replace Hr := bk1 Hr hb
          replace HBW := bw1 HBW hb
          clear hb
          dsimp only
          have HTK := Lib.hid hr2
          clear hr2
          obtain ⟨u4_0, u4_1⟩ := cel2 Hl
          obtain ⟨X5, hX5⟩ : ∃ X5, w2.alloc (.cells #[.slice A l.length ct, .int .i64 (a : Int), .int .i64 0] 90) = X5 := ⟨_, rfl⟩
          have hal := alw hX5
          have hz5_l := Hl.out.lt
          have hz5_r := Hr.out.lt
          have hzb5 := HBW.out.size
          replace Hl := bk1 Hl hal
          replace Hr := bk1 Hr hal
          replace HTK := tk1 HTK hal
          replace HBW := bw1 HBW hal
          have Hx := bka hX5
          clear hal
          have HEX5 := Lib.hid hX5
          clear hX5
          have hfc := HFC.out X5 A ct HTK.out HBW.out
          have HFM := Lib.hid hfc
          clear hfc HFC
          have hy6_l := Hl.out.lt
          have hy6_r := Hr.out.lt
          have hy6_x := Hx.out.lt
          go_wp2_with (fail)
          rw [HEX5.out]
          refine (HFM.out).mono ?_
          rintro e' w4 ⟨x1_, x2_, x3_, x4_, rfl, ⟨hk1, hk2, hk3, hk4⟩, hb⟩
          replace Hl := bk1 Hl hb
          replace Hr := bk1 Hr hb
          replace Hx := bk1 Hx hb
          replace HTK := tk1 HTK hb
          replace HBW := bw1 HBW hb
          clear hb
          clear u4_0 u4_1
          clear HFM
          obtain ⟨Ac, cc, hx1_⟩ : ∃ A c, x1_ = Value.slice A oc.length c := by
            obtain ⟨A, c, e, -⟩ := hk1
            exact ⟨A, c, e⟩
          subst hx1_
          have Kc := Lib.hid hk1
          clear hk1
          obtain ⟨Aa, ca, hx2_⟩ : ∃ A c, x2_ = Value.slice A om.length c := by
            obtain ⟨A, c, e, -⟩ := hk2
            exact ⟨A, c, e⟩
          subst hx2_
          have Ka := Lib.hid hk2
          clear hk2
          obtain ⟨Ak, ck, hx3_⟩ : ∃ A c, x3_ = Value.slice A ot.length c := by
            obtain ⟨A, c, e, -⟩ := hk3
            exact ⟨A, c, e⟩
          subst hx3_
          have Kk := Lib.hid hk3
          clear hk3
          obtain ⟨Ab, cb, hx4_⟩ : ∃ A c, x4_ = Value.slice A oo.length c := by
            obtain ⟨A, c, e, -⟩ := hk4
            exact ⟨A, c, e⟩
          subst hx4_
          have Kb := Lib.hid hk4
          clear hk4
          dsimp only
          obtain ⟨X7, hX7⟩ : ∃ X7, w4.alloc (.cells #[.int .i64 opv, .int .i64 opl, .slice Ac oc.length cc, .slice Aa om.length ca, .slice Ak ot.length ck, .slice Ab oo.length cb, .int .i64 (q : Int), .int .i64 0] 52) = X7 := ⟨_, rfl⟩
          have hal := alw hX7
          have hz7_l := Hl.out.lt
          have hz7_r := Hr.out.lt
          have hz7_x := Hx.out.lt
          have hzb7 := HBW.out.size
          replace Hl := bk1 Hl hal
          replace Hr := bk1 Hr hal
          replace Hx := bk1 Hx hal
          replace HTK := tk1 HTK hal
          replace Kc := kn1 Kc hal
          replace Ka := kn1 Ka hal
          replace Kk := kn1 Kk hal
          replace Kb := kn1 Kb hal
          replace HBW := bw1 HBW hal
          have Hf := bka hX7
          clear hal
          have HEX7 := Lib.hid hX7
          clear hX7
          obtain ⟨ad, rfl, hbl, t0, t2⟩ := itok_at HTK.out HQ.out
          have hqq := HQ.out
          go_upto_region 8 with (fail)
          rw [HEX7.out]
          obtain ⟨u8_0, u8_1, u8_2⟩ := cel3 Hx
          obtain ⟨u9_0, u9_1, u9_2, u9_3, u9_4, u9_5, u9_6, u9_7⟩ := cel8 Hf
          rw [HPQ.out] at t2
          rw [HKQ.out] at t0
          obtain ⟨X10, hX10⟩ : ∃ X10, (X7.setCell ⟨w.heap.size + 1, 0, none⟩ (.int .i64 0)) = X10 := ⟨_, rfl⟩
          have hs_ := kp1 hX10
          have o10_0 := c8_0 Hr
          have r10_0 := f8_0 Hr
          replace Hr := p8_0 Hr hX10
          clear Hl Hx Hf
          clear HTK
          replace Kc := kn2 Kc hs_ (by omega)
          replace Ka := kn2 Ka hs_ (by omega)
          replace Kk := kn2 Kk hs_ (by omega)
          replace Kb := kn2 Kb hs_ (by omega)
          replace HBW := bw2 HBW hs_ (by omega)
          clear hs_
          obtain ⟨X11, hX11⟩ : ∃ X11, (X10.setCell ⟨w.heap.size + 1, 1, none⟩ (.int .i64 0)) = X11 := ⟨_, rfl⟩
          have hs_ := kp1 hX11
          have o11_1 := c8_1 Hr
          have r11_1 := f8_1 Hr
          replace Hr := p8_1 Hr hX11
          replace Kc := kn2 Kc hs_ (by omega)
          replace Ka := kn2 Ka hs_ (by omega)
          replace Kk := kn2 Kk hs_ (by omega)
          replace Kb := kn2 Kb hs_ (by omega)
          replace HBW := bw2 HBW hs_ (by omega)
          clear hs_
          obtain ⟨X12, hX12⟩ : ∃ X12, (X11.setCell ⟨w.heap.size + 1, 2, none⟩ (.slice none 0 0)) = X12 := ⟨_, rfl⟩
          have hs_ := kp1 hX12
          have o12_2 := c8_2 Hr
          have r12_2 := f8_2 Hr
          replace Hr := p8_2 Hr hX12
          replace Kc := kn2 Kc hs_ (by omega)
          replace Ka := kn2 Ka hs_ (by omega)
          replace Kk := kn2 Kk hs_ (by omega)
          replace Kb := kn2 Kb hs_ (by omega)
          replace HBW := bw2 HBW hs_ (by omega)
          clear hs_
          obtain ⟨X13, hX13⟩ : ∃ X13, (X12.setCell ⟨w.heap.size + 1, 3, none⟩ (.slice none 0 0)) = X13 := ⟨_, rfl⟩
          have hs_ := kp1 hX13
          have o13_3 := c8_3 Hr
          have r13_3 := f8_3 Hr
          replace Hr := p8_3 Hr hX13
          replace Kc := kn2 Kc hs_ (by omega)
          replace Ka := kn2 Ka hs_ (by omega)
          replace Kk := kn2 Kk hs_ (by omega)
          replace Kb := kn2 Kb hs_ (by omega)
          replace HBW := bw2 HBW hs_ (by omega)
          clear hs_
          obtain ⟨X14, hX14⟩ : ∃ X14, (X13.setCell ⟨w.heap.size + 1, 4, none⟩ (.slice none 0 0)) = X14 := ⟨_, rfl⟩
          have hs_ := kp1 hX14
          have o14_4 := c8_4 Hr
          have r14_4 := f8_4 Hr
          replace Hr := p8_4 Hr hX14
          replace Kc := kn2 Kc hs_ (by omega)
          replace Ka := kn2 Ka hs_ (by omega)
          replace Kk := kn2 Kk hs_ (by omega)
          replace Kb := kn2 Kb hs_ (by omega)
          replace HBW := bw2 HBW hs_ (by omega)
          clear hs_
          obtain ⟨X15, hX15⟩ : ∃ X15, (X14.setCell ⟨w.heap.size + 1, 5, none⟩ (.slice none 0 0)) = X15 := ⟨_, rfl⟩
          have hs_ := kp1 hX15
          have o15_5 := c8_5 Hr
          have r15_5 := f8_5 Hr
          replace Hr := p8_5 Hr hX15
          replace Kc := kn2 Kc hs_ (by omega)
          replace Ka := kn2 Ka hs_ (by omega)
          replace Kk := kn2 Kk hs_ (by omega)
          replace Kb := kn2 Kb hs_ (by omega)
          replace HBW := bw2 HBW hs_ (by omega)
          clear hs_
          obtain ⟨X16, hX16⟩ : ∃ X16, (X15.setCell ⟨w.heap.size + 1, 6, none⟩ (.int .i64 pq)) = X16 := ⟨_, rfl⟩
          have hs_ := kp1 hX16
          have o16_6 := c8_6 Hr
          have r16_6 := f8_6 Hr
          replace Hr := p8_6 Hr hX16
          replace Kc := kn2 Kc hs_ (by omega)
          replace Ka := kn2 Ka hs_ (by omega)
          replace Kk := kn2 Kk hs_ (by omega)
          replace Kb := kn2 Kb hs_ (by omega)
          replace HBW := bw2 HBW hs_ (by omega)
          clear hs_
          obtain ⟨X17, hX17⟩ : ∃ X17, (X16.setCell ⟨w.heap.size + 1, 7, none⟩ (.int .i64 4)) = X17 := ⟨_, rfl⟩
          have hs_ := kp1 hX17
          have o17_7 := c8_7 Hr
          have r17_7 := f8_7 Hr
          replace Hr := p8_7 Hr hX17
          replace Kc := kn2 Kc hs_ (by omega)
          replace Ka := kn2 Ka hs_ (by omega)
          replace Kk := kn2 Kk hs_ (by omega)
          replace Kb := kn2 Kb hs_ (by omega)
          replace HBW := bw2 HBW hs_ (by omega)
          clear hs_
          obtain ⟨q0, q1, q2, q3, q4, q5, q6, q7⟩ := cel8 Hr
          go_wp2_with (exact bodyPost_ret (v := .agg #[.int .i64 0, .int .i64 0, .slice none 0 0, .slice none 0 0, .slice none 0 0, .slice none 0 0, .int .i64 pq, .int .i64 4]) (by simp [results, Tryz.results26, go_sem, q0, q1, q2, q3, q4, q5, q6, q7]) rfl (by rw [HRZ.out]; exact RPRes9.nil HBW.out))
      · rw [if_neg h2] at hr
        obtain ⟨pq, hpq⟩ : ∃ pq, (Tb.tok l q).pos = pq := ⟨_, rfl⟩
        rw [hpq] at hr
        have HRZ := Lib.hid hr.symm
        have HPQ := Lib.hid hpq
        have h2b : ((e2 : Int) != 0) = true := by rw [bne_iff_ne]; omega
        clear hr h2 hpq
        obtain ⟨u1_0, u1_1⟩ := cel2 Hl
        go_enter Tryz.func26, Tryz.ntmps26
        have hy2_l := Hl.out.lt
        have hy2_r := Hr.out.lt
        go_wp2_with (fail)
        refine (HCK.out).mono ?_
        rintro e' w1 ⟨rfl, hb⟩
        replace Hl := bk1 Hl hb
        replace Hr := bk1 Hr hb
        replace HBW := bw1 HBW hb
        clear hb
        clear u1_0 u1_1
        dsimp only
        have hy3_l := Hl.out.lt
        have hy3_r := Hr.out.lt
        go_wp2_with (fail)
        refine (HLX.out _).mono ?_
        rintro e' w2 ⟨v2, rfl, ⟨A, ct, rfl, hr2, -⟩, hb⟩
        replace Hl := bk1 Hl hb
        replace Hr := bk1 Hr hb
        replace HBW := bw1 HBW hb
        clear hb
        dsimp only
        have HTK := Lib.hid hr2
        clear hr2
        obtain ⟨u4_0, u4_1⟩ := cel2 Hl
        obtain ⟨X5, hX5⟩ : ∃ X5, w2.alloc (.cells #[.slice A l.length ct, .int .i64 (a : Int), .int .i64 0] 90) = X5 := ⟨_, rfl⟩
        have hal := alw hX5
        have hz5_l := Hl.out.lt
        have hz5_r := Hr.out.lt
        have hzb5 := HBW.out.size
        replace Hl := bk1 Hl hal
        replace Hr := bk1 Hr hal
        replace HTK := tk1 HTK hal
        replace HBW := bw1 HBW hal
        have Hx := bka hX5
        clear hal
        have HEX5 := Lib.hid hX5
        clear hX5
        have hfc := HFC.out X5 A ct HTK.out HBW.out
        have HFM := Lib.hid hfc
        clear hfc HFC
        have hy6_l := Hl.out.lt
        have hy6_r := Hr.out.lt
        have hy6_x := Hx.out.lt
        go_wp2_with (fail)
        rw [HEX5.out]
        refine (HFM.out).mono ?_
        rintro e' w4 ⟨x1_, x2_, x3_, x4_, rfl, ⟨hk1, hk2, hk3, hk4⟩, hb⟩
        replace Hl := bk1 Hl hb
        replace Hr := bk1 Hr hb
        replace Hx := bk1 Hx hb
        replace HTK := tk1 HTK hb
        replace HBW := bw1 HBW hb
        clear hb
        clear u4_0 u4_1
        clear HFM
        obtain ⟨Ac, cc, hx1_⟩ : ∃ A c, x1_ = Value.slice A oc.length c := by
          obtain ⟨A, c, e, -⟩ := hk1
          exact ⟨A, c, e⟩
        subst hx1_
        have Kc := Lib.hid hk1
        clear hk1
        obtain ⟨Aa, ca, hx2_⟩ : ∃ A c, x2_ = Value.slice A om.length c := by
          obtain ⟨A, c, e, -⟩ := hk2
          exact ⟨A, c, e⟩
        subst hx2_
        have Ka := Lib.hid hk2
        clear hk2
        obtain ⟨Ak, ck, hx3_⟩ : ∃ A c, x3_ = Value.slice A ot.length c := by
          obtain ⟨A, c, e, -⟩ := hk3
          exact ⟨A, c, e⟩
        subst hx3_
        have Kk := Lib.hid hk3
        clear hk3
        obtain ⟨Ab, cb, hx4_⟩ : ∃ A c, x4_ = Value.slice A oo.length c := by
          obtain ⟨A, c, e, -⟩ := hk4
          exact ⟨A, c, e⟩
        subst hx4_
        have Kb := Lib.hid hk4
        clear hk4
        dsimp only
        obtain ⟨X7, hX7⟩ : ∃ X7, w4.alloc (.cells #[.int .i64 opv, .int .i64 opl, .slice Ac oc.length cc, .slice Aa om.length ca, .slice Ak ot.length ck, .slice Ab oo.length cb, .int .i64 (q : Int), .int .i64 (e2 : Int)] 52) = X7 := ⟨_, rfl⟩
        have hal := alw hX7
        have hz7_l := Hl.out.lt
        have hz7_r := Hr.out.lt
        have hz7_x := Hx.out.lt
        have hzb7 := HBW.out.size
        replace Hl := bk1 Hl hal
        replace Hr := bk1 Hr hal
        replace Hx := bk1 Hx hal
        replace HTK := tk1 HTK hal
        replace Kc := kn1 Kc hal
        replace Ka := kn1 Ka hal
        replace Kk := kn1 Kk hal
        replace Kb := kn1 Kb hal
        replace HBW := bw1 HBW hal
        have Hf := bka hX7
        clear hal
        have HEX7 := Lib.hid hX7
        clear hX7
        obtain ⟨ad, rfl, hbl, t0, t2⟩ := itok_at HTK.out HQ.out
        have hqq := HQ.out
        go_upto_region 8 with (fail)
        rw [HEX7.out]
        obtain ⟨u8_0, u8_1, u8_2⟩ := cel3 Hx
        obtain ⟨u9_0, u9_1, u9_2, u9_3, u9_4, u9_5, u9_6, u9_7⟩ := cel8 Hf
        rw [HPQ.out] at t2
        clear t0
        obtain ⟨X10, hX10⟩ : ∃ X10, (X7.setCell ⟨w.heap.size + 1, 0, none⟩ (.int .i64 0)) = X10 := ⟨_, rfl⟩
        have hs_ := kp1 hX10
        have o10_0 := c8_0 Hr
        have r10_0 := f8_0 Hr
        replace Hr := p8_0 Hr hX10
        clear Hl Hx Hf
        clear HTK
        replace Kc := kn2 Kc hs_ (by omega)
        replace Ka := kn2 Ka hs_ (by omega)
        replace Kk := kn2 Kk hs_ (by omega)
        replace Kb := kn2 Kb hs_ (by omega)
        replace HBW := bw2 HBW hs_ (by omega)
        clear hs_
        obtain ⟨X11, hX11⟩ : ∃ X11, (X10.setCell ⟨w.heap.size + 1, 1, none⟩ (.int .i64 0)) = X11 := ⟨_, rfl⟩
        have hs_ := kp1 hX11
        have o11_1 := c8_1 Hr
        have r11_1 := f8_1 Hr
        replace Hr := p8_1 Hr hX11
        replace Kc := kn2 Kc hs_ (by omega)
        replace Ka := kn2 Ka hs_ (by omega)
        replace Kk := kn2 Kk hs_ (by omega)
        replace Kb := kn2 Kb hs_ (by omega)
        replace HBW := bw2 HBW hs_ (by omega)
        clear hs_
        obtain ⟨X12, hX12⟩ : ∃ X12, (X11.setCell ⟨w.heap.size + 1, 2, none⟩ (.slice none 0 0)) = X12 := ⟨_, rfl⟩
        have hs_ := kp1 hX12
        have o12_2 := c8_2 Hr
        have r12_2 := f8_2 Hr
        replace Hr := p8_2 Hr hX12
        replace Kc := kn2 Kc hs_ (by omega)
        replace Ka := kn2 Ka hs_ (by omega)
        replace Kk := kn2 Kk hs_ (by omega)
        replace Kb := kn2 Kb hs_ (by omega)
        replace HBW := bw2 HBW hs_ (by omega)
        clear hs_
        obtain ⟨X13, hX13⟩ : ∃ X13, (X12.setCell ⟨w.heap.size + 1, 3, none⟩ (.slice none 0 0)) = X13 := ⟨_, rfl⟩
        have hs_ := kp1 hX13
        have o13_3 := c8_3 Hr
        have r13_3 := f8_3 Hr
        replace Hr := p8_3 Hr hX13
        replace Kc := kn2 Kc hs_ (by omega)
        replace Ka := kn2 Ka hs_ (by omega)
        replace Kk := kn2 Kk hs_ (by omega)
        replace Kb := kn2 Kb hs_ (by omega)
        replace HBW := bw2 HBW hs_ (by omega)
        clear hs_
        obtain ⟨X14, hX14⟩ : ∃ X14, (X13.setCell ⟨w.heap.size + 1, 4, none⟩ (.slice none 0 0)) = X14 := ⟨_, rfl⟩
        have hs_ := kp1 hX14
        have o14_4 := c8_4 Hr
        have r14_4 := f8_4 Hr
        replace Hr := p8_4 Hr hX14
        replace Kc := kn2 Kc hs_ (by omega)
        replace Ka := kn2 Ka hs_ (by omega)
        replace Kk := kn2 Kk hs_ (by omega)
        replace Kb := kn2 Kb hs_ (by omega)
        replace HBW := bw2 HBW hs_ (by omega)
        clear hs_
        obtain ⟨X15, hX15⟩ : ∃ X15, (X14.setCell ⟨w.heap.size + 1, 5, none⟩ (.slice none 0 0)) = X15 := ⟨_, rfl⟩
        have hs_ := kp1 hX15
        have o15_5 := c8_5 Hr
        have r15_5 := f8_5 Hr
        replace Hr := p8_5 Hr hX15
        replace Kc := kn2 Kc hs_ (by omega)
        replace Ka := kn2 Ka hs_ (by omega)
        replace Kk := kn2 Kk hs_ (by omega)
        replace Kb := kn2 Kb hs_ (by omega)
        replace HBW := bw2 HBW hs_ (by omega)
        clear hs_
        obtain ⟨X16, hX16⟩ : ∃ X16, (X15.setCell ⟨w.heap.size + 1, 6, none⟩ (.int .i64 pq)) = X16 := ⟨_, rfl⟩
        have hs_ := kp1 hX16
        have o16_6 := c8_6 Hr
        have r16_6 := f8_6 Hr
        replace Hr := p8_6 Hr hX16
        replace Kc := kn2 Kc hs_ (by omega)
        replace Ka := kn2 Ka hs_ (by omega)
        replace Kk := kn2 Kk hs_ (by omega)
        replace Kb := kn2 Kb hs_ (by omega)
        replace HBW := bw2 HBW hs_ (by omega)
        clear hs_
        obtain ⟨X17, hX17⟩ : ∃ X17, (X16.setCell ⟨w.heap.size + 1, 7, none⟩ (.int .i64 (e2 : Int))) = X17 := ⟨_, rfl⟩
        have hs_ := kp1 hX17
        have o17_7 := c8_7 Hr
        have r17_7 := f8_7 Hr
        replace Hr := p8_7 Hr hX17
        replace Kc := kn2 Kc hs_ (by omega)
        replace Ka := kn2 Ka hs_ (by omega)
        replace Kk := kn2 Kk hs_ (by omega)
        replace Kb := kn2 Kb hs_ (by omega)
        replace HBW := bw2 HBW hs_ (by omega)
        clear hs_
        obtain ⟨q0, q1, q2, q3, q4, q5, q6, q7⟩ := cel8 Hr
        go_wp2_with (exact bodyPost_ret (v := .agg #[.int .i64 0, .int .i64 0, .slice none 0 0, .slice none 0 0, .slice none 0 0, .slice none 0 0, .int .i64 pq, .int .i64 (e2 : Int)]) (by simp [results, Tryz.results26, go_sem, q0, q1, q2, q3, q4, q5, q6, q7]) rfl (by rw [HRZ.out]; exact RPRes9.nil HBW.out))
    · unfold St.parseL at hr
      rw [if_neg her] at hr
      dsimp only at hr
      have HRZ := Lib.hid hr.symm
      have heb : ((er : Int) != 0) = true := by rw [bne_iff_ne]; omega
      have h_ : ∀ W, Calls Tryz.prog 61 #[.string s] W (fun e w' => ∃ v, e = .returned (.agg #[v, .int .i64 (a : Int), .int .i64 (er : Int)]) ∧ IsToks w' w'.heap.size v l ∧ Below W.heap.size W w') := HLX.out
      clear HLX
      have HLX := Lib.hid h_
      clear h_
      clear hr her hlex
      obtain ⟨u1_0, u1_1⟩ := cel2 Hl
      go_enter Tryz.func26, Tryz.ntmps26
      have hy2_l := Hl.out.lt
      have hy2_r := Hr.out.lt
      go_wp2_with (fail)
      refine (HCK.out).mono ?_
      rintro e' w1 ⟨rfl, hb⟩
      replace Hl := bk1 Hl hb
      replace Hr := bk1 Hr hb
      replace HBW := bw1 HBW hb
      clear hb
      clear u1_0 u1_1
      dsimp only
      have hy3_l := Hl.out.lt
      have hy3_r := Hr.out.lt
      go_wp2_with (fail)
      refine (HLX.out _).mono ?_
      rintro e' w2 ⟨v2, rfl, ⟨A, ct, rfl, hr2, -⟩, hb⟩
      replace Hl := bk1 Hl hb
      replace Hr := bk1 Hr hb
      replace HBW := bw1 HBW hb
      clear hb
      dsimp only
      obtain ⟨X4, hX4⟩ : ∃ X4, w2.alloc (.cells #[.slice A l.length ct, .int .i64 (a : Int), .int .i64 (er : Int)] 90) = X4 := ⟨_, rfl⟩
      have hal := alw hX4
      have hz4_l := Hl.out.lt
      have hz4_r := Hr.out.lt
      have hzb4 := HBW.out.size
      replace Hl := bk1 Hl hal
      replace Hr := bk1 Hr hal
      replace HBW := bw1 HBW hal
      have Hx := bka hX4
      clear hal
      obtain ⟨u5_0, u5_1, u5_2⟩ := cel3 Hx
      obtain ⟨X6, hX6⟩ : ∃ X6, (X4.setCell ⟨w.heap.size + 1, 0, none⟩ (.int .i64 0)) = X6 := ⟨_, rfl⟩
      have hs_ := kp1 hX6
      have o6_0 := c8_0 Hr
      have r6_0 := f8_0 Hr
      replace Hr := p8_0 Hr hX6
      clear Hl Hx
      replace HBW := bw2 HBW hs_ (by omega)
      clear hs_
      obtain ⟨X7, hX7⟩ : ∃ X7, (X6.setCell ⟨w.heap.size + 1, 1, none⟩ (.int .i64 0)) = X7 := ⟨_, rfl⟩
      have hs_ := kp1 hX7
      have o7_1 := c8_1 Hr
      have r7_1 := f8_1 Hr
      replace Hr := p8_1 Hr hX7
      replace HBW := bw2 HBW hs_ (by omega)
      clear hs_
      obtain ⟨X8, hX8⟩ : ∃ X8, (X7.setCell ⟨w.heap.size + 1, 2, none⟩ (.slice none 0 0)) = X8 := ⟨_, rfl⟩
      have hs_ := kp1 hX8
      have o8_2 := c8_2 Hr
      have r8_2 := f8_2 Hr
      replace Hr := p8_2 Hr hX8
      replace HBW := bw2 HBW hs_ (by omega)
      clear hs_
      obtain ⟨X9, hX9⟩ : ∃ X9, (X8.setCell ⟨w.heap.size + 1, 3, none⟩ (.slice none 0 0)) = X9 := ⟨_, rfl⟩
      have hs_ := kp1 hX9
      have o9_3 := c8_3 Hr
      have r9_3 := f8_3 Hr
      replace Hr := p8_3 Hr hX9
      replace HBW := bw2 HBW hs_ (by omega)
      clear hs_
      obtain ⟨X10, hX10⟩ : ∃ X10, (X9.setCell ⟨w.heap.size + 1, 4, none⟩ (.slice none 0 0)) = X10 := ⟨_, rfl⟩
      have hs_ := kp1 hX10
      have o10_4 := c8_4 Hr
      have r10_4 := f8_4 Hr
      replace Hr := p8_4 Hr hX10
      replace HBW := bw2 HBW hs_ (by omega)
      clear hs_
      obtain ⟨X11, hX11⟩ : ∃ X11, (X10.setCell ⟨w.heap.size + 1, 5, none⟩ (.slice none 0 0)) = X11 := ⟨_, rfl⟩
      have hs_ := kp1 hX11
      have o11_5 := c8_5 Hr
      have r11_5 := f8_5 Hr
      replace Hr := p8_5 Hr hX11
      replace HBW := bw2 HBW hs_ (by omega)
      clear hs_
      obtain ⟨X12, hX12⟩ : ∃ X12, (X11.setCell ⟨w.heap.size + 1, 6, none⟩ (.int .i64 (a : Int))) = X12 := ⟨_, rfl⟩
      have hs_ := kp1 hX12
      have o12_6 := c8_6 Hr
      have r12_6 := f8_6 Hr
      replace Hr := p8_6 Hr hX12
      replace HBW := bw2 HBW hs_ (by omega)
      clear hs_
      obtain ⟨X13, hX13⟩ : ∃ X13, (X12.setCell ⟨w.heap.size + 1, 7, none⟩ (.int .i64 (er : Int))) = X13 := ⟨_, rfl⟩
      have hs_ := kp1 hX13
      have o13_7 := c8_7 Hr
      have r13_7 := f8_7 Hr
      replace Hr := p8_7 Hr hX13
      replace HBW := bw2 HBW hs_ (by omega)
      clear hs_
      obtain ⟨q0, q1, q2, q3, q4, q5, q6, q7⟩ := cel8 Hr
      go_wp2_with (exact bodyPost_ret (v := .agg #[.int .i64 0, .int .i64 0, .slice none 0 0, .slice none 0 0, .slice none 0 0, .slice none 0 0, .int .i64 (a : Int), .int .i64 (er : Int)]) (by simp [results, Tryz.results26, go_sem, q0, q1, q2, q3, q4, q5, q6, q7]) rfl (by rw [HRZ.out]; exact RPRes9.nil HBW.out))
  · rw [if_neg hz] at hr
    have HRZ := Lib.hid hr.symm
    have heb : ((n : Int) != 0) = true := by rw [bne_iff_ne]; omega
    clear hr hz
    obtain ⟨u1_0, u1_1⟩ := cel2 Hl
    go_enter Tryz.func26, Tryz.ntmps26
    have hy2_l := Hl.out.lt
    have hy2_r := Hr.out.lt
    go_wp2_with (fail)
    refine (HCK.out).mono ?_
    rintro e' w1 ⟨rfl, hb⟩
    replace Hl := bk1 Hl hb
    replace Hr := bk1 Hr hb
    replace HBW := bw1 HBW hb
    clear hb
    clear u1_0 u1_1
    dsimp only
    obtain ⟨X3, hX3⟩ : ∃ X3, (w1.setCell ⟨w.heap.size + 1, 0, none⟩ (.int .i64 0)) = X3 := ⟨_, rfl⟩
    have hs_ := kp1 hX3
    have o3_0 := c8_0 Hr
    have r3_0 := f8_0 Hr
    replace Hr := p8_0 Hr hX3
    clear Hl
    replace HBW := bw2 HBW hs_ (by omega)
    clear hs_
    obtain ⟨X4, hX4⟩ : ∃ X4, (X3.setCell ⟨w.heap.size + 1, 1, none⟩ (.int .i64 0)) = X4 := ⟨_, rfl⟩
    have hs_ := kp1 hX4
    have o4_1 := c8_1 Hr
    have r4_1 := f8_1 Hr
    replace Hr := p8_1 Hr hX4
    replace HBW := bw2 HBW hs_ (by omega)
    clear hs_
    obtain ⟨X5, hX5⟩ : ∃ X5, (X4.setCell ⟨w.heap.size + 1, 2, none⟩ (.slice none 0 0)) = X5 := ⟨_, rfl⟩
    have hs_ := kp1 hX5
    have o5_2 := c8_2 Hr
    have r5_2 := f8_2 Hr
    replace Hr := p8_2 Hr hX5
    replace HBW := bw2 HBW hs_ (by omega)
    clear hs_
    obtain ⟨X6, hX6⟩ : ∃ X6, (X5.setCell ⟨w.heap.size + 1, 3, none⟩ (.slice none 0 0)) = X6 := ⟨_, rfl⟩
    have hs_ := kp1 hX6
    have o6_3 := c8_3 Hr
    have r6_3 := f8_3 Hr
    replace Hr := p8_3 Hr hX6
    replace HBW := bw2 HBW hs_ (by omega)
    clear hs_
    obtain ⟨X7, hX7⟩ : ∃ X7, (X6.setCell ⟨w.heap.size + 1, 4, none⟩ (.slice none 0 0)) = X7 := ⟨_, rfl⟩
    have hs_ := kp1 hX7
    have o7_4 := c8_4 Hr
    have r7_4 := f8_4 Hr
    replace Hr := p8_4 Hr hX7
    replace HBW := bw2 HBW hs_ (by omega)
    clear hs_
    obtain ⟨X8, hX8⟩ : ∃ X8, (X7.setCell ⟨w.heap.size + 1, 5, none⟩ (.slice none 0 0)) = X8 := ⟨_, rfl⟩
    have hs_ := kp1 hX8
    have o8_5 := c8_5 Hr
    have r8_5 := f8_5 Hr
    replace Hr := p8_5 Hr hX8
    replace HBW := bw2 HBW hs_ (by omega)
    clear hs_
    obtain ⟨X9, hX9⟩ : ∃ X9, (X8.setCell ⟨w.heap.size + 1, 6, none⟩ (.int .i64 0)) = X9 := ⟨_, rfl⟩
    have hs_ := kp1 hX9
    have o9_6 := c8_6 Hr
    have r9_6 := f8_6 Hr
    replace Hr := p8_6 Hr hX9
    replace HBW := bw2 HBW hs_ (by omega)
    clear hs_
    obtain ⟨X10, hX10⟩ : ∃ X10, (X9.setCell ⟨w.heap.size + 1, 7, none⟩ (.int .i64 (n : Int))) = X10 := ⟨_, rfl⟩
    have hs_ := kp1 hX10
    have o10_7 := c8_7 Hr
    have r10_7 := f8_7 Hr
    replace Hr := p8_7 Hr hX10
    replace HBW := bw2 HBW hs_ (by omega)
    clear hs_
    obtain ⟨q0, q1, q2, q3, q4, q5, q6, q7⟩ := cel8 Hr
    go_wp2_with (exact bodyPost_ret (v := .agg #[.int .i64 0, .int .i64 0, .slice none 0 0, .slice none 0 0, .slice none 0 0, .slice none 0 0, .int .i64 0, .int .i64 (n : Int)]) (by simp [results, Tryz.results26, go_sem, q0, q1, q2, q3, q4, q5, q6, q7]) rfl (by rw [HRZ.out]; exact RPRes9.nil HBW.out))
end Go.Proofs.YtipbilmnknmhmaaGreatDoor
