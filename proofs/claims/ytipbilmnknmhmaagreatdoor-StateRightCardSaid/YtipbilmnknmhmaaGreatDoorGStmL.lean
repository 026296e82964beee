/- Walks of slices.Equal at []api.Atom and []api.Slot, and of state.Like (by gen_stml.py). -/
import Derived.Test.YtipbilmnknmhmaaGreatDoorGCodE
import Derived.Test.YtipbilmnknmhmaaGreatDoorGCodA
namespace Go.Proofs.YtipbilmnknmhmaaGreatDoor
set_option maxRecDepth 100000
open Go.RowKit Go.Shelf Go.Sort
attribute [local go_sem] Oper.semAt_some
set_option maxHeartbeats 4000000 in
theorem atEqual_any {A B : Option Addr} {a b : List St.Atom} (c d : Nat) (w : World) (h : Row w w.heap.size A (fcells avs a)) (h' : Row w w.heap.size B (fcells avs b)) (ha : a.length ≤ 1000) (hb : b.length ≤ 1000) :
    Calls Tryz.prog 54 #[.slice A a.length c, .slice B b.length d] w (Tells w (decide (a = b))) := by
  obtain ⟨res, hres⟩ : ∃ res, decide (a = b) = res := ⟨_, rfl⟩
  rw [hres]
  have HA := Lib.hid h
  have HBR := Lib.hid h'
  have HRES := Lib.hid hres
  have HB := Lib.hid (Below.refl w.heap.size w)
  clear h h' hres
  by_cases hl : a.length = b.length
  · have h1 : ((a.length : Int) != (b.length : Int)) = false := by rw [bne_eq_false_iff_eq]; omega
    have HL := Lib.hid hl
    go_enter Tryz.func54, Tryz.ntmps54
    go_wp2
    go_loopw [13] (fun i wr => ∃ k : Nat, k ≤ a.length ∧ i = .int .i64 k ∧ Hid (∀ (j : Nat) (x y : St.Atom), j < k → a[j]? = some x → b[j]? = some y → x = y) ∧ Hid (Below w.heap.size w wr)) (fun i _ => a.length - (intOf i).toNat)
    case atStart => exact ⟨0, Nat.zero_le _, rfl, Lib.hid fun j x y hj => absurd hj (Nat.not_lt_zero _), HB⟩
    case round =>
      obtain ⟨k, hk, rfl, HS, HBW⟩ := hrel
      by_cases hlt : k < a.length
      · obtain ⟨ad, x, rfl, hxb, hx, x0, x1⟩ := arow_at (HA.out.below HBW.out) hlt
        obtain ⟨bd, y, rfl, hyb, hy, y0, y1⟩ := arow_at (HBR.out.below HBW.out) (show k < b.length by have := HL.out; omega)
        have hq := fun w => run_at_neq x y w
        have hz := HBW.out.size
        have hxb2 : (ad.add (k * 2)).block < wr.heap.size := by rw [add_block]; omega
        have hyb2 : (bd.add (k * 2)).block < wr.heap.size := by rw [add_block]; omega
        have HX := Lib.hid hx
        have HY := Lib.hid hy
        clear hx hy
        have hlt2 : k < b.length := by have := HL.out; omega

        by_cases he : x = y
        · have hf : (!decide (x = y)) = false := by rw [decide_eq_true he]; rfl
          rw [hf] at hq
          have HE := Lib.hid he
          clear he hf
          generalize hx0 : x.v = xv at *
          generalize hx1 : x.l = xl at *
          generalize hy0 : y.v = yv at *
          generalize hy1 : y.l = yl at *
          clear hx0 hx1 hy0 hy1
          go_wp2
          go_quiet (fail)
          all_goals go_wp2
          go_roundw
          case rel => exact ⟨k + 1, by omega, by go_num, Lib.hid fun j u v hj hu hv => by
            rcases Nat.lt_or_eq_of_le (Nat.le_of_lt_succ hj) with h | rfl
            · exact HS.out j u v h hu hv
            · rw [HX.out] at hu; rw [HY.out] at hv
              injection hu with hu; injection hv with hv
              rw [← hu, ← hv]; exact HE.out, Lib.hid (below_drawn HBW.out _)⟩
          case measure => simp [intOf]; omega
        · have hf : (!decide (x = y)) = true := by rw [decide_eq_false he]; rfl
          rw [hf] at hq
          have HE := Lib.hid he
          clear he hf
          generalize hx0 : x.v = xv at *
          generalize hx1 : x.l = xl at *
          generalize hy0 : y.v = yv at *
          generalize hy1 : y.l = yl at *
          clear hx0 hx1 hy0 hy1
          go_wp2
          go_quiet (fail)
          all_goals go_wp2
          go_ret
          exact ⟨retb (by rw [← HRES.out]; exact (decide_eq_false (same_stepA HX.out HY.out HE.out)).symm), below_drawn HBW.out _⟩
      · obtain rfl : k = a.length := by omega
        go_wp2
        go_ret
        exact ⟨retb (by rw [← HRES.out]; exact (decide_eq_true (same_allA HL.out fun k x y hx hy => HS.out k x y (List.getElem?_eq_some_iff.1 hx).1 hx hy)).symm), HBW.out⟩
  · have h1 : ((a.length : Int) != (b.length : Int)) = true := by rw [bne_iff_ne]; omega
    have HR2 := Lib.hid (show false = res by rw [← HRES.out]; exact (decide_eq_false fun e => hl (by rw [e])).symm)
    clear hl
    go_enter Tryz.func54, Tryz.ntmps54
    go_wp2
    go_ret
    exact ⟨retb HR2.out, HB.out⟩
set_option maxHeartbeats 4000000 in
theorem slEqual_any {A B : Option Addr} {a b : List St.Slot} (c d : Nat) (w : World) (h : Row w w.heap.size A (fcells svs a)) (h' : Row w w.heap.size B (fcells svs b)) (ha : a.length ≤ 1000) (hb : b.length ≤ 1000) :
    Calls Tryz.prog 55 #[.slice A a.length c, .slice B b.length d] w (Tells w (decide (a = b))) := by
  obtain ⟨res, hres⟩ : ∃ res, decide (a = b) = res := ⟨_, rfl⟩
  rw [hres]
  have HA := Lib.hid h
  have HBR := Lib.hid h'
  have HRES := Lib.hid hres
  have HB := Lib.hid (Below.refl w.heap.size w)
  clear h h' hres
  by_cases hl : a.length = b.length
  · have h1 : ((a.length : Int) != (b.length : Int)) = false := by rw [bne_eq_false_iff_eq]; omega
    have HL := Lib.hid hl
    go_enter Tryz.func55, Tryz.ntmps55
    go_wp2
    go_loopw [13] (fun i wr => ∃ k : Nat, k ≤ a.length ∧ i = .int .i64 k ∧ Hid (∀ (j : Nat) (x y : St.Slot), j < k → a[j]? = some x → b[j]? = some y → x = y) ∧ Hid (Below w.heap.size w wr)) (fun i _ => a.length - (intOf i).toNat)
    case atStart => exact ⟨0, Nat.zero_le _, rfl, Lib.hid fun j x y hj => absurd hj (Nat.not_lt_zero _), HB⟩
    case round =>
      obtain ⟨k, hk, rfl, HS, HBW⟩ := hrel
      by_cases hlt : k < a.length
      · obtain ⟨ad, x, rfl, hxb, hx, x0, x1, x2⟩ := srow_at (HA.out.below HBW.out) hlt
        obtain ⟨bd, y, rfl, hyb, hy, y0, y1, y2⟩ := srow_at (HBR.out.below HBW.out) (show k < b.length by have := HL.out; omega)
        have hq := fun w => run_sl_neq x y w
        have hz := HBW.out.size
        have hxb2 : (ad.add (k * 3)).block < wr.heap.size := by rw [add_block]; omega
        have hyb2 : (bd.add (k * 3)).block < wr.heap.size := by rw [add_block]; omega
        have HX := Lib.hid hx
        have HY := Lib.hid hy
        clear hx hy
        have hlt2 : k < b.length := by have := HL.out; omega

        by_cases he : x = y
        · have hf : (!decide (x = y)) = false := by rw [decide_eq_true he]; rfl
          rw [hf] at hq
          have HE := Lib.hid he
          clear he hf
          generalize hx0 : x.ret = xret at *
          generalize hx1 : x.v = xv at *
          generalize hx2 : x.l = xl at *
          generalize hy0 : y.ret = yret at *
          generalize hy1 : y.v = yv at *
          generalize hy2 : y.l = yl at *
          clear hx0 hx1 hx2 hy0 hy1 hy2
          go_wp2
          go_quiet (fail)
          all_goals go_wp2
          go_roundw
          case rel => exact ⟨k + 1, by omega, by go_num, Lib.hid fun j u v hj hu hv => by
            rcases Nat.lt_or_eq_of_le (Nat.le_of_lt_succ hj) with h | rfl
            · exact HS.out j u v h hu hv
            · rw [HX.out] at hu; rw [HY.out] at hv
              injection hu with hu; injection hv with hv
              rw [← hu, ← hv]; exact HE.out, Lib.hid (below_drawn HBW.out _)⟩
          case measure => simp [intOf]; omega
        · have hf : (!decide (x = y)) = true := by rw [decide_eq_false he]; rfl
          rw [hf] at hq
          have HE := Lib.hid he
          clear he hf
          generalize hx0 : x.ret = xret at *
          generalize hx1 : x.v = xv at *
          generalize hx2 : x.l = xl at *
          generalize hy0 : y.ret = yret at *
          generalize hy1 : y.v = yv at *
          generalize hy2 : y.l = yl at *
          clear hx0 hx1 hx2 hy0 hy1 hy2
          go_wp2
          go_quiet (fail)
          all_goals go_wp2
          go_ret
          exact ⟨retb (by rw [← HRES.out]; exact (decide_eq_false (same_stepA HX.out HY.out HE.out)).symm), below_drawn HBW.out _⟩
      · obtain rfl : k = a.length := by omega
        go_wp2
        go_ret
        exact ⟨retb (by rw [← HRES.out]; exact (decide_eq_true (same_allA HL.out fun k x y hx hy => HS.out k x y (List.getElem?_eq_some_iff.1 hx).1 hx hy)).symm), HBW.out⟩
  · have h1 : ((a.length : Int) != (b.length : Int)) = true := by rw [bne_iff_ne]; omega
    have HR2 := Lib.hid (show false = res by rw [← HRES.out]; exact (decide_eq_false fun e => hl (by rw [e])).symm)
    clear hl
    go_enter Tryz.func55, Tryz.ntmps55
    go_wp2
    go_ret
    exact ⟨retb HR2.out, HB.out⟩
theorem sameB_like (s t : St.State) : sameB s t = (decide (s.pc = t.pc) && (decide (s.code = t.code) && (decide (s.mem = t.mem) && (decide (s.stack = t.stack) && decide (s.out = t.out))))) := by
  unfold sameB
  rw [Bool.and_comm (decide (s.out = t.out))]
set_option maxHeartbeats 16000000 in
theorem sLike_any {sv tv : Value} {s t : St.State} (w : World) (hs : IsSt w w.heap.size sv s) (ht : IsSt w w.heap.size tv t) (hsm : SmallS s) (htm : SmallS t) :
    Calls Tryz.prog 21 #[sv, tv] w (Tells w (sameB s t)) := by
  rw [sameB_like]
  obtain ⟨⟨av, al⟩, acode, amem, astack, aout⟩ := s
  obtain ⟨⟨bv, bl⟩, bcode, bmem, bstack, bout⟩ := t
  obtain ⟨cv, mv, stv_, ov, rfl, ⟨acA, acc, rfl, hacr, hacc⟩, ⟨amA, amc, rfl, hamr, hamc⟩, ⟨asA, asc, rfl, hasr, hasc⟩, ⟨aoA, aoc, rfl, haor, haoc⟩⟩ := hs
  obtain ⟨cv, mv, stv_, ov, rfl, ⟨bcA, bcc, rfl, hbcr, hbcc⟩, ⟨bmA, bmc, rfl, hbmr, hbmc⟩, ⟨bsA, bsc, rfl, hbsr, hbsc⟩, ⟨boA, boc, rfl, hbor, hboc⟩⟩ := ht
  obtain ⟨hs1, hs2, hs3, hs4⟩ := hsm
  obtain ⟨ht1, ht2, ht3, ht4⟩ := htm
  unfold stv
  dsimp only at hacr hacc hamr hamc hasr hasc haor haoc hbcr hbcc hbmr hbmc hbsr hbsc hbor hboc hs1 hs2 hs3 hs4 ht1 ht2 ht3 ht4 ⊢
  have HC1 := Lib.hid (fun W (hb : Below w.heap.size w W) => cLike_any acc bcc W ((hacr.below hb).more hb.size) ((hbcr.below hb).more hb.size) hs1 ht1)
  have HC2 := Lib.hid (fun W (hb : Below w.heap.size w W) => atEqual_any amc bmc W ((hamr.below hb).more hb.size) ((hbmr.below hb).more hb.size) hs2 ht2)
  have HC3 := Lib.hid (fun W (hb : Below w.heap.size w W) => slEqual_any asc bsc W ((hasr.below hb).more hb.size) ((hbsr.below hb).more hb.size) hs3 ht3)
  have HC4 := Lib.hid (fun W (hb : Below w.heap.size w W) => atEqual_any aoc boc W ((haor.below hb).more hb.size) ((hbor.below hb).more hb.size) hs4 ht4)
  have hb0 := (((Below.refl _ w).alloc (Nat.le_refl _) (.cells #[.int .i64 av, .int .i64 al, .slice acA acode.length acc, .slice amA amem.length amc, .slice asA astack.length asc, .slice aoA aout.length aoc] 42)).alloc (by simp) (.cells #[.int .i64 bv, .int .i64 bl, .slice bcA bcode.length bcc, .slice bmA bmem.length bmc, .slice bsA bstack.length bsc, .slice boA bout.length boc] 42))
  obtain ⟨W0, hW0⟩ : ∃ W0, (w.alloc (.cells #[.int .i64 av, .int .i64 al, .slice acA acode.length acc, .slice amA amem.length amc, .slice asA astack.length asc, .slice aoA aout.length aoc] 42)).alloc (.cells #[.int .i64 bv, .int .i64 bl, .slice bcA bcode.length bcc, .slice bmA bmem.length bmc, .slice bsA bstack.length bsc, .slice boA bout.length boc] 42) = W0 := ⟨_, rfl⟩
  have hp0 : Blk W0 w.heap.size 42 #[.int .i64 av, .int .i64 al, .slice acA acode.length acc, .slice amA amem.length amc, .slice asA astack.length asc, .slice aoA aout.length aoc] := hW0 ▸ (Blk.new _ _ _).alloc _
  have hq0 : Blk W0 (w.heap.size + 1) 42 #[.int .i64 bv, .int .i64 bl, .slice bcA bcode.length bcc, .slice bmA bmem.length bmc, .slice bsA bstack.length bsc, .slice boA bout.length boc] := by
    have h1 := Blk.new (w.alloc (.cells #[.int .i64 av, .int .i64 al, .slice acA acode.length acc, .slice amA amem.length amc, .slice asA astack.length asc, .slice aoA aout.length aoc] 42)) 42 #[.int .i64 bv, .int .i64 bl, .slice bcA bcode.length bcc, .slice bmA bmem.length bmc, .slice bsA bstack.length bsc, .slice boA bout.length boc]
    rw [show (w.alloc (.cells #[.int .i64 av, .int .i64 al, .slice acA acode.length acc, .slice amA amem.length amc, .slice asA astack.length asc, .slice aoA aout.length aoc] 42)).heap.size = w.heap.size + 1 by simp] at h1
    rw [← hW0]; exact h1
  rw [hW0] at hb0
  have HP := Lib.hid hp0
  have HQ := Lib.hid hq0
  have HB := Lib.hid hb0
  have hpcq := fun w => run_at_eql ⟨av, al⟩ ⟨bv, bl⟩ w
  dsimp only at hpcq
  clear hb0 hp0 hq0 hacr hamr hasr haor hbcr hbmr hbsr hbor
  have a0 : W0.cell? ⟨w.heap.size, 0, none⟩ = some (.int .i64 av) := HP.out.cell 0
  have a1 : W0.cell? ⟨w.heap.size, 1, none⟩ = some (.int .i64 al) := HP.out.cell 1
  have a2 : W0.cell? ⟨w.heap.size, 2, none⟩ = some (.slice acA acode.length acc) := HP.out.cell 2
  have a3 : W0.cell? ⟨w.heap.size, 3, none⟩ = some (.slice amA amem.length amc) := HP.out.cell 3
  have a4 : W0.cell? ⟨w.heap.size, 4, none⟩ = some (.slice asA astack.length asc) := HP.out.cell 4
  have a5 : W0.cell? ⟨w.heap.size, 5, none⟩ = some (.slice aoA aout.length aoc) := HP.out.cell 5
  have b0 : W0.cell? ⟨w.heap.size + 1, 0, none⟩ = some (.int .i64 bv) := HQ.out.cell 0
  have b1 : W0.cell? ⟨w.heap.size + 1, 1, none⟩ = some (.int .i64 bl) := HQ.out.cell 1
  have b2 : W0.cell? ⟨w.heap.size + 1, 2, none⟩ = some (.slice bcA bcode.length bcc) := HQ.out.cell 2
  have b3 : W0.cell? ⟨w.heap.size + 1, 3, none⟩ = some (.slice bmA bmem.length bmc) := HQ.out.cell 3
  have b4 : W0.cell? ⟨w.heap.size + 1, 4, none⟩ = some (.slice bsA bstack.length bsc) := HQ.out.cell 4
  have b5 : W0.cell? ⟨w.heap.size + 1, 5, none⟩ = some (.slice boA bout.length boc) := HQ.out.cell 5
  generalize hd1 : decide ((⟨av, al⟩ : St.Atom) = ⟨bv, bl⟩) = d1 at *
  generalize hd2 : decide (acode = bcode) = d2 at *
  generalize hd3 : decide (amem = bmem) = d3 at *
  generalize hd4 : decide (astack = bstack) = d4 at *
  generalize hd5 : decide (aout = bout) = d5 at *
  clear hd1 hd2 hd3 hd4 hd5
  cases d1 with
  | false =>
    rw [Bool.false_and]
    go_enter Tryz.func21, Tryz.ntmps21
    go_wp2
    go_ret
    exact ⟨rfl, HB.out⟩
  | true =>
    rw [Bool.true_and]
    cases d2 with
    | false =>
      rw [Bool.false_and]
      go_enter Tryz.func21, Tryz.ntmps21
      go_wp2_with (fail)
      refine (HC1.out W0 HB.out).mono ?_
      rintro e W1 ⟨rfl, hb9⟩
      have hb1 := HB.out.trans (hb9.mono HB.out.size)
      have hp1 := HP.out.below hb9 HP.out.lt
      have hq1 := HQ.out.below hb9 HQ.out.lt
      clear HB HP HQ hb9
      clear a0 b0 a1 b1 a2 b2 a3 b3 a4 b4 a5 b5
      have HB := Lib.hid hb1
      have HP := Lib.hid hp1
      have HQ := Lib.hid hq1
      clear hb1 hp1 hq1
      go_wp2
      go_ret
      exact ⟨rfl, HB.out⟩
    | true =>
      rw [Bool.true_and]
      cases d3 with
      | false =>
        rw [Bool.false_and]
        go_enter Tryz.func21, Tryz.ntmps21
        go_wp2_with (fail)
        refine (HC1.out W0 HB.out).mono ?_
        rintro e W1 ⟨rfl, hb9⟩
        have hb1 := HB.out.trans (hb9.mono HB.out.size)
        have hp1 := HP.out.below hb9 HP.out.lt
        have hq1 := HQ.out.below hb9 HQ.out.lt
        clear HB HP HQ hb9
        clear a0 b0 a1 b1 a2 b2 a3 b3 a4 b4 a5 b5
        have HB := Lib.hid hb1
        have HP := Lib.hid hp1
        have HQ := Lib.hid hq1
        clear hb1 hp1 hq1
        have a0 : W1.cell? ⟨w.heap.size, 0, none⟩ = some (.int .i64 av) := HP.out.cell 0
        have a1 : W1.cell? ⟨w.heap.size, 1, none⟩ = some (.int .i64 al) := HP.out.cell 1
        have a2 : W1.cell? ⟨w.heap.size, 2, none⟩ = some (.slice acA acode.length acc) := HP.out.cell 2
        have a3 : W1.cell? ⟨w.heap.size, 3, none⟩ = some (.slice amA amem.length amc) := HP.out.cell 3
        have a4 : W1.cell? ⟨w.heap.size, 4, none⟩ = some (.slice asA astack.length asc) := HP.out.cell 4
        have a5 : W1.cell? ⟨w.heap.size, 5, none⟩ = some (.slice aoA aout.length aoc) := HP.out.cell 5
        have b0 : W1.cell? ⟨w.heap.size + 1, 0, none⟩ = some (.int .i64 bv) := HQ.out.cell 0
        have b1 : W1.cell? ⟨w.heap.size + 1, 1, none⟩ = some (.int .i64 bl) := HQ.out.cell 1
        have b2 : W1.cell? ⟨w.heap.size + 1, 2, none⟩ = some (.slice bcA bcode.length bcc) := HQ.out.cell 2
        have b3 : W1.cell? ⟨w.heap.size + 1, 3, none⟩ = some (.slice bmA bmem.length bmc) := HQ.out.cell 3
        have b4 : W1.cell? ⟨w.heap.size + 1, 4, none⟩ = some (.slice bsA bstack.length bsc) := HQ.out.cell 4
        have b5 : W1.cell? ⟨w.heap.size + 1, 5, none⟩ = some (.slice boA bout.length boc) := HQ.out.cell 5
        go_wp2_with (fail)
        refine (HC2.out W1 HB.out).mono ?_
        rintro e W2 ⟨rfl, hb9⟩
        have hb1 := HB.out.trans (hb9.mono HB.out.size)
        have hp1 := HP.out.below hb9 HP.out.lt
        have hq1 := HQ.out.below hb9 HQ.out.lt
        clear HB HP HQ hb9
        clear a0 b0 a1 b1 a2 b2 a3 b3 a4 b4 a5 b5
        have HB := Lib.hid hb1
        have HP := Lib.hid hp1
        have HQ := Lib.hid hq1
        clear hb1 hp1 hq1
        go_wp2
        go_ret
        exact ⟨rfl, HB.out⟩
      | true =>
        rw [Bool.true_and]
        cases d4 with
        | false =>
          rw [Bool.false_and]
          go_enter Tryz.func21, Tryz.ntmps21
          go_wp2_with (fail)
          refine (HC1.out W0 HB.out).mono ?_
          rintro e W1 ⟨rfl, hb9⟩
          have hb1 := HB.out.trans (hb9.mono HB.out.size)
          have hp1 := HP.out.below hb9 HP.out.lt
          have hq1 := HQ.out.below hb9 HQ.out.lt
          clear HB HP HQ hb9
          clear a0 b0 a1 b1 a2 b2 a3 b3 a4 b4 a5 b5
          have HB := Lib.hid hb1
          have HP := Lib.hid hp1
          have HQ := Lib.hid hq1
          clear hb1 hp1 hq1
          have a0 : W1.cell? ⟨w.heap.size, 0, none⟩ = some (.int .i64 av) := HP.out.cell 0
          have a1 : W1.cell? ⟨w.heap.size, 1, none⟩ = some (.int .i64 al) := HP.out.cell 1
          have a2 : W1.cell? ⟨w.heap.size, 2, none⟩ = some (.slice acA acode.length acc) := HP.out.cell 2
          have a3 : W1.cell? ⟨w.heap.size, 3, none⟩ = some (.slice amA amem.length amc) := HP.out.cell 3
          have a4 : W1.cell? ⟨w.heap.size, 4, none⟩ = some (.slice asA astack.length asc) := HP.out.cell 4
          have a5 : W1.cell? ⟨w.heap.size, 5, none⟩ = some (.slice aoA aout.length aoc) := HP.out.cell 5
          have b0 : W1.cell? ⟨w.heap.size + 1, 0, none⟩ = some (.int .i64 bv) := HQ.out.cell 0
          have b1 : W1.cell? ⟨w.heap.size + 1, 1, none⟩ = some (.int .i64 bl) := HQ.out.cell 1
          have b2 : W1.cell? ⟨w.heap.size + 1, 2, none⟩ = some (.slice bcA bcode.length bcc) := HQ.out.cell 2
          have b3 : W1.cell? ⟨w.heap.size + 1, 3, none⟩ = some (.slice bmA bmem.length bmc) := HQ.out.cell 3
          have b4 : W1.cell? ⟨w.heap.size + 1, 4, none⟩ = some (.slice bsA bstack.length bsc) := HQ.out.cell 4
          have b5 : W1.cell? ⟨w.heap.size + 1, 5, none⟩ = some (.slice boA bout.length boc) := HQ.out.cell 5
          go_wp2_with (fail)
          refine (HC2.out W1 HB.out).mono ?_
          rintro e W2 ⟨rfl, hb9⟩
          have hb1 := HB.out.trans (hb9.mono HB.out.size)
          have hp1 := HP.out.below hb9 HP.out.lt
          have hq1 := HQ.out.below hb9 HQ.out.lt
          clear HB HP HQ hb9
          clear a0 b0 a1 b1 a2 b2 a3 b3 a4 b4 a5 b5
          have HB := Lib.hid hb1
          have HP := Lib.hid hp1
          have HQ := Lib.hid hq1
          clear hb1 hp1 hq1
          have a0 : W2.cell? ⟨w.heap.size, 0, none⟩ = some (.int .i64 av) := HP.out.cell 0
          have a1 : W2.cell? ⟨w.heap.size, 1, none⟩ = some (.int .i64 al) := HP.out.cell 1
          have a2 : W2.cell? ⟨w.heap.size, 2, none⟩ = some (.slice acA acode.length acc) := HP.out.cell 2
          have a3 : W2.cell? ⟨w.heap.size, 3, none⟩ = some (.slice amA amem.length amc) := HP.out.cell 3
          have a4 : W2.cell? ⟨w.heap.size, 4, none⟩ = some (.slice asA astack.length asc) := HP.out.cell 4
          have a5 : W2.cell? ⟨w.heap.size, 5, none⟩ = some (.slice aoA aout.length aoc) := HP.out.cell 5
          have b0 : W2.cell? ⟨w.heap.size + 1, 0, none⟩ = some (.int .i64 bv) := HQ.out.cell 0
          have b1 : W2.cell? ⟨w.heap.size + 1, 1, none⟩ = some (.int .i64 bl) := HQ.out.cell 1
          have b2 : W2.cell? ⟨w.heap.size + 1, 2, none⟩ = some (.slice bcA bcode.length bcc) := HQ.out.cell 2
          have b3 : W2.cell? ⟨w.heap.size + 1, 3, none⟩ = some (.slice bmA bmem.length bmc) := HQ.out.cell 3
          have b4 : W2.cell? ⟨w.heap.size + 1, 4, none⟩ = some (.slice bsA bstack.length bsc) := HQ.out.cell 4
          have b5 : W2.cell? ⟨w.heap.size + 1, 5, none⟩ = some (.slice boA bout.length boc) := HQ.out.cell 5
          go_wp2_with (fail)
          refine (HC3.out W2 HB.out).mono ?_
          rintro e W3 ⟨rfl, hb9⟩
          have hb1 := HB.out.trans (hb9.mono HB.out.size)
          have hp1 := HP.out.below hb9 HP.out.lt
          have hq1 := HQ.out.below hb9 HQ.out.lt
          clear HB HP HQ hb9
          clear a0 b0 a1 b1 a2 b2 a3 b3 a4 b4 a5 b5
          have HB := Lib.hid hb1
          have HP := Lib.hid hp1
          have HQ := Lib.hid hq1
          clear hb1 hp1 hq1
          go_wp2
          go_ret
          exact ⟨rfl, HB.out⟩
        | true =>
          rw [Bool.true_and]
          cases d5 with
          | false =>
            go_enter Tryz.func21, Tryz.ntmps21
            go_wp2_with (fail)
            refine (HC1.out W0 HB.out).mono ?_
            rintro e W1 ⟨rfl, hb9⟩
            have hb1 := HB.out.trans (hb9.mono HB.out.size)
            have hp1 := HP.out.below hb9 HP.out.lt
            have hq1 := HQ.out.below hb9 HQ.out.lt
            clear HB HP HQ hb9
            clear a0 b0 a1 b1 a2 b2 a3 b3 a4 b4 a5 b5
            have HB := Lib.hid hb1
            have HP := Lib.hid hp1
            have HQ := Lib.hid hq1
            clear hb1 hp1 hq1
            have a0 : W1.cell? ⟨w.heap.size, 0, none⟩ = some (.int .i64 av) := HP.out.cell 0
            have a1 : W1.cell? ⟨w.heap.size, 1, none⟩ = some (.int .i64 al) := HP.out.cell 1
            have a2 : W1.cell? ⟨w.heap.size, 2, none⟩ = some (.slice acA acode.length acc) := HP.out.cell 2
            have a3 : W1.cell? ⟨w.heap.size, 3, none⟩ = some (.slice amA amem.length amc) := HP.out.cell 3
            have a4 : W1.cell? ⟨w.heap.size, 4, none⟩ = some (.slice asA astack.length asc) := HP.out.cell 4
            have a5 : W1.cell? ⟨w.heap.size, 5, none⟩ = some (.slice aoA aout.length aoc) := HP.out.cell 5
            have b0 : W1.cell? ⟨w.heap.size + 1, 0, none⟩ = some (.int .i64 bv) := HQ.out.cell 0
            have b1 : W1.cell? ⟨w.heap.size + 1, 1, none⟩ = some (.int .i64 bl) := HQ.out.cell 1
            have b2 : W1.cell? ⟨w.heap.size + 1, 2, none⟩ = some (.slice bcA bcode.length bcc) := HQ.out.cell 2
            have b3 : W1.cell? ⟨w.heap.size + 1, 3, none⟩ = some (.slice bmA bmem.length bmc) := HQ.out.cell 3
            have b4 : W1.cell? ⟨w.heap.size + 1, 4, none⟩ = some (.slice bsA bstack.length bsc) := HQ.out.cell 4
            have b5 : W1.cell? ⟨w.heap.size + 1, 5, none⟩ = some (.slice boA bout.length boc) := HQ.out.cell 5
            go_wp2_with (fail)
            refine (HC2.out W1 HB.out).mono ?_
            rintro e W2 ⟨rfl, hb9⟩
            have hb1 := HB.out.trans (hb9.mono HB.out.size)
            have hp1 := HP.out.below hb9 HP.out.lt
            have hq1 := HQ.out.below hb9 HQ.out.lt
            clear HB HP HQ hb9
            clear a0 b0 a1 b1 a2 b2 a3 b3 a4 b4 a5 b5
            have HB := Lib.hid hb1
            have HP := Lib.hid hp1
            have HQ := Lib.hid hq1
            clear hb1 hp1 hq1
            have a0 : W2.cell? ⟨w.heap.size, 0, none⟩ = some (.int .i64 av) := HP.out.cell 0
            have a1 : W2.cell? ⟨w.heap.size, 1, none⟩ = some (.int .i64 al) := HP.out.cell 1
            have a2 : W2.cell? ⟨w.heap.size, 2, none⟩ = some (.slice acA acode.length acc) := HP.out.cell 2
            have a3 : W2.cell? ⟨w.heap.size, 3, none⟩ = some (.slice amA amem.length amc) := HP.out.cell 3
            have a4 : W2.cell? ⟨w.heap.size, 4, none⟩ = some (.slice asA astack.length asc) := HP.out.cell 4
            have a5 : W2.cell? ⟨w.heap.size, 5, none⟩ = some (.slice aoA aout.length aoc) := HP.out.cell 5
            have b0 : W2.cell? ⟨w.heap.size + 1, 0, none⟩ = some (.int .i64 bv) := HQ.out.cell 0
            have b1 : W2.cell? ⟨w.heap.size + 1, 1, none⟩ = some (.int .i64 bl) := HQ.out.cell 1
            have b2 : W2.cell? ⟨w.heap.size + 1, 2, none⟩ = some (.slice bcA bcode.length bcc) := HQ.out.cell 2
            have b3 : W2.cell? ⟨w.heap.size + 1, 3, none⟩ = some (.slice bmA bmem.length bmc) := HQ.out.cell 3
            have b4 : W2.cell? ⟨w.heap.size + 1, 4, none⟩ = some (.slice bsA bstack.length bsc) := HQ.out.cell 4
            have b5 : W2.cell? ⟨w.heap.size + 1, 5, none⟩ = some (.slice boA bout.length boc) := HQ.out.cell 5
            go_wp2_with (fail)
            refine (HC3.out W2 HB.out).mono ?_
            rintro e W3 ⟨rfl, hb9⟩
            have hb1 := HB.out.trans (hb9.mono HB.out.size)
            have hp1 := HP.out.below hb9 HP.out.lt
            have hq1 := HQ.out.below hb9 HQ.out.lt
            clear HB HP HQ hb9
            clear a0 b0 a1 b1 a2 b2 a3 b3 a4 b4 a5 b5
            have HB := Lib.hid hb1
            have HP := Lib.hid hp1
            have HQ := Lib.hid hq1
            clear hb1 hp1 hq1
            have a0 : W3.cell? ⟨w.heap.size, 0, none⟩ = some (.int .i64 av) := HP.out.cell 0
            have a1 : W3.cell? ⟨w.heap.size, 1, none⟩ = some (.int .i64 al) := HP.out.cell 1
            have a2 : W3.cell? ⟨w.heap.size, 2, none⟩ = some (.slice acA acode.length acc) := HP.out.cell 2
            have a3 : W3.cell? ⟨w.heap.size, 3, none⟩ = some (.slice amA amem.length amc) := HP.out.cell 3
            have a4 : W3.cell? ⟨w.heap.size, 4, none⟩ = some (.slice asA astack.length asc) := HP.out.cell 4
            have a5 : W3.cell? ⟨w.heap.size, 5, none⟩ = some (.slice aoA aout.length aoc) := HP.out.cell 5
            have b0 : W3.cell? ⟨w.heap.size + 1, 0, none⟩ = some (.int .i64 bv) := HQ.out.cell 0
            have b1 : W3.cell? ⟨w.heap.size + 1, 1, none⟩ = some (.int .i64 bl) := HQ.out.cell 1
            have b2 : W3.cell? ⟨w.heap.size + 1, 2, none⟩ = some (.slice bcA bcode.length bcc) := HQ.out.cell 2
            have b3 : W3.cell? ⟨w.heap.size + 1, 3, none⟩ = some (.slice bmA bmem.length bmc) := HQ.out.cell 3
            have b4 : W3.cell? ⟨w.heap.size + 1, 4, none⟩ = some (.slice bsA bstack.length bsc) := HQ.out.cell 4
            have b5 : W3.cell? ⟨w.heap.size + 1, 5, none⟩ = some (.slice boA bout.length boc) := HQ.out.cell 5
            go_wp2_with (fail)
            refine (HC4.out W3 HB.out).mono ?_
            rintro e W4 ⟨rfl, hb9⟩
            have hb1 := HB.out.trans (hb9.mono HB.out.size)
            have hp1 := HP.out.below hb9 HP.out.lt
            have hq1 := HQ.out.below hb9 HQ.out.lt
            clear HB HP HQ hb9
            clear a0 b0 a1 b1 a2 b2 a3 b3 a4 b4 a5 b5
            have HB := Lib.hid hb1
            have HP := Lib.hid hp1
            have HQ := Lib.hid hq1
            clear hb1 hp1 hq1
            go_wp2
            go_ret
            exact ⟨rfl, HB.out⟩
          | true =>
            go_enter Tryz.func21, Tryz.ntmps21
            go_wp2_with (fail)
            refine (HC1.out W0 HB.out).mono ?_
            rintro e W1 ⟨rfl, hb9⟩
            have hb1 := HB.out.trans (hb9.mono HB.out.size)
            have hp1 := HP.out.below hb9 HP.out.lt
            have hq1 := HQ.out.below hb9 HQ.out.lt
            clear HB HP HQ hb9
            clear a0 b0 a1 b1 a2 b2 a3 b3 a4 b4 a5 b5
            have HB := Lib.hid hb1
            have HP := Lib.hid hp1
            have HQ := Lib.hid hq1
            clear hb1 hp1 hq1
            have a0 : W1.cell? ⟨w.heap.size, 0, none⟩ = some (.int .i64 av) := HP.out.cell 0
            have a1 : W1.cell? ⟨w.heap.size, 1, none⟩ = some (.int .i64 al) := HP.out.cell 1
            have a2 : W1.cell? ⟨w.heap.size, 2, none⟩ = some (.slice acA acode.length acc) := HP.out.cell 2
            have a3 : W1.cell? ⟨w.heap.size, 3, none⟩ = some (.slice amA amem.length amc) := HP.out.cell 3
            have a4 : W1.cell? ⟨w.heap.size, 4, none⟩ = some (.slice asA astack.length asc) := HP.out.cell 4
            have a5 : W1.cell? ⟨w.heap.size, 5, none⟩ = some (.slice aoA aout.length aoc) := HP.out.cell 5
            have b0 : W1.cell? ⟨w.heap.size + 1, 0, none⟩ = some (.int .i64 bv) := HQ.out.cell 0
            have b1 : W1.cell? ⟨w.heap.size + 1, 1, none⟩ = some (.int .i64 bl) := HQ.out.cell 1
            have b2 : W1.cell? ⟨w.heap.size + 1, 2, none⟩ = some (.slice bcA bcode.length bcc) := HQ.out.cell 2
            have b3 : W1.cell? ⟨w.heap.size + 1, 3, none⟩ = some (.slice bmA bmem.length bmc) := HQ.out.cell 3
            have b4 : W1.cell? ⟨w.heap.size + 1, 4, none⟩ = some (.slice bsA bstack.length bsc) := HQ.out.cell 4
            have b5 : W1.cell? ⟨w.heap.size + 1, 5, none⟩ = some (.slice boA bout.length boc) := HQ.out.cell 5
            go_wp2_with (fail)
            refine (HC2.out W1 HB.out).mono ?_
            rintro e W2 ⟨rfl, hb9⟩
            have hb1 := HB.out.trans (hb9.mono HB.out.size)
            have hp1 := HP.out.below hb9 HP.out.lt
            have hq1 := HQ.out.below hb9 HQ.out.lt
            clear HB HP HQ hb9
            clear a0 b0 a1 b1 a2 b2 a3 b3 a4 b4 a5 b5
            have HB := Lib.hid hb1
            have HP := Lib.hid hp1
            have HQ := Lib.hid hq1
            clear hb1 hp1 hq1
            have a0 : W2.cell? ⟨w.heap.size, 0, none⟩ = some (.int .i64 av) := HP.out.cell 0
            have a1 : W2.cell? ⟨w.heap.size, 1, none⟩ = some (.int .i64 al) := HP.out.cell 1
            have a2 : W2.cell? ⟨w.heap.size, 2, none⟩ = some (.slice acA acode.length acc) := HP.out.cell 2
            have a3 : W2.cell? ⟨w.heap.size, 3, none⟩ = some (.slice amA amem.length amc) := HP.out.cell 3
            have a4 : W2.cell? ⟨w.heap.size, 4, none⟩ = some (.slice asA astack.length asc) := HP.out.cell 4
            have a5 : W2.cell? ⟨w.heap.size, 5, none⟩ = some (.slice aoA aout.length aoc) := HP.out.cell 5
            have b0 : W2.cell? ⟨w.heap.size + 1, 0, none⟩ = some (.int .i64 bv) := HQ.out.cell 0
            have b1 : W2.cell? ⟨w.heap.size + 1, 1, none⟩ = some (.int .i64 bl) := HQ.out.cell 1
            have b2 : W2.cell? ⟨w.heap.size + 1, 2, none⟩ = some (.slice bcA bcode.length bcc) := HQ.out.cell 2
            have b3 : W2.cell? ⟨w.heap.size + 1, 3, none⟩ = some (.slice bmA bmem.length bmc) := HQ.out.cell 3
            have b4 : W2.cell? ⟨w.heap.size + 1, 4, none⟩ = some (.slice bsA bstack.length bsc) := HQ.out.cell 4
            have b5 : W2.cell? ⟨w.heap.size + 1, 5, none⟩ = some (.slice boA bout.length boc) := HQ.out.cell 5
            go_wp2_with (fail)
            refine (HC3.out W2 HB.out).mono ?_
            rintro e W3 ⟨rfl, hb9⟩
            have hb1 := HB.out.trans (hb9.mono HB.out.size)
            have hp1 := HP.out.below hb9 HP.out.lt
            have hq1 := HQ.out.below hb9 HQ.out.lt
            clear HB HP HQ hb9
            clear a0 b0 a1 b1 a2 b2 a3 b3 a4 b4 a5 b5
            have HB := Lib.hid hb1
            have HP := Lib.hid hp1
            have HQ := Lib.hid hq1
            clear hb1 hp1 hq1
            have a0 : W3.cell? ⟨w.heap.size, 0, none⟩ = some (.int .i64 av) := HP.out.cell 0
            have a1 : W3.cell? ⟨w.heap.size, 1, none⟩ = some (.int .i64 al) := HP.out.cell 1
            have a2 : W3.cell? ⟨w.heap.size, 2, none⟩ = some (.slice acA acode.length acc) := HP.out.cell 2
            have a3 : W3.cell? ⟨w.heap.size, 3, none⟩ = some (.slice amA amem.length amc) := HP.out.cell 3
            have a4 : W3.cell? ⟨w.heap.size, 4, none⟩ = some (.slice asA astack.length asc) := HP.out.cell 4
            have a5 : W3.cell? ⟨w.heap.size, 5, none⟩ = some (.slice aoA aout.length aoc) := HP.out.cell 5
            have b0 : W3.cell? ⟨w.heap.size + 1, 0, none⟩ = some (.int .i64 bv) := HQ.out.cell 0
            have b1 : W3.cell? ⟨w.heap.size + 1, 1, none⟩ = some (.int .i64 bl) := HQ.out.cell 1
            have b2 : W3.cell? ⟨w.heap.size + 1, 2, none⟩ = some (.slice bcA bcode.length bcc) := HQ.out.cell 2
            have b3 : W3.cell? ⟨w.heap.size + 1, 3, none⟩ = some (.slice bmA bmem.length bmc) := HQ.out.cell 3
            have b4 : W3.cell? ⟨w.heap.size + 1, 4, none⟩ = some (.slice bsA bstack.length bsc) := HQ.out.cell 4
            have b5 : W3.cell? ⟨w.heap.size + 1, 5, none⟩ = some (.slice boA bout.length boc) := HQ.out.cell 5
            go_wp2_with (fail)
            refine (HC4.out W3 HB.out).mono ?_
            rintro e W4 ⟨rfl, hb9⟩
            have hb1 := HB.out.trans (hb9.mono HB.out.size)
            have hp1 := HP.out.below hb9 HP.out.lt
            have hq1 := HQ.out.below hb9 HQ.out.lt
            clear HB HP HQ hb9
            clear a0 b0 a1 b1 a2 b2 a3 b3 a4 b4 a5 b5
            have HB := Lib.hid hb1
            have HP := Lib.hid hp1
            have HQ := Lib.hid hq1
            clear hb1 hp1 hq1
            go_wp2
            go_ret
            exact ⟨rfl, HB.out⟩
end Go.Proofs.YtipbilmnknmhmaaGreatDoor
