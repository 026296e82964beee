/- Walks of slices.Equal at []int, slices.EqualFunc at rows, and of package table's likeRow and Like. -/
import Derived.Handy
import Derived.BigRegion
import Derived.Test.YtggcmkpafpjnoaaGreatDoorGTabC
namespace Go.Proofs.YtggcmkpafpjnoaaGreatDoor
set_option maxRecDepth 100000
open Go.RowKit Go.Shelf
attribute [local go_sem] Oper.semAt_some

theorem take_all_eq {α : Type} {l m : List α} (hl : l.length = m.length) (h : ∀ j, j < l.length → l[j]? = m[j]?) : l = m := List.ext_getElem? fun j => by
  by_cases hj : j < l.length
  · exact h j hj
  · rw [List.getElem?_eq_none (by omega), List.getElem?_eq_none (by omega)]
set_option maxHeartbeats 2000000 in
theorem sEqual_any {A B : Option Addr} {l m : List Int} (c d : Nat) (w : World) (h : Row w w.heap.size A (ints l)) (h2 : Row w w.heap.size B (ints m)) (hl : l.length ≤ 1000000) (_ : m.length ≤ 1000000) :
    Calls Tryz.prog 26 #[.slice A l.length c, .slice B m.length d] w (Tells w (decide (l = m))) := by
  by_cases hn : l.length = m.length
  · obtain ⟨res, hres⟩ : ∃ res, decide (l = m) = res := ⟨_, rfl⟩
    rw [hres]
    have HRES := Lib.hid hres
    have H := Lib.hid h
    have H2 := Lib.hid h2
    obtain ⟨n, hnl⟩ : ∃ n, l.length = n := ⟨_, rfl⟩
    have hnm : m.length = n := by omega
    have HNL := Lib.hid hnl
    have HNM := Lib.hid hnm
    rw [hnm, hnl]
    have hnb : n ≤ 1000000 := by omega
    clear hres h h2 hn hnl hnm hl
    go_enter Tryz.func26, Tryz.ntmps26
    go_wp2
    go_loopw [13] (fun i wr => ∃ (k : Nat), k ≤ n ∧ i = .int .i64 k ∧ Hid (Below w.heap.size w wr) ∧ Hid (∀ j, j < k → l[j]? = m[j]?)) (fun i _ => n - (intOf i).toNat)
    case atStart => exact ⟨0, Nat.zero_le _, rfl, Lib.hid (Below.refl _ _), Lib.hid fun j hj => absurd hj (by omega)⟩
    case round =>
      obtain ⟨k, hk, rfl, HB, HK⟩ := hrel
      by_cases hlt : k < n
      · obtain ⟨ad, hA, hb, c0⟩ := irow_at (H.out.below HB.out) (show k < l.length by rw [HNL.out]; exact hlt)
        obtain ⟨bd, hB, hb2, c1⟩ := irow_at (H2.out.below HB.out) (show k < m.length by rw [HNM.out]; exact hlt)
        have hx : l[k]? = some (l[k]'(by rw [HNL.out]; exact hlt)) := List.getElem?_eq_getElem _
        have hy : m[k]? = some (m[k]'(by rw [HNM.out]; exact hlt)) := List.getElem?_eq_getElem _
        subst hA hB
        generalize l[k]'(by rw [HNL.out]; exact hlt) = x at *
        generalize m[k]'(by rw [HNM.out]; exact hlt) = y at *
        by_cases hxy : x = y
        · subst hxy
          have HNX : Hid (∀ j, j < k + 1 → l[j]? = m[j]?) := Lib.hid fun j hj => by
            by_cases e : j = k
            · subst e; rw [hx, hy]
            · exact HK.out j (by omega)
          clear hx hy
          go_wp2
          go_region
          go_wp2
          go_roundw
          case rel => exact ⟨k + 1, by omega, by go_num, Lib.hid HB.out.drew, HNX⟩
          case measure => simp [intOf]; omega
        · have hne : (x != y) = true := by rw [bne_iff_ne]; exact hxy
          have hff : res = false := by
            rw [← HRES.out]
            exact decide_eq_false fun e => by subst e; rw [hx] at hy; injection hy with hy; exact hxy hy
          have HFF := Lib.hid hff
          clear hx hy hff
          go_wp2
          go_region
          go_wp2
          go_ret
          exact ⟨by rw [HFF.out]; rfl, HB.out.drew⟩
      · obtain rfl : k = n := by omega
        have htt : res = true := by
          rw [← HRES.out]
          exact decide_eq_true (take_all_eq (by rw [HNL.out, HNM.out]) (by rw [HNL.out]; exact HK.out))
        have HTT := Lib.hid htt
        clear htt
        go_wp2
        go_ret
        exact ⟨by rw [HTT.out]; rfl, HB.out⟩
  · have hff : decide (l = m) = false := decide_eq_false fun e => hn (by rw [e])
    rw [hff]
    have h1 : ((l.length : Int) != (m.length : Int)) = true := by rw [bne_iff_ne]; omega
    generalize l.length = n at *
    generalize m.length = n2 at *
    clear h h2 hff
    go_enter Tryz.func26, Tryz.ntmps26
    go_wp2
    go_ret
    exact ⟨rfl, Below.refl _ _⟩
end Go.Proofs.YtggcmkpafpjnoaaGreatDoor

/- Walks of package table's likeRow, of slices.EqualFunc at rows, and of Like. -/
namespace Go.Proofs.YtggcmkpafpjnoaaGreatDoor
set_option maxRecDepth 100000
open Go.RowKit Go.Shelf
attribute [local go_sem] Oper.semAt_some

def rowEq (x y : Tb.PR) : Bool := decide (x.m = y.m) && decide (x.r = y.r) && decide (x.p = y.p)
theorem rowEq_iff {x y : Tb.PR} : rowEq x y = true ↔ x = y := by
  cases x; cases y
  simp [rowEq, and_assoc]
def Smal (x : Tb.PR) : Prop := x.m.length ≤ 1000000 ∧ x.r.length ≤ 1000000 ∧ x.p.length ≤ 1000000
set_option maxHeartbeats 4000000 in
theorem likeRow_any {v0 v1 v2 u0 u1 u2 : Value} {x y : Tb.PR} (w : World) (h0 : IsInts w w.heap.size v0 x.m) (h1 : IsInts w w.heap.size v1 x.r) (h2 : IsInts w w.heap.size v2 x.p) (g0 : IsInts w w.heap.size u0 y.m) (g1 : IsInts w w.heap.size u1 y.r) (g2 : IsInts w w.heap.size u2 y.p) (hx : Smal x) (hy : Smal y) :
    Calls Tryz.prog 17 #[.agg #[v0, v1, v2], .agg #[u0, u1, u2]] w (Tells w (rowEq x y)) := by
  obtain ⟨A0, c0, rfl, r0, -⟩ := h0
  obtain ⟨A1, c1, rfl, r1, -⟩ := h1
  obtain ⟨A2, c2, rfl, r2, -⟩ := h2
  obtain ⟨B0, d0, rfl, s0, -⟩ := g0
  obtain ⟨B1, d1, rfl, s1, -⟩ := g1
  obtain ⟨B2, d2, rfl, s2, -⟩ := g2
  have e0 := fun W (hb : Below w.heap.size w W) => sEqual_any c0 d0 W ((r0.below hb).more hb.size) ((s0.below hb).more hb.size) hx.1 hy.1
  have e1 := fun W (hb : Below w.heap.size w W) => sEqual_any c1 d1 W ((r1.below hb).more hb.size) ((s1.below hb).more hb.size) hx.2.1 hy.2.1
  have e2 := fun W (hb : Below w.heap.size w W) => sEqual_any c2 d2 W ((r2.below hb).more hb.size) ((s2.below hb).more hb.size) hx.2.2 hy.2.2
  have hal : Below w.heap.size w ((w.alloc (.cells #[.slice A0 x.m.length c0, .slice A1 x.r.length c1, .slice A2 x.p.length c2] 43)).alloc (.cells #[.slice B0 y.m.length d0, .slice B1 y.r.length d1, .slice B2 y.p.length d2] 43)) := ((Below.refl _ w).alloc (Nat.le_refl _) _).alloc (by simp) _
  have hk0 := (Blk.new w 43 #[.slice A0 x.m.length c0, .slice A1 x.r.length c1, .slice A2 x.p.length c2]).alloc (.cells #[.slice B0 y.m.length d0, .slice B1 y.r.length d1, .slice B2 y.p.length d2] 43)
  have hk1 := Blk.new (w.alloc (.cells #[.slice A0 x.m.length c0, .slice A1 x.r.length c1, .slice A2 x.p.length c2] 43)) 43 #[.slice B0 y.m.length d0, .slice B1 y.r.length d1, .slice B2 y.p.length d2]
  rw [World.size_alloc] at hk1
  have hre : rowEq x y = (decide (x.m = y.m) && decide (x.r = y.r) && decide (x.p = y.p)) := rfl
  rw [hre]
  generalize decide (x.m = y.m) = b0 at *
  generalize decide (x.r = y.r) = b1 at *
  generalize decide (x.p = y.p) = b2 at *
  have E0 := Lib.hid (e0 _ hal)
  have E1 := Lib.hid e1
  have E2 := Lib.hid e2
  have HA := Lib.hid hal
  have HK0 := Lib.hid hk0
  have HK1 := Lib.hid hk1
  clear e0 e1 e2 hal hk0 hk1 r0 r1 r2 s0 s1 s2 hx hy hre
  cases b0 with
  | false =>
    go_enter Tryz.func17, Tryz.ntmps17
    go_wp2_with (fail)
    refine E0.out.mono ?_
    rintro e w1 ⟨rfl, hb1⟩
    have HB1 := Lib.hid (HA.out.trans (hb1.mono HA.out.size))
    clear hb1
    go_wp2
    go_ret
    exact ⟨rfl, HB1.out⟩
  | true =>
    cases b1 with
    | false =>
      go_enter Tryz.func17, Tryz.ntmps17
      go_wp2_with (fail)
      refine E0.out.mono ?_
      rintro e w1 ⟨rfl, hb1⟩
      have HB1 := Lib.hid (HA.out.trans (hb1.mono HA.out.size))
      have k0 := HK0.out.below hb1 HK0.out.lt
      have k1 := HK1.out.below hb1 HK1.out.lt
      have x1 := k0.cell 1
      have y1 := k1.cell 1
      have EE := Lib.hid (E1.out w1 HB1.out)
      clear hb1 k0 k1
      go_wp2_with (fail)
      refine EE.out.mono ?_
      rintro e w2 ⟨rfl, hb2⟩
      have HB2 := Lib.hid (HB1.out.trans (hb2.mono HB1.out.size))
      clear hb2
      go_wp2
      go_ret
      exact ⟨rfl, HB2.out⟩
    | true =>
      cases b2
      all_goals
        go_enter Tryz.func17, Tryz.ntmps17
        go_wp2_with (fail)
        refine E0.out.mono ?_
        rintro e w1 ⟨rfl, hb1⟩
        have HB1 := Lib.hid (HA.out.trans (hb1.mono HA.out.size))
        have k0 := HK0.out.below hb1 HK0.out.lt
        have k1 := HK1.out.below hb1 HK1.out.lt
        have x1 := k0.cell 1
        have y1 := k1.cell 1
        have EE := Lib.hid (E1.out w1 HB1.out)
        have K0 := Lib.hid k0
        have K1 := Lib.hid k1
        clear hb1 k0 k1
        go_wp2_with (fail)
        refine EE.out.mono ?_
        rintro e w2 ⟨rfl, hb2⟩
        have HB2 := Lib.hid (HB1.out.trans (hb2.mono HB1.out.size))
        have k0 := K0.out.below hb2 K0.out.lt
        have k1 := K1.out.below hb2 K1.out.lt
        have x2 := k0.cell 2
        have y2 := k1.cell 2
        have EF := Lib.hid (E2.out w2 HB2.out)
        clear hb2 k0 k1 x1 y1
        go_wp2_with (fail)
        refine EF.out.mono ?_
        rintro e w3 ⟨rfl, hb3⟩
        have HB3 := Lib.hid (HB2.out.trans (hb3.mono HB2.out.size))
        clear hb3
        go_wp2
        go_ret
        exact ⟨rfl, HB3.out⟩
set_option maxHeartbeats 8000000 in
theorem eqFunc_any {A B : Option Addr} {l m : List Tb.PR} (c d : Nat) (w : World) (h : RowsIn w w.heap.size A l) (h2 : RowsIn w w.heap.size B m) (hs : ∀ x ∈ l, Smal x) (ht : ∀ x ∈ m, Smal x) (hl : l.length ≤ 1000000) :
    Calls Tryz.prog 16 #[.slice A l.length c, .slice B m.length d, .func (.func 17) #[] #[]] w (Tells w (decide (l = m))) := by
  by_cases hn : l.length = m.length
  · obtain ⟨res, hres⟩ : ∃ res, decide (l = m) = res := ⟨_, rfl⟩
    rw [hres]
    have HRES := Lib.hid hres
    have H := Lib.hid h
    have H2 := Lib.hid h2
    have HS := Lib.hid hs
    have HT := Lib.hid ht
    obtain ⟨n, hnl⟩ : ∃ n, l.length = n := ⟨_, rfl⟩
    have hnm : m.length = n := by omega
    have HNL := Lib.hid hnl
    have HNM := Lib.hid hnm
    rw [hnm, hnl]
    have hnb : n ≤ 1000000 := by omega
    have hen : ∀ args W, (callFunc 17 args).run Tryz.prog W = .ok (.enter 17 args) W := Tryz.call17
    clear hres h h2 hn hnl hnm hl hs ht
    go_enter Tryz.func16, Tryz.ntmps16
    go_wp2
    go_loopw [17] (fun i wr => ∃ (k : Nat), k ≤ n ∧ i = .int .i64 k ∧ Hid (Below w.heap.size w wr) ∧ Hid (∀ j, j < k → l[j]? = m[j]?)) (fun i _ => n - (intOf i).toNat)
    case atStart => exact ⟨0, Nat.zero_le _, rfl, Lib.hid (Below.refl _ _), Lib.hid fun j hj => absurd hj (by omega)⟩
    case round =>
      obtain ⟨k, hk, rfl, HB, HK⟩ := hrel
      by_cases hlt : k < n
      · obtain ⟨ad, p0, p1, p2, hA, hb, c0, c1, c2, i0, i1, i2⟩ := (H.out.below HB.out).at_ (show k < l.length by rw [HNL.out]; exact hlt)
        obtain ⟨bd, q0, q1, q2, hB, hb2, e0, e1, e2, j0, j1, j2⟩ := (H2.out.below HB.out).at_ (show k < m.length by rw [HNM.out]; exact hlt)
        have hx : l[k]? = some (l[k]'(by rw [HNL.out]; exact hlt)) := List.getElem?_eq_getElem _
        have hy : m[k]? = some (m[k]'(by rw [HNM.out]; exact hlt)) := List.getElem?_eq_getElem _
        have hsx : Smal (l[k]'(by rw [HNL.out]; exact hlt)) := HS.out _ (List.getElem_mem _)
        have hsy : Smal (m[k]'(by rw [HNM.out]; exact hlt)) := HT.out _ (List.getElem_mem _)
        subst hA hB
        generalize l[k]'(by rw [HNL.out]; exact hlt) = x at *
        generalize m[k]'(by rw [HNM.out]; exact hlt) = y at *
        have hz1 := HB.out.size
        have hba : Below w.heap.size w ((wr.alloc (.cells #[p0, p1, p2] 43)).alloc (.cells #[q0, q1, q2] 43)) := (HB.out.alloc hz1 _).alloc (by simp; omega) _
        have hbr : Below w.heap.size wr ((wr.alloc (.cells #[p0, p1, p2] 43)).alloc (.cells #[q0, q1, q2] 43)) := ((Below.refl _ wr).alloc hz1 _).alloc (by simp; omega) _
        have hlr := likeRow_any _ ((i0.below hbr).more hba.size) ((i1.below hbr).more hba.size) ((i2.below hbr).more hba.size) ((j0.below hbr).more hba.size) ((j1.below hbr).more hba.size) ((j2.below hbr).more hba.size) hsx hsy
        have hp0 : (ad.add (k * 3)).block < wr.heap.size := by rw [add_block]; omega
        have hq0 : (bd.add (k * 3)).block < wr.heap.size := by rw [add_block]; omega
        obtain ⟨b, hbq⟩ : ∃ b, rowEq x y = b := ⟨_, rfl⟩
        rw [hbq] at hlr
        have HLR := Lib.hid hlr
        have HBA := Lib.hid hba
        have HBQ := Lib.hid hbq
        have HXY := Lib.hid (And.intro hx hy)
        obtain ⟨Y0, m0, rfl, -, -⟩ := i0
        obtain ⟨Y1, m1, rfl, -, -⟩ := i1
        obtain ⟨Y2, m2, rfl, -, -⟩ := i2
        obtain ⟨Z0, n0, rfl, -, -⟩ := j0
        obtain ⟨Z1, n1, rfl, -, -⟩ := j1
        obtain ⟨Z2, n2, rfl, -, -⟩ := j2
        clear hx hy hsx hsy hba hbr hlr hbq
        go_wp2_with (fail)
        refine HLR.out.mono ?_
        rintro e w3 ⟨rfl, hb3⟩
        have HB3 := Lib.hid (HBA.out.trans (hb3.mono HBA.out.size))
        clear hb3
        cases b
        · have hff : res = false := by
            rw [← HRES.out]
            refine decide_eq_false fun e => ?_
            subst e
            have := HXY.out.1.symm.trans HXY.out.2
            injection this with this
            have := rowEq_iff.2 this
            rw [HBQ.out] at this
            cases this
          have HFF := Lib.hid hff
          clear hff
          go_wp2
          go_ret
          exact ⟨by rw [HFF.out]; rfl, HB3.out⟩
        · have HNX : Hid (∀ j, j < k + 1 → l[j]? = m[j]?) := Lib.hid fun j hj => by
            by_cases e : j = k
            · subst e; rw [HXY.out.1, HXY.out.2, rowEq_iff.1 HBQ.out]
            · exact HK.out j (by omega)
          go_wp2
          go_roundw
          case rel => exact ⟨k + 1, by omega, by go_num, HB3, HNX⟩
          case measure => simp [intOf]; omega
      · obtain rfl : k = n := by omega
        have htt : res = true := by
          rw [← HRES.out]
          exact decide_eq_true (take_all_eq (by rw [HNL.out, HNM.out]) (by rw [HNL.out]; exact HK.out))
        have HTT := Lib.hid htt
        clear htt
        go_wp2
        go_ret
        exact ⟨by rw [HTT.out]; rfl, HB.out⟩
  · have hff : decide (l = m) = false := decide_eq_false fun e => hn (by rw [e])
    rw [hff]
    have h1 : ((l.length : Int) != (m.length : Int)) = true := by rw [bne_iff_ne]; omega
    generalize l.length = n at *
    generalize m.length = n2 at *
    clear h h2 hff
    go_enter Tryz.func16, Tryz.ntmps16
    go_wp2
    go_ret
    exact ⟨rfl, Below.refl _ _⟩
set_option maxHeartbeats 2000000 in
theorem tLike_any {A B : Option Addr} {l m : List Tb.PR} (c d : Nat) (w : World) (h : RowsIn w w.heap.size A l) (h2 : RowsIn w w.heap.size B m) (hs : ∀ x ∈ l, Smal x) (ht : ∀ x ∈ m, Smal x) (hl : l.length ≤ 1000000) :
    Calls Tryz.prog 7 #[.agg #[.slice A l.length c], .agg #[.slice B m.length d]] w (Tells w (decide (l = m))) := by
  have hal : Below w.heap.size w ((w.alloc (.cells #[.slice A l.length c] 24)).alloc (.cells #[.slice B m.length d] 24)) := ((Below.refl _ w).alloc (Nat.le_refl _) _).alloc (by simp) _
  have hef := eqFunc_any c d _ ((h.below hal).more hal.size) ((h2.below hal).more hal.size) hs ht hl
  obtain ⟨b, hbe⟩ : ∃ b, decide (l = m) = b := ⟨_, rfl⟩
  rw [hbe] at hef ⊢
  have HEF := Lib.hid hef
  have HA := Lib.hid hal
  clear hef hal h h2 hs ht hl hbe
  go_enter Tryz.func7, Tryz.ntmps7
  go_wp2_with (fail)
  refine HEF.out.mono ?_
  rintro e w1 ⟨rfl, hb1⟩
  have HB1 := Lib.hid (HA.out.trans (hb1.mono HA.out.size))
  clear hb1
  go_wp2
  go_ret
  exact ⟨rfl, HB1.out⟩
end Go.Proofs.YtggcmkpafpjnoaaGreatDoor
