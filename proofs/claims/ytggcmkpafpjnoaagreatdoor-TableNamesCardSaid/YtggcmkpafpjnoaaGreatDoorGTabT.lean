/- The walk of the reference's Like. -/
import Derived.Lib.QuietBelow
import Derived.Test.YtggcmkpafpjnoaaGreatDoorGTabC
import Derived.Test.YtggcmkpafpjnoaaGreatDoorGRulD
namespace Go.Proofs.YtggcmkpafpjnoaaGreatDoor
set_option maxRecDepth 100000
open Go.RowKit Go.Shelf Go.Sort
attribute [local go_sem] Oper.semAt_some

/-- A region's operations, behind a name: what is settled ahead is then not run by the unifier. -/
theorem quiet_hide {P : Program} {C : World → Prop} {Q : Act → Prop} {l : List Oper} {a : Act} (h : ∀ ops, ops = l.toArray → wpQuiet P ops C Q l a) : wpQuiet P l.toArray C Q l a := h _ rfl
theorem row_eq {x y : Tb.PR} : x = y ↔ x.m = y.m ∧ x.r = y.r ∧ x.p = y.p := by
  cases x; cases y
  simp
theorem rLike_len {A A2 : Option Addr} {l l2 : List Tb.PR} (c c2 : Nat) (w : World) (hl : l.length ≠ l2.length) : Calls Tryz.prog 11 #[.agg #[.slice A l.length c], .agg #[.slice A2 l2.length c2]] w (Tells w false) := by
  have h1 : ((l.length : Int) != (l2.length : Int)) = true := by rw [bne_iff_ne]; omega
  generalize l.length = n at *
  generalize l2.length = n2 at *
  go_enter Tryz.func11, Tryz.ntmps11
  go_wp2
  go_ret
  exact ⟨rfl, ((Below.refl _ w).alloc (Nat.le_refl _) _).alloc (by simp) _⟩
/-- What holds at the head of a round of Like. -/
structure LikeIn (w : World) (A A2 : Option Addr) (n c n2 c2 : Nat) (l l2 : List Tb.PR) (k : Nat) (W : World) : Prop where
  below : Below w.heap.size w W
  k0 : Blk W w.heap.size 24 #[.slice A n c]
  k1 : Blk W (w.heap.size + 1) 24 #[.slice A2 n2 c2]
  same : ∀ j, j < k → l[j]? = l2[j]?
set_option maxHeartbeats 8000000 in
theorem rLike_any {A A2 : Option Addr} {l l2 : List Tb.PR} (c c2 : Nat) (w : World) (h : RowsIn w w.heap.size A l) (h2 : RowsIn w w.heap.size A2 l2) (hs : ∀ x ∈ l, ∀ k, (x.nth k).length ≤ 100000) (hl : l.length = l2.length) (hbd : l.length ≤ 100000) : Calls Tryz.prog 11 #[.agg #[.slice A l.length c], .agg #[.slice A2 l2.length c2]] w (Tells w (decide (l = l2))) := by
  have hal : Below w.heap.size w ((w.alloc (.cells #[.slice A l.length c] 24)).alloc (.cells #[.slice A2 l2.length c2] 24)) := ((Below.refl _ w).alloc (Nat.le_refl _) _).alloc (by simp) _
  have hk0 := (Blk.new w 24 #[.slice A l.length c]).alloc (.cells #[.slice A2 l2.length c2] 24)
  have hk1 := Blk.new (w.alloc (.cells #[.slice A l.length c] 24)) 24 #[.slice A2 l2.length c2]
  rw [World.size_alloc] at hk1
  have HIN := Lib.hid (show LikeIn w A A2 l.length c l2.length c2 l l2 0 _ from ⟨hal, hk0, hk1, fun j hj => absurd hj (by omega)⟩)
  obtain ⟨n, hn⟩ : ∃ n, l.length = n := ⟨_, rfl⟩
  have hn2 : l2.length = n := by omega
  have hnb : n ≤ 100000 := by omega
  have H := Lib.hid h
  have H2 := Lib.hid h2
  have HS := Lib.hid hs
  obtain ⟨res, hres⟩ : ∃ res, decide (l = l2) = res := ⟨_, rfl⟩
  rw [hres, hn, hn2]
  rw [hn, hn2] at HIN
  have HRES := Lib.hid hres
  clear hal hk0 hk1 h h2 hs hres
  go_enter Tryz.func11, Tryz.ntmps11
  go_wp2
  go_loopw [16] (fun i wr => ∃ (k : Nat), k ≤ n ∧ i = .int .i64 k ∧ Hid (LikeIn w A A2 n c n c2 l l2 k wr)) (fun i _ => n - (intOf i).toNat)
  case atStart => exact ⟨0, Nat.zero_le _, rfl, HIN⟩
  case round =>
    obtain ⟨k, hk, rfl, HP⟩ := hrel
    by_cases hlt : k < n
    · have hk1 : k < l.length := by omega
      have hk2 : k < l2.length := by omega
      obtain ⟨ad, a0, a1, a2, rfl, hb, c0', c1', c2', i0, i1, i2⟩ := (H.out.below HP.out.below).at_ hk1
      obtain ⟨ad2, f0, f1, f2, rfl, hb2, d0', d1', d2', j0, j1, j2⟩ := (H2.out.below HP.out.below).at_ hk2
      obtain ⟨B0, e0, rfl, r0, -⟩ := i0
      obtain ⟨B1, e1, rfl, r1, -⟩ := i1
      obtain ⟨B2, e2, rfl, r2, -⟩ := i2
      obtain ⟨D0, g0, rfl, s0, -⟩ := j0
      obtain ⟨D1, g1, rfl, s1, -⟩ := j1
      obtain ⟨D2, g2, rfl, s2, -⟩ := j2
      have hz := HP.out.below.size
      have hss := HS.out _ (List.getElem_mem hk1)
      have hx0 : l[k]? = some l[k] := List.getElem?_eq_getElem hk1
      have hy0 : l2[k]? = some l2[k] := List.getElem?_eq_getElem hk2
      have HX0 := Lib.hid hx0
      have HY0 := Lib.hid hy0
      clear hx0 hy0
      generalize l[k] = x at *
      generalize l2[k] = y at *
      have S0 := Lib.hid (fun W (hB : Below wr.heap.size wr W) => rRSame_any e0 g0 W ((r0.below (hB.mono hz)).more (Nat.le_trans hz hB.size)) ((s0.below (hB.mono hz)).more (Nat.le_trans hz hB.size)) (hss 0))
      have S1 := Lib.hid (fun W (hB : Below wr.heap.size wr W) => rRSame_any e1 g1 W ((r1.below (hB.mono hz)).more (Nat.le_trans hz hB.size)) ((s1.below (hB.mono hz)).more (Nat.le_trans hz hB.size)) (hss 1))
      have S2 := Lib.hid (fun W (hB : Below wr.heap.size wr W) => rRSame_any e2 g2 W ((r2.below (hB.mono hz)).more (Nat.le_trans hz hB.size)) ((s2.below (hB.mono hz)).more (Nat.le_trans hz hB.size)) (hss 2))
      have hall : x = y ↔ (decide (x.m = y.m) && (decide (x.r = y.r) && decide (x.p = y.p))) = true := by rw [row_eq]; simp
      have HALL := Lib.hid hall
      clear r0 r1 r2 s0 s1 s2 hss hall
      generalize decide (x.m = y.m) = q0 at *
      generalize decide (x.r = y.r) = q1 at *
      generalize decide (x.p = y.p) = q2 at *
      generalize x.m.length = u0 at *
      generalize x.r.length = u1 at *
      generalize x.p.length = u2 at *
      generalize y.m.length = v0 at *
      generalize y.r.length = v1 at *
      generalize y.p.length = v2 at *
      have k0 : wr.cell? ⟨w.heap.size, 0, none⟩ = some (.slice (some ad) n c) := HP.out.k0.cell 0
      have k1 : wr.cell? ⟨w.heap.size + 1, 0, none⟩ = some (.slice (some ad2) n c2) := HP.out.k1.cell 0
      have gk0 := fun d os => cell_regrown k0 d os
      have gk1 := fun d os => cell_regrown k1 d os
      have gc0 := fun d os => cell_regrown c0' d os
      have gc1 := fun d os => cell_regrown c1' d os
      have gc2 := fun d os => cell_regrown c2' d os
      have gd0 := fun d os => cell_regrown d0' d os
      have gd1 := fun d os => cell_regrown d1' d os
      have gd2 := fun d os => cell_regrown d2' d os
      have hltI : (k : Int) < (n : Int) := by omega
      go_wp2
      refine wp_region_quiet_below (by kernel_rfl) (by kernel_rfl) ?_
      refine quiet_hide fun ops hops => ?_
      have hy14 : (ops[14]?.bind fun x => x.dst) = some 33 := by rw [hops]; rfl
      have hy30 : (ops[30]?.bind fun x => x.dst) = some 49 := by rw [hops]; rfl
      clear hops
      iterate 15 (quiet_step ((go_at_call 23; first | (with_reducible exact Calls.regrown_of (S0.out _ (below_regrown _ _ _))) | (with_reducible exact Calls.regrown_of (S1.out _ (below_regrown _ _ _))) | (with_reducible exact Calls.regrown_of (S2.out _ (below_regrown _ _ _))))))
      generalize hp0 : (!q0) = p0
      have HQ0 := Lib.hid hp0
      clear hp0
      cases p0
      · iterate 16 (quiet_step ((go_at_call 23; first | (with_reducible exact Calls.regrown_of (S0.out _ (below_regrown _ _ _))) | (with_reducible exact Calls.regrown_of (S1.out _ (below_regrown _ _ _))) | (with_reducible exact Calls.regrown_of (S2.out _ (below_regrown _ _ _))))))
        generalize hp1 : (!q1) = p1
        have HQ1 := Lib.hid hp1
        clear hp1
        cases p1
        · iterate 14 (quiet_step ((go_at_call 23; first | (with_reducible exact Calls.regrown_of (S0.out _ (below_regrown _ _ _))) | (with_reducible exact Calls.regrown_of (S1.out _ (below_regrown _ _ _))) | (with_reducible exact Calls.regrown_of (S2.out _ (below_regrown _ _ _))))))
          generalize hp2 : (!q2) = p2
          have HQ2 := Lib.hid hp2
          clear hp2
          cases p2
          · repeat (quiet_step ((go_at_call 23; first | (with_reducible exact Calls.regrown_of (S0.out _ (below_regrown _ _ _))) | (with_reducible exact Calls.regrown_of (S1.out _ (below_regrown _ _ _))) | (with_reducible exact Calls.regrown_of (S2.out _ (below_regrown _ _ _))))))
            refine wpQuiet_nil ?_
            rintro _ ⟨⟨d, os⟩, rfl⟩
            have hxy : x = y := HALL.out.2 (by
              have h0 := HQ0.out
              have h1 := HQ1.out
              have h2 := HQ2.out
              simp only [Bool.not_eq_false'] at h0 h1 h2
              rw [h0, h1, h2]
              rfl)
            have HN := Lib.hid (show LikeIn w (some ad) (some ad2) n c n c2 l l2 (k + 1) (grow (redrawn wr d) os) from ⟨HP.out.below.trans ((below_regrown wr d os).mono hz), HP.out.k0.below (below_regrown wr d os) HP.out.k0.lt, HP.out.k1.below (below_regrown wr d os) HP.out.k1.lt, fun j hj => by
              by_cases e : j = k
              · subst e; rw [HX0.out, HY0.out, hxy]
              · exact HP.out.same j (by omega)⟩)
            clear gk0 gk1 gc0 gc1 gc2 gd0 gd1 gd2 hxy
            go_wp2
            go_roundw
            case rel => exact ⟨k + 1, by omega, by go_num, HN⟩
            case measure => simp [intOf]; omega
          · repeat (quiet_step ((go_at_call 23; first | (with_reducible exact Calls.regrown_of (S0.out _ (below_regrown _ _ _))) | (with_reducible exact Calls.regrown_of (S1.out _ (below_regrown _ _ _))) | (with_reducible exact Calls.regrown_of (S2.out _ (below_regrown _ _ _))))))
            refine wpQuiet_nil ?_
            rintro _ ⟨⟨d, os⟩, rfl⟩
            have HN := Lib.hid (show res = false from HRES.out.symm.trans (decide_eq_false fun e => by
              have hxy : x = y := by
                have := HX0.out
                rw [e, HY0.out] at this
                injection this with this
                exact this.symm
              have h1 := HALL.out.1 hxy
              have h2 := HQ2.out
              simp only [Bool.and_eq_true] at h1
              simp [h1] at h2))
            have HB := Lib.hid (HP.out.below.trans ((below_regrown wr d os).mono hz))
            clear gk0 gk1 gc0 gc1 gc2 gd0 gd1 gd2
            go_wp2
            go_ret
            rw [HN.out]
            exact ⟨rfl, HB.out⟩
        · repeat (quiet_step ((go_at_call 23; first | (with_reducible exact Calls.regrown_of (S0.out _ (below_regrown _ _ _))) | (with_reducible exact Calls.regrown_of (S1.out _ (below_regrown _ _ _))) | (with_reducible exact Calls.regrown_of (S2.out _ (below_regrown _ _ _))))))
          refine wpQuiet_nil ?_
          rintro _ ⟨⟨d, os⟩, rfl⟩
          have HN := Lib.hid (show res = false from HRES.out.symm.trans (decide_eq_false fun e => by
            have hxy : x = y := by
              have := HX0.out
              rw [e, HY0.out] at this
              injection this with this
              exact this.symm
            have h1 := HALL.out.1 hxy
            have h2 := HQ1.out
            simp only [Bool.and_eq_true] at h1
            simp [h1] at h2))
          have HB := Lib.hid (HP.out.below.trans ((below_regrown wr d os).mono hz))
          clear gk0 gk1 gc0 gc1 gc2 gd0 gd1 gd2
          go_wp2
          go_ret
          rw [HN.out]
          exact ⟨rfl, HB.out⟩
      · repeat (quiet_step ((go_at_call 23; first | (with_reducible exact Calls.regrown_of (S0.out _ (below_regrown _ _ _))) | (with_reducible exact Calls.regrown_of (S1.out _ (below_regrown _ _ _))) | (with_reducible exact Calls.regrown_of (S2.out _ (below_regrown _ _ _))))))
        refine wpQuiet_nil ?_
        rintro _ ⟨⟨d, os⟩, rfl⟩
        have HN := Lib.hid (show res = false from HRES.out.symm.trans (decide_eq_false fun e => by
          have hxy : x = y := by
            have := HX0.out
            rw [e, HY0.out] at this
            injection this with this
            exact this.symm
          have h1 := HALL.out.1 hxy
          have h2 := HQ0.out
          simp only [Bool.and_eq_true] at h1
          simp [h1] at h2))
        have HB := Lib.hid (HP.out.below.trans ((below_regrown wr d os).mono hz))
        clear gk0 gk1 gc0 gc1 gc2 gd0 gd1 gd2
        go_wp2
        go_ret
        rw [HN.out]
        exact ⟨rfl, HB.out⟩
    · obtain rfl : k = n := by omega
      have he : l = l2 := List.ext_getElem? fun j => by
        by_cases hj : j < k
        · exact HP.out.same j hj
        · rw [List.getElem?_eq_none (by omega), List.getElem?_eq_none (by omega)]
      have HR := Lib.hid (HRES.out.symm.trans (decide_eq_true he))
      clear he
      go_wp2
      go_ret
      rw [HR.out]
      exact ⟨rfl, HP.out.below⟩
end Go.Proofs.YtggcmkpafpjnoaaGreatDoor
