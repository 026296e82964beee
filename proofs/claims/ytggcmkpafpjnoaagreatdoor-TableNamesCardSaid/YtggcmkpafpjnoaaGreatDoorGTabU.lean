/- The walk of the laws' few: a table, cut. -/
import Derived.Deep.RegionLaw
import Derived.Maps.AppendAt
import Derived.Test.YtggcmkpafpjnoaaGreatDoorGTabC
import Derived.Test.YtggcmkpafpjnoaaGreatDoorGShoB
import Derived.Test.YtggcmkpafpjnoaaGreatDoorGFree
namespace Go.Proofs.YtggcmkpafpjnoaaGreatDoor
set_option maxRecDepth 100000
open Go.RowKit Go.Shelf
attribute [local go_sem] Oper.semAt_some

theorem Tryz.infoRow : (Tryz.prog.info? 43).map (fun i => (i.zero, i.size, i.bytes)) = some (some (.agg #[.slice none 0 0, .slice none 0 0, .slice none 0 0]), 3, 72) := by kernel_rfl
def cutR6 (x : Tb.PR) : Tb.PR := ⟨x.m.take 45, x.r.take 45, x.p.take 45⟩
def fewT (l : List Tb.PR) : List Tb.PR := (l.take 15).map cutR6
theorem fewT_small (l : List Tb.PR) : ∀ x ∈ fewT l, Small x := fun x hx k => by
  obtain ⟨y, _, rfl⟩ := List.mem_map.1 hx
  unfold Tb.PR.nth cutR6
  by_cases e0 : k = 0
  · rw [if_pos e0]; simp; omega
  · rw [if_neg e0]
    by_cases e1 : k = 1
    · rw [if_pos e1]; simp; omega
    · rw [if_neg e1]; simp; omega
/-- A row's numbers, cut. -/
theorem ints_cut {w : World} {B : Nat} {A : Option Addr} {l : List Int} {n d m : Nat} (h : Row w B A (ints l)) (hn : n = l.length) (hm : m = (l.take 45).length) (hd : n ≤ d) : IsInts w B (.slice A m d) (l.take 45) := by
  subst hm
  refine ⟨A, d, rfl, ?_, by rw [List.length_take]; omega⟩
  have := h.take 45
  rwa [show (ints l).take 45 = ints (l.take 45) by simp [ints, List.map_take]] at this
/-- What few has made so far. -/
def FewIn (w : World) (l : List Tb.PR) (k : Nat) (vs : List Value) : Prop :=
  vs.length = k * 3 ∧ ∀ j x, j < k → l[j]? = some x → ∃ a0 a1 a2, vs[j * 3]? = some a0 ∧ vs[j * 3 + 1]? = some a1 ∧ vs[j * 3 + 2]? = some a2 ∧ IsInts w w.heap.size a0 (x.m.take 45) ∧ IsInts w w.heap.size a1 (x.r.take 45) ∧ IsInts w w.heap.size a2 (x.p.take 45)
theorem FewIn.next {w : World} {l : List Tb.PR} {k : Nat} {vs : List Value} (h : FewIn w l k vs) {x : Tb.PR} (hx : l[k]? = some x) {a0 a1 a2 : Value} (i0 : IsInts w w.heap.size a0 (x.m.take 45)) (i1 : IsInts w w.heap.size a1 (x.r.take 45)) (i2 : IsInts w w.heap.size a2 (x.p.take 45)) : FewIn w l (k + 1) (vs ++ [a0, a1, a2]) := by
  obtain ⟨h1, h2⟩ := h
  refine ⟨by simp; omega, fun j y hj hy => ?_⟩
  by_cases e : j = k
  · subst e
    rw [hx] at hy
    injection hy with hy
    subst hy
    refine ⟨a0, a1, a2, ?_, ?_, ?_, i0, i1, i2⟩
    · rw [List.getElem?_append_right (by omega), show j * 3 - vs.length = 0 by omega]; rfl
    · rw [List.getElem?_append_right (by omega), show j * 3 + 1 - vs.length = 1 by omega]; rfl
    · rw [List.getElem?_append_right (by omega), show j * 3 + 2 - vs.length = 2 by omega]; rfl
  · obtain ⟨b0, b1, b2, e0, e1, e2, r⟩ := h2 j y (by omega) hy
    exact ⟨b0, b1, b2, by rw [List.getElem?_append_left (by omega)]; exact e0, by rw [List.getElem?_append_left (by omega)]; exact e1, by rw [List.getElem?_append_left (by omega)]; exact e2, r⟩
theorem FewIn.rows {w W : World} {l : List Tb.PR} {N : Nat} {vs : List Value} {A : Option Addr} {c : Nat} (h : FewIn w l N vs) (hN : N = min l.length 15) (hb : Below w.heap.size w W) (hr : Row W W.heap.size A vs) (hc : N ≤ c) : IsTab W W.heap.size (.slice A N c) (fewT l) := by
  obtain ⟨h1, h2⟩ := h
  have hlen : (fewT l).length = N := by simp [fewT]; omega
  refine ⟨A, c, by rw [hlen], ⟨vs, by rw [hlen]; exact h1, hr, fun k x hx => ?_⟩, by rw [hlen]; exact hc⟩
  have hk : k < N := by rw [← hlen]; exact (List.getElem?_eq_some_iff.1 hx).1
  have hkl : k < l.length := by omega
  unfold fewT at hx
  rw [List.getElem?_map, List.getElem?_take, if_pos (by omega), List.getElem?_eq_getElem hkl] at hx
  injection hx with hx
  obtain ⟨a0, a1, a2, e0, e1, e2, i0, i1, i2⟩ := h2 k _ hk (List.getElem?_eq_getElem hkl)
  refine ⟨a0, a1, a2, e0, e1, e2, ?_, ?_, ?_⟩
  · rw [← hx]; exact (i0.below hb).more hb.size
  · rw [← hx]; exact (i1.below hb).more hb.size
  · rw [← hx]; exact (i2.below hb).more hb.size
theorem cells_new3 (w : World) (o : Obj) (a b c : Value) (t : TypeId) : ∀ j v, [a, b, c][j]? = some v → (((w.alloc o).alloc (.cells #[a, b, c] t)).drew).cell? ((⟨w.heap.size + 1, 0, none⟩ : Addr).add j) = some v := fun j v hv => by
  have := cells_new (w.alloc o) [a, b, c] t j v hv
  rw [World.size_alloc] at this
  exact this
theorem blk_grow1 {W W' : World} {o : Obj} {g : Nat} {t : TypeId} {cs : Array Value} {row : Option Nat} (hb : Blk W g t cs) (hne : some g ≠ row) (hgr : ((W.alloc o).drew).grownBy W' row) : Blk W' g t cs :=
  (hgr.block g (hb.alloc o).lt hne).trans (hb.alloc o)
theorem row_s {W : World} {g : Nat} {t : TypeId} {a0 a1 a2 : Value} (h : Blk W g t #[a0, a1, a2]) : Blk W g t #[a0, a1, a2] ∧ W.cell? ⟨g, 0, none⟩ = some a0 ∧ W.cell? ⟨g, 1, none⟩ = some a1 ∧ W.cell? ⟨g, 2, none⟩ = some a2 := ⟨h, h.cell 0, h.cell 1, h.cell 2⟩
/-- A cut table is answered. -/
def Cut (w : World) (l : List Tb.PR) (e : Ending) (w' : World) : Prop := ∃ v, e = .returned (.agg #[v]) ∧ IsTab w' w'.heap.size v (fewT l) ∧ Below w.heap.size w w'
set_option maxHeartbeats 8000000 in
theorem few6_any {A : Option Addr} {l : List Tb.PR} (c : Nat) (w : World) (h : RowsIn w w.heap.size A l) (hc : l.length ≤ c) (hm : c ≤ maxLen) :
    Calls Tryz.prog 4 #[.agg #[.slice A l.length c]] w (Cut w l) := by
  unfold maxLen at hm
  obtain ⟨N, hN⟩ : ∃ N, min l.length 15 = N := ⟨_, rfl⟩
  have hmin : min (l.length : Int) 15 = (N : Int) := by omega
  have hmax : max (N : Int) 0 = (N : Int) := by omega
  have hNc : N ≤ c := by omega
  have hN15 : N ≤ 15 := by omega
  have hNl : N ≤ l.length := by omega
  have hst1 := (Blk.new (w.alloc (.cells #[.slice A l.length c] 24)) 24 #[.slice none 0 0]).alloc (.cells #[.slice none 0 0] 24)
  have hst2 := Blk.new ((w.alloc (.cells #[.slice A l.length c] 24)).alloc (.cells #[.slice none 0 0] 24)) 24 #[.slice none 0 0]
  have hB0 : Below w.heap.size w (((w.alloc (.cells #[.slice A l.length c] 24)).alloc (.cells #[.slice none 0 0] 24)).alloc (.cells #[.slice none 0 0] 24)) := (((Below.refl _ w).alloc (Nat.le_refl _) _).alloc (by simp) _).alloc (by simp; omega) _
  have hz3 : (((w.alloc (.cells #[.slice A l.length c] 24)).alloc (.cells #[.slice none 0 0] 24)).alloc (.cells #[.slice none 0 0] 24)).heap.size = w.heap.size + 3 := by simp
  rw [World.size_alloc] at hst1
  rw [World.size_alloc, World.size_alloc] at hst2
  obtain ⟨i0, hi, hz0, hz1, hz2⟩ := info_parts Tryz.infoRow
  have H := Lib.hid h
  have H1 := Lib.hid hst1
  have H2 := Lib.hid hst2
  have HB0 := Lib.hid hB0
  have HZ3 := Lib.hid hz3
  have HN := Lib.hid hN.symm
  clear h hst1 hst2 hB0 hz3 hN
  go_enter Tryz.func4, Tryz.ntmps4
  go_wp2
  go_loopw [14] (fun i wr => ∃ (k : Nat) (An : Option Addr) (cn : Nat) (vs : List Value), k ≤ N ∧ i = .int .i64 k ∧ Blk wr (w.heap.size + 1) 24 #[.slice none 0 0] ∧ Blk wr (w.heap.size + 1 + 1) 24 #[.slice An k cn] ∧ wr.ownsRow (w.heap.size + 3) 43 3 (.slice An k cn) k vs ∧ w.heap.size + 3 ≤ wr.heap.size ∧ Hid (Below w.heap.size w wr) ∧ Hid (FewIn w l k vs)) (fun i _ => N - (intOf i).toNat)
  case atStart => exact ⟨0, none, 0, [], Nat.zero_le _, rfl, H1.out, H2.out, World.ownsRow_nil _ _ _ _, by rw [HZ3.out]; exact Nat.le_refl _, HB0, Lib.hid ⟨rfl, fun j x hj => absurd hj (by omega)⟩⟩
  case round =>
    obtain ⟨k, An, cn, vs, hk, rfl, hb1, hb2, hown, hsz, HB, HF⟩ := hrel
    clear H1 H2 HB0 HZ3
    have hl2 := hb2.lt
    have hf1 := hb1.frozen 0
    have hc1 : wr.cell? ⟨w.heap.size + 1, 0, none⟩ = some (.slice none 0 0) := by rw [hb1.cell]; rfl
    have hc2 : wr.cell? ⟨w.heap.size + 1 + 1, 0, none⟩ = some (.slice An k cn) := by rw [hb2.cell]; rfl
    by_cases hlt : k < N
    · have hkl : k < l.length := by omega
      have hlk : l[k]? = some l[k] := List.getElem?_eq_getElem hkl
      obtain ⟨ad, a0, a1, a2, rfl, hb, c0, c1, c2, i0', i1', i2'⟩ := H.out.at_ hkl
      have hadb : (ad.add (k * 3)).block < w.heap.size := by rw [add_block]; exact hb
      have d0 := (HB.out.cell hadb).trans c0
      have d1 := (HB.out.cell (p := ⟨(ad.add (k * 3)).block, (ad.add (k * 3)).off + 1, none⟩) hadb).trans c1
      have d2 := (HB.out.cell (p := ⟨(ad.add (k * 3)).block, (ad.add (k * 3)).off + 2, none⟩) hadb).trans c2
      obtain ⟨A0, e0, rfl, r0, k0⟩ := i0'
      obtain ⟨A1, e1, rfl, r1, k1⟩ := i1'
      obtain ⟨A2, e2, rfl, r2, k2⟩ := i2'
      clear c0 c1 c2
      have hnx := HF.out.next hlk (ints_cut (d := e0) r0 rfl rfl k0) (ints_cut (d := e1) r1 rfl rfl k1) (ints_cut (d := e2) r2 rfl rfl k2)
      obtain ⟨m0, hm0⟩ : ∃ m, (l[k].m.take 45).length = m := ⟨_, rfl⟩
      obtain ⟨m1, hm1⟩ : ∃ m, (l[k].r.take 45).length = m := ⟨_, rfl⟩
      obtain ⟨m2, hm2⟩ : ∃ m, (l[k].p.take 45).length = m := ⟨_, rfl⟩
      rw [hm0, hm1, hm2] at hnx
      rw [List.length_take] at hm0 hm1 hm2
      have HNX := Lib.hid hnx
      clear hnx hlk r0 r1 r2
      generalize l[k].m.length = n0 at *
      generalize l[k].r.length = n1 at *
      generalize l[k].p.length = n2 at *
      have q0 : min (n0 : Int) 45 = (m0 : Int) := by omega
      have q1 : min (n1 : Int) 45 = (m1 : Int) := by omega
      have q2 : min (n2 : Int) 45 = (m2 : Int) := by omega
      have p0 : m0 ≤ e0 := by omega
      have p1 : m1 ≤ e1 := by omega
      have p2 : m2 ≤ e2 := by omega
      clear hm0 hm1 hm2
      have hno : some (w.heap.size + 1 + 1) ≠ (Value.slice An k cn).ownBlock := fun he => by have := (hown.lt _ he.symm).1; omega
      have hno1 : some (w.heap.size + 1) ≠ (Value.slice An k cn).ownBlock := fun he => by have := (hown.lt _ he.symm).1; omega
      go_wp2
      obtain ⟨W, hW⟩ : ∃ W, wr.alloc (.cells #[.slice A0 n0 e0, .slice A1 n1 e1, .slice A2 n2 e2] 43) = W := ⟨_, rfl⟩
      have hbr : Blk W wr.heap.size 43 #[.slice A0 n0 e0, .slice A1 n1 e1, .slice A2 n2 e2] := hW ▸ Blk.new wr _ _
      have hb2W : Blk W (w.heap.size + 1 + 1) 24 #[.slice An k cn] := hW ▸ hb2.alloc _
      have hownW : W.ownsRow (w.heap.size + 3) 43 3 (.slice An k cn) k vs := hW ▸ hown.alloc _
      have hBW : Hid (Below w.heap.size w W) := hW ▸ Lib.hid (HB.out.alloc HB.out.size _)
      have hszW : W.heap.size = wr.heap.size + 1 := by rw [← hW]; simp
      have hnor : some wr.heap.size ≠ (Value.slice An k cn).ownBlock := fun he => by have := (hown.lt _ he.symm).2; omega
      have HSZ := Lib.hid hszW
      have HBR := Lib.hid hbr
      have HB2 := Lib.hid hb2W
      have HB1 : Hid (Blk W (w.heap.size + 1) 24 #[.slice none 0 0]) := hW ▸ Lib.hid (hb1.alloc _)
      have HOW := Lib.hid hownW
      have hlt2 : w.heap.size + 1 + 1 < W.heap.size := by omega
      have hcw : W.cell? ⟨w.heap.size + 1 + 1, 0, none⟩ = some (.slice An k cn) := hb2W.cell 0
      have hbase : w.heap.size + 3 ≤ W.heap.size := by omega
      rw [hW]
      clear hW hszW hbr hb2W hownW d0 d1 d2 hc1 hc2 hf1 hb1 hb2 hown hl2 hno hno1
      refine Free.region_seq [24, 25, 27] [1, 3, 5, 10, 12, 17, 19] 27 (fun W' => W'.cell? ⟨wr.heap.size, 0, none⟩ = some (.slice A0 n0 e0) ∧ W'.cell? ⟨wr.heap.size, 1, none⟩ = some (.slice A1 n1 e1) ∧ W'.cell? ⟨wr.heap.size, 2, none⟩ = some (.slice A2 n2 e2) ∧ W'.cell? ⟨w.heap.size + 1 + 1, 0, none⟩ = some (.slice An k cn)) (by kernel_rfl) (by kernel_rfl) (by kernel_rfl) (by kernel_rfl) ⟨HBR.out.cell 0, HBR.out.cell 1, HBR.out.cell 2, HB2.out.cell 0⟩ (fun ops hops => ?_)
      clear hops
      iterate 24
        refine Free.Seq.quiet (v := ?_) (a' := ?_) rfl rfl (fun W' hW' => ?_) ?_ ?_
        rotate_left 2
        · first | obtain ⟨s0, s1, s2, s3⟩ := hW' rfl | skip
          go_simp
          try with_reducible rfl
        · simp only [Act.put, List.setIfInBounds_toArray, List.set_cons_zero, List.set_cons_succ]
          try with_reducible rfl
      refine Free.Seq.loud_ rfl (.inl rfl) (fun K hK => ?_)
      go_simp
      refine hK.out _ _ rfl (fun _ => ⟨(HBR.out.alloc _).cell 0, (HBR.out.alloc _).cell 1, (HBR.out.alloc _).cell 2, (HB2.out.alloc _).cell 0⟩) ?_
      clear hK K
      refine Free.Seq.loud_ rfl (.inl rfl) (fun K hK => ?_)
      refine step_append_own2 rfl (.tmp 19) (.tmp 42) 22 rfl (w.heap.size + 3) 43 i0 (.agg #[.slice none 0 0, .slice none 0 0, .slice none 0 0]) 3 72 Tryz.underlying22 hi hz0 hz1 hz2 rfl (by decide) (.slice An k cn) k vs rfl (HOW.out.alloc _) ⟨W.heap.size, 0, none⟩ 1 1 [.slice A0 m0 e0, .slice A1 m1 e1, .slice A2 m2 e2] rfl rfl (cells_new W [.slice A0 m0 e0, .slice A1 m1 e1, .slice A2 m2 e2] 43) (by simp [Value.oneCell']) (by unfold maxLen; omega) (by omega) (by simp; omega) ?_
      intro v' w' hown' hgrow hob'
      obtain ⟨g', cap', rfl⟩ := ownsRow_succ hown'
      have hbr' := blk_grow1 HBR.out hnor hgrow
      have hb2' := blk_grow1 HB2.out (by intro he; have := (HOW.out.lt _ he.symm).1; omega) hgrow
      have hcz : w'.cell? ⟨w.heap.size + 1 + 1, 0, none⟩ = some (.slice An k cn) := hb2'.cell 0
      have hfz := hb2'.frozen 0
      refine hK.out _ _ rfl (fun _ => ⟨hbr'.cell 0, hbr'.cell 1, hbr'.cell 2, hcz⟩) ?_
      clear hK K
      iterate 1
        refine Free.Seq.quiet (v := ?_) (a' := ?_) rfl rfl (fun W' hW' => ?_) ?_ ?_
        rotate_left 2
        · first | obtain ⟨s0, s1, s2, s3⟩ := hW' rfl | skip
          go_simp
          try with_reducible rfl
        · simp only [Act.put, List.setIfInBounds_toArray, List.set_cons_zero, List.set_cons_succ]
          try with_reducible rfl
      refine Free.Seq.loud_ rfl (.inl rfl) (fun K hK => ?_)
      go_simp
      refine hK.out _ _ rfl (fun h => absurd h (by decide)) ?_
      clear hK K
      refine Free.Seq.nil_ ?_
      have hgs : w.heap.size + 3 ≤ w'.heap.size := by have := hgrow.size; simp [World.drew] at this; omega
      have hBg : Below w.heap.size w w' := ((hBW.out.alloc hBW.out.size _).drew).grown hgrow (by have := hBW.out.size; simp [World.drew]; omega) (fun k he => by have := (HOW.out.lt k he).1; omega)
      have HREL : Hid (∃ (k' : Nat) (An' : Option Addr) (cn' : Nat) (vs' : List Value), k' ≤ N ∧ Value.int .i64 ((k : Int) + 1) = .int .i64 k' ∧ k' = k + 1 ∧ Blk (w'.setCell ⟨w.heap.size + 1 + 1, 0, none⟩ (.slice (some ⟨g', 0, none⟩) (k + 1) cap')) (w.heap.size + 1) 24 #[.slice none 0 0] ∧ Blk (w'.setCell ⟨w.heap.size + 1 + 1, 0, none⟩ (.slice (some ⟨g', 0, none⟩) (k + 1) cap')) (w.heap.size + 1 + 1) 24 #[.slice An' k' cn'] ∧ (w'.setCell ⟨w.heap.size + 1 + 1, 0, none⟩ (.slice (some ⟨g', 0, none⟩) (k + 1) cap')).ownsRow (w.heap.size + 3) 43 3 (.slice An' k' cn') k' vs' ∧ w.heap.size + 3 ≤ (w'.setCell ⟨w.heap.size + 1 + 1, 0, none⟩ (.slice (some ⟨g', 0, none⟩) (k + 1) cap')).heap.size ∧ Hid (Below w.heap.size w (w'.setCell ⟨w.heap.size + 1 + 1, 0, none⟩ (.slice (some ⟨g', 0, none⟩) (k + 1) cap'))) ∧ Hid (FewIn w l k' vs')) := Lib.hid
        ⟨k + 1, some ⟨g', 0, none⟩, cap', _, by omega, by simp, rfl, (blk_grow1 HB1.out (by intro he; have := (HOW.out.lt _ he.symm).1; omega) hgrow).other (p := ⟨w.heap.size + 1 + 1, 0, none⟩) (by simp) _, hb2'.set_ 0 _, ownsRow_setCell_below hown' (by simp) _, by simpa [World.setCell] using hgs, Lib.hid (hBg.setCell (p := ⟨w.heap.size + 1 + 1, 0, none⟩) (by simp; omega) _), HNX⟩
      clear hgs hBg hcz hfz hb2' hown' hgrow hob' hlt2 hcw
      go_wp2
      go_roundw
      case rel =>
        obtain ⟨k', An', cn', vs', h1, h2, rfl, h4, h5, h6, h7, h8, h9⟩ := HREL.out
        exact ⟨k + 1, An', cn', vs', h1, by go_num, h4, h5, h6, h7, h8, h9⟩
      case measure => simp [intOf]; omega
    · obtain rfl : k = N := by omega
      have hB2 := HB.out.setCell (p := ⟨w.heap.size + 1, 0, none⟩) (by simp) (.slice An k cn)
      have hown2 := ownsRow_setCell_below hown (a := ⟨w.heap.size + 1, 0, none⟩) (by simp) (.slice An k cn)
      have hrw := ownT_row hown2
      have htab := HF.out.rows HN.out hB2 hrw.1 hrw.2
      have HT := Lib.hid htab
      have HB2 := Lib.hid hB2
      have hcell : (wr.setCell ⟨w.heap.size + 1, 0, none⟩ (.slice An k cn)).cell? ⟨w.heap.size + 1, 0, none⟩ = some (.slice An k cn) := (hb1.set_ 0 _).cell 0
      clear htab hB2 hown2 hrw
      go_wp2
      exact bodyPost_ret (v := .agg #[.slice An k cn]) (by simp [results, Tryz.results4, go_sem, hcell]) rfl ⟨_, rfl, HT.out, HB2.out⟩
end Go.Proofs.YtggcmkpafpjnoaaGreatDoor
