/- The walk of Text. -/
import Derived.Test.YtggcmkpafpjnoaaGreatDoorGTabE
import Derived.Test.YtggcmkpafpjnoaaGreatDoorGTabS
namespace Go.Proofs.YtggcmkpafpjnoaaGreatDoor
set_option maxRecDepth 100000
open Go.RowKit Go.Shelf Go.Sort
attribute [local go_sem] Oper.semAt_some

namespace Tb
def trees (l : List PR) : List Row := l.mapIdx rowOf
def text (l : List PR) : ByteArray × Nat := if (check l).2 = 0 then (if l.all PR.flat = true then (Lx.pack (allTxt (trees l)), 0) else (ByteArray.empty, 5)) else (ByteArray.empty, (check l).2)
theorem trees_next {l : List PR} {k : Nat} (h : k < l.length) : trees (l.take (k + 1)) = trees (l.take k) ++ [rowOf k l[k]] := by
  unfold trees
  rw [List.take_succ_eq_append_getElem h, List.mapIdx_concat, List.length_take, Nat.min_eq_left (Nat.le_of_lt h)]
theorem txt_short {l : List Int} {b : Bool} (h : Rl.right l b = true) : (Sh.txt (treeOf l)).length ≤ 320 := by
  obtain ⟨h1, h2⟩ := treeOf_ok h
  have h3 := Sh.txt_len (treeOf l) b h1
  have h4 := right_len h
  rw [h2] at h3
  omega
theorem rowTxt_len {op : Nat} {x : PR} (hop : op < 13) (h : okRules x = true) : (rowTxt (rowOf op x)).length ≤ 1000 := by
  have h0 := txt_short (okRules_all h 0 (by decide))
  have h1 := txt_short (okRules_all h 1 (by decide))
  have h2 := txt_short (okRules_all h 2 (by decide))
  have h3 := (word_letters hop).2.2
  simp only [PR.nth] at h0 h1 h2
  simp [rowTxt, rowBody, rowOf]
  simp at h0 h1 h2
  omega
end Tb
theorem Blk.others {W W' : World} {g : Nat} {t e : TypeId} {cs : Array Value} {b : Option Nat} (h : Blk W g t cs) (ho : Lib.OthersKept e b W W') (ht : t ≠ e) (hg : some g ≠ b) : Blk W' g t cs :=
  ho g _ h hg (fun c fz he => ht (by injection he))
theorem Parts.others {P b0 b1 b2 b : Nat} {W W' : World} (h : Parts P b0 b1 b2 W) (ho : Lib.OthersKept 5 (some b) W W') (hP : P ≠ b) (h0 : b0 ≠ b) (h1 : b1 ≠ b) (h2 : b2 ≠ b) : Parts P b0 b1 b2 W' :=
  ⟨h.blk.others ho (by decide) (fun e => hP (by injection e)), h.v0.others ho (by decide) (fun e => h0 (by injection e)), h.v1.others ho (by decide) (fun e => h1 (by injection e)), h.v2.others ho (by decide) (fun e => h2 (by injection e))⟩
theorem builder_keep {T e : TypeId} {B b : Nat} {bs : List Value} {w w' : World} (h : Lib.IsBuilderF T e B b bs w) (hb : Below w.heap.size w w') : Lib.IsBuilderF T e B b bs w' := by
  have key : ∀ p, Lib.BuilderAtF T e B b p bs w → Lib.BuilderAtF T e B b p bs w' := fun p h => by
    obtain ⟨hB, v, hh, hown, hne⟩ := h
    refine ⟨hB, v, (hb.block _ (Array.getElem?_eq_some_iff.1 hh).1).trans hh, ?_, hne⟩
    exact ⟨hown.1, hown.2.imp id fun ⟨g, cap, cur, f, he, hb', hh', r⟩ => ⟨g, cap, cur, f, he, hb', (hb.block g (Array.getElem?_eq_some_iff.1 hh').1).trans hh', r⟩⟩
  exact h.elim (fun x => .inl (key _ x)) fun x => .inr (key _ x)

theorem rows_box {w : World} {A : Option Addr} {l : List Tb.PR} (h : RowsIn w w.heap.size A l) {W : World} (hb : Below w.heap.size w W) : RowsIn W W.heap.size A l := (h.below hb).more hb.size
set_option maxHeartbeats 2000000 in
theorem text_bad {A : Option Addr} {l : List Tb.PR} (c : Nat) (w : World) (hi : Ins w) (h : RowsIn w w.heap.size A l) (hs : ∀ x ∈ l, Small x) (hc : (Tb.check l).2 ≠ 0) : Calls Tryz.prog 24 #[.agg #[.slice A l.length c]] w (Wrote w (Tb.text l)) := by
  have hal : Below w.heap.size w (w.alloc (.cells #[.slice A l.length c] 24)) := (Below.refl _ w).alloc (Nat.le_refl _) _
  have hch := check_any6 c (w.alloc (.cells #[.slice A l.length c] 24)) (hi.below hal hi.lt) (rows_box h hal) hs
  have hres : Tb.text l = (ByteArray.empty, (Tb.check l).2) := by unfold Tb.text; rw [if_neg hc]
  rw [hres]
  have h1 : (((Tb.check l).2 : Int) != 0) = true := by rw [bne_iff_ne]; omega
  have HC := Lib.hid hch
  have HA := Lib.hid hal
  clear hch hal hres hs h hi
  generalize Tb.check l = q at *
  generalize l.length = n at *
  go_enter Tryz.func24, Tryz.ntmps24
  go_wp2_with (fail)
  refine HC.out.mono ?_
  rintro e w1 ⟨rfl, hb1⟩
  have HB := Lib.hid (HA.out.trans (hb1.mono HA.out.size))
  clear hb1
  go_wp2
  go_ret2
  exact ⟨rfl, HB.out⟩
/-- What holds at the head of a round of Text. -/
structure TextRows (w : World) (P b0 b1 b2 B b : Nat) (l : List Tb.PR) (k : Nat) (W : World) : Prop where
  at_ : RowsAt w P b0 b1 b2 W
  bld : Lib.IsBuilderF 87 5 B b (Lib.byteCells (Tb.allTxt (Tb.trees (l.take k)))) W
  flat : ∀ x ∈ l.take k, x.flat = true
theorem take_all {l : List Tb.PR} {k : Nat} (hk : k < l.length) (h : ∀ x ∈ l.take k, x.flat = true) (hx : l[k].flat = true) : ∀ x ∈ l.take (k + 1), x.flat = true := fun x hm => by
  rw [List.take_succ_eq_append_getElem hk] at hm
  rcases List.mem_append.1 hm with h1 | h1
  · exact h x h1
  · rw [List.mem_singleton.1 h1]; exact hx
theorem byteCells_app (a b : List UInt8) : Lib.byteCells a ++ Lib.strCells (Lx.pack b) = Lib.byteCells (a ++ b) := by
  unfold Lib.byteCells Lib.strCells
  rw [List.map_append]
  rfl
theorem allTxt_snoc (xs : List Tb.Row) (x : Tb.Row) : Tb.allTxt (xs ++ [x]) = Tb.allTxt xs ++ Tb.rowTxt x := by simp [Tb.allTxt]
theorem allTxt_len {l : List Tb.PR} (hl : l.length = 13) (h : ∀ (k : Nat) (x : Tb.PR), l[k]? = some x → Tb.okRules x = true) : ∀ k, k ≤ 13 → (Tb.allTxt (Tb.trees (l.take k))).length ≤ 1000 * k
  | 0, _ => by simp [Tb.trees, Tb.allTxt]
  | k + 1, hk => by
    have hkl : k < l.length := by omega
    have ih := allTxt_len hl h k (by omega)
    rw [Tb.trees_next hkl, allTxt_snoc, List.length_append]
    have := Tb.rowTxt_len (op := k) (by omega) (h k _ (List.getElem?_eq_getElem hkl))
    omega
set_option maxHeartbeats 8000000 in
theorem text_good {A : Option Addr} {l : List Tb.PR} (c : Nat) (w : World) (hi : Ins w) (hwd : Wds w) (h : RowsIn w w.heap.size A l) (hs : ∀ x ∈ l, Small x) (hc : Tb.check l = (0, 0)) : Calls Tryz.prog 24 #[.agg #[.slice A 13 c]] w (Wrote w (Tb.text l)) := by
  obtain ⟨hl, hrow⟩ := Tb.check_ok hc
  have hok : ∀ (k : Nat) (x : Tb.PR), l[k]? = some x → Tb.okRules x = true := fun k x hk => (Tb.rowE_ok (hrow k x hk)).1
  have hal : Below w.heap.size w (w.alloc (.cells #[.slice A 13 c] 24)) := (Below.refl _ w).alloc (Nat.le_refl _) _
  have hch := check_any6 c (w.alloc (.cells #[.slice A 13 c] 24)) (hi.below hal hi.lt) (rows_box h hal) hs
  rw [hl, hc] at hch
  have hres : Tb.text l = if l.all Tb.PR.flat = true then (Lx.pack (Tb.allTxt (Tb.trees l)), 0) else (ByteArray.empty, 5) := by unfold Tb.text; rw [hc, if_pos rfl]
  have HRES := Lib.hid hres
  have HC := Lib.hid hch
  have HA := Lib.hid hal
  have HI := Lib.hid hi
  have HW := Lib.hid hwd
  have H := Lib.hid h
  have HL := Lib.hid hl
  have HOK := Lib.hid hok
  have HLEN := Lib.hid (allTxt_len hl hok)
  have hpa := fun W => parts_any W
  have HPA := Lib.hid hpa
  have hg0 := hi.lt
  have hg1 := hwd.lt
  have hcell0 := (Blk.new w 24 #[.slice A 13 c])
  have HK := Lib.hid hcell0
  clear hres hch hal hi hwd h hl hok hpa hs hc hrow hcell0
  go_enter Tryz.func24, Tryz.ntmps24
  go_wp2_with (fail)
  refine HC.out.mono ?_
  rintro e w1 ⟨rfl, hb1⟩
  have HB1 := Lib.hid hb1
  have hz1 := hb1.size
  have hz0 := HA.out.size
  have hk1 := HK.out.below hb1 HK.out.lt
  have HK1 := Lib.hid hk1
  clear hb1 hk1
  have hfr := Lib.IsBuilderF.of (Lib.fresh_isBuilder 87 5 w1)
  have HFR := Lib.hid hfr
  clear hfr
  go_wp2_with (fail)
  refine (HPA.out _).mono ?_
  rintro e w2 ⟨P, b0, b1, b2, rfl, hp, hb2, p0, p1, p2, p3⟩
  rw [World.size_alloc] at p0 p1 p2 p3
  have hal1 : Below w1.heap.size w1 (w1.alloc (.cells #[.pointer none, .slice none 0 0] 87)) := (Below.refl _ w1).alloc (Nat.le_refl _) _
  have hb12 := hal1.trans (hb2.mono hal1.size)
  have hbw : Below w.heap.size w w2 := (HA.out.trans (HB1.out.mono hz0)).trans (hb12.mono (by omega))
  have hc0 : w2.cell? ⟨w.heap.size, 0, none⟩ = some (.slice A 13 c) := by
    rw [(HK1.out.below hb12 HK1.out.lt).cell]
    rfl
  have hst : TextRows w P b0 b1 b2 w1.heap.size w1.heap.size l 0 w2 := ⟨⟨hbw, hp⟩, builder_keep HFR.out hb2, fun x hx => by simp at hx⟩
  have HST := Lib.hid hst
  have HNE := Lib.hid (show P ≠ w1.heap.size ∧ b0 ≠ w1.heap.size ∧ b1 ≠ w1.heap.size ∧ b2 ≠ w1.heap.size by omega)
  have hzw := hbw.size
  have hz2 := hb12.size
  clear hst hbw hb12 hal1 hp hb2 p0 p1 p2 p3
  go_wp2
  go_loopw [24] (fun i wr => ∃ (k : Nat), k ≤ 13 ∧ i = .int .i64 k ∧ Hid (TextRows w P b0 b1 b2 w1.heap.size w1.heap.size l k wr)) (fun i _ => 13 - (intOf i).toNat)
  case atStart => exact ⟨0, by decide, rfl, HST⟩
  case round =>
    obtain ⟨k, hk, rfl, HP⟩ := hrel
    have hbw := HP.out.at_.below
    by_cases hlt : k < 13
    · have hkl : k < l.length := by rw [HL.out]; exact hlt
      obtain ⟨ad, a0, a1, a2, rfl, hb, c0, c1, c2, i0, i1, i2⟩ := (H.out.below hbw).at_ hkl
      have hz := hbw.size
      have hbl := HP.out.bld
      have hzb : w1.heap.size < wr.heap.size := by
        rcases hbl with hbl | hbl
        · obtain ⟨_, v, hh, _⟩ := hbl; exact (Array.getElem?_eq_some_iff.1 hh).1
        · obtain ⟨_, v, hh, _⟩ := hbl; exact (Array.getElem?_eq_some_iff.1 hh).1
      have hal : Below wr.heap.size wr (wr.alloc (.cells #[a0, a1, a2] 43)) := (Below.refl _ wr).alloc (Nat.le_refl _) _
      have hcr := rowText_any (a0 := a0) (a1 := a1) (a2 := a2) (x := l[k]) hlt (wr.alloc (.cells #[a0, a1, a2] 43)) ((HI.out.below hbw hg0).below hal (by omega)) ((HW.out.below hbw hg1).below hal (by omega)) (HP.out.at_.parts.keep hal)
        ((i0.below (hal.mono hz)).more (by simp; omega)) ((i1.below (hal.mono hz)).more (by simp; omega)) ((i2.below (hal.mono hz)).more (by simp; omega)) (HOK.out k _ (List.getElem?_eq_getElem hkl))
      obtain ⟨A0, d0, rfl, -, -⟩ := i0
      obtain ⟨A1, d1, rfl, -, -⟩ := i1
      obtain ⟨A2, d2, rfl, -, -⟩ := i2
      have HCR := Lib.hid hcr
      have HAL := Lib.hid hal
      by_cases hf : l[k].flat = true
      · have hrt : Tb.rowText k l[k] = (Lx.pack (Tb.rowTxt (Tb.rowOf k l[k])), 0) := by unfold Tb.rowText; rw [if_pos hf]
        rw [hrt] at HCR
        have htr := Tb.trees_next hkl
        have hfl := take_all hkl HP.out.flat hf
        have hln := HLEN.out (k + 1) (by omega)
        rw [htr, allTxt_snoc, List.length_append] at hln
        have htx : Tb.allTxt (Tb.trees (l.take (k + 1))) = Tb.allTxt (Tb.trees (l.take k)) ++ Tb.rowTxt (Tb.rowOf k l[k]) := by rw [htr, allTxt_snoc]
        have HTX := Lib.hid htx
        have HFL := Lib.hid hfl
        clear hcr hal htr hfl htx hrt hf hbl
        generalize Tb.rowTxt (Tb.rowOf k l[k]) = rt at *
        have hln2 : (Lib.byteCells (Tb.allTxt (Tb.trees (l.take k)))).length + (Lx.pack rt).size ≤ 140737488355328 := by rw [Lib.byteCells_length, Lx.pack_size]; omega
        have HLN := Lib.hid hln2
        clear hln hln2
        go_wp2_with (fail)
        refine HCR.out.mono ?_
        rintro e w3 ⟨rfl, hb3⟩
        have hb4 := HAL.out.trans (hb3.mono HAL.out.size)
        have hbl3 := builder_keep HP.out.bld hb4
        have hws := Builder_WriteString w1.heap.size w1.heap.size (Lib.byteCells (Tb.allTxt (Tb.trees (l.take k)))) (Lx.pack rt) w3 hbl3 HLN.out (by have := hb4.size; omega)
        have hat3 := HP.out.at_.step hb4
        have HWS := Lib.hid hws
        have HAT := Lib.hid hat3
        clear hb3 hb4 hbl3 hws hat3 c0 c1 c2
        go_wp2_with (fail)
        refine HWS.out.mono ?_
        rintro e w4 ⟨rfl, hbd, hb5, ho⟩
        have hnx : TextRows w P b0 b1 b2 w1.heap.size w1.heap.size l (k + 1) w4 := by
          refine ⟨⟨HAT.out.below.trans (hb5.mono (by omega)), HAT.out.parts.others ho HNE.out.1 HNE.out.2.1 HNE.out.2.2.1 HNE.out.2.2.2⟩, .inr ?_, HFL.out⟩
          rw [HTX.out, ← byteCells_app]
          exact hbd
        have HNX := Lib.hid hnx
        clear hbd hb5 ho hnx
        go_wp2
        go_roundw
        case rel => exact ⟨k + 1, by omega, by go_num, HNX⟩
        case measure => simp [intOf]; omega
      · have hrt : Tb.rowText k l[k] = (ByteArray.empty, 5) := by unfold Tb.rowText; rw [if_neg hf]
        rw [hrt] at HCR
        have hno : l.all Tb.PR.flat = false := by
          rw [List.all_eq_false]
          exact ⟨l[k], List.getElem_mem hkl, hf⟩
        have HNO := Lib.hid (HRES.out.trans (if_neg (by rw [hno]; decide)))
        clear hcr hal hrt hf hno hbl
        go_wp2_with (fail)
        refine HCR.out.mono ?_
        rintro e w3 ⟨rfl, hb3⟩
        have hb4 := Lib.hid (hbw.trans ((HAL.out.trans (hb3.mono HAL.out.size)).mono hz))
        clear hb3
        go_wp2
        go_ret2
        rw [HNO.out]
        exact ⟨rfl, hb4.out⟩
    · obtain rfl : k = 13 := by omega
      have hbl := HP.out.bld
      have hfl := HP.out.flat
      rw [List.take_of_length_le (by rw [HL.out]; omega)] at hbl hfl
      have hyes : l.all Tb.PR.flat = true := List.all_eq_true.2 hfl
      have HY := Lib.hid (HRES.out.trans (if_pos hyes))
      have hzb : w1.heap.size < wr.heap.size := by
        rcases hbl with hbl | hbl
        · obtain ⟨_, v, hh, _⟩ := hbl; exact (Array.getElem?_eq_some_iff.1 hh).1
        · obtain ⟨_, v, hh, _⟩ := hbl; exact (Array.getElem?_eq_some_iff.1 hh).1
      have hst := Builder_String_any w1.heap.size w1.heap.size (Tb.allTxt (Tb.trees l)) wr hbl (by omega)
      have HSS := Lib.hid hst
      have HBW := Lib.hid hbw
      clear hbl hfl hyes hst hbw
      go_wp2_with (fail)
      refine HSS.out.mono ?_
      rintro e w3 ⟨rfl, -, hb3, -⟩
      have HB3 := Lib.hid (HBW.out.trans (hb3.mono (by omega)))
      clear hb3
      go_wp2
      go_ret2
      rw [HY.out]
      exact ⟨rfl, HB3.out⟩
theorem text_any6 {A : Option Addr} {l : List Tb.PR} (c : Nat) (w : World) (hi : Ins w) (hwd : Wds w) (h : RowsIn w w.heap.size A l) (hs : ∀ x ∈ l, Small x) : Calls Tryz.prog 24 #[.agg #[.slice A l.length c]] w (Wrote w (Tb.text l)) := by
  by_cases hc : (Tb.check l).2 = 0
  · have h0 : Tb.check l = (0, 0) := by
      have hf : ∀ (l : List Tb.PR) (op : Nat), (Tb.firstBad op l).2 = 0 → Tb.firstBad op l = (0, 0) := by
        intro l
        induction l with
        | nil => intro op _; rfl
        | cons x r ih =>
          intro op h
          unfold Tb.firstBad at h ⊢
          by_cases hx : Tb.rowE op x = 0
          · rw [if_pos hx] at h ⊢
            exact ih _ h
          · rw [if_neg hx] at h
            exact absurd h hx
      unfold Tb.check at hc ⊢
      by_cases hl : l.length = 13
      · rw [if_pos hl] at hc ⊢
        exact hf _ _ hc
      · rw [if_neg hl] at hc
        cases hc
    rw [(Tb.check_ok h0).1]
    exact text_good c w hi hwd h hs h0
  · exact text_bad c w hi h hs hc
end Go.Proofs.YtggcmkpafpjnoaaGreatDoor
