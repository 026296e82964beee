/- The walk of the law TableChecks. -/
import Derived.Test.YtdgelfjnppjbgaaGreatDoorGTabO
import Derived.Test.YtdgelfjnppjbgaaGreatDoorGTabU
import Derived.Test.YtdgelfjnppjbgaaGreatDoorGTabZ
namespace Go.Proofs.YtdgelfjnppjbgaaGreatDoor
set_option maxRecDepth 100000
open Go.RowKit Go.Shelf Go.Sort
attribute [local go_sem] Oper.semAt_some

theorem firstBad_zero : ∀ (l : List Tb.PR) (op : Nat), (Tb.firstBad op l).2 = 0 → Tb.firstBad op l = (0, 0) := by
  intro l
  induction l with
  | nil => intro op _; rfl
  | cons x r ih =>
    intro op h
    unfold Tb.firstBad at h ⊢
    by_cases hx : Tb.rowE op x = 0
    · rw [if_pos hx] at h ⊢
      exact ih _ h
    · rw [if_neg hx] at h
      exact absurd h hx
theorem check_zero {l : List Tb.PR} (h : (Tb.check l).2 = 0) : Tb.check l = (0, 0) := by
  unfold Tb.check at h ⊢
  by_cases hl : l.length = 13
  · rw [if_pos hl] at h ⊢
    exact firstBad_zero _ _ h
  · rw [if_neg hl] at h
    cases h
theorem fewT_fits (l : List Tb.PR) : ∀ x ∈ fewT l, Fits x := fun x hx => by
  obtain ⟨y, _, rfl⟩ := List.mem_map.1 hx
  exact ⟨by simp [cutR]; omega, by simp [cutR]; omega, by simp [cutR]; omega⟩
set_option maxHeartbeats 16000000 in
theorem tableChecks_any {A : Option Addr} {l : List Tb.PR} (c : Nat) (m : Int) (w : World) (hi : Ins w) (hwd : Wds w) (hml : w.cell? ⟨1, 0, none⟩ = some (.int .i64 m)) (h : RowsIn w w.heap.size A l) (hc : l.length ≤ c) (hm : c ≤ maxLen) :
    Calls Tryz.prog 4 #[.agg #[.slice A l.length c]] w (Tells w true) := by
  have hbox : Below w.heap.size w (w.alloc (.cells #[.slice A l.length c] 24)) := (Below.refl _ w).alloc (Nat.le_refl _) _
  have hfew := few6_any c (w.alloc (.cells #[.slice A l.length c] 24)) ((h.below hbox).more hbox.size) hc hm
  have hal : ∀ W, Below w.heap.size w W → Calls Tryz.prog 14 #[] W (Tells W true) := fun W hb => tAlive_any m W (hi.below hb hi.lt) (hwd.below hb hwd.lt) ((hb.cell (World.block_lt_of_cell? w ⟨1, 0, none⟩ hml)).trans hml)
  have hbk := Blk.new w 24 #[.slice A l.length c]
  have hg0 := hi.lt
  have hg1 := hwd.lt
  obtain ⟨fl, hfl⟩ : ∃ fl, fewT l = fl := ⟨_, rfl⟩
  have hsm : ∀ x ∈ fl, Small x := by rw [← hfl]; exact fewT_small l
  have hft : ∀ x ∈ fl, Fits x := by rw [← hfl]; exact fewT_fits l
  unfold Cut at hfew
  rw [hfl] at hfew
  have HBOX := Lib.hid hbox
  have HFEW := Lib.hid hfew
  have HAL := Lib.hid hal
  have HBK := Lib.hid hbk
  have HI := Lib.hid hi
  have HW := Lib.hid hwd
  have HSM := Lib.hid hsm
  have HFT := Lib.hid hft
  clear hbox hfew hal hbk hi hwd h hml hfl hsm hft hc hm
  go_enter Tryz.func4, Tryz.ntmps4
  go_wp2_with (fail)
  refine HFEW.out.mono ?_
  rintro e w1 ⟨v1, rfl, ht1, hb1⟩
  obtain ⟨A1, c1, rfl, -, -⟩ := id ht1
  dsimp only
  have hb1' : Below w.heap.size w w1 := HBOX.out.trans (hb1.mono HBOX.out.size)
  have hk1 : Blk w1 w.heap.size 24 #[.slice A l.length c] := HBK.out.below hb1 HBK.out.lt
  have hf1 := hk1.frozen 0
  have hc1 := hk1.cell 0
  obtain ⟨W2, hW2⟩ : ∃ W2, w1.setCell ⟨w.heap.size, 0, none⟩ (.slice A1 fl.length c1) = W2 := ⟨_, rfl⟩
  have hk2 : Blk W2 w.heap.size 24 #[.slice A1 fl.length c1] := hW2 ▸ hk1.set_ 0 _
  have hb2 : Below w.heap.size w W2 := hW2 ▸ hb1'.setCell (p := ⟨w.heap.size, 0, none⟩) (by simp) _
  have ht2 : IsTab W2 W2.heap.size (.slice A1 fl.length c1) fl := by
    rw [← hW2]
    exact (tab_kept hk1 ht1).more (by simp [World.setCell])
  obtain ⟨_, _, e2, hr2, -⟩ := ht2
  injection e2 with e2 e3 e4
  subst e2 e4
  have hc2 := hk2.cell 0
  have hck := check_any6 c1 W2 (HI.out.below hb2 hg0) hr2 HSM.out
  have htx := fun W (hb : Below W2.heap.size W2 W) => text_any6 c1 W ((HI.out.below hb2 hg0).below hb (Nat.lt_of_lt_of_le hg0 hb2.size)) ((HW.out.below hb2 hg1).below hb (Nat.lt_of_lt_of_le hg1 hb2.size)) ((hr2.below hb).more hb.size) HSM.out
  have hrc := fun W (hb : Below W2.heap.size W2 W) => rCheck_any c1 W ((hr2.below hb).more hb.size) HFT.out
  have hrt := fun W (hb : Below W2.heap.size W2 W) (h0 : Tb.check fl = (0, 0)) => rTableText_any c1 W ((hr2.below hb).more hb.size) h0
  have hbad : (Tb.check fl).2 ≠ 0 → Tb.text fl = (ByteArray.empty, (Tb.check fl).2) := fun h => by
    unfold Tb.text
    rw [if_neg h]
  have hz : (Tb.check fl).2 = 0 → Tb.check fl = (0, 0) := check_zero
  obtain ⟨⟨s1, n1⟩, hs1⟩ : ∃ r, Tb.text fl = r := ⟨_, rfl⟩
  obtain ⟨⟨i1, q1⟩, hq1⟩ : ∃ r, Tb.check fl = r := ⟨_, rfl⟩
  rw [hs1] at hbad
  rw [hq1] at hbad hz hck
  simp only [hs1] at htx hrt
  simp only [hq1] at hrc hrt
  dsimp only at hck hbad hz
  have HCK := Lib.hid hck
  have HTX := Lib.hid htx
  have HRC := Lib.hid hrc
  have HRT := Lib.hid hrt
  have HBAD := Lib.hid hbad
  have HZ := Lib.hid hz
  have HB2 := Lib.hid hb2
  have HK2 := Lib.hid hk2
  clear hk1 hb1' hb1 ht1 htx hs1 hb2 hk2 hr2 e3 hck hrc hrt hbad hz hq1
  generalize fl.length = fn at *
  go_wp2_with (fail)
  refine HCK.out.mono ?_
  rintro e w3 ⟨rfl, hb3⟩
  have HA3 := Lib.hid hb3
  have HT3 := Lib.hid (HTX.out w3 hb3)
  have hc3 := (HK2.out.below hb3 HK2.out.lt).cell 0
  clear hb3 HCK
  dsimp only
  go_wp2_with (fail)
  refine HT3.out.mono ?_
  rintro e w4 ⟨rfl, hb4⟩
  have HA4 := Lib.hid (HA3.out.trans (hb4.mono HA3.out.size))
  have HR4 := Lib.hid (HRC.out w4 HA4.out)
  have hc4 := (HK2.out.below HA4.out HK2.out.lt).cell 0
  clear hb4 HT3 hc3
  dsimp only
  go_wp2_with (fail)
  refine HR4.out.mono ?_
  rintro e w5 ⟨rfl, hb5⟩
  have hA5 := HA4.out.trans (hb5.mono HA4.out.size)
  have hal6 : Below w5.heap.size w5 (w5.alloc (.cells #[.int .i64 (i1 : Int), .int .i64 (q1 : Int)] 44)) := (Below.refl _ w5).alloc (Nat.le_refl _) _
  have HA6 := Lib.hid (hA5.trans (hal6.mono hA5.size))
  have HK6 := Lib.hid (Blk.new w5 44 #[.int .i64 (i1 : Int), .int .i64 (q1 : Int)])
  obtain ⟨w6, hw6⟩ : ∃ w6, w5.alloc (.cells #[.int .i64 (i1 : Int), .int .i64 (q1 : Int)] 44) = w6 := ⟨_, rfl⟩
  rw [hw6] at HA6 HK6
  have HB6 := Lib.hid (HB2.out.trans (HA6.out.mono HB2.out.size))
  have HAL6 := Lib.hid (HAL.out w6 HB6.out)
  have d0 := HK6.out.cell 0
  have d1 := HK6.out.cell 1
  clear hb5 HR4 hc4 hA5 hal6
  dsimp only
  go_wp2_with (fail)
  refine HAL6.out.mono ?_
  rintro e w7 ⟨rfl, hb7⟩
  have HA7 := Lib.hid (HA6.out.trans (hb7.mono HA6.out.size))
  have HB7 := Lib.hid (HB6.out.trans (hb7.mono HB6.out.size))
  have d0' := (HK6.out.below hb7 HK6.out.lt).cell 0
  have d1' := (HK6.out.below hb7 HK6.out.lt).cell 1
  have hc7 := (HK2.out.below HA7.out HK2.out.lt).cell 0
  clear hb7 d0 d1 hw6
  dsimp only
  by_cases hq : q1 = 0
  · subst hq
    have hz := HZ.out rfl
    injection hz with hz _
    subst hz
    have HR7 := Lib.hid (HRT.out w7 HA7.out rfl)
    go_wp2_with (fail)
    refine HR7.out.mono ?_
    rintro e w8 ⟨rfl, hb8⟩
    have HB8 := Lib.hid (HB7.out.trans (hb8.mono HB7.out.size))
    clear hb8
    dsimp only
    go_wp2
    go_ret
    exact ⟨rfl, HB8.out⟩
  · have hq2 : ((q1 : Int) != 0) = true := by rw [bne_iff_ne]; omega
    have hb := HBAD.out hq
    injection hb with hb1 hb2
    subst hb1 hb2
    go_wp2
    go_ret
    exact ⟨rfl, HB7.out⟩
end Go.Proofs.YtdgelfjnppjbgaaGreatDoor
