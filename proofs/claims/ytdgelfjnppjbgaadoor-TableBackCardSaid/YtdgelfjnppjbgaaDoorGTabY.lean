/- The walk of the law TableBack. -/
import Derived.Test.YtdgelfjnppjbgaaDoorGTabO
import Derived.Test.YtdgelfjnppjbgaaDoorGTabT
import Derived.Test.YtdgelfjnppjbgaaDoorGTabU
namespace Go.Proofs.YtdgelfjnppjbgaaDoor
set_option maxRecDepth 100000
open Go.RowKit Go.Shelf Go.Sort
attribute [local go_sem] Oper.semAt_some

theorem nth_right {x : Tb.PR} (h : Tb.okRules x = true) (k : Nat) : (x.nth k).length ≤ 40 := by
  have h0 := Tb.right_len (Tb.okRules_all h 0 (by decide))
  have h1 := Tb.right_len (Tb.okRules_all h 1 (by decide))
  have h2 := Tb.right_len (Tb.okRules_all h 2 (by decide))
  unfold Tb.PR.nth at *
  by_cases e0 : k = 0
  · rw [if_pos e0]; exact h0
  · rw [if_neg e0]
    by_cases e1 : k = 1
    · rw [if_pos e1]; exact h1
    · rw [if_neg e1]; exact h2
set_option maxHeartbeats 16000000 in
theorem tableBack_any {A : Option Addr} {l : List Tb.PR} (c : Nat) (s : ByteArray) (m : Int) (w : World) (hi : Ins w) (hwd : Wds w) (hml : w.cell? ⟨1, 0, none⟩ = some (.int .i64 m)) (h : RowsIn w w.heap.size A l) (hc : l.length ≤ c) (hm : c ≤ maxLen) :
    Calls Tryd.prog 3 #[.agg #[.slice A l.length c], .string s] w (Tells w true) := by
  obtain ⟨M, hM⟩ : ∃ M, min s.size 2010 = M := ⟨_, rfl⟩
  have hmin : min (s.size : Int) 2010 = (M : Int) := by omega
  have hM1 : M ≤ s.size := by omega
  have hM2 : M ≤ 2010 := by omega
  obtain ⟨x, hx⟩ : ∃ x, s.extract 0 M = x := ⟨_, rfl⟩
  have hxs : x.size ≤ maxLen := by rw [← hx, ByteArray.size_extract]; unfold maxLen; omega
  have hbox : Below w.heap.size w (w.alloc (.cells #[.slice A l.length c] 24)).drew := ((Below.refl _ w).alloc (Nat.le_refl _) _).drew
  have hfew := few6_any c (w.alloc (.cells #[.slice A l.length c] 24)).drew ((h.below hbox).more hbox.size) hc hm
  have hal : ∀ W, Below w.heap.size w W → Calls Tryd.prog 9 #[] W (Tells W true) := fun W hb => tAlive_any m W (hi.below hb hi.lt) (hwd.below hb hwd.lt) ((hb.cell (World.block_lt_of_cell? w ⟨1, 0, none⟩ hml)).trans hml)
  have hbk := Blk.new w 24 #[.slice A l.length c]
  have hg0 := hi.lt
  have hg1 := hwd.lt
  obtain ⟨fl, hfl⟩ : ∃ fl, fewT l = fl := ⟨_, rfl⟩
  have hsm : ∀ x ∈ fl, Small x := by rw [← hfl]; exact fewT_small l
  unfold Cut at hfew
  rw [hfl] at hfew
  have HX2 := Lib.hid hxs
  have HBOX := Lib.hid hbox
  have HFEW := Lib.hid hfew
  have HAL := Lib.hid hal
  have HBK := Lib.hid hbk
  have HI := Lib.hid hi
  have HW := Lib.hid hwd
  have HSM := Lib.hid hsm
  clear hM hxs hbox hfew hal hbk hi hwd h hml hfl hsm
  go_enter Tryd.func3, Tryd.ntmps3
  go_wp2
  refine Free.region_seq [1, 7, 8] [0] 1 (fun W' => W'.cell? ⟨w.heap.size, 0, none⟩ = some (.slice A l.length c)) (by kernel_rfl) (by kernel_rfl) (by kernel_rfl) (by kernel_rfl) (HBK.out.cell 0) (fun ops hops => ?_)
  clear hops
  iterate 1
    refine Free.Seq.quiet (v := ?_) (a' := ?_) rfl rfl (fun W' hW' => ?_) ?_ ?_
    rotate_left 2
    · first | obtain s0 := hW' rfl | skip
      go_simp
      try with_reducible rfl
    · simp only [Act.put, List.setIfInBounds_toArray, List.set_cons_zero, List.set_cons_succ]
      try with_reducible rfl
  refine Free.Seq.loud_ rfl (.inl rfl) (fun K hK => ?_)
  go_simp
  refine HFEW.out.mono ?_
  rintro e w1 ⟨v1, rfl, ht1, hb1⟩
  obtain ⟨A1, c1, rfl, -, -⟩ := id ht1
  dsimp only
  have hb1' : Below w.heap.size w w1 := HBOX.out.trans (hb1.mono HBOX.out.size)
  have hk1 : Blk w1 w.heap.size 24 #[.slice A l.length c] := HBK.out.drew.below hb1 HBK.out.lt
  have hc1 := hk1.cell 0
  have hf1 := hk1.frozen 0
  refine hK.out _ _ rfl (fun h => absurd h (by decide)) ?_
  clear hK K
  iterate 5
    refine Free.Seq.quiet (v := ?_) (a' := ?_) rfl rfl (fun W' hW' => ?_) ?_ ?_
    rotate_left 2
    · skip
      go_simp
      try with_reducible rfl
    · simp only [Act.put, List.setIfInBounds_toArray, List.set_cons_zero, List.set_cons_succ]
      try with_reducible rfl
  refine Free.Seq.loud_ rfl (.inl rfl) (fun K hK => ?_)
  go_simp
  refine hK.out _ _ rfl (fun h => absurd h (by decide)) ?_
  clear hK K
  refine Free.Seq.loud_ rfl (.inl rfl) (fun K hK => ?_)
  go_simp
  refine hK.out _ _ rfl (fun h => absurd h (by decide)) ?_
  clear hK K
  refine Free.Seq.nil_ ?_
  obtain ⟨W2, hW2⟩ : ∃ W2, w1.setCell ⟨w.heap.size, 0, none⟩ (.slice A1 fl.length c1) = W2 := ⟨_, rfl⟩
  have hk2 : Blk W2 w.heap.size 24 #[.slice A1 fl.length c1] := hW2 ▸ hk1.set_ 0 _
  have hb2 : Below w.heap.size w W2 := hW2 ▸ hb1'.setCell (p := ⟨w.heap.size, 0, none⟩) (by simp) _
  have ht2 : IsTab W2 W2.heap.size (.slice A1 fl.length c1) fl := by
    rw [← hW2]
    exact (tab_kept hk1 ht1).more (by simp [World.setCell])
  obtain ⟨_, _, e2, hr2, -⟩ := ht2
  injection e2 with e2 e3 e4
  subst e2 e4
  have hc2 := hk2.cell 0
  have htx := text_any6 c1 W2 (HI.out.below hb2 hg0) (HW.out.below hb2 hg1) hr2 HSM.out
  obtain ⟨⟨s1, n1⟩, hs1⟩ : ∃ r, Tb.text fl = r := ⟨_, rfl⟩
  rw [hs1] at htx
  have HTX := Lib.hid htx
  have HS1 := Lib.hid hs1
  have HB2 := Lib.hid hb2
  have HK2 := Lib.hid hk2
  have HR2 := Lib.hid hr2
  rw [hW2]
  clear hW2 hx hk1 hb1' hb1 ht1 hc1 hf1 htx hs1 hb2 hk2 hr2 e3
  obtain ⟨fn, hfn⟩ : ∃ fn, fl.length = fn := ⟨_, rfl⟩
  have HFN := Lib.hid hfn
  rw [hfn] at HTX HK2 hc2 ⊢
  clear hfn
  go_wp2_with (fail)
  refine HTX.out.mono ?_
  rintro e w3 ⟨rfl, hb3⟩
  have HB3 := Lib.hid (HB2.out.trans (hb3.mono HB2.out.size))
  dsimp only
  by_cases hn1 : n1 = 0
  · subst hn1
    have hinv := text_inv HS1.out
    have htg := trees_good hinv.1 hinv.2.1
    have h13 := (Tb.check_ok hinv.1).1
    have hall := Tb.parse_all htg.1 htg.2.1 h13 htg.2.2
    have hsz1 := text_len HS1.out
    have hpl : Tb.allTxt (Tb.trees fl) = s1.data.toList := by rw [hinv.2.2, Lx.pack_list]
    rw [hpl] at hall
    have hm1 : s1.size ≤ maxLen := by unfold maxLen; omega
    have hps := parse_any s1 w3 hm1 (HI.out.below HB3.out hg0)
    have HLX := Lib.hid (fun W => lex_any s1 W hm1)
    obtain rfl : fn = 13 := by rw [← HFN.out]; exact h13
    have HR3 := Lib.hid (HR2.out.below hb3)
    have HK3 := Lib.hid (HK2.out.below hb3 HK2.out.lt)
    have HZ3 := Lib.hid hb3.size
    clear hinv htg hsz1 hpl hm1 hb3
    rcases hall with ⟨hl1, -, hl3⟩ | ⟨lx, hl1, -, -, hl3⟩
    · rw [hl3] at hps
      rw [hl1] at HLX
      have HPS := Lib.hid hps
      clear hps hl1 hl3
      go_wp2_with (fail)
      refine HPS.out.mono ?_
      rintro e w4 ⟨v4, rfl, ht4, hb4⟩
      obtain ⟨A4, c4, rfl, -, -⟩ := ht4
      have hb4' := HB3.out.trans (hb4.mono HB3.out.size)
      have hb5 := hb4'.alloc hb4'.size (.cells #[.slice A4 0 c4] 24)
      have HB5 := Lib.hid hb5
      have HLX5 := Lib.hid (HLX.out (w4.alloc (.cells #[.slice A4 0 c4] 24)))
      clear hb4 hb4' hb5 HLX
      dsimp only [List.length_nil]
      go_wp2_with (fail)
      refine HLX5.out.mono ?_
      rintro e w6 ⟨v6, rfl, ht6, hb6⟩
      obtain ⟨A6, c6, rfl, -, -⟩ := ht6
      have HB6 := Lib.hid (HB5.out.trans (hb6.mono HB5.out.size))
      clear hb6
      dsimp only
      have hp2 := parse_any x w6 HX2.out (HI.out.below HB6.out hg0)
      obtain ⟨⟨y, at2, e2⟩, hy⟩ : ∃ r, Tb.parse x.data.toList = r := ⟨_, rfl⟩
      rw [hy] at hp2
      have HP2 := Lib.hid hp2
      have HBW := Lib.hid HB6.out
      by_cases he2 : e2 = 0
      · subst he2
        have hck : Tb.check y = (0, 0) := by
          have := Tb.parse_check (s := x.data.toList) (by rw [hy])
          rw [hy] at this
          exact this
        have HCK := Lib.hid hck
        have hrs := Tb.check_ok hck
        have HSM := Lib.hid (show ∀ z ∈ y, Small z from fun z hz => by
          obtain ⟨k, hk1, hk2⟩ := List.getElem_of_mem hz
          exact small_right (Tb.rowE_ok (hrs.2 k z (by rw [List.getElem?_eq_getElem hk1, hk2]))).1)
        clear hck hrs hy hp2
        go_wp2_with (fail)
        refine HP2.out.mono ?_
        rintro e w8 ⟨v8, rfl, ht8, hb8⟩
        obtain ⟨A8, c8, rfl, hr8, -⟩ := ht8
        have hb9 := HBW.out.trans (hb8.mono HBW.out.size)
        have hal9 : Below w8.heap.size w8 (w8.alloc (.cells #[.slice A8 y.length c8] 24)) := (Below.refl _ w8).alloc (Nat.le_refl _) _
        have hb10 := hb9.trans (hal9.mono hb9.size)
        have hch := check_any6 c8 (w8.alloc (.cells #[.slice A8 y.length c8] 24)) (HI.out.below hb10 hg0) ((hr8.below hal9).more hal9.size) HSM.out
        rw [HCK.out] at hch
        have HCH := Lib.hid hch
        have HB10 := Lib.hid hb10
        clear hb8 hb9 hal9 hb10 hch hr8
        dsimp only
        generalize y.length = ny at *
        go_wp2_with (fail)
        refine HCH.out.mono ?_
        rintro e w10 ⟨rfl, hb11⟩
        have HB11 := Lib.hid (HB10.out.trans (hb11.mono HB10.out.size))
        have HALC := Lib.hid (HAL.out w10 HB11.out)
        clear hb11
        dsimp only
        go_wp2_with (fail)
        refine HALC.out.mono ?_
        rintro e w11 ⟨rfl, hb12⟩
        have HB12 := Lib.hid (HB11.out.trans (hb12.mono HB11.out.size))
        clear hb12
        go_wp2
        go_ret
        exact ⟨rfl, HB12.out⟩
      · have hnil : y = [] := by
          have := Tb.parse_none (s := x.data.toList) (by rw [hy]; exact he2)
          rw [hy] at this
          exact this
        subst hnil
        have he3 : ((e2 : Int) != 0) = true := by rw [bne_iff_ne]; omega
        clear hy hp2 he2
        go_wp2_with (fail)
        refine HP2.out.mono ?_
        rintro e w8 ⟨v8, rfl, ht8, hb8⟩
        obtain ⟨A8, c8, rfl, -, -⟩ := ht8
        have hb9 := HBW.out.trans (hb8.mono HBW.out.size)
        have hb10 := hb9.alloc hb9.size (.cells #[.slice A8 0 c8] 24)
        have HALC := Lib.hid (HAL.out _ hb10)
        have HB10 := Lib.hid hb10
        have hlt8 : w8.heap.size < (w8.alloc (.cells #[.slice A8 0 c8] 24)).heap.size := by simp
        have hk8 := Blk.new w8 24 #[.slice A8 0 c8]
        have HK8 := Lib.hid hk8
        clear hb8 hb9 hb10 hk8
        dsimp only [List.length_nil]
        go_wp2_with (fail)
        refine HALC.out.mono ?_
        rintro e w11 ⟨rfl, hb12⟩
        have hc8 : w11.cell? ⟨w8.heap.size, 0, none⟩ = some (.slice A8 0 c8) := (HK8.out.below hb12 HK8.out.lt).cell 0
        have HB12 := Lib.hid (HB10.out.trans (hb12.mono HB10.out.size))
        clear hb12
        go_wp2
        go_ret
        exact ⟨rfl, HB12.out⟩
    · rw [hl3] at hps
      rw [hl1] at HLX
      have HPS := Lib.hid hps
      clear hps hl1 hl3
      go_wp2_with (fail)
      refine HPS.out.mono ?_
      rintro e w4 ⟨v4, rfl, ht4, hb4⟩
      obtain ⟨A4, c4, rfl, hr4, -⟩ := ht4
      have hb4' := HB3.out.trans (hb4.mono HB3.out.size)
      have hal5 : Below w4.heap.size w4 (w4.alloc (.cells #[.slice A4 fl.length c4] 24)) := (Below.refl _ w4).alloc (Nat.le_refl _) _
      have HB5 := Lib.hid (hb4'.trans (hal5.mono hb4'.size))
      have HLX5 := Lib.hid (HLX.out (w4.alloc (.cells #[.slice A4 fl.length c4] 24)))
      have HR5 := Lib.hid ((hr4.below hal5).more hal5.size)
      have HR5' : Hid (RowsIn (w4.alloc (.cells #[.slice A4 fl.length c4] 24)) w3.heap.size A1 fl) := Lib.hid (((HR3.out.more HZ3.out).below hb4).below (hal5.mono hb4.size))
      have HK5 := Lib.hid (((HK3.out.below hb4 HK3.out.lt).below hal5 (HK3.out.below hb4 HK3.out.lt).lt))
      have HN5 := Lib.hid (Blk.new w4 24 #[.slice A4 fl.length c4])
      have HZ5 := Lib.hid (Nat.le_trans hb4.size hal5.size)
      rw [HFN.out] at HLX5 HB5 HN5 HR5 HR5' HK5 HZ5
      clear hb4 hb4' hal5 hr4 HLX HR3 HK3
      have HR5 : Hid (RowsIn (w4.alloc (.cells #[.slice A4 13 c4] 24)) (w4.alloc (.cells #[.slice A4 13 c4] 24)).heap.size A4 fl) := HR5
      dsimp only
      rw [HFN.out]
      go_wp2_with (fail)
      refine HLX5.out.mono ?_
      rintro e w6 ⟨v6, rfl, ht6, hb6⟩
      obtain ⟨A6, c6, rfl, -, -⟩ := ht6
      have hsml : ∀ x ∈ fl, ∀ k, (x.nth k).length ≤ 100000 := fun x hx k => by
        have hc := Tb.check_ok (text_inv HS1.out).1
        obtain ⟨j, hj1, hj2⟩ := List.getElem_of_mem hx
        have ho := (Tb.rowE_ok (hc.2 j x (by rw [List.getElem?_eq_getElem hj1, hj2]))).1
        exact Nat.le_trans (nth_right ho k) (by decide)
      have hlk := rLike_any c4 c1 w6 ((HR5.out.below hb6).more hb6.size) ((HR5'.out.more HZ5.out |>.below hb6).more hb6.size) hsml rfl (by rw [HFN.out]; decide)
      rw [decide_eq_true (rfl : fl = fl), HFN.out] at hlk
      have HLK := Lib.hid hlk
      have HB6 := Lib.hid (HB5.out.trans (hb6.mono HB5.out.size))
      have hc7 : w6.cell? ⟨w4.heap.size, 0, none⟩ = some (.slice A4 13 c4) := (HN5.out.below hb6 HN5.out.lt).cell 0
      have hc8 : w6.cell? ⟨w.heap.size, 0, none⟩ = some (.slice A1 13 c1) := (HK5.out.below hb6 HK5.out.lt).cell 0
      clear hb6 hlk hsml
      generalize lx.length = nx at *
      dsimp only
      go_wp2_with (fail)
      refine HLK.out.mono ?_
      rintro e w7 ⟨rfl, hb7⟩
      have HB7 := Lib.hid (HB6.out.trans (hb7.mono HB6.out.size))
      clear hb7 hc7 hc8 HLK
      dsimp only
      have hp2 := parse_any x w7 HX2.out (HI.out.below HB7.out hg0)
      obtain ⟨⟨y, at2, e2⟩, hy⟩ : ∃ r, Tb.parse x.data.toList = r := ⟨_, rfl⟩
      rw [hy] at hp2
      have HP2 := Lib.hid hp2
      have HBW := Lib.hid HB7.out
      by_cases he2 : e2 = 0
      · subst he2
        have hck : Tb.check y = (0, 0) := by
          have := Tb.parse_check (s := x.data.toList) (by rw [hy])
          rw [hy] at this
          exact this
        have HCK := Lib.hid hck
        have hrs := Tb.check_ok hck
        have HSM := Lib.hid (show ∀ z ∈ y, Small z from fun z hz => by
          obtain ⟨k, hk1, hk2⟩ := List.getElem_of_mem hz
          exact small_right (Tb.rowE_ok (hrs.2 k z (by rw [List.getElem?_eq_getElem hk1, hk2]))).1)
        clear hck hrs hy hp2
        go_wp2_with (fail)
        refine HP2.out.mono ?_
        rintro e w8 ⟨v8, rfl, ht8, hb8⟩
        obtain ⟨A8, c8, rfl, hr8, -⟩ := ht8
        have hb9 := HBW.out.trans (hb8.mono HBW.out.size)
        have hal9 : Below w8.heap.size w8 (w8.alloc (.cells #[.slice A8 y.length c8] 24)) := (Below.refl _ w8).alloc (Nat.le_refl _) _
        have hb10 := hb9.trans (hal9.mono hb9.size)
        have hch := check_any6 c8 (w8.alloc (.cells #[.slice A8 y.length c8] 24)) (HI.out.below hb10 hg0) ((hr8.below hal9).more hal9.size) HSM.out
        rw [HCK.out] at hch
        have HCH := Lib.hid hch
        have HB10 := Lib.hid hb10
        clear hb8 hb9 hal9 hb10 hch hr8
        dsimp only
        generalize y.length = ny at *
        go_wp2_with (fail)
        refine HCH.out.mono ?_
        rintro e w10 ⟨rfl, hb11⟩
        have HB11 := Lib.hid (HB10.out.trans (hb11.mono HB10.out.size))
        have HALC := Lib.hid (HAL.out w10 HB11.out)
        clear hb11
        dsimp only
        go_wp2_with (fail)
        refine HALC.out.mono ?_
        rintro e w11 ⟨rfl, hb12⟩
        have HB12 := Lib.hid (HB11.out.trans (hb12.mono HB11.out.size))
        clear hb12
        go_wp2
        go_ret
        exact ⟨rfl, HB12.out⟩
      · have hnil : y = [] := by
          have := Tb.parse_none (s := x.data.toList) (by rw [hy]; exact he2)
          rw [hy] at this
          exact this
        subst hnil
        have he3 : ((e2 : Int) != 0) = true := by rw [bne_iff_ne]; omega
        clear hy hp2 he2
        go_wp2_with (fail)
        refine HP2.out.mono ?_
        rintro e w8 ⟨v8, rfl, ht8, hb8⟩
        obtain ⟨A8, c8, rfl, -, -⟩ := ht8
        have hb9 := HBW.out.trans (hb8.mono HBW.out.size)
        have hb10 := hb9.alloc hb9.size (.cells #[.slice A8 0 c8] 24)
        have HALC := Lib.hid (HAL.out _ hb10)
        have HB10 := Lib.hid hb10
        have hlt8 : w8.heap.size < (w8.alloc (.cells #[.slice A8 0 c8] 24)).heap.size := by simp
        have hk8 := Blk.new w8 24 #[.slice A8 0 c8]
        have HK8 := Lib.hid hk8
        clear hb8 hb9 hb10 hk8
        dsimp only [List.length_nil]
        go_wp2_with (fail)
        refine HALC.out.mono ?_
        rintro e w11 ⟨rfl, hb12⟩
        have hc8 : w11.cell? ⟨w8.heap.size, 0, none⟩ = some (.slice A8 0 c8) := (HK8.out.below hb12 HK8.out.lt).cell 0
        have HB12 := Lib.hid (HB10.out.trans (hb12.mono HB10.out.size))
        clear hb12
        go_wp2
        go_ret
        exact ⟨rfl, HB12.out⟩
  · have hne : ((n1 : Int) == 0) = false := by rw [beq_eq_false_iff_ne]; omega
    have hp2 := parse_any x w3 HX2.out (HI.out.below HB3.out hg0)
    obtain ⟨⟨y, at2, e2⟩, hy⟩ : ∃ r, Tb.parse x.data.toList = r := ⟨_, rfl⟩
    rw [hy] at hp2
    have HP2 := Lib.hid hp2
    have HBW := Lib.hid HB3.out
    by_cases he2 : e2 = 0
    · subst he2
      have hck : Tb.check y = (0, 0) := by
        have := Tb.parse_check (s := x.data.toList) (by rw [hy])
        rw [hy] at this
        exact this
      have HCK := Lib.hid hck
      have hrs := Tb.check_ok hck
      have HSM := Lib.hid (show ∀ z ∈ y, Small z from fun z hz => by
        obtain ⟨k, hk1, hk2⟩ := List.getElem_of_mem hz
        exact small_right (Tb.rowE_ok (hrs.2 k z (by rw [List.getElem?_eq_getElem hk1, hk2]))).1)
      clear hck hrs hy hp2
      go_wp2_with (fail)
      refine HP2.out.mono ?_
      rintro e w8 ⟨v8, rfl, ht8, hb8⟩
      obtain ⟨A8, c8, rfl, hr8, -⟩ := ht8
      have hb9 := HBW.out.trans (hb8.mono HBW.out.size)
      have hal9 : Below w8.heap.size w8 (w8.alloc (.cells #[.slice A8 y.length c8] 24)) := (Below.refl _ w8).alloc (Nat.le_refl _) _
      have hb10 := hb9.trans (hal9.mono hb9.size)
      have hch := check_any6 c8 (w8.alloc (.cells #[.slice A8 y.length c8] 24)) (HI.out.below hb10 hg0) ((hr8.below hal9).more hal9.size) HSM.out
      rw [HCK.out] at hch
      have HCH := Lib.hid hch
      have HB10 := Lib.hid hb10
      clear hb8 hb9 hal9 hb10 hch hr8
      dsimp only
      generalize y.length = ny at *
      go_wp2_with (fail)
      refine HCH.out.mono ?_
      rintro e w10 ⟨rfl, hb11⟩
      have HB11 := Lib.hid (HB10.out.trans (hb11.mono HB10.out.size))
      have HALC := Lib.hid (HAL.out w10 HB11.out)
      clear hb11
      dsimp only
      go_wp2_with (fail)
      refine HALC.out.mono ?_
      rintro e w11 ⟨rfl, hb12⟩
      have HB12 := Lib.hid (HB11.out.trans (hb12.mono HB11.out.size))
      clear hb12
      go_wp2
      go_ret
      exact ⟨rfl, HB12.out⟩
    · have hnil : y = [] := by
        have := Tb.parse_none (s := x.data.toList) (by rw [hy]; exact he2)
        rw [hy] at this
        exact this
      subst hnil
      have he3 : ((e2 : Int) != 0) = true := by rw [bne_iff_ne]; omega
      clear hy hp2 he2
      go_wp2_with (fail)
      refine HP2.out.mono ?_
      rintro e w8 ⟨v8, rfl, ht8, hb8⟩
      obtain ⟨A8, c8, rfl, -, -⟩ := ht8
      have hb9 := HBW.out.trans (hb8.mono HBW.out.size)
      have hb10 := hb9.alloc hb9.size (.cells #[.slice A8 0 c8] 24)
      have HALC := Lib.hid (HAL.out _ hb10)
      have HB10 := Lib.hid hb10
      have hlt8 : w8.heap.size < (w8.alloc (.cells #[.slice A8 0 c8] 24)).heap.size := by simp
      have hk8 := Blk.new w8 24 #[.slice A8 0 c8]
      have HK8 := Lib.hid hk8
      clear hb8 hb9 hb10 hk8
      dsimp only [List.length_nil]
      go_wp2_with (fail)
      refine HALC.out.mono ?_
      rintro e w11 ⟨rfl, hb12⟩
      have hc8 : w11.cell? ⟨w8.heap.size, 0, none⟩ = some (.slice A8 0 c8) := (HK8.out.below hb12 HK8.out.lt).cell 0
      have HB12 := Lib.hid (HB10.out.trans (hb12.mono HB10.out.size))
      clear hb12
      go_wp2
      go_ret
      exact ⟨rfl, HB12.out⟩
end Go.Proofs.YtdgelfjnppjbgaaDoor
