/- The walk of package pick's Weighted. -/
import Derived.Test.YtmgaaejghfgbnaaPicC
namespace Go.Proofs.Ytmgaaejghfgbnaa
set_option maxRecDepth 100000
open Go.RowKit Go.Shelf
attribute [local go_sem] Oper.semAt_some

set_option maxHeartbeats 2000000 in
theorem pWeighted14_bad {A L Q : Option Addr} {l : List Int} (n c m d q f : Nat) (i : Int) (w : World) (hA : Row w w.heap.size Q (ints l)) (hq : l.length = q) (hq9 : q ≤ 1000000) (hr : Pk.right l = false) :
    Calls Try.prog 7 #[.agg #[.slice A n c, .int .i64 i, .slice L m d], .slice Q q f] w (TakeNo13 w 1) := by
  unfold TakeNo13
  have hb := ((Below.refl _ w).alloc (Nat.le_refl _) (.cells #[.slice A n c, .int .i64 i, .slice L m d] 24)).alloc (by simp) (.cells #[.slice none 0 0, .int .i64 0, .slice none 0 0] 24)
  have hk0 := (Blk.new w 24 #[.slice A n c, .int .i64 i, .slice L m d]).alloc (.cells #[.slice none 0 0, .int .i64 0, .slice none 0 0] 24)
  have hk1 := Blk.new (w.alloc (.cells #[.slice A n c, .int .i64 i, .slice L m d] 24)) 24 #[.slice none 0 0, .int .i64 0, .slice none 0 0]
  rw [World.size_alloc] at hk1
  obtain ⟨W1, hW1⟩ : ∃ W1, (w.alloc (.cells #[.slice A n c, .int .i64 i, .slice L m d] 24)).alloc (.cells #[.slice none 0 0, .int .i64 0, .slice none 0 0] 24) = W1 := ⟨_, rfl⟩
  rw [hW1] at hb hk0 hk1
  have hmb := mayBe14_any q f W1 ((hA.below hb).more hb.size) hq hq9
  rw [hr] at hmb
  have HMB := Lib.hid hmb
  have HB := Lib.hid hb
  have HK1 := Lib.hid hk1
  clear hk0 hk1 hb hmb hA hq hr
  go_enter Try.func7, Try.ntmps7
  go_wp2_with (fail)
  refine HMB.out.mono ?_
  rintro e w2 ⟨rfl, hb2⟩
  have hk2 := HK1.out.below hb2 HK1.out.lt
  obtain ⟨Y1, Y2, Y3, e0, e1, e2, f0, f1, f2, g0, g1, g2, r0, r1, r2, -, -, HYB⟩ := n3_steps hk2 (.slice none 0 0) (.int .i64 0) (.slice none 0 0)
  have HB3 := Lib.hid (HYB.out _ _ (Nat.le_succ _) (HB.out.trans (hb2.mono HB.out.size)))
  clear hk2 hb2 HYB
  go_wp2
  exact bodyPost_ret (v := .tuple #[.agg #[.slice none 0 0, .int .i64 0, .slice none 0 0], .int .i64 0, .int .i64 1]) (by simp [results, Try.results7, go_sem, r0, r1, r2]) rfl ⟨rfl, HB3.out⟩
set_option maxHeartbeats 8000000 in
theorem pWeighted14_no {A L Q : Option Addr} {l : List Int} (n c m d q f er : Nat) (i : Int) (w : World) (hA : Row w w.heap.size Q (ints l)) (hq : l.length = q) (hq9 : q ≤ 1000000) (hr : Pk.right l = true) (he : er = 1 ∨ er = 8) (hk : ∀ W, Below w.heap.size w W → Calls Try.prog 19 #[.agg #[.slice A n c, .int .i64 i, .slice L m d], .int .i64 (Pk.sum l)] W (TakeNo13 W er)) :
    Calls Try.prog 7 #[.agg #[.slice A n c, .int .i64 i, .slice L m d], .slice Q q f] w (TakeNo13 w er) := by
  unfold TakeNo13 at hk ⊢
  obtain ⟨hg, h1, h20, hs0⟩ := Pk.right_good hr
  have hez : ((er : Int) != 0) = true := by rw [bne_iff_ne]; omega
  have hez2 : ¬ er = 0 := by omega
  clear he
  have hb := ((Below.refl _ w).alloc (Nat.le_refl _) (.cells #[.slice A n c, .int .i64 i, .slice L m d] 24)).alloc (by simp) (.cells #[.slice none 0 0, .int .i64 0, .slice none 0 0] 24)
  have hk0 := (Blk.new w 24 #[.slice A n c, .int .i64 i, .slice L m d]).alloc (.cells #[.slice none 0 0, .int .i64 0, .slice none 0 0] 24)
  have hk1 := Blk.new (w.alloc (.cells #[.slice A n c, .int .i64 i, .slice L m d] 24)) 24 #[.slice none 0 0, .int .i64 0, .slice none 0 0]
  rw [World.size_alloc] at hk1
  obtain ⟨W1, hW1⟩ : ∃ W1, (w.alloc (.cells #[.slice A n c, .int .i64 i, .slice L m d] 24)).alloc (.cells #[.slice none 0 0, .int .i64 0, .slice none 0 0] 24) = W1 := ⟨_, rfl⟩
  rw [hW1] at hb hk0 hk1
  have hmb := mayBe14_any q f W1 ((hA.below hb).more hb.size) hq hq9
  rw [hr] at hmb
  have hsum := fun W (hW : Below w.heap.size w W) => total14_any q f W ((hA.below hW).more hW.size) hq hg (by omega)
  obtain ⟨s, hs⟩ : ∃ s, Pk.sum l = s := ⟨_, rfl⟩
  rw [hs] at hsum hk
  have HMB := Lib.hid hmb
  have HSUM := Lib.hid hsum
  have HTK := Lib.hid hk
  have HK0 := Lib.hid hk0
  have HK1 := Lib.hid hk1
  have HB := Lib.hid hb
  clear hk0 hk1 hb hmb hsum hk hA hq hr hg h1 h20 hs0 hs
  go_enter Try.func7, Try.ntmps7
  go_wp2_with (fail)
  refine HMB.out.mono ?_
  rintro e w1 ⟨rfl, hb1⟩
  have HK2 := Lib.hid (HK0.out.below hb1 HK0.out.lt)
  have HK3 := Lib.hid (HK1.out.below hb1 HK1.out.lt)
  have HBW := Lib.hid (HB.out.trans (hb1.mono HB.out.size))
  clear hb1 HK0 HK1 HB
  have HSK : Hid (∀ W, Below w1.heap.size w1 W → W.cell? ⟨w.heap.size, 0, none⟩ = some (.slice A n c) ∧ W.cell? ⟨w.heap.size, 1, none⟩ = some (.int .i64 i) ∧ W.cell? ⟨w.heap.size, 2, none⟩ = some (.slice L m d)) := Lib.hid fun W hb =>
    have h1 := HK2.out.below hb HK2.out.lt
    ⟨h1.cell 0, h1.cell 1, h1.cell 2⟩
  have BR := Lib.hid (Below.refl w1.heap.size w1)
  have BD := Lib.hid ((Below.refl w1.heap.size w1).drew)
  have BDA := Lib.hid (((Below.refl w1.heap.size w1).alloc (Nat.le_refl _) (.cells #[.slice none 0 0, .int .i64 0, .slice none 0 0] 24)).drew)
  have HWB : Hid (∀ W, Below w1.heap.size w1 W → Below w.heap.size w W) := Lib.hid fun W hb => HBW.out.trans (hb.mono HBW.out.size)
  go_wp2_with (fail)
  go_cut [7, 8, 9] from 14 to 21 (fun b7 b8 b9 wx => ∃ (g : Nat), b7 = .pointer (some ⟨g, 0, none⟩) ∧ b8 = .int .i64 0 ∧ b9 = .int .i64 (er : Int) ∧ w1.heap.size ≤ g ∧ Hid (Below w1.heap.size w1 wx) ∧ Hid (Blk wx g 24 #[.slice none 0 0, .int .i64 0, .slice none 0 0]))
  case first =>
    go_region_held3 (fun W => W.cell? ⟨w.heap.size, 0, none⟩ = some (.slice A n c) ∧ W.cell? ⟨w.heap.size, 1, none⟩ = some (.int .i64 i) ∧ W.cell? ⟨w.heap.size, 2, none⟩ = some (.slice L m d))
      (first | (refine HSK.out _ ?_; first | with_reducible exact BR.out | with_reducible exact BD.out | with_reducible exact BDA.out | with_reducible exact hA | with_reducible exact hA.alloc hA.size _ | with_reducible exact hB | with_reducible exact hAA | with_reducible exact hYY))
      (first
        | (go_at_call 20; refine (HSUM.out _ (HWB.out _ ?_)).mono ?_; (first | with_reducible exact BD.out | with_reducible exact BDA.out); rintro e wa ⟨rfl, hba⟩; have hA : Below w1.heap.size w1 wa := (by first | with_reducible exact BD.out.trans (hba.mono BD.out.size) | with_reducible exact BDA.out.trans (hba.mono BDA.out.size)))
        | (go_at_call 19; refine (HTK.out _ (HWB.out _ ?_)).mono ?_; (first | with_reducible exact hA | with_reducible exact hA.alloc hA.size _); rintro e wb ⟨rfl, hbb⟩; have hB : Below w1.heap.size w1 wb := (by first | with_reducible exact hA.trans (hbb.mono hA.size) | with_reducible exact (hA.alloc hA.size _).trans (hbb.mono (hA.alloc hA.size _).size)); (first
            | (have hG := ((Blk.new w1 24 #[.slice none 0 0, .int .i64 0, .slice none 0 0]).drew.below hba (Blk.new w1 24 #[.slice none 0 0, .int .i64 0, .slice none 0 0]).drew.lt).below hbb ((Blk.new w1 24 #[.slice none 0 0, .int .i64 0, .slice none 0 0]).drew.below hba (Blk.new w1 24 #[.slice none 0 0, .int .i64 0, .slice none 0 0]).drew.lt).lt; have hAA := hB; have hsz := Nat.le_refl w1.heap.size; obtain ⟨Y1, Y2, Y3, e0, e1, e2, f0, f1, f2, g0, g1, g2, r0, r1, r2, hk9, hh9, hb9⟩ := n3_steps hG (.slice none 0 0) (.int .i64 0) (.slice none 0 0); have hYY : Below w1.heap.size w1 Y3 := hb9.out _ _ hsz hAA; clear hh9 hb9 hG)
            | (have hG := (Blk.new wa 24 #[.slice none 0 0, .int .i64 0, .slice none 0 0]).below hbb (Blk.new wa 24 #[.slice none 0 0, .int .i64 0, .slice none 0 0]).lt; have hAA := hB; have hsz := hA.size; obtain ⟨Y1, Y2, Y3, e0, e1, e2, f0, f1, f2, g0, g1, g2, r0, r1, r2, hk9, hh9, hb9⟩ := n3_steps hG (.slice none 0 0) (.int .i64 0) (.slice none 0 0); have hYY : Below w1.heap.size w1 Y3 := hb9.out _ _ hsz hAA; clear hh9 hb9 hG)
            | (obtain ⟨WB, hWB⟩ : ∃ WB, wb.alloc (.cells #[.slice none 0 0, .int .i64 0, .slice none 0 0] 24) = WB := ⟨_, rfl⟩; have hG : Blk WB wb.heap.size 24 #[.slice none 0 0, .int .i64 0, .slice none 0 0] := hWB ▸ Blk.new _ _ _; have hAA : Below w1.heap.size w1 WB := hWB ▸ hB.alloc hB.size _; have hsz := hB.size; obtain ⟨Y1, Y2, Y3, e0, e1, e2, f0, f1, f2, g0, g1, g2, r0, r1, r2, hk9, hh9, hb9⟩ := n3_steps hG (.slice none 0 0) (.int .i64 0) (.slice none 0 0); have hYY : Below w1.heap.size w1 Y3 := hb9.out _ _ hsz hAA; clear hh9 hb9 hG))))
    all_goals go_wp2_with fail
    all_goals go_meet
    all_goals exact ⟨_, rfl, rfl, rfl, hsz, Lib.hid hYY, hk9⟩
  case rest =>
    obtain ⟨g, rfl, rfl, rfl, hwg, HBC, HKG⟩ := hcut
    have hk3 := HK3.out.below HBC.out HK3.out.lt
    clear BR BD BDA HSK
    obtain ⟨Y1, Y2, Y3, e0, e1, e2, f0, f1, f2, g0, g1, g2, r0, r1, r2, -, -, HYB⟩ := n3_steps hk3 (.slice none 0 0) (.int .i64 0) (.slice none 0 0)
    have HB3 := Lib.hid (HYB.out _ _ (Nat.le_succ _) (HWB.out _ HBC.out))
    clear hk3 HYB
    go_wp2
    exact bodyPost_ret (v := .tuple #[.agg #[.slice none 0 0, .int .i64 0, .slice none 0 0], .int .i64 0, .int .i64 (er : Int)]) (by simp [results, Try.results7, go_sem, r0, r1, r2]) rfl ⟨rfl, HB3.out⟩
set_option maxHeartbeats 16000000 in
theorem pWeighted14_yes {A L Q : Option Addr} {l list log : List Int} (n c m d q f j : Nat) (i x : Int) (w : World) (hA : Row w w.heap.size Q (ints l)) (hq : l.length = q) (hq9 : q ≤ 1000000) (hr : Pk.right l = true) (hx0 : 0 ≤ x) (hx : x < Pk.sum l) (hk : ∀ W, Below w.heap.size w W → Calls Try.prog 19 #[.agg #[.slice A n c, .int .i64 i, .slice L m d], .int .i64 (Pk.sum l)] W (Take13 W n m list log x j)) :
    Calls Try.prog 7 #[.agg #[.slice A n c, .int .i64 i, .slice L m d], .slice Q q f] w (PTake14 w n m list log x (Pk.picks l x : Nat) j) := by
  unfold Take13 at hk
  unfold PTake14
  obtain ⟨hg, h1, h20, hs0⟩ := Pk.right_good hr
  have hpk := fun W (hW : Below w.heap.size w W) => picked14_any q f x W ((hA.below hW).more hW.size) hq hg (by omega) hx0 hx
  obtain ⟨p, hp⟩ : ∃ p, Pk.picks l x = p := ⟨_, rfl⟩
  rw [hp] at hpk ⊢
  have HPK := Lib.hid hpk
  clear hpk hp
  have hb := ((Below.refl _ w).alloc (Nat.le_refl _) (.cells #[.slice A n c, .int .i64 i, .slice L m d] 24)).alloc (by simp) (.cells #[.slice none 0 0, .int .i64 0, .slice none 0 0] 24)
  have hk0 := (Blk.new w 24 #[.slice A n c, .int .i64 i, .slice L m d]).alloc (.cells #[.slice none 0 0, .int .i64 0, .slice none 0 0] 24)
  have hk1 := Blk.new (w.alloc (.cells #[.slice A n c, .int .i64 i, .slice L m d] 24)) 24 #[.slice none 0 0, .int .i64 0, .slice none 0 0]
  rw [World.size_alloc] at hk1
  obtain ⟨W1, hW1⟩ : ∃ W1, (w.alloc (.cells #[.slice A n c, .int .i64 i, .slice L m d] 24)).alloc (.cells #[.slice none 0 0, .int .i64 0, .slice none 0 0] 24) = W1 := ⟨_, rfl⟩
  rw [hW1] at hb hk0 hk1
  have hmb := mayBe14_any q f W1 ((hA.below hb).more hb.size) hq hq9
  rw [hr] at hmb
  have hsum := fun W (hW : Below w.heap.size w W) => total14_any q f W ((hA.below hW).more hW.size) hq hg (by omega)
  obtain ⟨s, hs⟩ : ∃ s, Pk.sum l = s := ⟨_, rfl⟩
  rw [hs] at hsum hk
  have HMB := Lib.hid hmb
  have HSUM := Lib.hid hsum
  have HTK := Lib.hid hk
  have HK0 := Lib.hid hk0
  have HK1 := Lib.hid hk1
  have HB := Lib.hid hb
  clear hx0 hx
  clear hk0 hk1 hb hmb hsum hk hA hq hr hg h1 h20 hs0 hs
  go_enter Try.func7, Try.ntmps7
  go_wp2_with (fail)
  refine HMB.out.mono ?_
  rintro e w1 ⟨rfl, hb1⟩
  have HK2 := Lib.hid (HK0.out.below hb1 HK0.out.lt)
  have HK3 := Lib.hid (HK1.out.below hb1 HK1.out.lt)
  have HBW := Lib.hid (HB.out.trans (hb1.mono HB.out.size))
  clear hb1 HK0 HK1 HB
  have HSK : Hid (∀ W, Below w1.heap.size w1 W → W.cell? ⟨w.heap.size, 0, none⟩ = some (.slice A n c) ∧ W.cell? ⟨w.heap.size, 1, none⟩ = some (.int .i64 i) ∧ W.cell? ⟨w.heap.size, 2, none⟩ = some (.slice L m d)) := Lib.hid fun W hb =>
    have h1 := HK2.out.below hb HK2.out.lt
    ⟨h1.cell 0, h1.cell 1, h1.cell 2⟩
  have BR := Lib.hid (Below.refl w1.heap.size w1)
  have BD := Lib.hid ((Below.refl w1.heap.size w1).drew)
  have BDA := Lib.hid (((Below.refl w1.heap.size w1).alloc (Nat.le_refl _) (.cells #[.slice none 0 0, .int .i64 0, .slice none 0 0] 24)).drew)
  have HWB : Hid (∀ W, Below w1.heap.size w1 W → Below w.heap.size w W) := Lib.hid fun W hb => HBW.out.trans (hb.mono HBW.out.size)
  go_wp2_with (fail)
  go_cut [7, 8, 9] from 14 to 21 (fun b7 b8 b9 wx => ∃ (g : Nat) (A1 L1 : Option Addr) (c1 d1 : Nat), b7 = .pointer (some ⟨g, 0, none⟩) ∧ b8 = .int .i64 x ∧ b9 = .int .i64 0 ∧ w1.heap.size ≤ g ∧ Hid (Below w1.heap.size w1 wx) ∧ Hid (Blk wx g 24 #[.slice A1 n c1, .int .i64 (j : Int), .slice L1 (m + 1) d1]) ∧ Hid (wx.ownsRow w1.heap.size 3 1 (.slice A1 n c1) n (ints list)) ∧ Hid (wx.ownsRow w1.heap.size 3 1 (.slice L1 (m + 1) d1) (m + 1) (ints (log ++ [x]))))
  case first =>
    go_region_held3 (fun W => W.cell? ⟨w.heap.size, 0, none⟩ = some (.slice A n c) ∧ W.cell? ⟨w.heap.size, 1, none⟩ = some (.int .i64 i) ∧ W.cell? ⟨w.heap.size, 2, none⟩ = some (.slice L m d))
      (first | (refine HSK.out _ ?_; first | with_reducible exact BR.out | with_reducible exact BD.out | with_reducible exact BDA.out | with_reducible exact hA | with_reducible exact hA.alloc hA.size _ | with_reducible exact hB | with_reducible exact hAA | with_reducible exact hYY))
      (first
        | (go_at_call 20; refine (HSUM.out _ (HWB.out _ ?_)).mono ?_; (first | with_reducible exact BD.out | with_reducible exact BDA.out); rintro e wa ⟨rfl, hba⟩; have hA : Below w1.heap.size w1 wa := (by first | with_reducible exact BD.out.trans (hba.mono BD.out.size) | with_reducible exact BDA.out.trans (hba.mono BDA.out.size)))
        | (go_at_call 19; refine (HTK.out _ (HWB.out _ ?_)).mono ?_; (first | with_reducible exact hA | with_reducible exact hA.alloc hA.size _); rintro e wb ⟨A1, c1, L1, d1, rfl, hla, hlo, hbb⟩; have hB : Below w1.heap.size w1 wb := (by first | with_reducible exact hA.trans (hbb.mono hA.size) | with_reducible exact (hA.alloc hA.size _).trans (hbb.mono (hA.alloc hA.size _).size)); (first
            | (have hG := ((Blk.new w1 24 #[.slice none 0 0, .int .i64 0, .slice none 0 0]).drew.below hba (Blk.new w1 24 #[.slice none 0 0, .int .i64 0, .slice none 0 0]).drew.lt).below hbb ((Blk.new w1 24 #[.slice none 0 0, .int .i64 0, .slice none 0 0]).drew.below hba (Blk.new w1 24 #[.slice none 0 0, .int .i64 0, .slice none 0 0]).drew.lt).lt; have hAA := hB; have hsz := Nat.le_refl w1.heap.size; obtain ⟨Y1, Y2, Y3, e0, e1, e2, f0, f1, f2, g0, g1, g2, r0, r1, r2, hk9, hh9, hb9⟩ := n3_steps hG (.slice A1 n c1) (.int .i64 (j : Int)) (.slice L1 (m + 1) d1); have hYY : Below w1.heap.size w1 Y3 := hb9.out _ _ hsz hAA; have hba9 : w1.heap.size ≤ wa.heap.size := hA.size; have hla9 := hla; have hlo9 := hlo; have HA9 := Lib.hid (ownT_mono (own_ofD hla9 fun g' hg' => hh9.out g' (by have h8 := hla.lt g' hg'; have h7 : w1.heap.size + 1 ≤ wa.heap.size := (by have h6 := hba.size; simpa using h6); omega)) hba9); have HL9 := Lib.hid (ownT_mono (own_ofD hlo9 fun g' hg' => hh9.out g' (by have h8 := hlo.lt g' hg'; have h7 : w1.heap.size + 1 ≤ wa.heap.size := (by have h6 := hba.size; simpa using h6); omega)) hba9); clear hla9 hlo9 hba9 hh9 hb9 hG)
            | (have hG := (Blk.new wa 24 #[.slice none 0 0, .int .i64 0, .slice none 0 0]).below hbb (Blk.new wa 24 #[.slice none 0 0, .int .i64 0, .slice none 0 0]).lt; have hAA := hB; have hsz := hA.size; obtain ⟨Y1, Y2, Y3, e0, e1, e2, f0, f1, f2, g0, g1, g2, r0, r1, r2, hk9, hh9, hb9⟩ := n3_steps hG (.slice A1 n c1) (.int .i64 (j : Int)) (.slice L1 (m + 1) d1); have hYY : Below w1.heap.size w1 Y3 := hb9.out _ _ hsz hAA; have hba9 : w1.heap.size ≤ (wa.alloc (.cells #[.slice none 0 0, .int .i64 0, .slice none 0 0] 24)).heap.size := (hA.alloc hA.size _).size; have hla9 := hla; have hlo9 := hlo; have HA9 := Lib.hid (ownT_mono (own_ofD hla9 fun g' hg' => hh9.out g' (by have h8 := hla.lt g' hg'; rw [World.size_alloc] at h8; omega)) hba9); have HL9 := Lib.hid (ownT_mono (own_ofD hlo9 fun g' hg' => hh9.out g' (by have h8 := hlo.lt g' hg'; rw [World.size_alloc] at h8; omega)) hba9); clear hla9 hlo9 hba9 hh9 hb9 hG)
            | (obtain ⟨WB, hWB⟩ : ∃ WB, wb.alloc (.cells #[.slice none 0 0, .int .i64 0, .slice none 0 0] 24) = WB := ⟨_, rfl⟩; have hG : Blk WB wb.heap.size 24 #[.slice none 0 0, .int .i64 0, .slice none 0 0] := hWB ▸ Blk.new _ _ _; have hAA : Below w1.heap.size w1 WB := hWB ▸ hB.alloc hB.size _; have hsz := hB.size; obtain ⟨Y1, Y2, Y3, e0, e1, e2, f0, f1, f2, g0, g1, g2, r0, r1, r2, hk9, hh9, hb9⟩ := n3_steps hG (.slice A1 n c1) (.int .i64 (j : Int)) (.slice L1 (m + 1) d1); have hYY : Below w1.heap.size w1 Y3 := hb9.out _ _ hsz hAA; have hba9 : w1.heap.size ≤ wa.heap.size := hA.size; have hla9 := hWB ▸ hla.alloc (.cells #[.slice none 0 0, .int .i64 0, .slice none 0 0] 24); have hlo9 := hWB ▸ hlo.alloc (.cells #[.slice none 0 0, .int .i64 0, .slice none 0 0] 24); have HA9 := Lib.hid (ownT_mono (own_ofD hla9 fun g' hg' => hh9.out g' (by have h8 := hla.lt g' hg'; omega)) hba9); have HL9 := Lib.hid (ownT_mono (own_ofD hlo9 fun g' hg' => hh9.out g' (by have h8 := hlo.lt g' hg'; omega)) hba9); clear hla9 hlo9 hba9 hh9 hb9 hG))))
    all_goals go_wp2_with fail
    all_goals go_meet
    all_goals exact ⟨_, _, _, _, _, rfl, rfl, rfl, hsz, Lib.hid hYY, hk9, HA9, HL9⟩
  case rest =>
    obtain ⟨g, A1, L1, c1, d1, rfl, rfl, rfl, hwg, HBC, HKG, HA9, HL9⟩ := hcut
    have hk3 := HK3.out.below HBC.out HK3.out.lt
    have hlt := HK3.out.lt
    clear BR BD BDA HSK HTK HSUM HMB
    have BCD := Lib.hid (HBC.out.drew)
    have HSG : Hid (∀ W, Below wc.heap.size wc W → W.cell? ⟨g, 0, none⟩ = some (.slice A1 n c1) ∧ W.cell? ⟨g, 1, none⟩ = some (.int .i64 (j : Int)) ∧ W.cell? ⟨g, 2, none⟩ = some (.slice L1 (m + 1) d1)) := Lib.hid fun W hb =>
      have h1 := HKG.out.below hb HKG.out.lt
      ⟨h1.cell 0, h1.cell 1, h1.cell 2⟩
    have BR := Lib.hid (Below.refl wc.heap.size wc)
    have BD := Lib.hid ((Below.refl wc.heap.size wc).drew)
    go_wp2_with (fail)
    go_region_held3 (fun W => W.cell? ⟨g, 0, none⟩ = some (.slice A1 n c1) ∧ W.cell? ⟨g, 1, none⟩ = some (.int .i64 (j : Int)) ∧ W.cell? ⟨g, 2, none⟩ = some (.slice L1 (m + 1) d1))
      (first | exact hcells | (refine HSG.out _ ?_; first | with_reducible exact BR.out | with_reducible exact BD.out | with_reducible exact hA))
      (first
        | (go_at_call 21; refine (HPK.out _ (HWB.out _ BCD.out)).mono ?_; rintro e wa ⟨rfl, hba⟩; have hA : Below wc.heap.size wc wa := BD.out.trans (hba.mono BD.out.size); have hk5 := hk3.below hA hk3.lt; obtain ⟨Y1, Y2, Y3, e0, e1, e2, f0, f1, f2, g0, g1, g2, r0, r1, r2, -, hyh, HYB⟩ := n3_steps hk5 (.slice A1 n c1) (.int .i64 (j : Int)) (.slice L1 (m + 1) d1); have hkg := HKG.out.below hA HKG.out.lt; have hkg2 : Blk Y3 g 24 #[.slice A1 n c1, .int .i64 (j : Int), .slice L1 (m + 1) d1] := (hyh.out g (by omega)).trans hkg; have hcells := And.intro (hkg2.cell 0) (And.intro (hkg2.cell 1) (hkg2.cell 2))))
    have hlb := HA9.out
    have hlc := HL9.out
    have HAZ := Lib.hid (ownT_mono (own_ofD (ownT_below hlb hA) fun g' hg' => hyh.out g' (by have := (hlb.lt g' hg').1; omega)) HBW.out.size)
    have HLZ := Lib.hid (ownT_mono (own_ofD (ownT_below hlc hA) fun g' hg' => hyh.out g' (by have := (hlc.lt g' hg').1; omega)) HBW.out.size)
    have hbc := HWB.out _ HBC.out
    have HBZ := Lib.hid (HYB.out _ _ (Nat.le_succ _) (hbc.trans (hA.mono hbc.size)))
    clear hlb hlc hbc hba hA hk5 hkg hkg2 hcells hyh HYB e0 e1 e2 f0 f1 f2 g0 g1 g2
    go_wp2
    exact bodyPost_ret (v := .tuple #[.agg #[.slice A1 n c1, .int .i64 (j : Int), .slice L1 (m + 1) d1], .int .i64 (p : Int), .int .i64 0]) (by simp [results, Try.results7, go_sem, r0, r1, r2]) rfl ⟨A1, c1, L1, d1, rfl, HAZ.out, HLZ.out, HBZ.out⟩
end Go.Proofs.Ytmgaaejghfgbnaa
