/- The walk of the law PickBack (by gen_pici.py). -/
import Derived.Test.YtmgaaejghfgbnaaPicE
namespace Go.Proofs.Ytmgaaejghfgbnaa
set_option maxRecDepth 100000
open Go.RowKit Go.Shelf
attribute [local go_sem] Oper.semAt_some

set_option maxRecDepth 100000 in
set_option maxHeartbeats 16000000 in
theorem pickBack_no_no {Q : Option Addr} (q f K er eu : Nat) (i most n : Int) (w : World) (hmin : min (q : Int) 22 = (K : Int)) (hf : q ≤ f) (he : er ≠ 0) (hPL : Calls Try.prog 8 #[.slice Q K f, .int .i64 i] w (TellsP w (0, er))) (hu : eu ≠ 0) (hU : ∀ W, Calls Try.prog 14 #[.int .i64 most, .int .i64 n] W (TellsP W (0, eu))) :
    Calls Try.prog 5 #[.slice Q q f, .int .i64 i, .int .i64 most, .int .i64 n] w (Tells w true) := by
  unfold TellsP at hPL hU
  have hKf : K ≤ f := by omega
  have hez : ((er : Int) == 0) = false := by rw [beq_eq_false_iff_ne]; omega
  have huz : ((eu : Int) != 0) = true := by rw [bne_iff_ne]; omega
  have hue : ¬ eu = 0 := hu
  have HPL := Lib.hid hPL
  have HU := Lib.hid hU
  clear hPL hU hf he hu
  go_enter Try.func5, Try.ntmps5
  go_wp2_with (fail)
  refine HPL.out.mono ?_
  rintro e w1 ⟨rfl, hb1⟩
  have HB1 := Lib.hid hb1
  clear hb1 HPL
  go_wp2_with (fail)
  refine (HU.out _).mono ?_
  rintro e wu ⟨rfl, hbu⟩
  have HBU := Lib.hid (HB1.out.trans (hbu.mono HB1.out.size))
  clear hbu
  go_wp2_with (fail)
  refine (alive14_any _).mono ?_
  rintro e wv ⟨rfl, hbv⟩
  have HBV := Lib.hid (HBU.out.trans (hbv.mono HBU.out.size))
  clear hbv
  go_wp2
  go_ret
  exact ⟨rfl, HBV.out⟩
set_option maxRecDepth 100000 in
set_option maxHeartbeats 16000000 in
theorem pickBack_no_yes {Q : Option Addr} (q f K er z : Nat) (i most : Int) (w : World) (hmin : min (q : Int) 22 = (K : Int)) (hf : q ≤ f) (he : er ≠ 0) (hPL : Calls Try.prog 8 #[.slice Q K f, .int .i64 i] w (TellsP w (0, er))) (hin : 0 ≤ most ∧ most ≤ 20) (hz : (z : Int) ≤ 2 * most) (hU : ∀ W, Calls Try.prog 14 #[.int .i64 most, .int .i64 (Pk.made z)] W (TellsP W ((z : Int), 0))) :
    Calls Try.prog 5 #[.slice Q q f, .int .i64 i, .int .i64 most, .int .i64 (Pk.made z)] w (Tells w true) := by
  unfold TellsP at hPL hU
  have hKf : K ≤ f := by omega
  have hez : ((er : Int) == 0) = false := by rw [beq_eq_false_iff_ne]; omega
  have hsg2 := fun (A : Option Addr) (c : Nat) (W : World) (hA : Row W W.heap.size A (ints [(z : Int)])) => pSigned14_new c z most W hA hin hz
  unfold PTake14 at hsg2
  have HSG := Lib.hid hsg2
  have hw2 : wrap64 (2 * most) = 2 * most := by unfold wrap64; omega
  have hz2 : decide ((z : Int) ≥ 0) = true := decide_eq_true (by omega)
  have hz3 : decide ((z : Int) ≤ 2 * most) = true := decide_eq_true hz
  generalize Pk.made z = mz at *
  have hme : (mz == mz) = true := by simp
  have HPL := Lib.hid hPL
  have HU := Lib.hid hU
  clear hPL hU hf he hsg2 hin hz
  go_enter Try.func5, Try.ntmps5
  go_wp2_with (fail)
  refine HPL.out.mono ?_
  rintro e w1 ⟨rfl, hb1⟩
  have HB1 := Lib.hid hb1
  clear hb1 HPL
  go_wp2_with (fail)
  refine (HU.out _).mono ?_
  rintro e wu ⟨rfl, hbu⟩
  have HBU := Lib.hid (HB1.out.trans (hbu.mono HB1.out.size))
  clear hbu
  have HNS := Lib.hid (new14_one (z : Int) wu w.heap.size w HBU.out HBU.out.size)
  go_wp2_with (fail)
  refine HNS.out.mono ?_
  rintro e wS ⟨AS, cS, rfl, hrS, hbS⟩
  have HCS := Lib.hid (HSG.out AS cS wS hrS)
  have HBS := Lib.hid hbS
  clear hrS hbS HNS
  go_wp2_with (fail)
  refine HCS.out.mono ?_
  rintro e vS ⟨AS', cS', LS', dS', rfl, -, -, hbS⟩
  have hcS := HBS.out.trans (hbS.mono HBS.out.size)
  have hkS := Blk.new vS 24 #[.slice none 0 0, .int .i64 0, .slice none 0 0]
  obtain ⟨S1, S2, S3, eS0, eS1, eS2, fS0, fS1, fS2, gS0, gS1, gS2, rS0, rS1, rS2, -, -, HYB⟩ := n3_steps hkS (.slice AS' 1 cS') (.int .i64 (1 : Int)) (.slice LS' (0 + 1) dS')
  have HDS := Lib.hid (HYB.out _ _ hcS.size (hcS.alloc hcS.size (.cells #[.slice none 0 0, .int .i64 0, .slice none 0 0] 24)))
  clear hbS hcS hkS HYB HCS HBS
  go_wp2_with (fail)
  refine (alive14_any _).mono ?_
  rintro e wv ⟨rfl, hbv⟩
  have HBV := Lib.hid (HDS.out.trans (hbv.mono HDS.out.size))
  clear hbv HDS
  go_wp2
  go_ret
  exact ⟨rfl, HBV.out⟩
set_option maxRecDepth 100000 in
set_option maxHeartbeats 16000000 in
theorem pickBack_zero_no {Q : Option Addr} {l : List Int} (q f K p eu : Nat) (s xv most n : Int) (w : World) (hmin : min (q : Int) 22 = (K : Int)) (hf : q ≤ f) (hQ : Row w w.heap.size Q (ints l)) (hl : l.length = K) (hr : Pk.right l = true) (hp : l[p]? = some xv) (hx : 0 < xv) (hs : s < Pk.sum l) (hs0 : s = 0) (hpk : Pk.picks l s = p) (hPL : Calls Try.prog 8 #[.slice Q K f, .int .i64 (p : Int)] w (TellsP w (s, 0))) (hu : eu ≠ 0) (hU : ∀ W, Calls Try.prog 14 #[.int .i64 most, .int .i64 n] W (TellsP W (0, eu))) :
    Calls Try.prog 5 #[.slice Q q f, .int .i64 (p : Int), .int .i64 most, .int .i64 n] w (Tells w true) := by
  unfold TellsP at hPL hU
  have hKf : K ≤ f := by omega
  have hwt := fun (A : Option Addr) (c : Nat) (W : World) (hW : Below w.heap.size w W) (hA : Row W W.heap.size A (ints [s])) => pWeighted14_new (l := l) c K f s W hA ((hQ.below hW).more hW.size) hl (by omega) hr (by omega) hs
  rw [hpk] at hwt
  unfold PTake14 at hwt
  have HWT := Lib.hid hwt
  have hcell : ∀ W, Below w.heap.size w W → ∃ ad, Q = some ad ∧ W.cell? (ad.add p) = some (.int .i64 xv) := fun W hW => by
    have hlt : p < l.length := (List.getElem?_eq_some_iff.1 hp).1
    obtain ⟨ad, hA, -, c0⟩ := irow_at ((hQ.below hW).more hW.size) hlt
    have hx2 : l[p]'hlt = xv := (List.getElem?_eq_some_iff.1 hp).2
    rw [hx2] at c0
    exact ⟨ad, hA, c0⟩
  have HCL := Lib.hid hcell
  have hpK : p < K := by have := (List.getElem?_eq_some_iff.1 hp).1; omega
  have hx2 : decide (xv ≤ 0) = false := decide_eq_false (by omega)
  have hpe : ((p : Int) != (p : Int)) = false := by simp
  subst hs0
  have huz : ((eu : Int) != 0) = true := by rw [bne_iff_ne]; omega
  have hue : ¬ eu = 0 := hu
  have HPL := Lib.hid hPL
  have HU := Lib.hid hU
  clear hPL hU hf hQ hl hr hp hx hpk hcell hwt hs hu
  go_enter Try.func5, Try.ntmps5
  go_wp2_with (fail)
  refine HPL.out.mono ?_
  rintro e w1 ⟨rfl, hb1⟩
  have HB1 := Lib.hid hb1
  clear hb1 HPL
  have HNX := Lib.hid (new14_one 0 w1 w.heap.size w HB1.out HB1.out.size)
  go_wp2_with (fail)
  refine HNX.out.mono ?_
  rintro e wX ⟨AX, cX, rfl, hrX, hbX⟩
  have HCX := Lib.hid (HWT.out AX cX wX hbX hrX)
  have HBX := Lib.hid hbX
  clear hrX hbX HNX
  go_wp2_with (fail)
  refine HCX.out.mono ?_
  rintro e vX ⟨AX', cX', LX', dX', rfl, -, -, hbX⟩
  have hcX := HBX.out.trans (hbX.mono HBX.out.size)
  have hkX := Blk.new vX 24 #[.slice none 0 0, .int .i64 0, .slice none 0 0]
  obtain ⟨X1, X2, X3, eX0, eX1, eX2, fX0, fX1, fX2, gX0, gX1, gX2, rX0, rX1, rX2, -, -, HYB⟩ := n3_steps hkX (.slice AX' 1 cX') (.int .i64 (1 : Int)) (.slice LX' (0 + 1) dX')
  have HDX := Lib.hid (HYB.out _ _ hcX.size (hcX.alloc hcX.size (.cells #[.slice none 0 0, .int .i64 0, .slice none 0 0] 24)))
  clear hbX hcX hkX HYB HCX HBX
  obtain ⟨ad, hQA, c0⟩ := HCL.out X3 HDX.out
  subst hQA
  go_wp2_with (fail)
  refine (HU.out _).mono ?_
  rintro e wu ⟨rfl, hbu⟩
  have HBU := Lib.hid (HDX.out.trans (hbu.mono HDX.out.size))
  clear hbu
  go_wp2_with (fail)
  refine (alive14_any _).mono ?_
  rintro e wv ⟨rfl, hbv⟩
  have HBV := Lib.hid (HBU.out.trans (hbv.mono HBU.out.size))
  clear hbv
  go_wp2
  go_ret
  exact ⟨rfl, HBV.out⟩
set_option maxRecDepth 100000 in
set_option maxHeartbeats 16000000 in
theorem pickBack_zero_yes {Q : Option Addr} {l : List Int} (q f K p z : Nat) (s xv most : Int) (w : World) (hmin : min (q : Int) 22 = (K : Int)) (hf : q ≤ f) (hQ : Row w w.heap.size Q (ints l)) (hl : l.length = K) (hr : Pk.right l = true) (hp : l[p]? = some xv) (hx : 0 < xv) (hs : s < Pk.sum l) (hs0 : s = 0) (hpk : Pk.picks l s = p) (hPL : Calls Try.prog 8 #[.slice Q K f, .int .i64 (p : Int)] w (TellsP w (s, 0))) (hin : 0 ≤ most ∧ most ≤ 20) (hz : (z : Int) ≤ 2 * most) (hU : ∀ W, Calls Try.prog 14 #[.int .i64 most, .int .i64 (Pk.made z)] W (TellsP W ((z : Int), 0))) :
    Calls Try.prog 5 #[.slice Q q f, .int .i64 (p : Int), .int .i64 most, .int .i64 (Pk.made z)] w (Tells w true) := by
  unfold TellsP at hPL hU
  have hKf : K ≤ f := by omega
  have hwt := fun (A : Option Addr) (c : Nat) (W : World) (hW : Below w.heap.size w W) (hA : Row W W.heap.size A (ints [s])) => pWeighted14_new (l := l) c K f s W hA ((hQ.below hW).more hW.size) hl (by omega) hr (by omega) hs
  rw [hpk] at hwt
  unfold PTake14 at hwt
  have HWT := Lib.hid hwt
  have hcell : ∀ W, Below w.heap.size w W → ∃ ad, Q = some ad ∧ W.cell? (ad.add p) = some (.int .i64 xv) := fun W hW => by
    have hlt : p < l.length := (List.getElem?_eq_some_iff.1 hp).1
    obtain ⟨ad, hA, -, c0⟩ := irow_at ((hQ.below hW).more hW.size) hlt
    have hx2 : l[p]'hlt = xv := (List.getElem?_eq_some_iff.1 hp).2
    rw [hx2] at c0
    exact ⟨ad, hA, c0⟩
  have HCL := Lib.hid hcell
  have hpK : p < K := by have := (List.getElem?_eq_some_iff.1 hp).1; omega
  have hx2 : decide (xv ≤ 0) = false := decide_eq_false (by omega)
  have hpe : ((p : Int) != (p : Int)) = false := by simp
  subst hs0
  have hsg2 := fun (A : Option Addr) (c : Nat) (W : World) (hA : Row W W.heap.size A (ints [(z : Int)])) => pSigned14_new c z most W hA hin hz
  unfold PTake14 at hsg2
  have HSG := Lib.hid hsg2
  have hw2 : wrap64 (2 * most) = 2 * most := by unfold wrap64; omega
  have hz2 : decide ((z : Int) ≥ 0) = true := decide_eq_true (by omega)
  have hz3 : decide ((z : Int) ≤ 2 * most) = true := decide_eq_true hz
  generalize Pk.made z = mz at *
  have hme : (mz == mz) = true := by simp
  have HPL := Lib.hid hPL
  have HU := Lib.hid hU
  clear hPL hU hf hQ hl hr hp hx hpk hcell hwt hs hsg2 hin hz
  go_enter Try.func5, Try.ntmps5
  go_wp2_with (fail)
  refine HPL.out.mono ?_
  rintro e w1 ⟨rfl, hb1⟩
  have HB1 := Lib.hid hb1
  clear hb1 HPL
  have HNX := Lib.hid (new14_one 0 w1 w.heap.size w HB1.out HB1.out.size)
  go_wp2_with (fail)
  refine HNX.out.mono ?_
  rintro e wX ⟨AX, cX, rfl, hrX, hbX⟩
  have HCX := Lib.hid (HWT.out AX cX wX hbX hrX)
  have HBX := Lib.hid hbX
  clear hrX hbX HNX
  go_wp2_with (fail)
  refine HCX.out.mono ?_
  rintro e vX ⟨AX', cX', LX', dX', rfl, -, -, hbX⟩
  have hcX := HBX.out.trans (hbX.mono HBX.out.size)
  have hkX := Blk.new vX 24 #[.slice none 0 0, .int .i64 0, .slice none 0 0]
  obtain ⟨X1, X2, X3, eX0, eX1, eX2, fX0, fX1, fX2, gX0, gX1, gX2, rX0, rX1, rX2, -, -, HYB⟩ := n3_steps hkX (.slice AX' 1 cX') (.int .i64 (1 : Int)) (.slice LX' (0 + 1) dX')
  have HDX := Lib.hid (HYB.out _ _ hcX.size (hcX.alloc hcX.size (.cells #[.slice none 0 0, .int .i64 0, .slice none 0 0] 24)))
  clear hbX hcX hkX HYB HCX HBX
  obtain ⟨ad, hQA, c0⟩ := HCL.out X3 HDX.out
  subst hQA
  go_wp2_with (fail)
  refine (HU.out _).mono ?_
  rintro e wu ⟨rfl, hbu⟩
  have HBU := Lib.hid (HDX.out.trans (hbu.mono HDX.out.size))
  clear hbu
  have HNS := Lib.hid (new14_one (z : Int) wu w.heap.size w HBU.out HBU.out.size)
  go_wp2_with (fail)
  refine HNS.out.mono ?_
  rintro e wS ⟨AS, cS, rfl, hrS, hbS⟩
  have HCS := Lib.hid (HSG.out AS cS wS hrS)
  have HBS := Lib.hid hbS
  clear hrS hbS HNS
  go_wp2_with (fail)
  refine HCS.out.mono ?_
  rintro e vS ⟨AS', cS', LS', dS', rfl, -, -, hbS⟩
  have hcS := HBS.out.trans (hbS.mono HBS.out.size)
  have hkS := Blk.new vS 24 #[.slice none 0 0, .int .i64 0, .slice none 0 0]
  obtain ⟨S1, S2, S3, eS0, eS1, eS2, fS0, fS1, fS2, gS0, gS1, gS2, rS0, rS1, rS2, -, -, HYB⟩ := n3_steps hkS (.slice AS' 1 cS') (.int .i64 (1 : Int)) (.slice LS' (0 + 1) dS')
  have HDS := Lib.hid (HYB.out _ _ hcS.size (hcS.alloc hcS.size (.cells #[.slice none 0 0, .int .i64 0, .slice none 0 0] 24)))
  clear hbS hcS hkS HYB HCS HBS
  go_wp2_with (fail)
  refine (alive14_any _).mono ?_
  rintro e wv ⟨rfl, hbv⟩
  have HBV := Lib.hid (HDS.out.trans (hbv.mono HDS.out.size))
  clear hbv HDS
  go_wp2
  go_ret
  exact ⟨rfl, HBV.out⟩
set_option maxRecDepth 100000 in
set_option maxHeartbeats 16000000 in
theorem pickBack_pos_no {Q : Option Addr} {l : List Int} (q f K p b eu : Nat) (s xv most n : Int) (w : World) (hmin : min (q : Int) 22 = (K : Int)) (hf : q ≤ f) (hQ : Row w w.heap.size Q (ints l)) (hl : l.length = K) (hr : Pk.right l = true) (hp : l[p]? = some xv) (hx : 0 < xv) (hs : s < Pk.sum l) (hs0 : 0 < s) (hpk : Pk.picks l s = p) (hpb : Pk.picks l (s - 1) = b) (hbp : b < p) (hPL : Calls Try.prog 8 #[.slice Q K f, .int .i64 (p : Int)] w (TellsP w (s, 0))) (hu : eu ≠ 0) (hU : ∀ W, Calls Try.prog 14 #[.int .i64 most, .int .i64 n] W (TellsP W (0, eu))) :
    Calls Try.prog 5 #[.slice Q q f, .int .i64 (p : Int), .int .i64 most, .int .i64 n] w (Tells w true) := by
  unfold TellsP at hPL hU
  have hKf : K ≤ f := by omega
  have hwt := fun (A : Option Addr) (c : Nat) (W : World) (hW : Below w.heap.size w W) (hA : Row W W.heap.size A (ints [s])) => pWeighted14_new (l := l) c K f s W hA ((hQ.below hW).more hW.size) hl (by omega) hr (by omega) hs
  rw [hpk] at hwt
  unfold PTake14 at hwt
  have HWT := Lib.hid hwt
  have hcell : ∀ W, Below w.heap.size w W → ∃ ad, Q = some ad ∧ W.cell? (ad.add p) = some (.int .i64 xv) := fun W hW => by
    have hlt : p < l.length := (List.getElem?_eq_some_iff.1 hp).1
    obtain ⟨ad, hA, -, c0⟩ := irow_at ((hQ.below hW).more hW.size) hlt
    have hx2 : l[p]'hlt = xv := (List.getElem?_eq_some_iff.1 hp).2
    rw [hx2] at c0
    exact ⟨ad, hA, c0⟩
  have HCL := Lib.hid hcell
  have hpK : p < K := by have := (List.getElem?_eq_some_iff.1 hp).1; omega
  have hx2 : decide (xv ≤ 0) = false := decide_eq_false (by omega)
  have hpe : ((p : Int) != (p : Int)) = false := by simp
  have hlow := (Pk.sum_low (Pk.right_good hr).1).2
  have hw1 : wrap64 (s - 1) = s - 1 := by have := (Pk.right_good hr).2.2.1; unfold wrap64; omega
  have hwb := fun (A : Option Addr) (c : Nat) (W : World) (hW : Below w.heap.size w W) (hA : Row W W.heap.size A (ints [s - 1])) => pWeighted14_new (l := l) c K f (s - 1) W hA ((hQ.below hW).more hW.size) hl (by omega) hr (by omega) (by omega)
  rw [hpb] at hwb
  unfold PTake14 at hwb
  have HWB := Lib.hid hwb
  have hsg : decide (s > 0) = true := decide_eq_true hs0
  have hbl : decide ((b : Int) ≥ (p : Int)) = false := decide_eq_false (by omega)
  have hbl2 : decide (p ≤ b) = false := decide_eq_false (by omega)
  have huz : ((eu : Int) != 0) = true := by rw [bne_iff_ne]; omega
  have hue : ¬ eu = 0 := hu
  have HPL := Lib.hid hPL
  have HU := Lib.hid hU
  clear hPL hU hf hQ hl hr hp hx hpk hcell hwt hwb hlow hpb hbp hs hs0 hu
  go_enter Try.func5, Try.ntmps5
  go_wp2_with (fail)
  refine HPL.out.mono ?_
  rintro e w1 ⟨rfl, hb1⟩
  have HB1 := Lib.hid hb1
  clear hb1 HPL
  have HNX := Lib.hid (new14_one s w1 w.heap.size w HB1.out HB1.out.size)
  go_wp2_with (fail)
  refine HNX.out.mono ?_
  rintro e wX ⟨AX, cX, rfl, hrX, hbX⟩
  have HCX := Lib.hid (HWT.out AX cX wX hbX hrX)
  have HBX := Lib.hid hbX
  clear hrX hbX HNX
  go_wp2_with (fail)
  refine HCX.out.mono ?_
  rintro e vX ⟨AX', cX', LX', dX', rfl, -, -, hbX⟩
  have hcX := HBX.out.trans (hbX.mono HBX.out.size)
  have hkX := Blk.new vX 24 #[.slice none 0 0, .int .i64 0, .slice none 0 0]
  obtain ⟨X1, X2, X3, eX0, eX1, eX2, fX0, fX1, fX2, gX0, gX1, gX2, rX0, rX1, rX2, -, -, HYB⟩ := n3_steps hkX (.slice AX' 1 cX') (.int .i64 (1 : Int)) (.slice LX' (0 + 1) dX')
  have HDX := Lib.hid (HYB.out _ _ hcX.size (hcX.alloc hcX.size (.cells #[.slice none 0 0, .int .i64 0, .slice none 0 0] 24)))
  clear hbX hcX hkX HYB HCX HBX
  obtain ⟨ad, hQA, c0⟩ := HCL.out X3 HDX.out
  subst hQA
  have HNZ := Lib.hid (new14_one (s - 1) X3 w.heap.size w HDX.out HDX.out.size)
  go_wp2_with (fail)
  refine HNZ.out.mono ?_
  rintro e wZ ⟨AZ, cZ, rfl, hrZ, hbZ⟩
  have HCZ := Lib.hid (HWB.out AZ cZ wZ hbZ hrZ)
  have HBZ := Lib.hid hbZ
  clear hrZ hbZ HNZ
  go_wp2_with (fail)
  refine HCZ.out.mono ?_
  rintro e vZ ⟨AZ', cZ', LZ', dZ', rfl, -, -, hbZ⟩
  have hcZ := HBZ.out.trans (hbZ.mono HBZ.out.size)
  have hkZ := Blk.new vZ 24 #[.slice none 0 0, .int .i64 0, .slice none 0 0]
  obtain ⟨Z1, Z2, Z3, eZ0, eZ1, eZ2, fZ0, fZ1, fZ2, gZ0, gZ1, gZ2, rZ0, rZ1, rZ2, -, -, HYB⟩ := n3_steps hkZ (.slice AZ' 1 cZ') (.int .i64 (1 : Int)) (.slice LZ' (0 + 1) dZ')
  have HDZ := Lib.hid (HYB.out _ _ hcZ.size (hcZ.alloc hcZ.size (.cells #[.slice none 0 0, .int .i64 0, .slice none 0 0] 24)))
  clear hbZ hcZ hkZ HYB HCZ HBZ
  go_wp2_with (fail)
  refine (HU.out _).mono ?_
  rintro e wu ⟨rfl, hbu⟩
  have HBU := Lib.hid (HDZ.out.trans (hbu.mono HDZ.out.size))
  clear hbu
  go_wp2_with (fail)
  refine (alive14_any _).mono ?_
  rintro e wv ⟨rfl, hbv⟩
  have HBV := Lib.hid (HBU.out.trans (hbv.mono HBU.out.size))
  clear hbv
  go_wp2
  go_ret
  exact ⟨rfl, HBV.out⟩
set_option maxRecDepth 100000 in
set_option maxHeartbeats 16000000 in
theorem pickBack_pos_yes {Q : Option Addr} {l : List Int} (q f K p b z : Nat) (s xv most : Int) (w : World) (hmin : min (q : Int) 22 = (K : Int)) (hf : q ≤ f) (hQ : Row w w.heap.size Q (ints l)) (hl : l.length = K) (hr : Pk.right l = true) (hp : l[p]? = some xv) (hx : 0 < xv) (hs : s < Pk.sum l) (hs0 : 0 < s) (hpk : Pk.picks l s = p) (hpb : Pk.picks l (s - 1) = b) (hbp : b < p) (hPL : Calls Try.prog 8 #[.slice Q K f, .int .i64 (p : Int)] w (TellsP w (s, 0))) (hin : 0 ≤ most ∧ most ≤ 20) (hz : (z : Int) ≤ 2 * most) (hU : ∀ W, Calls Try.prog 14 #[.int .i64 most, .int .i64 (Pk.made z)] W (TellsP W ((z : Int), 0))) :
    Calls Try.prog 5 #[.slice Q q f, .int .i64 (p : Int), .int .i64 most, .int .i64 (Pk.made z)] w (Tells w true) := by
  unfold TellsP at hPL hU
  have hKf : K ≤ f := by omega
  have hwt := fun (A : Option Addr) (c : Nat) (W : World) (hW : Below w.heap.size w W) (hA : Row W W.heap.size A (ints [s])) => pWeighted14_new (l := l) c K f s W hA ((hQ.below hW).more hW.size) hl (by omega) hr (by omega) hs
  rw [hpk] at hwt
  unfold PTake14 at hwt
  have HWT := Lib.hid hwt
  have hcell : ∀ W, Below w.heap.size w W → ∃ ad, Q = some ad ∧ W.cell? (ad.add p) = some (.int .i64 xv) := fun W hW => by
    have hlt : p < l.length := (List.getElem?_eq_some_iff.1 hp).1
    obtain ⟨ad, hA, -, c0⟩ := irow_at ((hQ.below hW).more hW.size) hlt
    have hx2 : l[p]'hlt = xv := (List.getElem?_eq_some_iff.1 hp).2
    rw [hx2] at c0
    exact ⟨ad, hA, c0⟩
  have HCL := Lib.hid hcell
  have hpK : p < K := by have := (List.getElem?_eq_some_iff.1 hp).1; omega
  have hx2 : decide (xv ≤ 0) = false := decide_eq_false (by omega)
  have hpe : ((p : Int) != (p : Int)) = false := by simp
  have hlow := (Pk.sum_low (Pk.right_good hr).1).2
  have hw1 : wrap64 (s - 1) = s - 1 := by have := (Pk.right_good hr).2.2.1; unfold wrap64; omega
  have hwb := fun (A : Option Addr) (c : Nat) (W : World) (hW : Below w.heap.size w W) (hA : Row W W.heap.size A (ints [s - 1])) => pWeighted14_new (l := l) c K f (s - 1) W hA ((hQ.below hW).more hW.size) hl (by omega) hr (by omega) (by omega)
  rw [hpb] at hwb
  unfold PTake14 at hwb
  have HWB := Lib.hid hwb
  have hsg : decide (s > 0) = true := decide_eq_true hs0
  have hbl : decide ((b : Int) ≥ (p : Int)) = false := decide_eq_false (by omega)
  have hbl2 : decide (p ≤ b) = false := decide_eq_false (by omega)
  have hsg2 := fun (A : Option Addr) (c : Nat) (W : World) (hA : Row W W.heap.size A (ints [(z : Int)])) => pSigned14_new c z most W hA hin hz
  unfold PTake14 at hsg2
  have HSG := Lib.hid hsg2
  have hw2 : wrap64 (2 * most) = 2 * most := by unfold wrap64; omega
  have hz2 : decide ((z : Int) ≥ 0) = true := decide_eq_true (by omega)
  have hz3 : decide ((z : Int) ≤ 2 * most) = true := decide_eq_true hz
  generalize Pk.made z = mz at *
  have hme : (mz == mz) = true := by simp
  have HPL := Lib.hid hPL
  have HU := Lib.hid hU
  clear hPL hU hf hQ hl hr hp hx hpk hcell hwt hwb hlow hpb hbp hs hs0 hsg2 hin hz
  go_enter Try.func5, Try.ntmps5
  go_wp2_with (fail)
  refine HPL.out.mono ?_
  rintro e w1 ⟨rfl, hb1⟩
  have HB1 := Lib.hid hb1
  clear hb1 HPL
  have HNX := Lib.hid (new14_one s w1 w.heap.size w HB1.out HB1.out.size)
  go_wp2_with (fail)
  refine HNX.out.mono ?_
  rintro e wX ⟨AX, cX, rfl, hrX, hbX⟩
  have HCX := Lib.hid (HWT.out AX cX wX hbX hrX)
  have HBX := Lib.hid hbX
  clear hrX hbX HNX
  go_wp2_with (fail)
  refine HCX.out.mono ?_
  rintro e vX ⟨AX', cX', LX', dX', rfl, -, -, hbX⟩
  have hcX := HBX.out.trans (hbX.mono HBX.out.size)
  have hkX := Blk.new vX 24 #[.slice none 0 0, .int .i64 0, .slice none 0 0]
  obtain ⟨X1, X2, X3, eX0, eX1, eX2, fX0, fX1, fX2, gX0, gX1, gX2, rX0, rX1, rX2, -, -, HYB⟩ := n3_steps hkX (.slice AX' 1 cX') (.int .i64 (1 : Int)) (.slice LX' (0 + 1) dX')
  have HDX := Lib.hid (HYB.out _ _ hcX.size (hcX.alloc hcX.size (.cells #[.slice none 0 0, .int .i64 0, .slice none 0 0] 24)))
  clear hbX hcX hkX HYB HCX HBX
  obtain ⟨ad, hQA, c0⟩ := HCL.out X3 HDX.out
  subst hQA
  have HNZ := Lib.hid (new14_one (s - 1) X3 w.heap.size w HDX.out HDX.out.size)
  go_wp2_with (fail)
  refine HNZ.out.mono ?_
  rintro e wZ ⟨AZ, cZ, rfl, hrZ, hbZ⟩
  have HCZ := Lib.hid (HWB.out AZ cZ wZ hbZ hrZ)
  have HBZ := Lib.hid hbZ
  clear hrZ hbZ HNZ
  go_wp2_with (fail)
  refine HCZ.out.mono ?_
  rintro e vZ ⟨AZ', cZ', LZ', dZ', rfl, -, -, hbZ⟩
  have hcZ := HBZ.out.trans (hbZ.mono HBZ.out.size)
  have hkZ := Blk.new vZ 24 #[.slice none 0 0, .int .i64 0, .slice none 0 0]
  obtain ⟨Z1, Z2, Z3, eZ0, eZ1, eZ2, fZ0, fZ1, fZ2, gZ0, gZ1, gZ2, rZ0, rZ1, rZ2, -, -, HYB⟩ := n3_steps hkZ (.slice AZ' 1 cZ') (.int .i64 (1 : Int)) (.slice LZ' (0 + 1) dZ')
  have HDZ := Lib.hid (HYB.out _ _ hcZ.size (hcZ.alloc hcZ.size (.cells #[.slice none 0 0, .int .i64 0, .slice none 0 0] 24)))
  clear hbZ hcZ hkZ HYB HCZ HBZ
  go_wp2_with (fail)
  refine (HU.out _).mono ?_
  rintro e wu ⟨rfl, hbu⟩
  have HBU := Lib.hid (HDZ.out.trans (hbu.mono HDZ.out.size))
  clear hbu
  have HNS := Lib.hid (new14_one (z : Int) wu w.heap.size w HBU.out HBU.out.size)
  go_wp2_with (fail)
  refine HNS.out.mono ?_
  rintro e wS ⟨AS, cS, rfl, hrS, hbS⟩
  have HCS := Lib.hid (HSG.out AS cS wS hrS)
  have HBS := Lib.hid hbS
  clear hrS hbS HNS
  go_wp2_with (fail)
  refine HCS.out.mono ?_
  rintro e vS ⟨AS', cS', LS', dS', rfl, -, -, hbS⟩
  have hcS := HBS.out.trans (hbS.mono HBS.out.size)
  have hkS := Blk.new vS 24 #[.slice none 0 0, .int .i64 0, .slice none 0 0]
  obtain ⟨S1, S2, S3, eS0, eS1, eS2, fS0, fS1, fS2, gS0, gS1, gS2, rS0, rS1, rS2, -, -, HYB⟩ := n3_steps hkS (.slice AS' 1 cS') (.int .i64 (1 : Int)) (.slice LS' (0 + 1) dS')
  have HDS := Lib.hid (HYB.out _ _ hcS.size (hcS.alloc hcS.size (.cells #[.slice none 0 0, .int .i64 0, .slice none 0 0] 24)))
  clear hbS hcS hkS HYB HCS HBS
  go_wp2_with (fail)
  refine (alive14_any _).mono ?_
  rintro e wv ⟨rfl, hbv⟩
  have HBV := Lib.hid (HDS.out.trans (hbv.mono HDS.out.size))
  clear hbv HDS
  go_wp2
  go_ret
  exact ⟨rfl, HBV.out⟩
theorem Pk.least_cases (l : List Int) (i : Int) : (∃ er : Nat, er ≠ 0 ∧ Pk.least l i = (0, er)) ∨
    ∃ (p : Nat) (xv : Int), i = (p : Int) ∧ Pk.least l i = (Pk.sum (l.take p), 0) ∧ Pk.right l = true ∧ l[p]? = some xv ∧ 0 < xv ∧ 0 ≤ Pk.sum (l.take p) ∧ Pk.sum (l.take p) < Pk.sum l ∧ Pk.picks l (Pk.sum (l.take p)) = p ∧ (0 < Pk.sum (l.take p) → Pk.picks l (Pk.sum (l.take p) - 1) < p) := by
  unfold Pk.least
  by_cases hr : Pk.right l = true
  · rw [if_pos hr]
    obtain ⟨hg, -, -, -⟩ := Pk.right_good hr
    by_cases h : 0 ≤ i ∧ i < l.length ∧ 0 < l.getD i.toNat 0
    · rw [if_pos h]
      obtain ⟨p, rfl⟩ : ∃ p : Nat, i = (p : Int) := ⟨i.toNat, by omega⟩
      rw [Int.toNat_natCast] at h ⊢
      have hp : p < l.length := by omega
      have h4 := Pk.sum_at hp
      have h5 := (Pk.sum_low (Pk.good_take hg p)).1
      have h6 := Pk.sum_all hg (p + 1)
      have hx : l[p]? = some (l.getD p 0) := by rw [List.getD_eq_getElem?_getD, List.getElem?_eq_getElem hp]; rfl
      refine .inr ⟨p, l.getD p 0, rfl, rfl, hr, hx, h.2.2, h5, by omega, Pk.picks_iff hg p hp (Int.le_refl _) (by omega), fun hs => ?_⟩
      obtain ⟨h7, h8, h9⟩ := Pk.picks_spec (l := l) (n := Pk.sum (l.take p) - 1) hg (by omega) (by omega)
      refine Decidable.byContradiction fun hn => ?_
      have := Pk.sum_mono hg (show p ≤ Pk.picks l (Pk.sum (l.take p) - 1) by omega)
      omega
    · rw [if_neg h]
      exact .inl ⟨9, by decide, rfl⟩
  · rw [if_neg hr]
    exact .inl ⟨1, by decide, rfl⟩
theorem Pk.unsigned_cases (most n : Int) : (∃ eu : Nat, eu ≠ 0 ∧ Pk.unsigned most n = (0, eu)) ∨
    ∃ z : Nat, (0 ≤ most ∧ most ≤ 20) ∧ (z : Int) ≤ 2 * most ∧ n = Pk.made z ∧ Pk.unsigned most n = ((z : Int), 0) := by
  unfold Pk.unsigned
  by_cases hin : 0 ≤ most ∧ most ≤ 20
  · rw [if_pos hin]
    by_cases h : -most ≤ n ∧ n ≤ most
    · rw [if_pos h]
      exact .inr ⟨Pk.back n, hin, Pk.back_low.1 h, (Pk.made_back n).symm, rfl⟩
    · rw [if_neg h]
      exact .inl ⟨9, by decide, rfl⟩
  · rw [if_neg hin]
    exact .inl ⟨1, by decide, rfl⟩
theorem pickBack_any {Q : Option Addr} {ws : List Int} (f : Nat) (i most n : Int) (w : World) (hQ : Row w w.heap.size Q (ints ws)) (hf : ws.length ≤ f) :
    Calls Try.prog 5 #[.slice Q ws.length f, .int .i64 i, .int .i64 most, .int .i64 n] w (Tells w true) := by
  obtain ⟨K, hK⟩ : ∃ K, min ws.length 22 = K := ⟨_, rfl⟩
  have h0 : Row w w.heap.size Q (ints (ws.take K)) := by have := hQ.take K; rwa [ints_take14] at this
  have hlc : (ws.take K).length = K := by rw [List.length_take]; omega
  have hmin : min (ws.length : Int) 22 = (K : Int) := by omega
  generalize ws.take K = l at *
  have hPL := pLeast14_any K f i w h0 hlc (by omega) (by omega)
  have hU := pUnsigned14_any most n
  rcases Pk.unsigned_cases most n with ⟨eu, hu, e⟩ | ⟨z, hin, hz, rfl, e⟩
  · rw [e] at hU
    rcases Pk.least_cases l i with ⟨er, he, e2⟩ | ⟨p, xv, rfl, e2, hr, hp, hx, hs0, hs, hpk, hpb⟩
    · rw [e2] at hPL
      exact pickBack_no_no ws.length f K er eu i most n w hmin hf he hPL hu hU
    · rw [e2] at hPL
      by_cases h : 0 < Pk.sum (l.take p)
      · exact pickBack_pos_no ws.length f K p _ eu _ xv most n w hmin hf h0 hlc hr hp hx hs h hpk rfl (hpb h) hPL hu hU
      · exact pickBack_zero_no ws.length f K p eu _ xv most n w hmin hf h0 hlc hr hp hx hs (by omega) hpk hPL hu hU
  · rw [e] at hU
    rcases Pk.least_cases l i with ⟨er, he, e2⟩ | ⟨p, xv, rfl, e2, hr, hp, hx, hs0, hs, hpk, hpb⟩
    · rw [e2] at hPL
      exact pickBack_no_yes ws.length f K er z i most w hmin hf he hPL hin hz hU
    · rw [e2] at hPL
      by_cases h : 0 < Pk.sum (l.take p)
      · exact pickBack_pos_yes ws.length f K p _ z _ xv most w hmin hf h0 hlc hr hp hx hs h hpk rfl (hpb h) hPL hin hz hU
      · exact pickBack_zero_yes ws.length f K p z _ xv most w hmin hf h0 hlc hr hp hx hs (by omega) hpk hPL hin hz hU
end Go.Proofs.Ytmgaaejghfgbnaa
