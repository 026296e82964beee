/- The walk of the law on which rules are made right. -/
import Derived.Test.YtkndaljfjceipaaRulO
namespace Go.Proofs.Ytkndaljfjceipaa
open Go.RowKit Go.Shelf

theorem ints_take (l : List Int) (k : Nat) : (ints l).take k = ints (l.take k) := by simp [ints, List.map_take]
set_option maxRecDepth 100000 in
set_option maxHeartbeats 4000000 in
theorem rightLaw_any {A : Option Addr} {l : List Int} (c : Nat) (lab : Bool) (w : World) (h : Row w w.heap.size A (ints l)) (hc : l.length ≤ c) (hm : c ≤ maxLen) : Calls Try.prog 3 #[.slice A l.length c, .bool lab] w (Tells w true) := by
  unfold maxLen at hm
  obtain ⟨N, hN⟩ : ∃ N, min l.length 45 = N := ⟨_, rfl⟩
  have hmin : min (l.length : Int) 45 = (N : Int) := by omega
  have hmax : max (N : Int) 0 = (N : Int) := by omega
  have hN1 : N ≤ l.length := by omega
  have hN2 : N ≤ 45 := by omega
  clear hN
  obtain ⟨rule, hrule⟩ : ∃ rule, l.take N = rule := ⟨_, rfl⟩
  have hlen : rule.length = N := by rw [← hrule, List.length_take]; omega
  have hrow : ∀ W, Below w.heap.size w W → Row W W.heap.size A (ints rule) := fun W hb => by
    have := ((h.take N).below hb).more hb.size
    rwa [ints_take, hrule] at this
  have hl5 : rule.length ≤ 100000 := by omega
  have huse : ∀ W, Below w.heap.size w W → Calls Try.prog 5 #[.slice A N c] W (UsesRes W rule) := fun W hb => by
    rw [← hlen]
    cases hmd : Rl.made rule
    · exact uses_no c W (hrow W hb) (by omega) hmd
    · exact uses_yes c W (hrow W hb) (by omega) hmd
  have hrt : ∀ W, Below w.heap.size w W → Calls Try.prog 6 #[.slice A N c, .bool lab] W (Tells W (Rl.right rule lab)) := fun W hb => by
    rw [← hlen]; exact right_any c lab W (hrow W hb) (by omega)
  have hrr : ∀ W, Below w.heap.size w W → Calls Try.prog 7 #[.slice A N c, .bool lab] W (Tells W (Rl.right rule lab)) := fun W hb => by
    rw [← hlen]; exact rRight_any c lab W (hrow W hb) hl5
  have hmd : ∀ W, Below w.heap.size w W → Calls Try.prog 9 #[.slice A N c] W (TellsN W (madeN rule)) := fun W hb => by
    rw [← hlen]; exact rMade_any c W (hrow W hb) hl5
  have hru : ∀ W, Below w.heap.size w W → Calls Try.prog 10 #[.slice A N c] W fun e w' => e = .returned (.int .u32 (Rl.usesOf rule : Nat)) ∧ W = w' := fun W hb => by
    rw [← hlen]; exact rUses_any c W (hrow W hb) hl5
  obtain ⟨-, -, e3⟩ := madeN_right rule
  have HU := Lib.hid (huse w (Below.refl _ _))
  have HRT := Lib.hid hrt
  have HRR := Lib.hid hrr
  have HMD := Lib.hid hmd
  have HRU := Lib.hid hru
  have E3 := Lib.hid e3
  clear h hrule hlen hrow hl5 huse hrt hrr hmd hru e3
  generalize Rl.right rule lab = rt at *
  have hrtt : (rt != rt) = false := by simp
  by_cases hm0 : madeN rule = 0
  · have hmade : Rl.made rule = false := by rw [E3.out, decide_eq_false_iff_not]; exact fun h => h hm0
    rw [hm0] at HMD
    have HM0 := Lib.hid hmade
    clear hm0 hmade
    go_enter Try.func3, Try.ntmps3
    go_wp2_with (fail)
    refine HU.out.mono ?_
    rintro e w1 ⟨he, hb1⟩
    rw [if_neg (by rw [HM0.out]; decide), if_neg (by rw [HM0.out]; decide)] at he
    subst he
    have HB1 := Lib.hid hb1
    clear hb1
    go_wp2_with (fail)
    refine (HRT.out _ HB1.out).mono ?_
    rintro e w2 ⟨rfl, hb2⟩
    have HB2 := Lib.hid (HB1.out.trans (hb2.mono HB1.out.size))
    clear hb2
    go_wp2_with (fail)
    refine (HRR.out _ HB2.out).mono ?_
    rintro e w3 ⟨rfl, hb3⟩
    have HB3 := Lib.hid (HB2.out.trans (hb3.mono HB2.out.size))
    clear hb3
    go_wp2_with (fail)
    refine (rAlive_any _).mono ?_
    rintro e w4 ⟨rfl, hb4⟩
    have HB4 := Lib.hid (HB3.out.trans (hb4.mono HB3.out.size))
    clear hb4
    go_wp2_with (fail)
    refine (HMD.out _ HB4.out).mono ?_
    rintro e w5 ⟨rfl, hb5⟩
    have HB5 := Lib.hid (HB4.out.trans (hb5.mono HB4.out.size))
    clear hb5
    go_wp2
    go_ret
    exact ⟨rfl, HB5.out⟩
  · have hmade : Rl.made rule = true := by rw [E3.out, decide_eq_true_eq]; exact hm0
    have hm1 : (madeN rule == 0) = false := by rw [beq_eq_false_iff_ne]; exact hm0
    have HM0 := Lib.hid hmade
    clear hm0 hmade
    generalize madeN rule = mn at *
    go_enter Try.func3, Try.ntmps3
    go_wp2_with (fail)
    refine HU.out.mono ?_
    rintro e w1 ⟨he, hb1⟩
    rw [if_pos HM0.out, if_pos HM0.out] at he
    subst he
    have HB1 := Lib.hid hb1
    clear hb1
    go_wp2_with (fail)
    refine (HRT.out _ HB1.out).mono ?_
    rintro e w2 ⟨rfl, hb2⟩
    have HB2 := Lib.hid (HB1.out.trans (hb2.mono HB1.out.size))
    clear hb2
    go_wp2_with (fail)
    refine (HRR.out _ HB2.out).mono ?_
    rintro e w3 ⟨rfl, hb3⟩
    have HB3 := Lib.hid (HB2.out.trans (hb3.mono HB2.out.size))
    clear hb3
    go_wp2_with (fail)
    refine (rAlive_any _).mono ?_
    rintro e w4 ⟨rfl, hb4⟩
    have HB4 := Lib.hid (HB3.out.trans (hb4.mono HB3.out.size))
    clear hb4
    go_wp2_with (fail)
    refine (HMD.out _ HB4.out).mono ?_
    rintro e w5 ⟨rfl, hb5⟩
    have HB5 := Lib.hid (HB4.out.trans (hb5.mono HB4.out.size))
    clear hb5
    go_wp2_with (fail)
    refine (HRU.out _ HB5.out).mono ?_
    rintro e w6 ⟨rfl, rfl⟩
    generalize Rl.usesOf rule = u at *
    go_wp2
    go_ret
    exact ⟨retb (by simp), HB5.out⟩
end Go.Proofs.Ytkndaljfjceipaa
