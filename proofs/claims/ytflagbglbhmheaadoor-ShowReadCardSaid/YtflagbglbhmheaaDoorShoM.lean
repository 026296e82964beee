/- The walks of the laws' alive, and of the law on any rule's text. -/
import Derived.Test.YtflagbglbhmheaaDoorShoL
import Derived.Test.YtflagbglbhmheaaDoorRulN
namespace Go.Proofs.YtflagbglbhmheaaDoor
set_option maxRecDepth 100000
open Go.RowKit Go.Shelf

theorem tells_ok {t : Sh.Tree} (h : Sh.deep t ≤ 12) : Sh.tells (Sh.thOf t) = (Lx.pack (Sh.txt t), 0) := by
  unfold Sh.tells
  rw [if_neg (show ¬ 12 < (Sh.thOf t).d by show ¬ 12 < Sh.deep t; omega)]
  rfl
theorem tells_deep {t : Sh.Tree} (h : 12 < Sh.deep t) : Sh.tells (Sh.thOf t) = (ByteArray.empty, 5) := by
  unfold Sh.tells
  rw [if_pos (show 12 < (Sh.thOf t).d from h)]
def aliveT : Sh.Tree := .node 5 (.node 13 (.node 12 (.leaf 9) (.leaf 10)) (.leaf 11)) (.leaf 8)
theorem aliveT_ok : Sh.Ok false aliveT := by simp [aliveT, Sh.Ok]
theorem aliveT_txt : Lx.pack (Sh.txt aliveT) = { data := #[91, 111, 110, 101, 32, 106, 111, 105, 110, 32, 116, 119, 111, 93, 32, 109, 101, 101, 116, 32, 116, 104, 114, 101, 101, 32, 60, 61, 32, 112, 99] } := by decide +kernel
set_option maxHeartbeats 4000000 in
theorem sAlive_any (w : World) (hw : Wds w) : Calls Tryd.prog 8 #[] w (Tells w true) := by
  have hb0 : Below w.heap.size w (w.alloc (.cells #[.int .i64 9, .int .i64 10, .int .i64 12, .int .i64 11, .int .i64 13, .int .i64 8, .int .i64 5] 3)) := (Below.refl _ w).alloc (Nat.le_refl _) _
  have hblk := (Blk.new w 3 #[.int .i64 9, .int .i64 10, .int .i64 12, .int .i64 11, .int .i64 13, .int .i64 8, .int .i64 5] : Blk (w.alloc _) w.heap.size 3 [Value.int .i64 9, .int .i64 10, .int .i64 12, .int .i64 11, .int .i64 13, .int .i64 8, .int .i64 5].toArray)
  have hrow : Row (w.alloc (.cells #[.int .i64 9, .int .i64 10, .int .i64 12, .int .i64 11, .int .i64 13, .int .i64 8, .int .i64 5] 3)) (w.alloc (.cells #[.int .i64 9, .int .i64 10, .int .i64 12, .int .i64 11, .int .i64 13, .int .i64 8, .int .i64 5] 3)).heap.size (some ⟨w.heap.size, 0, none⟩) (ints (Sh.post aliveT)) := hblk.row.more (by simp)
  have hcall := text_tree aliveT false aliveT_ok 7 _ hrow (by decide) (hw.below hb0 hw.lt)
  rw [tells_ok (by decide), aliveT_txt, show (Sh.post aliveT).length = 7 from rfl] at hcall
  have HC := Lib.hid hcall
  have HB := Lib.hid hb0
  clear hcall hrow hblk hb0 hw
  go_enter Tryd.func8, Tryd.ntmps8
  go_wp2_with (fail)
  refine HC.out.mono ?_
  rintro e w1 ⟨rfl, hb1⟩
  have HB1 := Lib.hid (HB.out.trans (hb1.mono HB.out.size))
  clear hb1
  go_wp2
  go_ret
  exact ⟨rfl, HB1.out⟩
/-- What is made right is one tree. -/
theorem made_tree {rule : List Int} (h : madeN rule ≠ 0) : ∃ t b, Sh.Ok b t ∧ Sh.post t = rule ∧ rule.length ≤ 40 := by
  obtain ⟨h1, h2, h3⟩ := madeN_right rule
  have hm : Rl.made rule = true := by rw [h3]; exact decide_eq_true h
  unfold Rl.made at hm
  rcases Bool.or_eq_true_iff.1 hm with hr | hr
  · obtain ⟨t, ht, hp, _⟩ := Sh.right_tree hr
    exact ⟨t, _, ht, hp, (of_decide_eq_true hr).1⟩
  · obtain ⟨t, ht, hp, _⟩ := Sh.right_tree hr
    exact ⟨t, _, ht, hp, (of_decide_eq_true hr).1⟩
theorem ints_takeS (l : List Int) (k : Nat) : (ints l).take k = ints (l.take k) := by simp [ints, List.map_take]
theorem str_same (s : ByteArray) : (s.toList == s.toList) = true := beq_self_eq_true _
set_option maxHeartbeats 8000000 in
theorem textsLaw_any {A : Option Addr} {l : List Int} (c : Nat) (w : World) (hw : Wds w) (h : Row w w.heap.size A (ints l)) (hc : l.length ≤ c) (hm : c ≤ maxLen) : Calls Tryd.prog 3 #[.slice A l.length c] w (Tells w true) := by
  unfold maxLen at hm
  obtain ⟨N, hN⟩ : ∃ N, min l.length 45 = N := ⟨_, rfl⟩
  have hmin : min (l.length : Int) 45 = (N : Int) := by omega
  have hmax : max (N : Int) 0 = (N : Int) := by omega
  have hN1 : N ≤ l.length := by omega
  have hN2 : N ≤ 45 := by omega
  clear hN
  obtain ⟨rule, hrule⟩ : ∃ rule, l.take N = rule := ⟨_, rfl⟩
  have hlen : rule.length = N := by rw [← hrule, List.length_take]; omega
  have hrow : ∀ W, Below w.heap.size w W → Row W W.heap.size A (ints rule) := fun W hb => by
    have := ((h.take N).below hb).more hb.size
    rwa [ints_takeS, hrule] at this
  have hmd : ∀ W, Below w.heap.size w W → Calls Tryd.prog 7 #[.slice A N c] W (TellsN W (madeN rule)) := fun W hb => by
    rw [← hlen]; exact rMade_any c W (hrow W hb) (by omega)
  have hal : ∀ W, Below w.heap.size w W → Calls Tryd.prog 8 #[] W (Tells W true) := fun W hb => sAlive_any W (hw.below hb hw.lt)
  have HMD := Lib.hid hmd
  have HAL := Lib.hid hal
  clear hmd hal
  by_cases hm0 : madeN rule = 0
  · obtain ⟨e1, e2, -⟩ := madeN_right rule
    have htx := text_no c w (hrow w (Below.refl _ _)) (by omega) (by rw [e1, hm0]; rfl) (by rw [e2, hm0]; rfl)
    rw [hlen] at htx
    rw [hm0] at HMD
    have HT := Lib.hid htx
    clear htx hrow hrule hlen h e1 e2 hm0 hw
    go_enter Tryd.func3, Tryd.ntmps3
    go_wp2_with (fail)
    refine HT.out.mono ?_
    rintro e w1 ⟨rfl, hb1⟩
    have HB1 := Lib.hid hb1
    clear hb1
    go_wp2_with (fail)
    refine (HMD.out _ HB1.out).mono ?_
    rintro e w2 ⟨rfl, hb2⟩
    have HB2 := Lib.hid (HB1.out.trans (hb2.mono HB1.out.size))
    clear hb2
    go_wp2_with (fail)
    refine (HAL.out _ HB2.out).mono ?_
    rintro e w3 ⟨rfl, hb3⟩
    have HB3 := Lib.hid (HB2.out.trans (hb3.mono HB2.out.size))
    clear hb3
    go_wp2
    go_ret
    exact ⟨rfl, HB3.out⟩
  · obtain ⟨t, b, ht, hp, h40⟩ := made_tree hm0
    have htx := text_tree t b ht c w (by rw [hp]; exact hrow w (Below.refl _ _)) (by rw [hp]; exact h40) hw
    have hrt : ∀ W, Below w.heap.size w W → Calls Tryd.prog 9 #[.slice A (Sh.post t).length c] W (Wrote W (Sh.tells (Sh.thOf t))) := fun W hb => rText_any t b ht c W (by rw [hp]; exact hrow W hb) (by rw [hp]; exact h40)
    rw [hp, hlen] at htx hrt
    have HT := Lib.hid htx
    have HRT := Lib.hid hrt
    have hm1 : (madeN rule == 0) = false := by rw [beq_eq_false_iff_ne]; exact hm0
    unfold Wrote at HT HRT
    generalize Sh.tells (Sh.thOf t) = r at *
    obtain ⟨s, n⟩ := r
    dsimp only at HT HRT
    generalize madeN rule = mn at *
    clear htx hrt hrow hrule hlen h hm0 hw ht hp
    go_enter Tryd.func3, Tryd.ntmps3
    go_wp2_with (fail)
    refine HT.out.mono ?_
    rintro e w1 ⟨rfl, hb1⟩
    have HB1 := Lib.hid hb1
    clear hb1
    go_wp2_with (fail)
    refine (HMD.out _ HB1.out).mono ?_
    rintro e w2 ⟨rfl, hb2⟩
    have HB2 := Lib.hid (HB1.out.trans (hb2.mono HB1.out.size))
    clear hb2
    go_wp2_with (fail)
    refine (HRT.out _ HB2.out).mono ?_
    rintro e w3 ⟨rfl, hb3⟩
    have HB3 := Lib.hid (HB2.out.trans (hb3.mono HB2.out.size))
    clear hb3
    go_wp2_with (fail)
    refine (HAL.out _ HB3.out).mono ?_
    rintro e w4 ⟨rfl, hb4⟩
    have HB4 := Lib.hid (HB3.out.trans (hb4.mono HB3.out.size))
    clear hb4
    go_wp2
    go_ret
    exact ⟨retb (by simp), HB4.out⟩
end Go.Proofs.YtflagbglbhmheaaDoor
