/- The walk of the reference's Made. -/
import Derived.Test.YtflagbglbhmheaaDoorRulL
namespace Go.Proofs.YtflagbglbhmheaaDoor
set_option maxRecDepth 100000
open Go.RowKit Go.Shelf

/-- A number is answered, and old memory stays. -/
def TellsN (w : World) (n : Int) (e : Ending) (w' : World) : Prop := e = .returned (.int .i64 n) ∧ Below w.heap.size w w'
theorem npile_two {base : Nat} {W : World} {v : Value} {q : List Bool} {b : Bool} (h : NPile base W v q) (ht : lastTwo q b = true) : ∃ g cap m, v = .slice (some ⟨g, 0, none⟩) (m + 2) cap ∧ q.length = m + 2 ∧ m + 2 ≤ cap ∧ q.take (m + 1) = q.take m ++ [b] := by
  have h2 : ¬ q.length < 2 := fun h2 => by unfold lastTwo at ht; rw [two_few h2] at ht; cases ht
  obtain ⟨m, hm⟩ : ∃ m, q.length = m + 2 := ⟨q.length - 2, by omega⟩
  have hx : q[m]? = some b := Classical.byContradiction fun hx => by unfold lastTwo at ht; rw [two_no hm (fun h1 => hx h1.1)] at ht; cases ht
  obtain ⟨g, cap, rfl, -⟩ := own_addr h (by omega)
  have hc := (ownT_row h).2
  exact ⟨g, cap, m, by rw [hm], hm, by omega, by rw [List.take_add_one, hx]; rfl⟩

set_option maxHeartbeats 8000000 in
theorem rMade_any {A : Option Addr} {rule : List Int} (c : Nat) (w : World) (h : Row w w.heap.size A (ints rule)) (hl : rule.length ≤ 100000) : Calls Tryd.prog 7 #[.slice A rule.length c] w (TellsN w (madeN rule)) := by
  obtain ⟨i0, hi, hz0, hz1, hz2⟩ := info_parts Tryd.infoInt
  have H := Lib.hid h
  have hstart : MadeAt w rule (.slice (some ⟨w.heap.size, 0, none⟩) 0 0) 0 [] (w.alloc (.cells #[] 3)) := ⟨World.ownsRow_made w #[] 0 (Nat.le_refl _) (by decide) rfl, (Below.refl _ w).alloc (Nat.le_refl _) _, rfl, Nat.le_refl _⟩
  have HS := Lib.hid hstart
  clear h hstart
  go_enter Tryd.func7, Tryd.ntmps7
  go_wp2
  go_loopw [3, 10] (fun v i wr => ∃ (k : Nat) (q : List Bool), k ≤ rule.length ∧ i = .int .i64 k ∧ Hid (MadeAt w rule v k q wr)) (fun _ i _ => rule.length - (intOf i).toNat)
  case atStart => exact ⟨0, [], Nat.zero_le _, rfl, HS⟩
  case round =>
    obtain ⟨k, q, hk, rfl, HK⟩ := hrel
    by_cases hlt : k < rule.length
    · obtain ⟨ad, hA, hb, c0⟩ := irow_at (H.out.below HK.out.below) hlt
      rw [hA]
      have hql : q.length ≤ 1000000 := by have := HK.out.len; omega
      have hsz := HK.out.below.size
      have hown : wr.ownsRow w.heap.size 3 1 _ q.length (ints (sorts q)) := HK.out.own
      obtain ⟨A1, cap1, rfl⟩ := ownT_slice hown
      have hgo := HK.out.go
      have hon := fun r hs => hgo.trans (pile_on (r := r) hlt hs)
      have hstop := fun hs => hgo.trans (pile_stop hlt hs)
      clear hA hgo
      generalize rule[k] = x at *
      by_cases x1 : x = 1 ∨ x = 2
      · have HE := Lib.hid (hon (q ++ [false]) (by unfold Rl.step; rw [if_pos x1]))
        clear hon hstop
        rcases x1 with rfl | rfl
        all_goals
          go_wp2_with (at_builtin; refine wpList_append_own _ rfl _ _ 22 rfl w.heap.size 3 i0 (.int .i64 0) 1 8 Tryd.underlying22 hi hz0 hz1 hz2 rfl (by decide) _ _ _ rfl (hown.alloc _) ⟨wr.heap.size, 0, none⟩ 1 1 [.int .i64 (1)] rfl rfl (cells_new _ _ _) (by simp [Value.oneCell']) (by unfold maxLen; omega) (by omega) (by simp; omega) ?_)
          intro v' w' hown' hgrow _
          have hnx : MadeAt w rule v' (k + 1) (q ++ [false]) w' := ⟨by
            unfold NPile
            rw [sorts_snoc, ints_snoc, List.length_append]
            exact hown', (HK.out.below.alloc hsz _).grown hgrow (by simp; omega) (fun k he => (hown.lt k he).1), HE.out, by have := HK.out.len; simp; omega⟩
          have HNX := Lib.hid hnx
          clear hown hown' hgrow hnx
          go_wp2
          go_roundw
          case rel => exact ⟨k + 1, _, by omega, by go_num, HNX⟩
          case measure => simp [intOf]; omega
      · have n1 : (x == 1) = false := by rw [beq_eq_false_iff_ne]; omega
        have n2 : (x == 2) = false := by rw [beq_eq_false_iff_ne]; omega
        by_cases x6 : 6 ≤ x ∧ x ≤ 11
        · have HE := Lib.hid (hon (q ++ [true]) (by unfold Rl.step; rw [if_neg x1, if_pos x6]))
          obtain ⟨x6, x11⟩ := x6
          clear hon hstop x1
          go_wp2_with (at_builtin; refine wpList_append_own _ rfl _ _ 22 rfl w.heap.size 3 i0 (.int .i64 0) 1 8 Tryd.underlying22 hi hz0 hz1 hz2 rfl (by decide) _ _ _ rfl (hown.alloc _) ⟨wr.heap.size, 0, none⟩ 1 1 [.int .i64 (2)] rfl rfl (cells_new _ _ _) (by simp [Value.oneCell']) (by unfold maxLen; omega) (by omega) (by simp; omega) ?_)
          intro v' w' hown' hgrow _
          have hnx : MadeAt w rule v' (k + 1) (q ++ [true]) w' := ⟨by
            unfold NPile
            rw [sorts_snoc, ints_snoc, List.length_append]
            exact hown', (HK.out.below.alloc hsz _).grown hgrow (by simp; omega) (fun k he => (hown.lt k he).1), HE.out, by have := HK.out.len; simp; omega⟩
          have HNX := Lib.hid hnx
          clear hown hown' hgrow hnx
          go_wp2
          go_roundw
          case rel => exact ⟨k + 1, _, by omega, by go_num, HNX⟩
          case measure => simp [intOf]; omega
        · by_cases x3 : x = 3 ∨ x = 4
          · have hs : Rl.step q x = Rl.two q false false := by unfold Rl.step; rw [if_neg x1, if_neg x6, if_pos x3]
            rw [two_eq] at hs
            have hc := rTwo_any false wr HK.out.own hql
            cases ht : lastTwo q false
            · rw [ht] at hs hc
              have HE := Lib.hid (hstop hs)
              have HC := Lib.hid hc
              clear hon hstop hs hc ht x1 x6 hown n1 n2
              rcases x3 with rfl | rfl
              all_goals
                go_wp2_with (fail)
                refine HC.out.mono ?_
                rintro e w1 ⟨rfl, rfl⟩
                go_wp2
                go_ret
                exact ⟨reti (madeN_none HE.out).symm, HK.out.below⟩
            · rw [ht] at hs hc
              obtain ⟨g, cap, m, hv, hqm, hcap, htk⟩ := npile_two HK.out.own ht
              have HE := Lib.hid (hon _ hs)
              have HC := Lib.hid hc
              injection hv with e1 e2 e3
              subst e1 e3
              have hown2 := own_take (k := m + 1) (by rw [hqm] at hown; exact hown) (by omega)
              rw [sorts_take, htk] at hown2
              have hnx : MadeAt w rule (.slice (some ⟨g, 0, none⟩) (m + 1) cap1) (k + 1) (q.take (q.length - 2) ++ [false]) wr := ⟨by
                unfold NPile
                rw [hqm, Nat.add_sub_cancel, List.length_append, List.length_take, hqm, show min m (m + 2) = m by omega]
                exact hown2, HK.out.below, HE.out, by have := HK.out.len; rw [List.length_append, List.length_take]; simp; omega⟩
              have HNX := Lib.hid hnx
              have hmk : m ≤ 1000000 := by omega
              rw [hqm]
              rw [hqm] at HC
              clear hon hstop hs hc ht x1 x6 hown n1 n2 hown2 hnx htk e2 hqm
              rcases x3 with rfl | rfl
              all_goals
                go_wp2_with (fail)
                refine HC.out.mono ?_
                rintro e w1 ⟨rfl, rfl⟩
                go_wp2
                go_roundw
                case rel => exact ⟨k + 1, _, by omega, by go_num, HNX⟩
                case measure => simp [intOf]; omega
          · have n3 : (x == 3) = false := by rw [beq_eq_false_iff_ne]; omega
            have n4 : (x == 4) = false := by rw [beq_eq_false_iff_ne]; omega
            by_cases x5 : x = 5
            · have hs : Rl.step q x = Rl.two q true false := by unfold Rl.step; rw [if_neg x1, if_neg x6, if_neg x3, if_pos x5]
              rw [two_eq] at hs
              have hc := rTwo_any true wr HK.out.own hql
              cases ht : lastTwo q true
              · rw [ht] at hs hc
                have HE := Lib.hid (hstop hs)
                have HC := Lib.hid hc
                clear hon hstop hs hc ht x1 x3 x6 hown n1 n2 n3 n4
                subst x5
                go_wp2_with (fail)
                refine HC.out.mono ?_
                rintro e w1 ⟨rfl, rfl⟩
                go_wp2
                go_ret
                exact ⟨reti (madeN_none HE.out).symm, HK.out.below⟩
              · rw [ht] at hs hc
                obtain ⟨g, cap, m, hv, hqm, hcap, htk⟩ := npile_two HK.out.own ht
                have HE := Lib.hid (hon _ hs)
                have HC := Lib.hid hc
                injection hv with e1 e2 e3
                subst e1 e3
                have hown2 := own_take (k := m) (by rw [hqm] at hown; exact hown) (by omega)
                rw [sorts_take] at hown2
                have hmk : m ≤ 1000000 := by omega
                have HLM : Hid ((q.take (q.length - 2)).length = m) := by unfold Hid; rw [List.length_take]; omega
                have HQ2 : Hid (q.take (q.length - 2) = q.take m) := by unfold Hid; rw [hqm]; rfl
                have HQM := Lib.hid hqm
                rw [hqm]
                rw [hqm] at HC
                clear hon hstop hs hc ht x1 x3 x6 hown n1 n2 n3 n4 htk e2 hqm
                subst x5
                have hown := hown2
                clear hown2
                go_wp2_with (fail)
                refine HC.out.mono ?_
                rintro e w1 ⟨rfl, rfl⟩
                go_wp2_with (at_builtin; refine wpList_append_own _ rfl _ _ 22 rfl w.heap.size 3 i0 (.int .i64 0) 1 8 Tryd.underlying22 hi hz0 hz1 hz2 rfl (by decide) _ _ _ rfl (hown.alloc _) ⟨wr.heap.size, 0, none⟩ 1 1 [.int .i64 (1)] rfl rfl (cells_new _ _ _) (by simp [Value.oneCell']) (by unfold maxLen; omega) (by omega) (by simp; omega) ?_)
                intro v' w' hown' hgrow _
                have hnx : MadeAt w rule v' (k + 1) (q.take (q.length - 2) ++ [false]) w' := ⟨by
                  unfold NPile
                  rw [sorts_snoc, ints_snoc, List.length_append, HLM.out, HQ2.out]
                  exact hown', (HK.out.below.alloc hsz _).grown hgrow (by simp; omega) (fun k he => (hown.lt k he).1), HE.out, by have := HK.out.len; rw [List.length_append, HLM.out]; have := HQM.out; simp; omega⟩
                have HNX := Lib.hid hnx
                clear hown hown' hgrow hnx
                go_wp2
                go_roundw
                case rel => exact ⟨k + 1, _, by omega, by go_num, HNX⟩
                case measure => simp [intOf]; omega
            · have n5 : (x == 5) = false := by rw [beq_eq_false_iff_ne]; exact x5
              by_cases x12 : x = 12 ∨ x = 13
              · have hs : Rl.step q x = Rl.two q true true := by unfold Rl.step; rw [if_neg x1, if_neg x6, if_neg x3, if_neg x5, if_pos x12]
                rw [two_eq] at hs
                have hc := rTwo_any true wr HK.out.own hql
                cases ht : lastTwo q true
                · rw [ht] at hs hc
                  have HE := Lib.hid (hstop hs)
                  have HC := Lib.hid hc
                  clear hon hstop hs hc ht x1 x3 x5 x6 hown n1 n2 n3 n4 n5
                  rcases x12 with rfl | rfl
                  all_goals
                    go_wp2_with (fail)
                    refine HC.out.mono ?_
                    rintro e w1 ⟨rfl, rfl⟩
                    go_wp2
                    go_ret
                    exact ⟨reti (madeN_none HE.out).symm, HK.out.below⟩
                · rw [ht] at hs hc
                  obtain ⟨g, cap, m, hv, hqm, hcap, htk⟩ := npile_two HK.out.own ht
                  have HE := Lib.hid (hon _ hs)
                  have HC := Lib.hid hc
                  injection hv with e1 e2 e3
                  subst e1 e3
                  have hown2 := own_take (k := m + 1) (by rw [hqm] at hown; exact hown) (by omega)
                  rw [sorts_take, htk] at hown2
                  have hnx : MadeAt w rule (.slice (some ⟨g, 0, none⟩) (m + 1) cap1) (k + 1) (q.take (q.length - 2) ++ [true]) wr := ⟨by
                    unfold NPile
                    rw [hqm, Nat.add_sub_cancel, List.length_append, List.length_take, hqm, show min m (m + 2) = m by omega]
                    exact hown2, HK.out.below, HE.out, by have := HK.out.len; rw [List.length_append, List.length_take]; simp; omega⟩
                  have HNX := Lib.hid hnx
                  have hmk : m ≤ 1000000 := by omega
                  rw [hqm]
                  rw [hqm] at HC
                  clear hon hstop hs hc ht x1 x3 x5 x6 hown n1 n2 n3 n4 n5 hown2 hnx htk e2 hqm
                  rcases x12 with rfl | rfl
                  all_goals
                    go_wp2_with (fail)
                    refine HC.out.mono ?_
                    rintro e w1 ⟨rfl, rfl⟩
                    go_wp2
                    go_roundw
                    case rel => exact ⟨k + 1, _, by omega, by go_num, HNX⟩
                    case measure => simp [intOf]; omega
              · have n12 : (x == 12) = false := by rw [beq_eq_false_iff_ne]; omega
                have n13 : (x == 13) = false := by rw [beq_eq_false_iff_ne]; omega
                have HE := Lib.hid (hstop (by unfold Rl.step; rw [if_neg x1, if_neg x6, if_neg x3, if_neg x5, if_neg x12]))
                have x6' : x < 6 ∨ 11 < x := by omega
                clear hon hstop x1 x3 x5 x6 x12 hown
                rcases x6' with x6 | x6
                all_goals
                  go_wp2
                  go_ret
                  exact ⟨reti (madeN_none HE.out).symm, HK.out.below⟩
    · obtain rfl : k = rule.length := by omega
      have hgo := HK.out.go
      rw [List.drop_length] at hgo
      have hown : wr.ownsRow w.heap.size 3 1 _ q.length (ints (sorts q)) := HK.out.own
      have HB := Lib.hid HK.out.below
      have hmd : madeN rule = if rule.length ≤ 40 then soleN q else 0 := by unfold madeN; rw [hgo]; rfl
      have HM := Lib.hid hmd
      clear hgo hmd
      match q, HK, HM, hown with
      | [], HK, HM, hown =>
        obtain ⟨A1, cap, rfl⟩ := ownT_slice hown
        clear hown HK
        go_wp2
        go_ret
        exact ⟨reti (by rw [HM.out]; split <;> rfl), HB.out⟩
      | [x], HK, HM, hown =>
        obtain ⟨g, cap, rfl, -⟩ := own_addr hown (by simp)
        have c0 := own_cell hown (j := 0) (u := .int .i64 (sortN x)) rfl
        clear hown HK
        by_cases h40 : (40 : Int) < (rule.length : Int)
        · go_wp2
          go_ret
          exact ⟨reti (by rw [HM.out, if_neg (by omega)]), HB.out⟩
        · have hp40 : ((40 : Int) < (rule.length : Int)) = False := eq_false h40
          have HL : Hid (rule.length ≤ 40) := by unfold Hid; omega
          clear h40
          go_wp2
          go_ret
          exact ⟨reti (by rw [HM.out, if_pos HL.out]; rfl), HB.out⟩
      | x :: y :: r, HK, HM, hown =>
        obtain ⟨A1, cap, rfl⟩ := ownT_slice hown
        have hne : (((x :: y :: r).length : Int) != 1) = true := by rw [bne_iff_ne]; simp; omega
        generalize (x :: y :: r).length = n at *
        clear hown HK
        go_wp2
        go_ret
        exact ⟨reti (by rw [HM.out]; split <;> rfl), HB.out⟩
end Go.Proofs.YtflagbglbhmheaaDoor
