/- The reference's label, Atoms, Stack, Right (by gen_stmm.py). -/
import Derived.Test.YtipbilmnknmhmaaGreatDoorGCodE
import Derived.Test.YtipbilmnknmhmaaGreatDoorGCodA
namespace Go.Proofs.YtipbilmnknmhmaaGreatDoor
set_option maxRecDepth 100000
open Go.RowKit Go.Shelf Go.Sort
attribute [local go_sem] Oper.semAt_some
section
variable {v : Value} {names : List ByteArray} {up : List Nat}
set_option maxHeartbeats 2000000 in
theorem rlabel_any (a : Int) (w : World) (h : IsLat w w.heap.size v names up) : Calls Tryz.prog 46 #[v, .int .i64 a] w (Tells w (St.labB up.length a)) := by
  obtain ⟨⟨N, U, c1, c2, rfl, hN, hU⟩, hsh, hfew, hcaps⟩ := h
  clear hN hU
  have HB0 := Lib.hid ((Below.refl _ w).alloc (Nat.le_refl _) (.cells #[.slice N names.length c1, .slice U up.length c2] 25))
  by_cases h0 : 0 ≤ a
  · have hr : St.labB up.length a = decide (a < (up.length : Int)) := by unfold St.labB; exact decide_eq_decide.2 ⟨fun h => h.2, fun h => ⟨h0, h⟩⟩
    rw [hr]
    clear hr
    go_enter Tryz.func46, Tryz.ntmps46
    go_wp2
    go_ret
    exact ⟨rfl, HB0.out⟩
  · have hr : St.labB up.length a = false := by unfold St.labB; exact decide_eq_false fun h => h0 h.1
    rw [hr]
    clear hr
    go_enter Tryz.func46, Tryz.ntmps46
    go_wp2
    go_ret
    exact ⟨rfl, HB0.out⟩
theorem all_noA {α : Type} {f : α → Bool} {l : List α} {j : Nat} {x : α} (h : l[j]? = some x) (hx : f x = false) : l.all f = false := by
  rw [List.all_eq_false]
  exact ⟨x, List.mem_of_getElem? h, by rw [hx]; decide⟩
theorem all_yesA {α : Type} {f : α → Bool} {l : List α} (h : ∀ (j : Nat) x, l[j]? = some x → f x = true) : l.all f = true := by
  refine List.all_eq_true.2 fun x hx => ?_
  obtain ⟨j, hj, rfl⟩ := List.getElem_of_mem hx
  exact h j _ (List.getElem?_eq_getElem hj)
set_option maxHeartbeats 8000000 in
theorem rAtoms_any {A : Option Addr} {l : List St.Atom} (c : Nat) (w : World) (h : IsLat w w.heap.size v names up) (hr : Row w w.heap.size A (fcells avs l)) (hl : l.length ≤ 1000) :
    Calls Tryz.prog 47 #[v, .slice A l.length c] w (Tells w (l.all (St.atomB up.length))) := by
  obtain ⟨⟨N, U, c1, c2, rfl, hN, hU⟩, hsh, hfew, hcaps⟩ := id h
  obtain ⟨res, hres⟩ : ∃ res, (l.all (St.atomB up.length)) = res := ⟨_, rfl⟩
  rw [hres]
  have HRES := Lib.hid hres
  clear hres
  have HLB := Lib.hid (fun a W (hb : Below w.heap.size w W) => rlabel_any (v := .agg #[.slice N names.length c1, .slice U up.length c2]) a W ((h.below hb).more hb.size))
  have HB0 := Lib.hid ((Below.refl _ w).alloc (Nat.le_refl _) (.cells #[.slice N names.length c1, .slice U up.length c2] 25))
  have P0 := Lib.hid (Blk.new w 25 #[.slice N names.length c1, .slice U up.length c2])
  have H := Lib.hid hr
  obtain ⟨n, hn⟩ : ∃ n, l.length = n := ⟨_, rfl⟩
  have HN := Lib.hid hn
  rw [hn] at hl ⊢
  clear h hN hU hr hn hsh hfew hcaps
  go_enter Tryz.func47, Tryz.ntmps47
  go_wp2
  go_loopw [9] (fun i wr => ∃ k : Nat, k ≤ n ∧ i = .int .i64 k ∧ Hid (∀ (j : Nat) (x : St.Atom), j < k → l[j]? = some x → St.atomB up.length x = true) ∧ Hid (Below w.heap.size w wr) ∧ Hid (Blk wr w.heap.size 25 #[.slice N names.length c1, .slice U up.length c2])) (fun i _ => n - (intOf i).toNat)
  case atStart => exact ⟨0, Nat.zero_le _, rfl, Lib.hid fun j x hj => absurd hj (Nat.not_lt_zero _), HB0, P0⟩
  case round =>
    clear HB0 P0
    obtain ⟨k, hk, rfl, HS, HBW, P0⟩ := hrel
    by_cases hlt : k < n
    · obtain ⟨ad, x, rfl, hxb, hx, x0, x1⟩ := arow_at (H.out.below HBW.out) (show k < l.length by rw [HN.out]; exact hlt)
      have hz := HBW.out.size
      have hxb2 : (ad.add (k * 2)).block < wr.heap.size := by rw [add_block]; omega
      have HX := Lib.hid hx
      obtain ⟨xv, xl⟩ := x
      dsimp only at x0 x1
      have hal := (Below.refl wr.heap.size wr).alloc (Nat.le_refl _) (.cells #[.int .i64 xv, .int .i64 xl] 38)
      have hbw1 := HBW.out.trans (hal.mono HBW.out.size)
      have hp1 := P0.out.below hal P0.out.lt
      have hbx := Blk.new wr 38 #[.int .i64 xv, .int .i64 xl]
      have hc := HLB.out xl _ hbw1
      obtain ⟨W1, hW1⟩ : ∃ W1, wr.alloc (.cells #[.int .i64 xv, .int .i64 xl] 38) = W1 := ⟨_, rfl⟩
      rw [hW1] at hbw1 hp1 hbx hc
      have a0 : W1.cell? ⟨w.heap.size, 0, none⟩ = some (.slice N names.length c1) := hp1.cell 0
      have a1 : W1.cell? ⟨w.heap.size, 1, none⟩ = some (.slice U up.length c2) := hp1.cell 1
      have s0 := hbx.cell 0
      have s1 := hbx.cell 1
      skip
      have HB1 := Lib.hid hbw1
      have HP1 := Lib.hid hp1
      have HBX := Lib.hid hbx
      have hz1 := hbw1.size
      have hblt := hbx.lt
      have hplt := hp1.lt
      have HC := Lib.hid hc
      clear hx hal hbw1 hp1 hbx P0 hc HLB
      by_cases h1 : xv < -20
      · have HR2 := Lib.hid (show false = res by rw [← HRES.out]; exact (all_noA HX.out (show St.atomB up.length _ = false by unfold St.atomB St.valB; dsimp only; rw [decide_eq_false (by omega)]; rfl)).symm)
        clear HC
        go_wp2
        go_ret
        exact ⟨retb HR2.out, HB1.out⟩
      · by_cases h2 : 20 < xv
        · have HR2 := Lib.hid (show false = res by rw [← HRES.out]; exact (all_noA HX.out (show St.atomB up.length _ = false by unfold St.atomB St.valB; dsimp only; rw [decide_eq_false (by omega)]; rfl)).symm)
          clear HC
          go_wp2
          go_ret
          exact ⟨retb HR2.out, HB1.out⟩
        · cases hb : St.labB up.length xl with
          | false =>
            rw [hb] at HC
            have HR2 := Lib.hid (show false = res by rw [← HRES.out]; exact (all_noA HX.out (show St.atomB up.length _ = false by unfold St.atomB; dsimp only; rw [hb, Bool.and_false])).symm)
            clear hb
            go_wp2_with (fail)
            refine HC.out.mono ?_
            rintro e w2 ⟨rfl, hb2⟩
            have HB2 := Lib.hid (HB1.out.trans (hb2.mono HB1.out.size))
            clear hb2
            go_wp2
            go_ret
            exact ⟨retb HR2.out, HB2.out⟩
          | true =>
            rw [hb] at HC
            have HI : Hid (St.atomB up.length ⟨xv, xl⟩ = true) := Lib.hid (by unfold St.atomB St.valB; dsimp only; rw [hb, decide_eq_true (by omega)]; rfl)
            clear hb
            go_wp2_with (fail)
            refine HC.out.mono ?_
            rintro e w2 ⟨rfl, hb2⟩
            have HB2 := Lib.hid (HB1.out.trans (hb2.mono HB1.out.size))
            have HP2 := Lib.hid (HP1.out.below hb2 HP1.out.lt)
            clear hb2 a0 a1 s0 s1
            go_wp2
            go_roundw
            case rel => exact ⟨k + 1, by omega, by go_num, Lib.hid fun j u hj hu => by
              rcases Nat.lt_or_eq_of_le (Nat.le_of_lt_succ hj) with h | rfl
              · exact HS.out j u h hu
              · rw [HX.out] at hu
                injection hu with hu
                rw [← hu]; exact HI.out, HB2, HP2⟩
            case measure => simp [intOf]; omega
    · obtain rfl : k = n := by omega
      have HR2 := Lib.hid (show true = res by rw [← HRES.out]; exact (all_yesA fun j x hx => HS.out j x (by have := (List.getElem?_eq_some_iff.1 hx).1; rw [HN.out] at this; exact this) hx).symm)
      go_wp2
      go_ret
      exact ⟨retb HR2.out, HBW.out⟩
set_option maxHeartbeats 8000000 in
theorem rStack_any {A : Option Addr} {l : List St.Slot} (c : Nat) (w : World) (h : IsLat w w.heap.size v names up) (hr : Row w w.heap.size A (fcells svs l)) (hl : l.length ≤ 1000) :
    Calls Tryz.prog 48 #[v, .slice A l.length c] w (Tells w (decide (l.length ≤ 12) && l.all (St.slotB up.length))) := by
  obtain ⟨⟨N, U, c1, c2, rfl, hN, hU⟩, hsh, hfew, hcaps⟩ := id h
  obtain ⟨res, hres⟩ : ∃ res, (decide (l.length ≤ 12) && l.all (St.slotB up.length)) = res := ⟨_, rfl⟩
  rw [hres]
  have HRES := Lib.hid hres
  clear hres
  have HLB := Lib.hid (fun a W (hb : Below w.heap.size w W) => rlabel_any (v := .agg #[.slice N names.length c1, .slice U up.length c2]) a W ((h.below hb).more hb.size))
  have HB0 := Lib.hid ((Below.refl _ w).alloc (Nat.le_refl _) (.cells #[.slice N names.length c1, .slice U up.length c2] 25))
  have P0 := Lib.hid (Blk.new w 25 #[.slice N names.length c1, .slice U up.length c2])
  have H := Lib.hid hr
  obtain ⟨n, hn⟩ : ∃ n, l.length = n := ⟨_, rfl⟩
  have HN := Lib.hid hn
  rw [hn] at hl ⊢
  clear h hN hU hr hn hsh hfew hcaps
  go_enter Tryz.func48, Tryz.ntmps48
  go_wp2
  go_loopw [9] (fun i wr => ∃ k : Nat, k ≤ n ∧ i = .int .i64 k ∧ Hid (∀ (j : Nat) (x : St.Slot), j < k → l[j]? = some x → St.slotB up.length x = true) ∧ Hid (Below w.heap.size w wr) ∧ Hid (Blk wr w.heap.size 25 #[.slice N names.length c1, .slice U up.length c2])) (fun i _ => n - (intOf i).toNat)
  case atStart => exact ⟨0, Nat.zero_le _, rfl, Lib.hid fun j x hj => absurd hj (Nat.not_lt_zero _), HB0, P0⟩
  case round =>
    clear HB0 P0
    obtain ⟨k, hk, rfl, HS, HBW, P0⟩ := hrel
    by_cases hlt : k < n
    · obtain ⟨ad, x, rfl, hxb, hx, x0, x1, x2⟩ := srow_at (H.out.below HBW.out) (show k < l.length by rw [HN.out]; exact hlt)
      have hz := HBW.out.size
      have hxb2 : (ad.add (k * 3)).block < wr.heap.size := by rw [add_block]; omega
      have HX := Lib.hid hx
      obtain ⟨xr, xv, xl⟩ := x
      dsimp only at x0 x1 x2
      have hal := (Below.refl wr.heap.size wr).alloc (Nat.le_refl _) (.cells #[.bool xr, .int .i64 xv, .int .i64 xl] 73)
      have hbw1 := HBW.out.trans (hal.mono HBW.out.size)
      have hp1 := P0.out.below hal P0.out.lt
      have hbx := Blk.new wr 73 #[.bool xr, .int .i64 xv, .int .i64 xl]
      have hc := HLB.out xl _ hbw1
      obtain ⟨W1, hW1⟩ : ∃ W1, wr.alloc (.cells #[.bool xr, .int .i64 xv, .int .i64 xl] 73) = W1 := ⟨_, rfl⟩
      rw [hW1] at hbw1 hp1 hbx hc
      have a0 : W1.cell? ⟨w.heap.size, 0, none⟩ = some (.slice N names.length c1) := hp1.cell 0
      have a1 : W1.cell? ⟨w.heap.size, 1, none⟩ = some (.slice U up.length c2) := hp1.cell 1
      have s0 := hbx.cell 0
      have s1 := hbx.cell 1
      have s2 := hbx.cell 2
      have HB1 := Lib.hid hbw1
      have HP1 := Lib.hid hp1
      have HBX := Lib.hid hbx
      have hz1 := hbw1.size
      have hblt := hbx.lt
      have hplt := hp1.lt
      have HC := Lib.hid hc
      clear hx hal hbw1 hp1 hbx P0 hc HLB
      by_cases h1 : xv < -20
      · have HR2 := Lib.hid (show false = res by rw [← HRES.out]; exact (all_no HX.out (show St.slotB up.length _ = false by unfold St.slotB St.valB; dsimp only; rw [decide_eq_false (by omega)]; rfl)).symm)
        clear HC
        go_wp2
        go_ret
        exact ⟨retb HR2.out, HB1.out⟩
      · by_cases h2 : 20 < xv
        · have HR2 := Lib.hid (show false = res by rw [← HRES.out]; exact (all_no HX.out (show St.slotB up.length _ = false by unfold St.slotB St.valB; dsimp only; rw [decide_eq_false (by omega)]; rfl)).symm)
          clear HC
          go_wp2
          go_ret
          exact ⟨retb HR2.out, HB1.out⟩
        · cases hb : St.labB up.length xl with
          | false =>
            rw [hb] at HC
            have HR2 := Lib.hid (show false = res by rw [← HRES.out]; exact (all_no HX.out (show St.slotB up.length _ = false by unfold St.slotB; dsimp only; rw [hb, Bool.and_false, Bool.false_and])).symm)
            clear hb
            go_wp2_with (fail)
            refine HC.out.mono ?_
            rintro e w2 ⟨rfl, hb2⟩
            have HB2 := Lib.hid (HB1.out.trans (hb2.mono HB1.out.size))
            have hbx2 := HBX.out.below hb2 HBX.out.lt
            have t0 := hbx2.cell 0
            have t1 := hbx2.cell 1
            have t2 := hbx2.cell 2
            have hb2l := hbx2.lt
            clear hbx2
            clear hb2
            go_wp2
            go_ret
            exact ⟨retb HR2.out, HB2.out⟩
          | true =>
            rw [hb] at HC
            cases xr with
            | false =>
              have HI : Hid (St.slotB up.length ⟨false, xv, xl⟩ = true) := Lib.hid (by unfold St.slotB St.valB; dsimp only; rw [hb, decide_eq_true (by omega)]; rfl)
              clear hb
              go_wp2_with (fail)
              refine HC.out.mono ?_
              rintro e w2 ⟨rfl, hb2⟩
              have HB2 := Lib.hid (HB1.out.trans (hb2.mono HB1.out.size))
              have HP2 := Lib.hid (HP1.out.below hb2 HP1.out.lt)
              have hbx2 := HBX.out.below hb2 HBX.out.lt
              have t0 := hbx2.cell 0
              have t1 := hbx2.cell 1
              have t2 := hbx2.cell 2
              have hb2l := hbx2.lt
              clear hbx2
              clear hb2 a0 a1 s0 s1 s2
              go_wp2
              go_roundw
              case rel => exact ⟨k + 1, by omega, by go_num, Lib.hid fun j u hj hu => by
                rcases Nat.lt_or_eq_of_le (Nat.le_of_lt_succ hj) with h | rfl
                · exact HS.out j u h hu
                · rw [HX.out] at hu
                  injection hu with hu
                  rw [← hu]; exact HI.out, HB2, HP2⟩
              case measure => simp [intOf]; omega
            | true =>
              by_cases h3 : xv < 0
              · have HR2 := Lib.hid (show false = res by rw [← HRES.out]; exact (all_no HX.out (show St.slotB up.length _ = false by unfold St.slotB St.pcB; dsimp only; rw [decide_eq_false (show ¬ (0 ≤ xv ∧ xv ≤ 12) by omega), Bool.not_true, Bool.false_or, Bool.and_false])).symm)
                clear hb
                go_wp2_with (fail)
                refine HC.out.mono ?_
                rintro e w2 ⟨rfl, hb2⟩
                have HB2 := Lib.hid (HB1.out.trans (hb2.mono HB1.out.size))
                have hbx2 := HBX.out.below hb2 HBX.out.lt
                have t0 := hbx2.cell 0
                have t1 := hbx2.cell 1
                have t2 := hbx2.cell 2
                have hb2l := hbx2.lt
                clear hbx2
                clear hb2
                go_wp2
                go_ret
                exact ⟨retb HR2.out, HB2.out⟩
              · by_cases h4 : 12 < xv
                · have HR2 := Lib.hid (show false = res by rw [← HRES.out]; exact (all_no HX.out (show St.slotB up.length _ = false by unfold St.slotB St.pcB; dsimp only; rw [decide_eq_false (show ¬ (0 ≤ xv ∧ xv ≤ 12) by omega), Bool.not_true, Bool.false_or, Bool.and_false])).symm)
                  clear hb
                  go_wp2_with (fail)
                  refine HC.out.mono ?_
                  rintro e w2 ⟨rfl, hb2⟩
                  have HB2 := Lib.hid (HB1.out.trans (hb2.mono HB1.out.size))
                  have hbx2 := HBX.out.below hb2 HBX.out.lt
                  have t0 := hbx2.cell 0
                  have t1 := hbx2.cell 1
                  have t2 := hbx2.cell 2
                  have hb2l := hbx2.lt
                  clear hbx2
                  clear hb2
                  go_wp2
                  go_ret
                  exact ⟨retb HR2.out, HB2.out⟩
                · have HI : Hid (St.slotB up.length ⟨true, xv, xl⟩ = true) := Lib.hid (by unfold St.slotB St.valB St.pcB; dsimp only; rw [hb, decide_eq_true (show -20 ≤ xv ∧ xv ≤ 20 by omega), decide_eq_true (show 0 ≤ xv ∧ xv ≤ 12 by omega)]; rfl)
                  clear hb
                  go_wp2_with (fail)
                  refine HC.out.mono ?_
                  rintro e w2 ⟨rfl, hb2⟩
                  have HB2 := Lib.hid (HB1.out.trans (hb2.mono HB1.out.size))
                  have HP2 := Lib.hid (HP1.out.below hb2 HP1.out.lt)
                  have hbx2 := HBX.out.below hb2 HBX.out.lt
                  have t0 := hbx2.cell 0
                  have t1 := hbx2.cell 1
                  have t2 := hbx2.cell 2
                  have hb2l := hbx2.lt
                  clear hbx2
                  clear hb2 a0 a1 s0 s1 s2
                  go_wp2
                  go_roundw
                  case rel => exact ⟨k + 1, by omega, by go_num, Lib.hid fun j u hj hu => by
                    rcases Nat.lt_or_eq_of_le (Nat.le_of_lt_succ hj) with h | rfl
                    · exact HS.out j u h hu
                    · rw [HX.out] at hu
                      injection hu with hu
                      rw [← hu]; exact HI.out, HB2, HP2⟩
                  case measure => simp [intOf]; omega
    · obtain rfl : k = n := by omega
      have hrt : res = decide (k ≤ 12) := by
        rw [← HRES.out, all_yesA fun j x hx => HS.out j x (by have := (List.getElem?_eq_some_iff.1 hx).1; rw [HN.out] at this; exact this) hx, Bool.and_true, HN.out]
      have hrt2 : decide ((k : Int) ≤ 12) = res := by
        rw [hrt]
        by_cases h : k ≤ 12
        · rw [decide_eq_true h, decide_eq_true (by omega)]
        · rw [decide_eq_false h, decide_eq_false (by omega)]
      have HRT := Lib.hid hrt2
      clear hrt hrt2
      go_wp2
      go_ret
      exact ⟨retb HRT.out, HBW.out⟩
end
theorem rightB_seven (k : Nat) (s : St.State) : St.rightB k s = (Cd.rightB k s.code && (decide (0 ≤ s.pc.v) && (decide (s.pc.v ≤ 12) && (St.labB k s.pc.l && (s.mem.all (St.atomB k) && (decide (s.mem.length ≤ 6) && ((decide (s.stack.length ≤ 12) && s.stack.all (St.slotB k)) && (s.out.all (St.atomB k) && decide (s.out.length ≤ 8))))))))) := by
  unfold St.rightB St.pcB
  rw [Bool.eq_iff_iff]
  simp only [Bool.and_eq_true, decide_eq_true_eq]
  constructor
  · rintro ⟨⟨⟨⟨a, ⟨⟨b, c⟩, d⟩⟩, ⟨e, f⟩⟩, ⟨g, h⟩⟩, ⟨i, j⟩⟩; exact ⟨a, b, c, d, f, e, ⟨g, h⟩, j, i⟩
  · rintro ⟨a, b, c, d, f, e, ⟨g, h⟩, j, i⟩; exact ⟨⟨⟨⟨a, ⟨⟨b, c⟩, d⟩⟩, ⟨e, f⟩⟩, ⟨g, h⟩⟩, ⟨i, j⟩⟩
set_option maxHeartbeats 16000000 in
theorem rRight9_any {v sv : Value} {names : List ByteArray} {up : List Nat} {s : St.State} (w : World) (h : IsLat w w.heap.size v names up) (hs : IsSt w w.heap.size sv s) (hsm : SmallS s) :
    Calls Tryz.prog 19 #[v, sv] w (Tells w (St.rightB up.length s)) := by
  rw [rightB_seven]
  obtain ⟨⟨N, U, c1, c2, rfl, hN, hU⟩, hsh, hfew, hcaps⟩ := id h
  obtain ⟨⟨pv, pl⟩, code, mem, stack, out⟩ := s
  obtain ⟨cv, mv, stv_, ov, rfl, ⟨cA, cc, rfl, hcr, hcc⟩, ⟨mA, mc, rfl, hmr, hmc⟩, ⟨sA, sc, rfl, hsr, hsc⟩, ⟨oA, oc, rfl, hor, hoc⟩⟩ := hs
  obtain ⟨hs1, hs2, hs3, hs4⟩ := hsm
  dsimp only at hcr hcc hmr hmc hsr hsc hor hoc hs1 hs2 hs3 hs4 ⊢
  unfold stv
  dsimp only
  have HC1 := Lib.hid (fun W (hb : Below w.heap.size w W) => rRightI_any cc W ((h.below hb).more hb.size) ((hcr.below hb).more hb.size) hs1)
  have HC2 := Lib.hid (fun W (hb : Below w.heap.size w W) => rlabel_any pl W ((h.below hb).more hb.size))
  have HC3 := Lib.hid (fun W (hb : Below w.heap.size w W) => rAtoms_any mc W ((h.below hb).more hb.size) ((hmr.below hb).more hb.size) hs2)
  have HC4 := Lib.hid (fun W (hb : Below w.heap.size w W) => rStack_any sc W ((h.below hb).more hb.size) ((hsr.below hb).more hb.size) hs3)
  have HC5 := Lib.hid (fun W (hb : Below w.heap.size w W) => rAtoms_any oc W ((h.below hb).more hb.size) ((hor.below hb).more hb.size) hs4)
  have hb := (((Below.refl _ w).alloc (Nat.le_refl _) (.cells #[.slice N names.length c1, .slice U up.length c2] 25)).alloc (by simp) (.cells #[.int .i64 pv, .int .i64 pl, .slice cA code.length cc, .slice mA mem.length mc, .slice sA stack.length sc, .slice oA out.length oc] 42))
  obtain ⟨W0, hW0⟩ : ∃ W0, (w.alloc (.cells #[.slice N names.length c1, .slice U up.length c2] 25)).alloc (.cells #[.int .i64 pv, .int .i64 pl, .slice cA code.length cc, .slice mA mem.length mc, .slice sA stack.length sc, .slice oA out.length oc] 42) = W0 := ⟨_, rfl⟩
  have hp0 : Blk W0 w.heap.size 25 #[.slice N names.length c1, .slice U up.length c2] := hW0 ▸ (Blk.new _ _ _).alloc _
  have hp1 : Blk W0 (w.heap.size + 1) 42 #[.int .i64 pv, .int .i64 pl, .slice cA code.length cc, .slice mA mem.length mc, .slice sA stack.length sc, .slice oA out.length oc] := by
    have h1 := Blk.new (w.alloc (.cells #[.slice N names.length c1, .slice U up.length c2] 25)) 42 #[.int .i64 pv, .int .i64 pl, .slice cA code.length cc, .slice mA mem.length mc, .slice sA stack.length sc, .slice oA out.length oc]
    rw [show (w.alloc (.cells #[.slice N names.length c1, .slice U up.length c2] 25)).heap.size = w.heap.size + 1 by simp] at h1
    rw [← hW0]; exact h1
  rw [hW0] at hb
  have HB := Lib.hid hb
  have HP0 := Lib.hid hp0
  have HP1 := Lib.hid hp1
  clear h hN hU hcr hmr hsr hor hb hp0 hp1
  have a0 : W0.cell? ⟨w.heap.size, 0, none⟩ = some (.slice N names.length c1) := HP0.out.cell 0
  have a1 : W0.cell? ⟨w.heap.size, 1, none⟩ = some (.slice U up.length c2) := HP0.out.cell 1
  have s0 : W0.cell? ⟨w.heap.size + 1, 0, none⟩ = some (.int .i64 pv) := HP1.out.cell 0
  have s1 : W0.cell? ⟨w.heap.size + 1, 1, none⟩ = some (.int .i64 pl) := HP1.out.cell 1
  have s2 : W0.cell? ⟨w.heap.size + 1, 2, none⟩ = some (.slice cA code.length cc) := HP1.out.cell 2
  have s3 : W0.cell? ⟨w.heap.size + 1, 3, none⟩ = some (.slice mA mem.length mc) := HP1.out.cell 3
  have s4 : W0.cell? ⟨w.heap.size + 1, 4, none⟩ = some (.slice sA stack.length sc) := HP1.out.cell 4
  have s5 : W0.cell? ⟨w.heap.size + 1, 5, none⟩ = some (.slice oA out.length oc) := HP1.out.cell 5
  generalize Cd.rightB up.length code = b1 at *
  generalize St.labB up.length pl = b2 at *
  generalize mem.all (St.atomB up.length) = b3 at *
  generalize (decide (stack.length ≤ 12) && stack.all (St.slotB up.length)) = b4 at *
  generalize out.all (St.atomB up.length) = b5 at *
  cases b1 with
  | false =>
    rw [Bool.false_and]
    go_enter Tryz.func19, Tryz.ntmps19
    go_wp2_with (fail)
    refine (HC1.out W0 HB.out).mono ?_
    rintro e W1 ⟨rfl, hb9⟩
    have hp0 := HP0.out.below hb9 HP0.out.lt
    have hp1 := HP1.out.below hb9 HP1.out.lt
    have hb := HB.out.trans (hb9.mono HB.out.size)
    clear hb9 HB HP0 HP1 a0 a1 s0 s1 s2 s3 s4 s5
    have HB := Lib.hid hb
    have HP0 := Lib.hid hp0
    have HP1 := Lib.hid hp1
    clear hb hp0 hp1
    have a0 : W1.cell? ⟨w.heap.size, 0, none⟩ = some (.slice N names.length c1) := HP0.out.cell 0
    have a1 : W1.cell? ⟨w.heap.size, 1, none⟩ = some (.slice U up.length c2) := HP0.out.cell 1
    have s0 : W1.cell? ⟨w.heap.size + 1, 0, none⟩ = some (.int .i64 pv) := HP1.out.cell 0
    have s1 : W1.cell? ⟨w.heap.size + 1, 1, none⟩ = some (.int .i64 pl) := HP1.out.cell 1
    have s2 : W1.cell? ⟨w.heap.size + 1, 2, none⟩ = some (.slice cA code.length cc) := HP1.out.cell 2
    have s3 : W1.cell? ⟨w.heap.size + 1, 3, none⟩ = some (.slice mA mem.length mc) := HP1.out.cell 3
    have s4 : W1.cell? ⟨w.heap.size + 1, 4, none⟩ = some (.slice sA stack.length sc) := HP1.out.cell 4
    have s5 : W1.cell? ⟨w.heap.size + 1, 5, none⟩ = some (.slice oA out.length oc) := HP1.out.cell 5
    go_wp2
    go_ret
    exact ⟨rfl, HB.out⟩
  | true =>
    rw [Bool.true_and]
    by_cases k0 : 0 ≤ pv
    · rw [decide_eq_true k0, Bool.true_and]
      by_cases k12 : pv ≤ 12
      · rw [decide_eq_true k12, Bool.true_and]
        cases b2 with
        | false =>
          rw [Bool.false_and]
          go_enter Tryz.func19, Tryz.ntmps19
          go_wp2_with (fail)
          refine (HC1.out W0 HB.out).mono ?_
          rintro e W1 ⟨rfl, hb9⟩
          have hp0 := HP0.out.below hb9 HP0.out.lt
          have hp1 := HP1.out.below hb9 HP1.out.lt
          have hb := HB.out.trans (hb9.mono HB.out.size)
          clear hb9 HB HP0 HP1 a0 a1 s0 s1 s2 s3 s4 s5
          have HB := Lib.hid hb
          have HP0 := Lib.hid hp0
          have HP1 := Lib.hid hp1
          clear hb hp0 hp1
          have a0 : W1.cell? ⟨w.heap.size, 0, none⟩ = some (.slice N names.length c1) := HP0.out.cell 0
          have a1 : W1.cell? ⟨w.heap.size, 1, none⟩ = some (.slice U up.length c2) := HP0.out.cell 1
          have s0 : W1.cell? ⟨w.heap.size + 1, 0, none⟩ = some (.int .i64 pv) := HP1.out.cell 0
          have s1 : W1.cell? ⟨w.heap.size + 1, 1, none⟩ = some (.int .i64 pl) := HP1.out.cell 1
          have s2 : W1.cell? ⟨w.heap.size + 1, 2, none⟩ = some (.slice cA code.length cc) := HP1.out.cell 2
          have s3 : W1.cell? ⟨w.heap.size + 1, 3, none⟩ = some (.slice mA mem.length mc) := HP1.out.cell 3
          have s4 : W1.cell? ⟨w.heap.size + 1, 4, none⟩ = some (.slice sA stack.length sc) := HP1.out.cell 4
          have s5 : W1.cell? ⟨w.heap.size + 1, 5, none⟩ = some (.slice oA out.length oc) := HP1.out.cell 5
          go_wp2_with (fail)
          refine (HC2.out W1 HB.out).mono ?_
          rintro e W2 ⟨rfl, hb9⟩
          have hp0 := HP0.out.below hb9 HP0.out.lt
          have hp1 := HP1.out.below hb9 HP1.out.lt
          have hb := HB.out.trans (hb9.mono HB.out.size)
          clear hb9 HB HP0 HP1 a0 a1 s0 s1 s2 s3 s4 s5
          have HB := Lib.hid hb
          have HP0 := Lib.hid hp0
          have HP1 := Lib.hid hp1
          clear hb hp0 hp1
          have a0 : W2.cell? ⟨w.heap.size, 0, none⟩ = some (.slice N names.length c1) := HP0.out.cell 0
          have a1 : W2.cell? ⟨w.heap.size, 1, none⟩ = some (.slice U up.length c2) := HP0.out.cell 1
          have s0 : W2.cell? ⟨w.heap.size + 1, 0, none⟩ = some (.int .i64 pv) := HP1.out.cell 0
          have s1 : W2.cell? ⟨w.heap.size + 1, 1, none⟩ = some (.int .i64 pl) := HP1.out.cell 1
          have s2 : W2.cell? ⟨w.heap.size + 1, 2, none⟩ = some (.slice cA code.length cc) := HP1.out.cell 2
          have s3 : W2.cell? ⟨w.heap.size + 1, 3, none⟩ = some (.slice mA mem.length mc) := HP1.out.cell 3
          have s4 : W2.cell? ⟨w.heap.size + 1, 4, none⟩ = some (.slice sA stack.length sc) := HP1.out.cell 4
          have s5 : W2.cell? ⟨w.heap.size + 1, 5, none⟩ = some (.slice oA out.length oc) := HP1.out.cell 5
          go_wp2
          go_ret
          exact ⟨rfl, HB.out⟩
        | true =>
          rw [Bool.true_and]
          cases b3 with
          | false =>
            rw [Bool.false_and]
            go_enter Tryz.func19, Tryz.ntmps19
            go_wp2_with (fail)
            refine (HC1.out W0 HB.out).mono ?_
            rintro e W1 ⟨rfl, hb9⟩
            have hp0 := HP0.out.below hb9 HP0.out.lt
            have hp1 := HP1.out.below hb9 HP1.out.lt
            have hb := HB.out.trans (hb9.mono HB.out.size)
            clear hb9 HB HP0 HP1 a0 a1 s0 s1 s2 s3 s4 s5
            have HB := Lib.hid hb
            have HP0 := Lib.hid hp0
            have HP1 := Lib.hid hp1
            clear hb hp0 hp1
            have a0 : W1.cell? ⟨w.heap.size, 0, none⟩ = some (.slice N names.length c1) := HP0.out.cell 0
            have a1 : W1.cell? ⟨w.heap.size, 1, none⟩ = some (.slice U up.length c2) := HP0.out.cell 1
            have s0 : W1.cell? ⟨w.heap.size + 1, 0, none⟩ = some (.int .i64 pv) := HP1.out.cell 0
            have s1 : W1.cell? ⟨w.heap.size + 1, 1, none⟩ = some (.int .i64 pl) := HP1.out.cell 1
            have s2 : W1.cell? ⟨w.heap.size + 1, 2, none⟩ = some (.slice cA code.length cc) := HP1.out.cell 2
            have s3 : W1.cell? ⟨w.heap.size + 1, 3, none⟩ = some (.slice mA mem.length mc) := HP1.out.cell 3
            have s4 : W1.cell? ⟨w.heap.size + 1, 4, none⟩ = some (.slice sA stack.length sc) := HP1.out.cell 4
            have s5 : W1.cell? ⟨w.heap.size + 1, 5, none⟩ = some (.slice oA out.length oc) := HP1.out.cell 5
            go_wp2_with (fail)
            refine (HC2.out W1 HB.out).mono ?_
            rintro e W2 ⟨rfl, hb9⟩
            have hp0 := HP0.out.below hb9 HP0.out.lt
            have hp1 := HP1.out.below hb9 HP1.out.lt
            have hb := HB.out.trans (hb9.mono HB.out.size)
            clear hb9 HB HP0 HP1 a0 a1 s0 s1 s2 s3 s4 s5
            have HB := Lib.hid hb
            have HP0 := Lib.hid hp0
            have HP1 := Lib.hid hp1
            clear hb hp0 hp1
            have a0 : W2.cell? ⟨w.heap.size, 0, none⟩ = some (.slice N names.length c1) := HP0.out.cell 0
            have a1 : W2.cell? ⟨w.heap.size, 1, none⟩ = some (.slice U up.length c2) := HP0.out.cell 1
            have s0 : W2.cell? ⟨w.heap.size + 1, 0, none⟩ = some (.int .i64 pv) := HP1.out.cell 0
            have s1 : W2.cell? ⟨w.heap.size + 1, 1, none⟩ = some (.int .i64 pl) := HP1.out.cell 1
            have s2 : W2.cell? ⟨w.heap.size + 1, 2, none⟩ = some (.slice cA code.length cc) := HP1.out.cell 2
            have s3 : W2.cell? ⟨w.heap.size + 1, 3, none⟩ = some (.slice mA mem.length mc) := HP1.out.cell 3
            have s4 : W2.cell? ⟨w.heap.size + 1, 4, none⟩ = some (.slice sA stack.length sc) := HP1.out.cell 4
            have s5 : W2.cell? ⟨w.heap.size + 1, 5, none⟩ = some (.slice oA out.length oc) := HP1.out.cell 5
            go_wp2_with (fail)
            refine (HC3.out W2 HB.out).mono ?_
            rintro e W3 ⟨rfl, hb9⟩
            have hp0 := HP0.out.below hb9 HP0.out.lt
            have hp1 := HP1.out.below hb9 HP1.out.lt
            have hb := HB.out.trans (hb9.mono HB.out.size)
            clear hb9 HB HP0 HP1 a0 a1 s0 s1 s2 s3 s4 s5
            have HB := Lib.hid hb
            have HP0 := Lib.hid hp0
            have HP1 := Lib.hid hp1
            clear hb hp0 hp1
            have a0 : W3.cell? ⟨w.heap.size, 0, none⟩ = some (.slice N names.length c1) := HP0.out.cell 0
            have a1 : W3.cell? ⟨w.heap.size, 1, none⟩ = some (.slice U up.length c2) := HP0.out.cell 1
            have s0 : W3.cell? ⟨w.heap.size + 1, 0, none⟩ = some (.int .i64 pv) := HP1.out.cell 0
            have s1 : W3.cell? ⟨w.heap.size + 1, 1, none⟩ = some (.int .i64 pl) := HP1.out.cell 1
            have s2 : W3.cell? ⟨w.heap.size + 1, 2, none⟩ = some (.slice cA code.length cc) := HP1.out.cell 2
            have s3 : W3.cell? ⟨w.heap.size + 1, 3, none⟩ = some (.slice mA mem.length mc) := HP1.out.cell 3
            have s4 : W3.cell? ⟨w.heap.size + 1, 4, none⟩ = some (.slice sA stack.length sc) := HP1.out.cell 4
            have s5 : W3.cell? ⟨w.heap.size + 1, 5, none⟩ = some (.slice oA out.length oc) := HP1.out.cell 5
            go_wp2
            go_ret
            exact ⟨rfl, HB.out⟩
          | true =>
            rw [Bool.true_and]
            by_cases k6 : mem.length ≤ 6
            · rw [decide_eq_true k6, Bool.true_and]
              cases b4 with
              | false =>
                rw [Bool.false_and]
                go_enter Tryz.func19, Tryz.ntmps19
                go_wp2_with (fail)
                refine (HC1.out W0 HB.out).mono ?_
                rintro e W1 ⟨rfl, hb9⟩
                have hp0 := HP0.out.below hb9 HP0.out.lt
                have hp1 := HP1.out.below hb9 HP1.out.lt
                have hb := HB.out.trans (hb9.mono HB.out.size)
                clear hb9 HB HP0 HP1 a0 a1 s0 s1 s2 s3 s4 s5
                have HB := Lib.hid hb
                have HP0 := Lib.hid hp0
                have HP1 := Lib.hid hp1
                clear hb hp0 hp1
                have a0 : W1.cell? ⟨w.heap.size, 0, none⟩ = some (.slice N names.length c1) := HP0.out.cell 0
                have a1 : W1.cell? ⟨w.heap.size, 1, none⟩ = some (.slice U up.length c2) := HP0.out.cell 1
                have s0 : W1.cell? ⟨w.heap.size + 1, 0, none⟩ = some (.int .i64 pv) := HP1.out.cell 0
                have s1 : W1.cell? ⟨w.heap.size + 1, 1, none⟩ = some (.int .i64 pl) := HP1.out.cell 1
                have s2 : W1.cell? ⟨w.heap.size + 1, 2, none⟩ = some (.slice cA code.length cc) := HP1.out.cell 2
                have s3 : W1.cell? ⟨w.heap.size + 1, 3, none⟩ = some (.slice mA mem.length mc) := HP1.out.cell 3
                have s4 : W1.cell? ⟨w.heap.size + 1, 4, none⟩ = some (.slice sA stack.length sc) := HP1.out.cell 4
                have s5 : W1.cell? ⟨w.heap.size + 1, 5, none⟩ = some (.slice oA out.length oc) := HP1.out.cell 5
                go_wp2_with (fail)
                refine (HC2.out W1 HB.out).mono ?_
                rintro e W2 ⟨rfl, hb9⟩
                have hp0 := HP0.out.below hb9 HP0.out.lt
                have hp1 := HP1.out.below hb9 HP1.out.lt
                have hb := HB.out.trans (hb9.mono HB.out.size)
                clear hb9 HB HP0 HP1 a0 a1 s0 s1 s2 s3 s4 s5
                have HB := Lib.hid hb
                have HP0 := Lib.hid hp0
                have HP1 := Lib.hid hp1
                clear hb hp0 hp1
                have a0 : W2.cell? ⟨w.heap.size, 0, none⟩ = some (.slice N names.length c1) := HP0.out.cell 0
                have a1 : W2.cell? ⟨w.heap.size, 1, none⟩ = some (.slice U up.length c2) := HP0.out.cell 1
                have s0 : W2.cell? ⟨w.heap.size + 1, 0, none⟩ = some (.int .i64 pv) := HP1.out.cell 0
                have s1 : W2.cell? ⟨w.heap.size + 1, 1, none⟩ = some (.int .i64 pl) := HP1.out.cell 1
                have s2 : W2.cell? ⟨w.heap.size + 1, 2, none⟩ = some (.slice cA code.length cc) := HP1.out.cell 2
                have s3 : W2.cell? ⟨w.heap.size + 1, 3, none⟩ = some (.slice mA mem.length mc) := HP1.out.cell 3
                have s4 : W2.cell? ⟨w.heap.size + 1, 4, none⟩ = some (.slice sA stack.length sc) := HP1.out.cell 4
                have s5 : W2.cell? ⟨w.heap.size + 1, 5, none⟩ = some (.slice oA out.length oc) := HP1.out.cell 5
                go_wp2_with (fail)
                refine (HC3.out W2 HB.out).mono ?_
                rintro e W3 ⟨rfl, hb9⟩
                have hp0 := HP0.out.below hb9 HP0.out.lt
                have hp1 := HP1.out.below hb9 HP1.out.lt
                have hb := HB.out.trans (hb9.mono HB.out.size)
                clear hb9 HB HP0 HP1 a0 a1 s0 s1 s2 s3 s4 s5
                have HB := Lib.hid hb
                have HP0 := Lib.hid hp0
                have HP1 := Lib.hid hp1
                clear hb hp0 hp1
                have a0 : W3.cell? ⟨w.heap.size, 0, none⟩ = some (.slice N names.length c1) := HP0.out.cell 0
                have a1 : W3.cell? ⟨w.heap.size, 1, none⟩ = some (.slice U up.length c2) := HP0.out.cell 1
                have s0 : W3.cell? ⟨w.heap.size + 1, 0, none⟩ = some (.int .i64 pv) := HP1.out.cell 0
                have s1 : W3.cell? ⟨w.heap.size + 1, 1, none⟩ = some (.int .i64 pl) := HP1.out.cell 1
                have s2 : W3.cell? ⟨w.heap.size + 1, 2, none⟩ = some (.slice cA code.length cc) := HP1.out.cell 2
                have s3 : W3.cell? ⟨w.heap.size + 1, 3, none⟩ = some (.slice mA mem.length mc) := HP1.out.cell 3
                have s4 : W3.cell? ⟨w.heap.size + 1, 4, none⟩ = some (.slice sA stack.length sc) := HP1.out.cell 4
                have s5 : W3.cell? ⟨w.heap.size + 1, 5, none⟩ = some (.slice oA out.length oc) := HP1.out.cell 5
                go_wp2_with (fail)
                refine (HC4.out W3 HB.out).mono ?_
                rintro e W4 ⟨rfl, hb9⟩
                have hp0 := HP0.out.below hb9 HP0.out.lt
                have hp1 := HP1.out.below hb9 HP1.out.lt
                have hb := HB.out.trans (hb9.mono HB.out.size)
                clear hb9 HB HP0 HP1 a0 a1 s0 s1 s2 s3 s4 s5
                have HB := Lib.hid hb
                have HP0 := Lib.hid hp0
                have HP1 := Lib.hid hp1
                clear hb hp0 hp1
                have a0 : W4.cell? ⟨w.heap.size, 0, none⟩ = some (.slice N names.length c1) := HP0.out.cell 0
                have a1 : W4.cell? ⟨w.heap.size, 1, none⟩ = some (.slice U up.length c2) := HP0.out.cell 1
                have s0 : W4.cell? ⟨w.heap.size + 1, 0, none⟩ = some (.int .i64 pv) := HP1.out.cell 0
                have s1 : W4.cell? ⟨w.heap.size + 1, 1, none⟩ = some (.int .i64 pl) := HP1.out.cell 1
                have s2 : W4.cell? ⟨w.heap.size + 1, 2, none⟩ = some (.slice cA code.length cc) := HP1.out.cell 2
                have s3 : W4.cell? ⟨w.heap.size + 1, 3, none⟩ = some (.slice mA mem.length mc) := HP1.out.cell 3
                have s4 : W4.cell? ⟨w.heap.size + 1, 4, none⟩ = some (.slice sA stack.length sc) := HP1.out.cell 4
                have s5 : W4.cell? ⟨w.heap.size + 1, 5, none⟩ = some (.slice oA out.length oc) := HP1.out.cell 5
                go_wp2
                go_ret
                exact ⟨rfl, HB.out⟩
              | true =>
                rw [Bool.true_and]
                cases b5 with
                | false =>
                  rw [Bool.false_and]
                  go_enter Tryz.func19, Tryz.ntmps19
                  go_wp2_with (fail)
                  refine (HC1.out W0 HB.out).mono ?_
                  rintro e W1 ⟨rfl, hb9⟩
                  have hp0 := HP0.out.below hb9 HP0.out.lt
                  have hp1 := HP1.out.below hb9 HP1.out.lt
                  have hb := HB.out.trans (hb9.mono HB.out.size)
                  clear hb9 HB HP0 HP1 a0 a1 s0 s1 s2 s3 s4 s5
                  have HB := Lib.hid hb
                  have HP0 := Lib.hid hp0
                  have HP1 := Lib.hid hp1
                  clear hb hp0 hp1
                  have a0 : W1.cell? ⟨w.heap.size, 0, none⟩ = some (.slice N names.length c1) := HP0.out.cell 0
                  have a1 : W1.cell? ⟨w.heap.size, 1, none⟩ = some (.slice U up.length c2) := HP0.out.cell 1
                  have s0 : W1.cell? ⟨w.heap.size + 1, 0, none⟩ = some (.int .i64 pv) := HP1.out.cell 0
                  have s1 : W1.cell? ⟨w.heap.size + 1, 1, none⟩ = some (.int .i64 pl) := HP1.out.cell 1
                  have s2 : W1.cell? ⟨w.heap.size + 1, 2, none⟩ = some (.slice cA code.length cc) := HP1.out.cell 2
                  have s3 : W1.cell? ⟨w.heap.size + 1, 3, none⟩ = some (.slice mA mem.length mc) := HP1.out.cell 3
                  have s4 : W1.cell? ⟨w.heap.size + 1, 4, none⟩ = some (.slice sA stack.length sc) := HP1.out.cell 4
                  have s5 : W1.cell? ⟨w.heap.size + 1, 5, none⟩ = some (.slice oA out.length oc) := HP1.out.cell 5
                  go_wp2_with (fail)
                  refine (HC2.out W1 HB.out).mono ?_
                  rintro e W2 ⟨rfl, hb9⟩
                  have hp0 := HP0.out.below hb9 HP0.out.lt
                  have hp1 := HP1.out.below hb9 HP1.out.lt
                  have hb := HB.out.trans (hb9.mono HB.out.size)
                  clear hb9 HB HP0 HP1 a0 a1 s0 s1 s2 s3 s4 s5
                  have HB := Lib.hid hb
                  have HP0 := Lib.hid hp0
                  have HP1 := Lib.hid hp1
                  clear hb hp0 hp1
                  have a0 : W2.cell? ⟨w.heap.size, 0, none⟩ = some (.slice N names.length c1) := HP0.out.cell 0
                  have a1 : W2.cell? ⟨w.heap.size, 1, none⟩ = some (.slice U up.length c2) := HP0.out.cell 1
                  have s0 : W2.cell? ⟨w.heap.size + 1, 0, none⟩ = some (.int .i64 pv) := HP1.out.cell 0
                  have s1 : W2.cell? ⟨w.heap.size + 1, 1, none⟩ = some (.int .i64 pl) := HP1.out.cell 1
                  have s2 : W2.cell? ⟨w.heap.size + 1, 2, none⟩ = some (.slice cA code.length cc) := HP1.out.cell 2
                  have s3 : W2.cell? ⟨w.heap.size + 1, 3, none⟩ = some (.slice mA mem.length mc) := HP1.out.cell 3
                  have s4 : W2.cell? ⟨w.heap.size + 1, 4, none⟩ = some (.slice sA stack.length sc) := HP1.out.cell 4
                  have s5 : W2.cell? ⟨w.heap.size + 1, 5, none⟩ = some (.slice oA out.length oc) := HP1.out.cell 5
                  go_wp2_with (fail)
                  refine (HC3.out W2 HB.out).mono ?_
                  rintro e W3 ⟨rfl, hb9⟩
                  have hp0 := HP0.out.below hb9 HP0.out.lt
                  have hp1 := HP1.out.below hb9 HP1.out.lt
                  have hb := HB.out.trans (hb9.mono HB.out.size)
                  clear hb9 HB HP0 HP1 a0 a1 s0 s1 s2 s3 s4 s5
                  have HB := Lib.hid hb
                  have HP0 := Lib.hid hp0
                  have HP1 := Lib.hid hp1
                  clear hb hp0 hp1
                  have a0 : W3.cell? ⟨w.heap.size, 0, none⟩ = some (.slice N names.length c1) := HP0.out.cell 0
                  have a1 : W3.cell? ⟨w.heap.size, 1, none⟩ = some (.slice U up.length c2) := HP0.out.cell 1
                  have s0 : W3.cell? ⟨w.heap.size + 1, 0, none⟩ = some (.int .i64 pv) := HP1.out.cell 0
                  have s1 : W3.cell? ⟨w.heap.size + 1, 1, none⟩ = some (.int .i64 pl) := HP1.out.cell 1
                  have s2 : W3.cell? ⟨w.heap.size + 1, 2, none⟩ = some (.slice cA code.length cc) := HP1.out.cell 2
                  have s3 : W3.cell? ⟨w.heap.size + 1, 3, none⟩ = some (.slice mA mem.length mc) := HP1.out.cell 3
                  have s4 : W3.cell? ⟨w.heap.size + 1, 4, none⟩ = some (.slice sA stack.length sc) := HP1.out.cell 4
                  have s5 : W3.cell? ⟨w.heap.size + 1, 5, none⟩ = some (.slice oA out.length oc) := HP1.out.cell 5
                  go_wp2_with (fail)
                  refine (HC4.out W3 HB.out).mono ?_
                  rintro e W4 ⟨rfl, hb9⟩
                  have hp0 := HP0.out.below hb9 HP0.out.lt
                  have hp1 := HP1.out.below hb9 HP1.out.lt
                  have hb := HB.out.trans (hb9.mono HB.out.size)
                  clear hb9 HB HP0 HP1 a0 a1 s0 s1 s2 s3 s4 s5
                  have HB := Lib.hid hb
                  have HP0 := Lib.hid hp0
                  have HP1 := Lib.hid hp1
                  clear hb hp0 hp1
                  have a0 : W4.cell? ⟨w.heap.size, 0, none⟩ = some (.slice N names.length c1) := HP0.out.cell 0
                  have a1 : W4.cell? ⟨w.heap.size, 1, none⟩ = some (.slice U up.length c2) := HP0.out.cell 1
                  have s0 : W4.cell? ⟨w.heap.size + 1, 0, none⟩ = some (.int .i64 pv) := HP1.out.cell 0
                  have s1 : W4.cell? ⟨w.heap.size + 1, 1, none⟩ = some (.int .i64 pl) := HP1.out.cell 1
                  have s2 : W4.cell? ⟨w.heap.size + 1, 2, none⟩ = some (.slice cA code.length cc) := HP1.out.cell 2
                  have s3 : W4.cell? ⟨w.heap.size + 1, 3, none⟩ = some (.slice mA mem.length mc) := HP1.out.cell 3
                  have s4 : W4.cell? ⟨w.heap.size + 1, 4, none⟩ = some (.slice sA stack.length sc) := HP1.out.cell 4
                  have s5 : W4.cell? ⟨w.heap.size + 1, 5, none⟩ = some (.slice oA out.length oc) := HP1.out.cell 5
                  go_wp2_with (fail)
                  refine (HC5.out W4 HB.out).mono ?_
                  rintro e W5 ⟨rfl, hb9⟩
                  have hp0 := HP0.out.below hb9 HP0.out.lt
                  have hp1 := HP1.out.below hb9 HP1.out.lt
                  have hb := HB.out.trans (hb9.mono HB.out.size)
                  clear hb9 HB HP0 HP1 a0 a1 s0 s1 s2 s3 s4 s5
                  have HB := Lib.hid hb
                  have HP0 := Lib.hid hp0
                  have HP1 := Lib.hid hp1
                  clear hb hp0 hp1
                  have a0 : W5.cell? ⟨w.heap.size, 0, none⟩ = some (.slice N names.length c1) := HP0.out.cell 0
                  have a1 : W5.cell? ⟨w.heap.size, 1, none⟩ = some (.slice U up.length c2) := HP0.out.cell 1
                  have s0 : W5.cell? ⟨w.heap.size + 1, 0, none⟩ = some (.int .i64 pv) := HP1.out.cell 0
                  have s1 : W5.cell? ⟨w.heap.size + 1, 1, none⟩ = some (.int .i64 pl) := HP1.out.cell 1
                  have s2 : W5.cell? ⟨w.heap.size + 1, 2, none⟩ = some (.slice cA code.length cc) := HP1.out.cell 2
                  have s3 : W5.cell? ⟨w.heap.size + 1, 3, none⟩ = some (.slice mA mem.length mc) := HP1.out.cell 3
                  have s4 : W5.cell? ⟨w.heap.size + 1, 4, none⟩ = some (.slice sA stack.length sc) := HP1.out.cell 4
                  have s5 : W5.cell? ⟨w.heap.size + 1, 5, none⟩ = some (.slice oA out.length oc) := HP1.out.cell 5
                  go_wp2
                  go_ret
                  exact ⟨rfl, HB.out⟩
                | true =>
                  rw [Bool.true_and]
                  by_cases k8 : out.length ≤ 8
                  · rw [decide_eq_true k8]
                    have k8i : ((out.length : Int) ≤ 8) = True := eq_true (by omega)
                    go_enter Tryz.func19, Tryz.ntmps19
                    go_wp2_with (fail)
                    refine (HC1.out W0 HB.out).mono ?_
                    rintro e W1 ⟨rfl, hb9⟩
                    have hp0 := HP0.out.below hb9 HP0.out.lt
                    have hp1 := HP1.out.below hb9 HP1.out.lt
                    have hb := HB.out.trans (hb9.mono HB.out.size)
                    clear hb9 HB HP0 HP1 a0 a1 s0 s1 s2 s3 s4 s5
                    have HB := Lib.hid hb
                    have HP0 := Lib.hid hp0
                    have HP1 := Lib.hid hp1
                    clear hb hp0 hp1
                    have a0 : W1.cell? ⟨w.heap.size, 0, none⟩ = some (.slice N names.length c1) := HP0.out.cell 0
                    have a1 : W1.cell? ⟨w.heap.size, 1, none⟩ = some (.slice U up.length c2) := HP0.out.cell 1
                    have s0 : W1.cell? ⟨w.heap.size + 1, 0, none⟩ = some (.int .i64 pv) := HP1.out.cell 0
                    have s1 : W1.cell? ⟨w.heap.size + 1, 1, none⟩ = some (.int .i64 pl) := HP1.out.cell 1
                    have s2 : W1.cell? ⟨w.heap.size + 1, 2, none⟩ = some (.slice cA code.length cc) := HP1.out.cell 2
                    have s3 : W1.cell? ⟨w.heap.size + 1, 3, none⟩ = some (.slice mA mem.length mc) := HP1.out.cell 3
                    have s4 : W1.cell? ⟨w.heap.size + 1, 4, none⟩ = some (.slice sA stack.length sc) := HP1.out.cell 4
                    have s5 : W1.cell? ⟨w.heap.size + 1, 5, none⟩ = some (.slice oA out.length oc) := HP1.out.cell 5
                    go_wp2_with (fail)
                    refine (HC2.out W1 HB.out).mono ?_
                    rintro e W2 ⟨rfl, hb9⟩
                    have hp0 := HP0.out.below hb9 HP0.out.lt
                    have hp1 := HP1.out.below hb9 HP1.out.lt
                    have hb := HB.out.trans (hb9.mono HB.out.size)
                    clear hb9 HB HP0 HP1 a0 a1 s0 s1 s2 s3 s4 s5
                    have HB := Lib.hid hb
                    have HP0 := Lib.hid hp0
                    have HP1 := Lib.hid hp1
                    clear hb hp0 hp1
                    have a0 : W2.cell? ⟨w.heap.size, 0, none⟩ = some (.slice N names.length c1) := HP0.out.cell 0
                    have a1 : W2.cell? ⟨w.heap.size, 1, none⟩ = some (.slice U up.length c2) := HP0.out.cell 1
                    have s0 : W2.cell? ⟨w.heap.size + 1, 0, none⟩ = some (.int .i64 pv) := HP1.out.cell 0
                    have s1 : W2.cell? ⟨w.heap.size + 1, 1, none⟩ = some (.int .i64 pl) := HP1.out.cell 1
                    have s2 : W2.cell? ⟨w.heap.size + 1, 2, none⟩ = some (.slice cA code.length cc) := HP1.out.cell 2
                    have s3 : W2.cell? ⟨w.heap.size + 1, 3, none⟩ = some (.slice mA mem.length mc) := HP1.out.cell 3
                    have s4 : W2.cell? ⟨w.heap.size + 1, 4, none⟩ = some (.slice sA stack.length sc) := HP1.out.cell 4
                    have s5 : W2.cell? ⟨w.heap.size + 1, 5, none⟩ = some (.slice oA out.length oc) := HP1.out.cell 5
                    go_wp2_with (fail)
                    refine (HC3.out W2 HB.out).mono ?_
                    rintro e W3 ⟨rfl, hb9⟩
                    have hp0 := HP0.out.below hb9 HP0.out.lt
                    have hp1 := HP1.out.below hb9 HP1.out.lt
                    have hb := HB.out.trans (hb9.mono HB.out.size)
                    clear hb9 HB HP0 HP1 a0 a1 s0 s1 s2 s3 s4 s5
                    have HB := Lib.hid hb
                    have HP0 := Lib.hid hp0
                    have HP1 := Lib.hid hp1
                    clear hb hp0 hp1
                    have a0 : W3.cell? ⟨w.heap.size, 0, none⟩ = some (.slice N names.length c1) := HP0.out.cell 0
                    have a1 : W3.cell? ⟨w.heap.size, 1, none⟩ = some (.slice U up.length c2) := HP0.out.cell 1
                    have s0 : W3.cell? ⟨w.heap.size + 1, 0, none⟩ = some (.int .i64 pv) := HP1.out.cell 0
                    have s1 : W3.cell? ⟨w.heap.size + 1, 1, none⟩ = some (.int .i64 pl) := HP1.out.cell 1
                    have s2 : W3.cell? ⟨w.heap.size + 1, 2, none⟩ = some (.slice cA code.length cc) := HP1.out.cell 2
                    have s3 : W3.cell? ⟨w.heap.size + 1, 3, none⟩ = some (.slice mA mem.length mc) := HP1.out.cell 3
                    have s4 : W3.cell? ⟨w.heap.size + 1, 4, none⟩ = some (.slice sA stack.length sc) := HP1.out.cell 4
                    have s5 : W3.cell? ⟨w.heap.size + 1, 5, none⟩ = some (.slice oA out.length oc) := HP1.out.cell 5
                    go_wp2_with (fail)
                    refine (HC4.out W3 HB.out).mono ?_
                    rintro e W4 ⟨rfl, hb9⟩
                    have hp0 := HP0.out.below hb9 HP0.out.lt
                    have hp1 := HP1.out.below hb9 HP1.out.lt
                    have hb := HB.out.trans (hb9.mono HB.out.size)
                    clear hb9 HB HP0 HP1 a0 a1 s0 s1 s2 s3 s4 s5
                    have HB := Lib.hid hb
                    have HP0 := Lib.hid hp0
                    have HP1 := Lib.hid hp1
                    clear hb hp0 hp1
                    have a0 : W4.cell? ⟨w.heap.size, 0, none⟩ = some (.slice N names.length c1) := HP0.out.cell 0
                    have a1 : W4.cell? ⟨w.heap.size, 1, none⟩ = some (.slice U up.length c2) := HP0.out.cell 1
                    have s0 : W4.cell? ⟨w.heap.size + 1, 0, none⟩ = some (.int .i64 pv) := HP1.out.cell 0
                    have s1 : W4.cell? ⟨w.heap.size + 1, 1, none⟩ = some (.int .i64 pl) := HP1.out.cell 1
                    have s2 : W4.cell? ⟨w.heap.size + 1, 2, none⟩ = some (.slice cA code.length cc) := HP1.out.cell 2
                    have s3 : W4.cell? ⟨w.heap.size + 1, 3, none⟩ = some (.slice mA mem.length mc) := HP1.out.cell 3
                    have s4 : W4.cell? ⟨w.heap.size + 1, 4, none⟩ = some (.slice sA stack.length sc) := HP1.out.cell 4
                    have s5 : W4.cell? ⟨w.heap.size + 1, 5, none⟩ = some (.slice oA out.length oc) := HP1.out.cell 5
                    go_wp2_with (fail)
                    refine (HC5.out W4 HB.out).mono ?_
                    rintro e W5 ⟨rfl, hb9⟩
                    have hp0 := HP0.out.below hb9 HP0.out.lt
                    have hp1 := HP1.out.below hb9 HP1.out.lt
                    have hb := HB.out.trans (hb9.mono HB.out.size)
                    clear hb9 HB HP0 HP1 a0 a1 s0 s1 s2 s3 s4 s5
                    have HB := Lib.hid hb
                    have HP0 := Lib.hid hp0
                    have HP1 := Lib.hid hp1
                    clear hb hp0 hp1
                    have a0 : W5.cell? ⟨w.heap.size, 0, none⟩ = some (.slice N names.length c1) := HP0.out.cell 0
                    have a1 : W5.cell? ⟨w.heap.size, 1, none⟩ = some (.slice U up.length c2) := HP0.out.cell 1
                    have s0 : W5.cell? ⟨w.heap.size + 1, 0, none⟩ = some (.int .i64 pv) := HP1.out.cell 0
                    have s1 : W5.cell? ⟨w.heap.size + 1, 1, none⟩ = some (.int .i64 pl) := HP1.out.cell 1
                    have s2 : W5.cell? ⟨w.heap.size + 1, 2, none⟩ = some (.slice cA code.length cc) := HP1.out.cell 2
                    have s3 : W5.cell? ⟨w.heap.size + 1, 3, none⟩ = some (.slice mA mem.length mc) := HP1.out.cell 3
                    have s4 : W5.cell? ⟨w.heap.size + 1, 4, none⟩ = some (.slice sA stack.length sc) := HP1.out.cell 4
                    have s5 : W5.cell? ⟨w.heap.size + 1, 5, none⟩ = some (.slice oA out.length oc) := HP1.out.cell 5
                    go_wp2
                    go_ret
                    exact ⟨rfl, HB.out⟩
                  · rw [decide_eq_false k8]
                    have k8i : ((out.length : Int) ≤ 8) = False := eq_false (by omega)
                    go_enter Tryz.func19, Tryz.ntmps19
                    go_wp2_with (fail)
                    refine (HC1.out W0 HB.out).mono ?_
                    rintro e W1 ⟨rfl, hb9⟩
                    have hp0 := HP0.out.below hb9 HP0.out.lt
                    have hp1 := HP1.out.below hb9 HP1.out.lt
                    have hb := HB.out.trans (hb9.mono HB.out.size)
                    clear hb9 HB HP0 HP1 a0 a1 s0 s1 s2 s3 s4 s5
                    have HB := Lib.hid hb
                    have HP0 := Lib.hid hp0
                    have HP1 := Lib.hid hp1
                    clear hb hp0 hp1
                    have a0 : W1.cell? ⟨w.heap.size, 0, none⟩ = some (.slice N names.length c1) := HP0.out.cell 0
                    have a1 : W1.cell? ⟨w.heap.size, 1, none⟩ = some (.slice U up.length c2) := HP0.out.cell 1
                    have s0 : W1.cell? ⟨w.heap.size + 1, 0, none⟩ = some (.int .i64 pv) := HP1.out.cell 0
                    have s1 : W1.cell? ⟨w.heap.size + 1, 1, none⟩ = some (.int .i64 pl) := HP1.out.cell 1
                    have s2 : W1.cell? ⟨w.heap.size + 1, 2, none⟩ = some (.slice cA code.length cc) := HP1.out.cell 2
                    have s3 : W1.cell? ⟨w.heap.size + 1, 3, none⟩ = some (.slice mA mem.length mc) := HP1.out.cell 3
                    have s4 : W1.cell? ⟨w.heap.size + 1, 4, none⟩ = some (.slice sA stack.length sc) := HP1.out.cell 4
                    have s5 : W1.cell? ⟨w.heap.size + 1, 5, none⟩ = some (.slice oA out.length oc) := HP1.out.cell 5
                    go_wp2_with (fail)
                    refine (HC2.out W1 HB.out).mono ?_
                    rintro e W2 ⟨rfl, hb9⟩
                    have hp0 := HP0.out.below hb9 HP0.out.lt
                    have hp1 := HP1.out.below hb9 HP1.out.lt
                    have hb := HB.out.trans (hb9.mono HB.out.size)
                    clear hb9 HB HP0 HP1 a0 a1 s0 s1 s2 s3 s4 s5
                    have HB := Lib.hid hb
                    have HP0 := Lib.hid hp0
                    have HP1 := Lib.hid hp1
                    clear hb hp0 hp1
                    have a0 : W2.cell? ⟨w.heap.size, 0, none⟩ = some (.slice N names.length c1) := HP0.out.cell 0
                    have a1 : W2.cell? ⟨w.heap.size, 1, none⟩ = some (.slice U up.length c2) := HP0.out.cell 1
                    have s0 : W2.cell? ⟨w.heap.size + 1, 0, none⟩ = some (.int .i64 pv) := HP1.out.cell 0
                    have s1 : W2.cell? ⟨w.heap.size + 1, 1, none⟩ = some (.int .i64 pl) := HP1.out.cell 1
                    have s2 : W2.cell? ⟨w.heap.size + 1, 2, none⟩ = some (.slice cA code.length cc) := HP1.out.cell 2
                    have s3 : W2.cell? ⟨w.heap.size + 1, 3, none⟩ = some (.slice mA mem.length mc) := HP1.out.cell 3
                    have s4 : W2.cell? ⟨w.heap.size + 1, 4, none⟩ = some (.slice sA stack.length sc) := HP1.out.cell 4
                    have s5 : W2.cell? ⟨w.heap.size + 1, 5, none⟩ = some (.slice oA out.length oc) := HP1.out.cell 5
                    go_wp2_with (fail)
                    refine (HC3.out W2 HB.out).mono ?_
                    rintro e W3 ⟨rfl, hb9⟩
                    have hp0 := HP0.out.below hb9 HP0.out.lt
                    have hp1 := HP1.out.below hb9 HP1.out.lt
                    have hb := HB.out.trans (hb9.mono HB.out.size)
                    clear hb9 HB HP0 HP1 a0 a1 s0 s1 s2 s3 s4 s5
                    have HB := Lib.hid hb
                    have HP0 := Lib.hid hp0
                    have HP1 := Lib.hid hp1
                    clear hb hp0 hp1
                    have a0 : W3.cell? ⟨w.heap.size, 0, none⟩ = some (.slice N names.length c1) := HP0.out.cell 0
                    have a1 : W3.cell? ⟨w.heap.size, 1, none⟩ = some (.slice U up.length c2) := HP0.out.cell 1
                    have s0 : W3.cell? ⟨w.heap.size + 1, 0, none⟩ = some (.int .i64 pv) := HP1.out.cell 0
                    have s1 : W3.cell? ⟨w.heap.size + 1, 1, none⟩ = some (.int .i64 pl) := HP1.out.cell 1
                    have s2 : W3.cell? ⟨w.heap.size + 1, 2, none⟩ = some (.slice cA code.length cc) := HP1.out.cell 2
                    have s3 : W3.cell? ⟨w.heap.size + 1, 3, none⟩ = some (.slice mA mem.length mc) := HP1.out.cell 3
                    have s4 : W3.cell? ⟨w.heap.size + 1, 4, none⟩ = some (.slice sA stack.length sc) := HP1.out.cell 4
                    have s5 : W3.cell? ⟨w.heap.size + 1, 5, none⟩ = some (.slice oA out.length oc) := HP1.out.cell 5
                    go_wp2_with (fail)
                    refine (HC4.out W3 HB.out).mono ?_
                    rintro e W4 ⟨rfl, hb9⟩
                    have hp0 := HP0.out.below hb9 HP0.out.lt
                    have hp1 := HP1.out.below hb9 HP1.out.lt
                    have hb := HB.out.trans (hb9.mono HB.out.size)
                    clear hb9 HB HP0 HP1 a0 a1 s0 s1 s2 s3 s4 s5
                    have HB := Lib.hid hb
                    have HP0 := Lib.hid hp0
                    have HP1 := Lib.hid hp1
                    clear hb hp0 hp1
                    have a0 : W4.cell? ⟨w.heap.size, 0, none⟩ = some (.slice N names.length c1) := HP0.out.cell 0
                    have a1 : W4.cell? ⟨w.heap.size, 1, none⟩ = some (.slice U up.length c2) := HP0.out.cell 1
                    have s0 : W4.cell? ⟨w.heap.size + 1, 0, none⟩ = some (.int .i64 pv) := HP1.out.cell 0
                    have s1 : W4.cell? ⟨w.heap.size + 1, 1, none⟩ = some (.int .i64 pl) := HP1.out.cell 1
                    have s2 : W4.cell? ⟨w.heap.size + 1, 2, none⟩ = some (.slice cA code.length cc) := HP1.out.cell 2
                    have s3 : W4.cell? ⟨w.heap.size + 1, 3, none⟩ = some (.slice mA mem.length mc) := HP1.out.cell 3
                    have s4 : W4.cell? ⟨w.heap.size + 1, 4, none⟩ = some (.slice sA stack.length sc) := HP1.out.cell 4
                    have s5 : W4.cell? ⟨w.heap.size + 1, 5, none⟩ = some (.slice oA out.length oc) := HP1.out.cell 5
                    go_wp2_with (fail)
                    refine (HC5.out W4 HB.out).mono ?_
                    rintro e W5 ⟨rfl, hb9⟩
                    have hp0 := HP0.out.below hb9 HP0.out.lt
                    have hp1 := HP1.out.below hb9 HP1.out.lt
                    have hb := HB.out.trans (hb9.mono HB.out.size)
                    clear hb9 HB HP0 HP1 a0 a1 s0 s1 s2 s3 s4 s5
                    have HB := Lib.hid hb
                    have HP0 := Lib.hid hp0
                    have HP1 := Lib.hid hp1
                    clear hb hp0 hp1
                    have a0 : W5.cell? ⟨w.heap.size, 0, none⟩ = some (.slice N names.length c1) := HP0.out.cell 0
                    have a1 : W5.cell? ⟨w.heap.size, 1, none⟩ = some (.slice U up.length c2) := HP0.out.cell 1
                    have s0 : W5.cell? ⟨w.heap.size + 1, 0, none⟩ = some (.int .i64 pv) := HP1.out.cell 0
                    have s1 : W5.cell? ⟨w.heap.size + 1, 1, none⟩ = some (.int .i64 pl) := HP1.out.cell 1
                    have s2 : W5.cell? ⟨w.heap.size + 1, 2, none⟩ = some (.slice cA code.length cc) := HP1.out.cell 2
                    have s3 : W5.cell? ⟨w.heap.size + 1, 3, none⟩ = some (.slice mA mem.length mc) := HP1.out.cell 3
                    have s4 : W5.cell? ⟨w.heap.size + 1, 4, none⟩ = some (.slice sA stack.length sc) := HP1.out.cell 4
                    have s5 : W5.cell? ⟨w.heap.size + 1, 5, none⟩ = some (.slice oA out.length oc) := HP1.out.cell 5
                    go_wp2
                    go_ret
                    exact ⟨rfl, HB.out⟩
            · rw [decide_eq_false k6, Bool.false_and]
              go_enter Tryz.func19, Tryz.ntmps19
              go_wp2_with (fail)
              refine (HC1.out W0 HB.out).mono ?_
              rintro e W1 ⟨rfl, hb9⟩
              have hp0 := HP0.out.below hb9 HP0.out.lt
              have hp1 := HP1.out.below hb9 HP1.out.lt
              have hb := HB.out.trans (hb9.mono HB.out.size)
              clear hb9 HB HP0 HP1 a0 a1 s0 s1 s2 s3 s4 s5
              have HB := Lib.hid hb
              have HP0 := Lib.hid hp0
              have HP1 := Lib.hid hp1
              clear hb hp0 hp1
              have a0 : W1.cell? ⟨w.heap.size, 0, none⟩ = some (.slice N names.length c1) := HP0.out.cell 0
              have a1 : W1.cell? ⟨w.heap.size, 1, none⟩ = some (.slice U up.length c2) := HP0.out.cell 1
              have s0 : W1.cell? ⟨w.heap.size + 1, 0, none⟩ = some (.int .i64 pv) := HP1.out.cell 0
              have s1 : W1.cell? ⟨w.heap.size + 1, 1, none⟩ = some (.int .i64 pl) := HP1.out.cell 1
              have s2 : W1.cell? ⟨w.heap.size + 1, 2, none⟩ = some (.slice cA code.length cc) := HP1.out.cell 2
              have s3 : W1.cell? ⟨w.heap.size + 1, 3, none⟩ = some (.slice mA mem.length mc) := HP1.out.cell 3
              have s4 : W1.cell? ⟨w.heap.size + 1, 4, none⟩ = some (.slice sA stack.length sc) := HP1.out.cell 4
              have s5 : W1.cell? ⟨w.heap.size + 1, 5, none⟩ = some (.slice oA out.length oc) := HP1.out.cell 5
              go_wp2_with (fail)
              refine (HC2.out W1 HB.out).mono ?_
              rintro e W2 ⟨rfl, hb9⟩
              have hp0 := HP0.out.below hb9 HP0.out.lt
              have hp1 := HP1.out.below hb9 HP1.out.lt
              have hb := HB.out.trans (hb9.mono HB.out.size)
              clear hb9 HB HP0 HP1 a0 a1 s0 s1 s2 s3 s4 s5
              have HB := Lib.hid hb
              have HP0 := Lib.hid hp0
              have HP1 := Lib.hid hp1
              clear hb hp0 hp1
              have a0 : W2.cell? ⟨w.heap.size, 0, none⟩ = some (.slice N names.length c1) := HP0.out.cell 0
              have a1 : W2.cell? ⟨w.heap.size, 1, none⟩ = some (.slice U up.length c2) := HP0.out.cell 1
              have s0 : W2.cell? ⟨w.heap.size + 1, 0, none⟩ = some (.int .i64 pv) := HP1.out.cell 0
              have s1 : W2.cell? ⟨w.heap.size + 1, 1, none⟩ = some (.int .i64 pl) := HP1.out.cell 1
              have s2 : W2.cell? ⟨w.heap.size + 1, 2, none⟩ = some (.slice cA code.length cc) := HP1.out.cell 2
              have s3 : W2.cell? ⟨w.heap.size + 1, 3, none⟩ = some (.slice mA mem.length mc) := HP1.out.cell 3
              have s4 : W2.cell? ⟨w.heap.size + 1, 4, none⟩ = some (.slice sA stack.length sc) := HP1.out.cell 4
              have s5 : W2.cell? ⟨w.heap.size + 1, 5, none⟩ = some (.slice oA out.length oc) := HP1.out.cell 5
              go_wp2_with (fail)
              refine (HC3.out W2 HB.out).mono ?_
              rintro e W3 ⟨rfl, hb9⟩
              have hp0 := HP0.out.below hb9 HP0.out.lt
              have hp1 := HP1.out.below hb9 HP1.out.lt
              have hb := HB.out.trans (hb9.mono HB.out.size)
              clear hb9 HB HP0 HP1 a0 a1 s0 s1 s2 s3 s4 s5
              have HB := Lib.hid hb
              have HP0 := Lib.hid hp0
              have HP1 := Lib.hid hp1
              clear hb hp0 hp1
              have a0 : W3.cell? ⟨w.heap.size, 0, none⟩ = some (.slice N names.length c1) := HP0.out.cell 0
              have a1 : W3.cell? ⟨w.heap.size, 1, none⟩ = some (.slice U up.length c2) := HP0.out.cell 1
              have s0 : W3.cell? ⟨w.heap.size + 1, 0, none⟩ = some (.int .i64 pv) := HP1.out.cell 0
              have s1 : W3.cell? ⟨w.heap.size + 1, 1, none⟩ = some (.int .i64 pl) := HP1.out.cell 1
              have s2 : W3.cell? ⟨w.heap.size + 1, 2, none⟩ = some (.slice cA code.length cc) := HP1.out.cell 2
              have s3 : W3.cell? ⟨w.heap.size + 1, 3, none⟩ = some (.slice mA mem.length mc) := HP1.out.cell 3
              have s4 : W3.cell? ⟨w.heap.size + 1, 4, none⟩ = some (.slice sA stack.length sc) := HP1.out.cell 4
              have s5 : W3.cell? ⟨w.heap.size + 1, 5, none⟩ = some (.slice oA out.length oc) := HP1.out.cell 5
              go_wp2
              go_ret
              exact ⟨rfl, HB.out⟩
      · rw [decide_eq_false k12, Bool.false_and]
        go_enter Tryz.func19, Tryz.ntmps19
        go_wp2_with (fail)
        refine (HC1.out W0 HB.out).mono ?_
        rintro e W1 ⟨rfl, hb9⟩
        have hp0 := HP0.out.below hb9 HP0.out.lt
        have hp1 := HP1.out.below hb9 HP1.out.lt
        have hb := HB.out.trans (hb9.mono HB.out.size)
        clear hb9 HB HP0 HP1 a0 a1 s0 s1 s2 s3 s4 s5
        have HB := Lib.hid hb
        have HP0 := Lib.hid hp0
        have HP1 := Lib.hid hp1
        clear hb hp0 hp1
        have a0 : W1.cell? ⟨w.heap.size, 0, none⟩ = some (.slice N names.length c1) := HP0.out.cell 0
        have a1 : W1.cell? ⟨w.heap.size, 1, none⟩ = some (.slice U up.length c2) := HP0.out.cell 1
        have s0 : W1.cell? ⟨w.heap.size + 1, 0, none⟩ = some (.int .i64 pv) := HP1.out.cell 0
        have s1 : W1.cell? ⟨w.heap.size + 1, 1, none⟩ = some (.int .i64 pl) := HP1.out.cell 1
        have s2 : W1.cell? ⟨w.heap.size + 1, 2, none⟩ = some (.slice cA code.length cc) := HP1.out.cell 2
        have s3 : W1.cell? ⟨w.heap.size + 1, 3, none⟩ = some (.slice mA mem.length mc) := HP1.out.cell 3
        have s4 : W1.cell? ⟨w.heap.size + 1, 4, none⟩ = some (.slice sA stack.length sc) := HP1.out.cell 4
        have s5 : W1.cell? ⟨w.heap.size + 1, 5, none⟩ = some (.slice oA out.length oc) := HP1.out.cell 5
        go_wp2
        go_ret
        exact ⟨rfl, HB.out⟩
    · rw [decide_eq_false k0, Bool.false_and]
      go_enter Tryz.func19, Tryz.ntmps19
      go_wp2_with (fail)
      refine (HC1.out W0 HB.out).mono ?_
      rintro e W1 ⟨rfl, hb9⟩
      have hp0 := HP0.out.below hb9 HP0.out.lt
      have hp1 := HP1.out.below hb9 HP1.out.lt
      have hb := HB.out.trans (hb9.mono HB.out.size)
      clear hb9 HB HP0 HP1 a0 a1 s0 s1 s2 s3 s4 s5
      have HB := Lib.hid hb
      have HP0 := Lib.hid hp0
      have HP1 := Lib.hid hp1
      clear hb hp0 hp1
      have a0 : W1.cell? ⟨w.heap.size, 0, none⟩ = some (.slice N names.length c1) := HP0.out.cell 0
      have a1 : W1.cell? ⟨w.heap.size, 1, none⟩ = some (.slice U up.length c2) := HP0.out.cell 1
      have s0 : W1.cell? ⟨w.heap.size + 1, 0, none⟩ = some (.int .i64 pv) := HP1.out.cell 0
      have s1 : W1.cell? ⟨w.heap.size + 1, 1, none⟩ = some (.int .i64 pl) := HP1.out.cell 1
      have s2 : W1.cell? ⟨w.heap.size + 1, 2, none⟩ = some (.slice cA code.length cc) := HP1.out.cell 2
      have s3 : W1.cell? ⟨w.heap.size + 1, 3, none⟩ = some (.slice mA mem.length mc) := HP1.out.cell 3
      have s4 : W1.cell? ⟨w.heap.size + 1, 4, none⟩ = some (.slice sA stack.length sc) := HP1.out.cell 4
      have s5 : W1.cell? ⟨w.heap.size + 1, 5, none⟩ = some (.slice oA out.length oc) := HP1.out.cell 5
      go_wp2
      go_ret
      exact ⟨rfl, HB.out⟩
end Go.Proofs.YtipbilmnknmhmaaGreatDoor
