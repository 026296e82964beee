/- Walk of the law LatticeLaws. -/
import Derived.Test.YtgplnlpbpcpacaaLawsA
import Derived.IntWalk
namespace Go.Proofs.Ytgplnlpbpcpacaa
open Go.RowKit

/-- The variable good, laid behind the lattice. -/
theorem law_good {w W : World} {x0 x1 : Value} {names : List ByteArray} {up : List Nat} (h : Law w x0 x1 names up W) : LawG w x0 x1 names up W.heap.size W.heap.size (W.alloc (.cells #[.bool true] 4)) :=
  ⟨⟨h.1.1.alloc _, h.1.2.alloc h.1.2.size _⟩, h.2.below ((Below.refl _ W).alloc (Nat.le_refl _) _), h.1.1.lt, Nat.le_refl _, Box.new _ _ _⟩
theorem law_drewN {w W : World} {x0 x1 : Value} {names : List ByteArray} {up : List Nat} (h : Law w x0 x1 names up W) (n : Nat) : Law w x0 x1 names up (W.drewN n) :=
  (h.next (W' := W.drewN n) (below_drewN_ (Below.refl _ _) n)).1
theorem mod_place (x : Int) {n : Nat} (hn : 1 ≤ n) : ∃ a : Nat, (x.tmod (n : Int) + (n : Int)) % (n : Int) = (a : Int) ∧ a < n := by
  have h1 := Int.emod_nonneg (x.tmod (n : Int) + (n : Int)) (show (n : Int) ≠ 0 by omega)
  have h2 := Int.emod_lt_of_pos (x.tmod (n : Int) + (n : Int)) (show (0 : Int) < (n : Int) by omega)
  exact ⟨((x.tmod (n : Int) + (n : Int)) % (n : Int)).toNat, by omega, by omega⟩

theorem law_start' {w w1 : World} {y0 y1 x0 x1 : Value} {names : List ByteArray} {up : List Nat} (hlat : ∀ W2, Keeps w.heap.size (w.heap.size + 1) w1 W2 → IsLat W2 W2.heap.size (.agg #[x0, x1]) names up)
    (hb1 : Below (w.heap.size + 1) (w.alloc (.cells #[y0, y1] 25)) w1) : w.heap.size + 1 ≤ w1.heap.size := by
  have := hb1.size
  simp at this
  omega

set_option maxRecDepth 100000 in
set_option maxHeartbeats 8000000 in
theorem laws_any {A A' : Option Addr} {names : List ByteArray} {up : List Nat} (c c' : Nat) (x y z : Int) (wx : (Lit.int .i64 x).wf = true) (wy : (Lit.int .i64 y).wf = true) (wz : (Lit.int .i64 z).wf = true) (w : World) (hN : Row w w.heap.size A (strs names)) (hU : Ups w w.heap.size A' up) (hc : names.length ≤ c) (hc' : up.length ≤ c') (hm : c ≤ maxLen) (hm' : c' ≤ maxLen) (hs : ∀ s ∈ names, s.size ≤ maxLen) :
    Calls Try.prog 5 #[.agg #[.slice A names.length c, .slice A' up.length c'], .int .i64 x, .int .i64 y, .int .i64 z] w fun e w' => e = .returned (.bool true) ∧ Below w.heap.size w w' := by
  have hb0 : Below w.heap.size w (w.alloc (.cells #[.slice A names.length c, .slice A' up.length c'] 25)) := (Below.refl _ w).alloc (Nat.le_refl _) _
  have hfew := few_any w.heap.size c c' (w.alloc (.cells #[.slice A names.length c, .slice A' up.length c'] 25)) (by simp) (hN.below hb0) (hU.below hb0) hc hc' hm hm' hs
  have p0 : Blk (w.alloc (.cells #[.slice A names.length c, .slice A' up.length c'] 25)) w.heap.size 25 #[.slice A names.length c, .slice A' up.length c'] := Blk.new _ _ _
  have HFEW := Lib.hid hfew
  have HP0 := Lib.hid p0
  clear hfew p0 hb0 hN hU hs
  go_enter Try.func5, Try.ntmps5
  go_wp2_with (go_at_call 6; refine HFEW.out.mono ?_)
  rintro e w1 ⟨v, names', up', rfl, hlat, hb1⟩
  rw [World.size_alloc] at hlat hb1
  obtain ⟨A0, A1, c0, c1, rfl, -, -⟩ := (hlat w1 ⟨Nat.le_refl _, fun _ _ _ => rfl⟩).form
  have hp1 := HP0.out.below hb1 (Nat.lt_succ_self _)
  have hc00 : w1.cell? ⟨w.heap.size, 0, none⟩ = some (.slice A names.length c) := by rw [hp1.cell]; rfl
  have hc01 : w1.cell? ⟨w.heap.size, 1, none⟩ = some (.slice A' up.length c') := by rw [hp1.cell]; rfl
  have hf00 := hp1.frozen 0
  have hf01 := hp1.frozen 1
  have hsz1 := law_start' hlat hb1
  have HLAW := Lib.hid (law_start hlat hb1)
  clear hlat hb1 hp1 HFEW HP0
  go_wp2_with (fail)
  have hlaw := HLAW.out
  obtain ⟨W2, hW2⟩ : ∃ W2 : World, ((w1.setCell ⟨w.heap.size, 0, none⟩ (.slice A0 names'.length c0)).setCell ⟨w.heap.size, 1, none⟩ (.slice A1 up'.length c1)) = W2 := ⟨_, rfl⟩
  have hsz2 : w.heap.size + 1 ≤ W2.heap.size := by rw [← hW2]; simpa [World.setCell] using hsz1
  rw [hW2] at hlaw ⊢
  have hk0 := hlaw.1.c0
  have hk1 := hlaw.1.c1
  clear hW2 HLAW hc00 hc01 hf00 hf01 hsz1
  obtain ⟨n, hn⟩ : ∃ n, checkN names' up' = n := ⟨_, rfl⟩
  have HN := Lib.hid hn
  have hch := fun W (hW : Law w (.slice A0 names'.length c0) (.slice A1 up'.length c1) names' up' W) => hW.call (check_any W hW.2)
  have hal := fun W (hW : Law w (.slice A0 names'.length c0) (.slice A1 up'.length c1) names' up' W) => hW.call (alive_any W)
  rw [hn] at hch
  have HCH := Lib.hid hch
  have HAL := Lib.hid hal
  clear hch hal hn
  by_cases hz : n = 0
  · subst hz
    have HLT := Lib.hid (latt_of HN.out)
    have hone := HLT.out.one
    have hfew := HLT.out.few
    have hlen0 : ((up'.length : Int) == 0) = false := by rw [beq_eq_false_iff_ne]; omega
    go_wp2_with (first
      | (go_at_call 10; refine (HCH.out _ (by assumption)).mono ?_; rintro e w' ⟨rfl, hlaw', hq0, hq1⟩))
    have hpos : (0 : Int) < (up'.length : Int) := by omega
    have hn1 : (1 : Int) ≤ (up'.length : Int) := by omega
    have hn8 : (up'.length : Int) ≤ 8 := by omega
    have hx1 := Int.lt_tmod_of_pos x hpos
    have hx2 := Int.tmod_lt_of_pos x hpos
    have hy1 := Int.lt_tmod_of_pos y hpos
    have hy2 := Int.tmod_lt_of_pos y hpos
    have hz1 := Int.lt_tmod_of_pos z hpos
    have hz2 := Int.tmod_lt_of_pos z hpos
    have hx0 : 0 ≤ x.tmod (up'.length : Int) + (up'.length : Int) := by omega
    have hy0 : 0 ≤ y.tmod (up'.length : Int) + (up'.length : Int) := by omega
    have hz0 : 0 ≤ z.tmod (up'.length : Int) + (up'.length : Int) := by omega
    have hne0 : ((up'.length : Int) == 0) = false := by rw [beq_eq_false_iff_ne]; omega
    go_quiet (fail)
    obtain ⟨a, ha, hal⟩ := mod_place x hone
    obtain ⟨b, hb, hbl⟩ := mod_place y hone
    obtain ⟨d, hd, hdl⟩ := mod_place z hone
    rw [ha, hb, hd]
    clear ha hb hd hx0 hy0 hz0 hx1 hx2 hy1 hy2 hz1 hz2 wx wy wz hlen0 hne0
    have hlawQ := law_drewN (show Law w (.slice A0 names'.length c0) (.slice A1 up'.length c1) names' up' _ by assumption) nq
    have hmf : ∀ (fn : Fn) (first cap : Array Value) (w : World), (Instr.makeFunc fn first cap).run Try.prog w = .ok (.func fn first cap) w := fun _ _ _ _ => rfl
    have hal3 := HAL.out _ hlawQ
    have HAL3 := Lib.hid hal3
    clear hal3
    go_wp2_with (fail)
    refine HAL3.out.mono ?_
    rintro e w3 ⟨rfl, hlaw3, hq30, hq31⟩
    have HG := Lib.hid (law_good hlaw3)
    have HL3 := Lib.hid hlaw3
    clear hlaw3 hlawQ HAL3
    go_wp2_with (fail)
    have hg := HG.out
    obtain ⟨W4, hW4⟩ : ∃ W4 : World, w3.alloc (.cells #[.bool true] 4) = W4 := ⟨_, rfl⟩
    obtain ⟨bg, hbg⟩ : ∃ bg, w3.heap.size = bg := ⟨_, rfl⟩
    rw [hbg] at hg
    rw [hW4] at hg ⊢
    rw [hbg]
    clear hW4 HG HL3 hq30 hq31 hbg
    have HJ : Hid (∀ (i j : Nat) (W : World), LawG w (.slice A0 names'.length c0) (.slice A1 up'.length c1) names' up' bg bg W → i < up'.length → j < up'.length → Calls Try.prog 23 #[.int .i64 i, .int .i64 j, .pointer (some ⟨w.heap.size, 0, none⟩), .pointer (some ⟨bg, 0, none⟩)] W fun e w' => e = .returned (.int .i64 (J up' i j : Nat)) ∧ LawGR w (.slice A0 names'.length c0) (.slice A1 up'.length c1) names' up' bg bg w') := fun i j W hW hi hj => lawJoin_any HN.out hW i j hi hj
    have HM : Hid (∀ (i j : Nat) (W : World), LawG w (.slice A0 names'.length c0) (.slice A1 up'.length c1) names' up' bg bg W → i < up'.length → j < up'.length → Calls Try.prog 24 #[.int .i64 i, .int .i64 j, .pointer (some ⟨w.heap.size, 0, none⟩), .pointer (some ⟨bg, 0, none⟩)] W fun e w' => e = .returned (.int .i64 (M up' i j : Nat)) ∧ LawGR w (.slice A0 names'.length c0) (.slice A1 up'.length c1) names' up' bg bg w') := fun i j W hW hi hj => lawMeet_any HN.out hW i j hi hj
    have HF : Hid (∀ (W : World), LawG w (.slice A0 names'.length c0) (.slice A1 up'.length c1) names' up' bg bg W → Calls Try.prog 14 #[.agg #[.slice A0 names'.length c0, .slice A1 up'.length c1], .int .i64 a, .int .i64 b] W fun e w' => e = .returned (.tuple #[.bool (Lat.fl up' a b), .int .i64 0]) ∧ LawGR w (.slice A0 names'.length c0) (.slice A1 up'.length c1) names' up' bg bg w') := fun W hW => by
      have := hW.call (Flows_any a b W hW.lat')
      have e1 : flowsR names' up' a b = Lat.fl up' a b := by unfold flowsR; rw [if_pos (lab_ok HN.out hal hbl)]; rfl
      rw [e1, lab_ok HN.out hal hbl] at this
      exact this
    have HH : Hid (∀ (i : Nat) (W : World), LawG w (.slice A0 names'.length c0) (.slice A1 up'.length c1) names' up' bg bg W → i < up'.length → Calls Try.prog 17 #[.agg #[.slice A0 names'.length c0, .slice A1 up'.length c1], .int .i64 i] W fun e w' => e = .returned (.tuple #[.int .i64 (Lat.htS up' i : Nat), .int .i64 0]) ∧ LawGR w (.slice A0 names'.length c0) (.slice A1 up'.length c1) names' up' bg bg w') := fun i W hW hi => by
      have := hW.call (Height_any i W hW.lat')
      have e1 : heightR names' up' i = Lat.htS up' i := by unfold heightR; rw [if_pos (lab_ok HN.out hi hi)]; rfl
      rw [e1, lab_ok HN.out hi hi] at this
      exact this
    obtain ⟨lo, hlo⟩ : ∃ lo, rBotTo up' up'.length = lo := ⟨_, rfl⟩
    obtain ⟨hi, hhi⟩ : ∃ hi, rTopTo up' up'.length = hi := ⟨_, rfl⟩
    have HB : Hid (∀ (W : World), LawG w (.slice A0 names'.length c0) (.slice A1 up'.length c1) names' up' bg bg W → Calls Try.prog 8 #[.agg #[.slice A0 names'.length c0, .slice A1 up'.length c1]] W fun e w' => e = .returned (.tuple #[.int .i64 (lo : Nat), .int .i64 0]) ∧ LawGR w (.slice A0 names'.length c0) (.slice A1 up'.length c1) names' up' bg bg w') := fun W hW => by
      have := hW.call (Bottom_any W hW.lat')
      have e1 : bottomR names' up' = lo := by unfold bottomR; rw [if_pos HN.out, HLT.out.bottom, hlo]
      rw [e1, HN.out] at this
      exact this
    have HT : Hid (∀ (W : World), LawG w (.slice A0 names'.length c0) (.slice A1 up'.length c1) names' up' bg bg W → Calls Try.prog 9 #[.agg #[.slice A0 names'.length c0, .slice A1 up'.length c1]] W fun e w' => e = .returned (.tuple #[.int .i64 (hi : Nat), .int .i64 0]) ∧ LawGR w (.slice A0 names'.length c0) (.slice A1 up'.length c1) names' up' bg bg w') := fun W hW => by
      have := hW.call (Top_any W hW.lat')
      have e1 : topR names' up' = hi := by unfold topR; rw [if_pos HN.out, HLT.out.top, hhi]
      rw [e1, HN.out] at this
      exact this
    have hlol : lo < up'.length := by rw [← hlo]; exact (bot_fl HLT.out hal).1
    have hhil : hi < up'.length := by rw [← hhi]; exact (top_fl HLT.out hal).1
    have h0 : Lat.htS up' lo = 0 := by rw [← hlo]; exact bot_ht HLT.out
    have hjlo : J up' lo a = a := (J_fl HLT.out hlol hal).1 (by rw [← hlo]; exact (bot_fl HLT.out hal).2)
    have hmhi : M up' hi a = a := by
      rw [← M_comm HLT.out hhil hal] 
      exact (M_fl HLT.out hal hhil).1 (by rw [← hhi]; exact (top_fl HLT.out hal).2)
    have hJab := (J_spec HLT.out hal hbl).1
    have hJbd := (J_spec HLT.out hbl hdl).1
    have hMab := (M_spec HLT.out hal hbl).1
    have hMbd := (M_spec HLT.out hbl hdl).1
    have hJcomm := J_comm HLT.out hal hbl
    have hMcomm := M_comm HLT.out hal hbl
    have hJass := J_assoc HLT.out hal hbl hdl
    have hMass := M_assoc HLT.out hal hbl hdl
    have hJabs := J_absorb HLT.out hal hbl
    have hMabs := M_absorb HLT.out hal hbl
    have hJid := J_idem HLT.out hal
    have hMid := M_idem HLT.out hal
    have hJfl := J_fl HLT.out hal hbl
    have hMfl := M_fl HLT.out hal hbl
    have hhtl := Lat.ht_le up' (up'.length + 1) a
    have hhtl2 := Lat.ht_le up' (up'.length + 1) b
    have hcg0 := hg.good.1
    have hcg1 := hg.good.2
    have hck0 := hg.at_.c0
    have hck1 := hg.at_.c1
    clear hlo hhi hlaw hk0 hk1 hmf
    cases hf : Lat.fl up' a b
    · have hnJ : ¬ J up' a b = b := fun e => by rw [hJfl.2 e] at hf; cases hf
      have hnM : ¬ M up' a b = a := fun e => by rw [hMfl.2 e] at hf; cases hf
      have hnJb : ((J up' a b : Int) == (b : Int)) = false := by rw [beq_eq_false_iff_ne]; omega
      have hnMb : ((M up' a b : Int) == (a : Int)) = false := by rw [beq_eq_false_iff_ne]; omega
      clear hJfl hMfl hnJ hnM
      go_wp2_with (first
        | (go_at_call 23; refine (HJ.out _ _ _ (by assumption) (by assumption) (by assumption)).mono ?_; rintro e w' ⟨rfl, hg', hq0, hq1, hq2, hq3⟩)
        | (go_at_call 24; refine (HM.out _ _ _ (by assumption) (by assumption) (by assumption)).mono ?_; rintro e w' ⟨rfl, hg', hq0, hq1, hq2, hq3⟩)
        | (go_at_call 14; refine (HF.out _ (by assumption)).mono ?_; rintro e w' ⟨rfl, hg', hq0, hq1, hq2, hq3⟩)
        | (go_at_call 17; refine (HH.out _ _ (by assumption) (by assumption)).mono ?_; rintro e w' ⟨rfl, hg', hq0, hq1, hq2, hq3⟩)
        | (go_at_call 8; refine (HB.out _ (by assumption)).mono ?_; rintro e w' ⟨rfl, hg', hq0, hq1, hq2, hq3⟩)
        | (go_at_call 9; refine (HT.out _ (by assumption)).mono ?_; rintro e w' ⟨rfl, hg', hq0, hq1, hq2, hq3⟩))
      go_ret
      exact ⟨rfl, (show LawG w (.slice A0 names'.length c0) (.slice A1 up'.length c1) names' up' bg bg _ by assumption).at_.2⟩
    · have eJ := hJfl.1 hf
      have eM := hMfl.1 hf
      rw [eJ] at hJcomm hJass hMabs hJab
      rw [eM] at hMcomm hMass hJabs hMab
      by_cases hab : a = b
      · subst hab
        have hb2 : ((a : Int) != (a : Int)) = false := by simp
        clear hJfl hMfl hJcomm hMcomm hJabs hMabs eJ eM
        go_wp2_with (first
          | (go_at_call 23; refine (HJ.out _ _ _ (by assumption) (by assumption) (by assumption)).mono ?_; rintro e w' ⟨rfl, hg', hq0, hq1, hq2, hq3⟩)
          | (go_at_call 24; refine (HM.out _ _ _ (by assumption) (by assumption) (by assumption)).mono ?_; rintro e w' ⟨rfl, hg', hq0, hq1, hq2, hq3⟩)
          | (go_at_call 14; refine (HF.out _ (by assumption)).mono ?_; rintro e w' ⟨rfl, hg', hq0, hq1, hq2, hq3⟩)
          | (go_at_call 17; refine (HH.out _ _ (by assumption) (by assumption)).mono ?_; rintro e w' ⟨rfl, hg', hq0, hq1, hq2, hq3⟩)
          | (go_at_call 8; refine (HB.out _ (by assumption)).mono ?_; rintro e w' ⟨rfl, hg', hq0, hq1, hq2, hq3⟩)
          | (go_at_call 9; refine (HT.out _ (by assumption)).mono ?_; rintro e w' ⟨rfl, hg', hq0, hq1, hq2, hq3⟩))
        go_ret
        exact ⟨rfl, (show LawG w (.slice A0 names'.length c0) (.slice A1 up'.length c1) names' up' bg bg _ by assumption).at_.2⟩
      · have hlt := ht_fl HLT.out hal hbl hf hab
        have hb2 : ((a : Int) != (b : Int)) = true := by rw [bne_iff_ne]; omega
        have hb3 : ((Lat.htS up' a : Int) == (Lat.htS up' b : Int)) = false := by rw [beq_eq_false_iff_ne]; omega
        clear hJfl hMfl hJabs hMabs
        go_wp2_with (first
          | (go_at_call 23; refine (HJ.out _ _ _ (by assumption) (by assumption) (by assumption)).mono ?_; rintro e w' ⟨rfl, hg', hq0, hq1, hq2, hq3⟩)
          | (go_at_call 24; refine (HM.out _ _ _ (by assumption) (by assumption) (by assumption)).mono ?_; rintro e w' ⟨rfl, hg', hq0, hq1, hq2, hq3⟩)
          | (go_at_call 14; refine (HF.out _ (by assumption)).mono ?_; rintro e w' ⟨rfl, hg', hq0, hq1, hq2, hq3⟩)
          | (go_at_call 17; refine (HH.out _ _ (by assumption) (by assumption)).mono ?_; rintro e w' ⟨rfl, hg', hq0, hq1, hq2, hq3⟩)
          | (go_at_call 8; refine (HB.out _ (by assumption)).mono ?_; rintro e w' ⟨rfl, hg', hq0, hq1, hq2, hq3⟩)
          | (go_at_call 9; refine (HT.out _ (by assumption)).mono ?_; rintro e w' ⟨rfl, hg', hq0, hq1, hq2, hq3⟩))
        go_ret
        exact ⟨rfl, (show LawG w (.slice A0 names'.length c0) (.slice A1 up'.length c1) names' up' bg bg _ by assumption).at_.2⟩
  · have hz1 : ((n : Int) == 0) = false := by rw [beq_eq_false_iff_ne]; omega
    have hz2 : ((n : Int) != 0) = true := by rw [bne_iff_ne]; omega
    go_wp2_with (first
      | (go_at_call 10; refine (HCH.out _ (by assumption)).mono ?_; rintro e w' ⟨rfl, hlaw', hq0, hq1⟩)
      | (go_at_call 11; refine (HAL.out _ (by assumption)).mono ?_; rintro e w' ⟨rfl, hlaw', hq0, hq1⟩))
    go_ret
    exact ⟨rfl, (show Law w (.slice A0 names'.length c0) (.slice A1 up'.length c1) names' up' _ by assumption).1.2⟩
end Go.Proofs.Ytgplnlpbpcpacaa
