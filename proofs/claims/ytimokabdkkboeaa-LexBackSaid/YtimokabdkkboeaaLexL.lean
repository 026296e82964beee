/- The walk of the law that tokens stand where they are told, and are read again. -/
import Derived.Test.YtimokabdkkboeaaLexI
namespace Go.Proofs.Ytimokabdkkboeaa
open Go.RowKit Go.Shelf

theorem lex_err {s : List UInt8} {l : List Lx.Tk} {a n : Nat} (h : Lx.lex s = (l, a, n)) (hn : n ≠ 0) : l = [] := by
  unfold Lx.lex at h
  repeat' split at h
  · injection h with h _; exact h.symm
  · injection h with h _; exact h.symm
  · injection h with h _; exact h.symm
  · injection h with _ h
    injection h with _ h
    exact absurd h.symm hn
/-- What Lex's tokens are, one by one. -/
structure Good (b : List UInt8) (l : List Lx.Tk) : Prop where
  pos : 1 ≤ l.length
  len : l.length ≤ 200
  stands : Lx.Stands b 0 l
  each : ∀ (k : Nat) (t : Lx.Tk), l[k]? = some t → (k + 1 = l.length ∧ t.kind = 0 ∧ t.text = ByteArray.empty) ∨ (k + 1 < l.length ∧ t.kind ≠ 0 ∧ t.text.data.toList ≠ [])
theorem good_of {b : List UInt8} {l : List Lx.Tk} {a : Nat} (h : Lx.lex b = (l, a, 0)) : Good b l := by
  obtain ⟨ts, rfl, hn, hal, hst, _⟩ := Lx.lex_ok h
  refine ⟨by simp, by simp; omega, hst, fun k t ht => ?_⟩
  by_cases hk : k < ts.length
  · rw [List.getElem?_append_left hk] at ht
    have := hal t (List.mem_of_getElem? ht)
    exact .inr ⟨by simp; omega, by have := this.1; omega, this.2.2.1⟩
  · rw [List.getElem?_append_right (by omega)] at ht
    have h1 := (List.getElem?_eq_some_iff.1 ht).1
    simp only [List.length_cons, List.length_nil] at h1
    have h0 : k - ts.length = 0 := by omega
    rw [h0] at ht
    injection ht with ht
    subst ht
    exact .inl ⟨by simp; omega, rfl, rfl⟩
theorem stands_at {b : List UInt8} {e k : Nat} {l : List Lx.Tk} {t : Lx.Tk} (h : Lx.Stands b e (l.drop k)) (ht : l[k]? = some t) :
    ∃ p : Nat, t.pos = p ∧ e ≤ p ∧ p + t.text.data.toList.length ≤ b.length ∧ Lib.hasPrefix (b.drop p) t.text.data.toList = true ∧ Lx.Stands b (p + t.text.data.toList.length) (l.drop (k + 1)) := by
  obtain ⟨hk, hg⟩ := List.getElem?_eq_some_iff.1 ht
  rw [List.drop_eq_getElem_cons hk, hg] at h
  exact h

theorem wrap_small (n : Nat) (h : n ≤ 2000000) : wrap64 (n : Int) = (n : Int) := by unfold wrap64; omega

set_option maxRecDepth 100000 in
set_option maxHeartbeats 8000000 in
theorem lexBackLaw_any (s : ByteArray) (w : World) (hs : s.size ≤ maxLen) :
    Calls Try.prog 4 #[.string s] w fun e w' => e = .returned (.bool true) ∧ Below w.heap.size w w' := by
  have hs : s.size ≤ 9223372036854775807 := hs
  obtain ⟨M, hM⟩ : ∃ M, min s.size 900 = M := ⟨_, rfl⟩
  have hmin : min (s.size : Int) 900 = (M : Int) := by omega
  have hM1 : M ≤ s.size := by omega
  have hM2 : M ≤ 900 := by omega
  clear hM
  obtain ⟨x, hx⟩ : ∃ x, s.extract 0 M = x := ⟨_, rfl⟩
  have hxs : x.size = M := by rw [← hx, Lib.size_eq, Lib.extract_data, List.length_take, List.drop_zero, ← Lib.size_eq]; omega
  have hcall := lex_any x w (by unfold maxLen; omega)
  obtain ⟨l, a, n, hl⟩ : ∃ l a n, Lx.lex x.data.toList = (l, a, n) := ⟨_, _, _, rfl⟩
  rw [hl] at hcall
  have HL := Lib.hid hl
  have HC := Lib.hid hcall
  have HXS := Lib.hid hxs
  clear hl hcall hxs
  by_cases hn : n = 0
  · subst hn
    have hgood := good_of HL.out
    obtain ⟨hsz, mm, hm, hkt⟩ := Lx.lex_back (by rw [← Lib.size_eq, HXS.out]; exact hM2) HL.out
    have HG := Lib.hid hgood
    have HSZ := Lib.hid hsz
    have HMM := Lib.hid hm
    have HKT := Lib.hid hkt
    clear hgood hsz hm hkt
    go_enter Try.func4, Try.ntmps4
    go_wp2_with (fail)
    refine HC.out.mono ?_
    rintro e w1 ⟨v, rfl, ⟨A, c, rfl, hrow, hcap⟩, hb⟩
    have HROW := Lib.hid hrow
    have HB := Lib.hid hb
    clear hrow hb
    go_wp2
    go_loopw [6, 35] (fun e i wr => ∃ k z : Nat, k ≤ l.length ∧ i = .int .i64 k ∧ e = .int .i64 z ∧ Hid (Lx.Stands x.data.toList z (l.drop k)) ∧ Hid (Below w1.heap.size w1 wr)) (fun _ i _ => l.length - (intOf i).toNat)
    case atStart => exact ⟨0, 0, Nat.zero_le _, rfl, rfl, HG.out.stands, Below.refl _ _⟩
    case round =>
      obtain ⟨k, z, hk, rfl, rfl, HST, HI⟩ := hrel
      by_cases hlt : k < l.length
      · obtain ⟨ad, t, rfl, -, ht, c0, c1, c2⟩ := trow_at (HROW.out.below HI.out) hlt
        obtain ⟨p, hp, hzp, hpl, hpre, hnext⟩ := stands_at HST.out ht
        have heach := HG.out.each k t ht
        obtain ⟨kd, y, ps⟩ := t
        dsimp only at c0 c1 c2 hp hpl hpre hnext heach
        subst hp
        simp only [← Lib.size_eq] at hpl hnext
        have f1 : decide (p < z) = false := by rw [decide_eq_false_iff_not]; omega
        have hext : (x.extract p x.size).data.toList = x.data.toList.drop p := by rw [Lib.extract_data, List.take_of_length_le (by rw [List.length_drop, Lib.size_eq]; exact Nat.le_refl _)]
        have hpf := fun W => hasPrefix_any (x.extract p x.size) y W
        rw [hext, hpre] at hpf
        have HPF := Lib.hid hpf
        have HNX := Lib.hid hnext
        have hg0 := HG.out.len
        have hpx : (p : Int) ≤ (x.size : Int) := by omega
        have hbt := HI.out.alloc HI.out.size (.cells #[.int .i64 kd, .string y, .int .i64 (p : Int)] 24)
        have HBT := Lib.hid hbt
        have HW : Hid (wrap64 ((p : Int) + (y.size : Int)) = ((p + y.size : Nat) : Int)) := wrap_small (p + y.size) (by have := HXS.out; omega)
        have HW0 : Hid (wrap64 (p : Int) = (p : Int)) := wrap_small p (by have := HXS.out; omega)
        clear hpre hnext hpf ht hext hbt
        rcases heach with ⟨hk1, rfl, rfl⟩ | ⟨hk1, hkd, hy⟩
        · have hlast : ((k : Int) == (l.length : Int) - 1) = true := by rw [beq_iff_eq]; omega
          go_wp2
          go_quiet ((go_at_call 9; exact quiet_eq (HPF.out _)))
          go_wp2
          go_roundw
          case rel => exact ⟨k + 1, p + ByteArray.empty.size, by omega, by go_num, by rw [HW0.out]; rfl, HNX, below_drawn HBT.out _⟩
          case measure => simp [intOf]; omega
        · have hlast : ((k : Int) == (l.length : Int) - 1) = false := by rw [beq_eq_false_iff_ne]; omega
          have hk0 : (kd == 0) = false := by rw [beq_eq_false_iff_ne]; exact hkd
          have he := empty_not hy
          clear hkd hy
          go_wp2
          go_quiet ((go_at_call 9; exact quiet_eq (HPF.out _)))
          go_wp2
          go_roundw
          case rel => exact ⟨k + 1, p + y.size, by omega, by go_num, by rw [HW.out], HNX, below_drawn HBT.out _⟩
          case measure => simp [intOf]; omega
      · obtain rfl : k = l.length := by omega
        have hlen := HG.out.len
        have hrow2 := (HROW.out.below HI.out).more HI.out.size
        have hj := lexJoin_any c l wr hrow2 (by omega) (by have := HSZ.out; omega)
        have hlx := fun W => lex_any (Lx.joined l) W (by have := HSZ.out; unfold maxLen; omega)
        rw [HMM.out] at hlx
        have hml : mm.length = l.length := by have := congrArg List.length HKT.out; simpa using this
        have HJ := Lib.hid hj
        have HLX := Lib.hid hlx
        have HML := Lib.hid hml
        clear hrow2 hj hlx hml HST
        go_wp2_with (fail)
        refine HJ.out.mono ?_
        rintro e w2 ⟨rfl, hb2⟩
        have HB2 := Lib.hid hb2
        clear hb2
        go_wp2_with (fail)
        refine (HLX.out _).mono ?_
        rintro e w3 ⟨v3, rfl, ⟨A3, c3, hv3, hrow3, hcap3⟩, hb3⟩
        rw [HML.out] at hv3
        subst hv3
        have HROW3 := Lib.hid hrow3
        have HB3 : Hid (Below w1.heap.size w1 w3) := (HI.out.trans (HB2.out.mono HI.out.size)).trans (hb3.mono (by have := HI.out.size; have := HB2.out.size; omega))
        have HA := Lib.hid (lexAlive_any w3)
        clear hrow3 hb3 hcap3
        go_wp2_with (fail)
        refine HA.out.mono ?_
        rintro e w4 ⟨rfl, hb4⟩
        have HB4 := Lib.hid hb4
        clear hb4
        go_wp2
        go_loopw [103] (fun i wr => ∃ k : Nat, k ≤ l.length ∧ i = .int .i64 k ∧ Hid (Below w4.heap.size w4 wr)) (fun i _ => l.length - (intOf i).toNat)
        case atStart => exact ⟨0, Nat.zero_le _, rfl, Below.refl _ _⟩
        case round =>
          obtain ⟨k, hk, rfl, HI4⟩ := hrel
          by_cases hlt2 : k < l.length
          · have b3 : Below w3.heap.size w3 wr := HB4.out.trans (HI4.out.mono HB4.out.size)
            have b1 : Below w1.heap.size w1 wr := HB3.out.trans (b3.mono HB3.out.size)
            obtain ⟨ad, t, rfl, hadb, ht, c0, c1, -⟩ := trow_at (HROW.out.below b1) hlt2
            have hblk : (ad.add (k * 3)).block < wr.heap.size := by rw [add_block]; have := b1.size; omega
            obtain ⟨ad3, t3, rfl, -, ht3, d0, d1, d2⟩ := trow_at (HROW3.out.below b3) (show k < mm.length by rw [HML.out]; exact hlt2)
            have hkk : Lx.kt t3 = Lx.kt t := by
              have h1 : (mm.map Lx.kt)[k]? = some (Lx.kt t3) := by rw [List.getElem?_map, ht3]; rfl
              rw [HKT.out, List.getElem?_map, ht] at h1
              injection h1 with h1
              exact h1.symm
            obtain ⟨kd, y, ps⟩ := t
            obtain ⟨kd3, y3, ps3⟩ := t3
            injection hkk with e1 e2
            dsimp only at e1 e2 c0 c1 d0 d1 d2
            subst e1 e2
            have hn1 : (kd3 != kd3) = false := by simp
            have hk2 : (k : Int) < (l.length : Int) := by omega
            have hbt := HI4.out.alloc HI4.out.size (.cells #[.int .i64 kd3, .string y3, .int .i64 ps3] 24)
            have HBT := Lib.hid hbt
            clear ht ht3 b1 b3 hbt hadb
            go_wp2
            go_quiet (fail)
            go_wp2
            go_roundw
            case rel => exact ⟨k + 1, by omega, by go_num, below_drawn HBT.out _⟩
            case measure => simp [intOf]; omega
          · obtain rfl : k = l.length := by omega
            go_wp2
            go_ret
            have b3 : Below w3.heap.size w3 wr := HB4.out.trans (HI4.out.mono HB4.out.size)
            have b1 : Below w1.heap.size w1 wr := HB3.out.trans (b3.mono HB3.out.size)
            exact ⟨rfl, HB.out.trans (b1.mono HB.out.size)⟩
  · have hnil := lex_err HL.out hn
    subst hnil
    have hn1 : ((n : Int) != 0) = true := by rw [bne_iff_ne]; omega
    go_enter Try.func4, Try.ntmps4
    go_wp2_with (fail)
    refine HC.out.mono ?_
    rintro e w1 ⟨v, rfl, ⟨A, c, hv, hrow, hcap⟩, hb⟩
    rw [List.length_nil] at hv
    subst hv
    have HB := Lib.hid hb
    have HA := Lib.hid (lexAlive_any w1)
    clear hrow hb
    go_wp2_with (fail)
    refine HA.out.mono ?_
    rintro e w2 ⟨rfl, hb2⟩
    have HB2 := Lib.hid hb2
    clear hb2
    go_wp2
    go_ret
    exact ⟨rfl, HB.out.trans (HB2.out.mono HB.out.size)⟩
end Go.Proofs.Ytimokabdkkboeaa
