/- Walk of the reference's Make at a kind. -/
import Derived.Test.YtaingkjleelbfaaOrdT
namespace Go.Proofs.Ytaingkjleelbfaa
open Go.RowKit Go.Shelf

set_option maxRecDepth 100000 in
set_option maxHeartbeats 4000000 in
theorem rMake_power (k m : Nat) (w : World) (hk3 : k ≤ 3) (hm8 : m ≤ 8) (hkm : 2 ^ k = m) :
    Calls Try.prog 9 #[.string ⟨#[112, 111, 119, 101, 114]⟩, .int .i64 (k : Int)] w (TRes w 0 (named m) (Ordr.ups powerF m)) := by
  obtain ⟨i0, hi, hz0, hz1, hz2⟩ := info_parts Try.infoU32
  have hp0 := fun W => rPower_any k W (by omega)
  rw [hkm] at hp0
  have HP0 := Lib.hid hp0
  clear hkm hp0
  have hnm := rNames_any m (w.alloc (.cells #[.slice none 0 0, .slice none 0 0, .int .i64 0] 31)) hm8
  have HNM := Lib.hid hnm
  clear hnm
  have hst : RMakeAt w powerF m 0 (.slice none 0 0) (((w.alloc (.cells #[.slice none 0 0, .slice none 0 0, .int .i64 0] 31)).alloc (.cells (strs (named 8)).toArray 9)).alloc (.cells #[.slice (some ⟨w.heap.size + 1, 0, none⟩) m 8, .slice none 0 0, .int .i64 0] 31)) :=
    ⟨World.ownsRow_nil _ _ _ _, ((Blk.new _ _ _).alloc _).alloc _, (Blk.new' _ _ _ _ (by simp)).alloc _, Blk.new' _ _ _ _ (by simp), (((Below.refl _ w).alloc (Nat.le_refl _) _).alloc (by simp) _).alloc (by simp; omega) _⟩
  have HST := Lib.hid hst
  clear hst
  go_enter Try.func9, Try.ntmps9
  go_wp2_with (first
    | (go_at_call 26; refine (HP0.out _).mono ?_; rintro e w' ⟨rfl, rfl⟩)
    | (go_at_call 27; refine HNM.out.mono ?_; rintro e w' ⟨rfl, rfl⟩))
  go_loopw [7] (fun i wr => ∃ (a : Nat) (v : Value), a ≤ m ∧ i = .int .i64 a ∧ RMakeAt w powerF m a v wr) (fun i _ => m - (intOf i).toNat)
  case atStart => exact ⟨0, _, Nat.zero_le _, rfl, HST.out⟩
  case round =>
    clear HST HNM
    obtain ⟨a, v, ha, rfl, hat⟩ := hrel
    by_cases hlt : a < m
    · have hown := hat.1
      have hct : wr.cell? ⟨w.heap.size + 1 + 1, 1, none⟩ = some v := by have := hat.2.2.2.1.cell 1; exact this
      have hszr : w.heap.size + 3 ≤ wr.heap.size := by have := hat.2.2.2.1.lt; omega
      have HAT := Lib.hid hat
      have HOWN := Lib.hid hown
      clear hat hown
      obtain ⟨wo, rfl⟩ : ∃ wo : World, wo = wr := ⟨_, rfl⟩
      go_wp2
      go_loop [8, 9] (fun u j => ∃ (b x : Nat), b ≤ m ∧ j = .int .i64 b ∧ x < 256 ∧ x = Ordr.rowTo powerF a b ∧ u = .int .i64 x) (fun _ j => m - (intOf j).toNat)
      case atStart => exact ⟨0, 0, Nat.zero_le _, rfl, by decide, rfl, rfl⟩
      case round =>
        obtain ⟨b, x, hb, rfl, hx, he, rfl⟩ := hrel
        have HE := Lib.hid he
        clear he
        by_cases hlt2 : b < m
        · have hpw := rPower_any b wo (by omega)
          obtain ⟨q, hq⟩ : ∃ q, 2 ^ b = q := ⟨_, rfl⟩
          have hq8 : q ≤ 128 := by rw [← hq]; exact Nat.pow_le_pow_right (n := 2) (j := 7) (by decide) (by omega)
          rw [hq] at hpw
          have hx2 : Ordr.rowTo powerF a (b + 1) < 256 := Nat.lt_of_lt_of_le (Ordr.rowTo_lt _ _ _) (Nat.pow_le_pow_right (n := 2) (j := 8) (by decide) (by omega))
          have HQ := Lib.hid hq
          have HX2 := Lib.hid hx2
          have HPW := Lib.hid hpw
          clear hq hpw hx2 hct
          have hwi := rWithin_any a b wo (by omega) (by omega)
          cases hf : powerF a b
          · have HF := Lib.hid hf
            rw [hf] at hwi
            have HWI := Lib.hid hwi
            clear hf hwi
            go_wp2_with (go_at_call 28; refine HWI.out.mono ?_; rintro e w' ⟨rfl, rfl⟩)
            go_round
            case rel => exact ⟨b + 1, x, by omega, by go_num, hx, by rw [HE.out]; exact (rowTo_no HF.out).symm, rfl⟩
            case measure => simp [intOf]; omega
          · have HF := Lib.hid hf
            rw [hf] at hwi
            have HWI := Lib.hid hwi
            clear hf hwi
            go_wp2_with (fail)
            refine HWI.out.mono ?_
            rintro e w' ⟨rfl, rfl⟩
            go_wp2_with (fail)
            refine HPW.out.mono ?_
            rintro e w' ⟨rfl, rfl⟩
            go_wp2
            go_round
            case rel =>
              have hr := rowTo_yes HF.out
              rw [← HE.out, HQ.out] at hr
              exact ⟨b + 1, x + q, by omega, by go_num, by rw [← hr]; exact HX2.out, hr.symm, by go_num⟩
            case measure => simp [intOf]; omega

        · obtain rfl : b = m := by omega
          have hcv : (x : Int) % 4294967296 = x := by omega
          go_wp2_with (at_builtin; refine wpList_append_own _ rfl _ _ 23 rfl (w.heap.size + 3) 62 i0 (.int .u32 0) 1 4 Try.underlying23 hi hz0 hz1 hz2 rfl (by decide) v a _ rfl (HOWN.out.alloc _) ⟨wo.heap.size, 0, none⟩ 1 1 [.int .u32 (x : Int)] rfl rfl ?c1 ?c2 ?c3 ?c4 ?c5 ?_)
          case c2 => simp [Value.oneCell']
          case c3 => unfold maxLen; omega
          case c4 => omega
          case c5 => first | omega | (simp; omega)
          intro v' w' hown' hgrow _
          obtain ⟨g', cap', rfl⟩ := ownsRow_succ hown'
          have hst := HAT.out.step hlt (by rw [← HE.out]; exact hown') hgrow
          obtain ⟨hst1, hfz, hc0⟩ := hst
          have hfz' : w'.frozen? ⟨w.heap.size + 1 + 1, 1, none⟩ = false := hfz
          have hc0' : w'.cell? ⟨w.heap.size + 1 + 1, 1, none⟩ = some v := hc0
          have HST := Lib.hid hst1
          clear hst1 hown' hgrow hfz hc0 hct
          go_wp2
          go_roundw
          case rel => exact ⟨a + 1, _, by omega, by go_num, HST.out⟩
          case measure => simp [intOf]; omega
    · obtain rfl : a = m := by omega
      have hfin := hat.fin hm8
      have hd0 : wr.cell? ⟨w.heap.size, 0, none⟩ = some (.slice none 0 0) := by rw [hat.2.1.cell]; rfl
      have hd1 : wr.cell? ⟨w.heap.size, 1, none⟩ = some (.slice none 0 0) := by rw [hat.2.1.cell]; rfl
      have hd2 : wr.cell? ⟨w.heap.size, 2, none⟩ = some (.int .i64 0) := by rw [hat.2.1.cell]; rfl
      have hf0 := hat.2.1.frozen 0
      have hf1 := hat.2.1.frozen 1
      have hf2 := hat.2.1.frozen 2
      have hct0 : wr.cell? ⟨w.heap.size + 1 + 1, 0, none⟩ = some (.slice (some ⟨w.heap.size + 1, 0, none⟩) a 8) := by have := hat.2.2.2.1.cell 0; exact this
      have hct1 : wr.cell? ⟨w.heap.size + 1 + 1, 1, none⟩ = some v := by have := hat.2.2.2.1.cell 1; exact this
      have hct2 : wr.cell? ⟨w.heap.size + 1 + 1, 2, none⟩ = some (.int .i64 0) := by have := hat.2.2.2.1.cell 2; exact this
      obtain ⟨A, c, rfl⟩ := own_slice hat.1
      have HFIN := Lib.hid hfin
      clear hat hfin
      go_wp2
      exact bodyPost_ret (v := .agg #[.slice (some ⟨w.heap.size + 1, 0, none⟩) a 8, .slice A a c, .int .i64 0]) (by simp [results, Try.results9, go_sem, hd0, hd1, hd2]) rfl HFIN.out
end Go.Proofs.Ytaingkjleelbfaa
