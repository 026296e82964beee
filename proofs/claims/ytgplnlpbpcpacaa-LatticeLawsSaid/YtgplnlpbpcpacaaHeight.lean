/- Walks of the heights: lattice.height, lattice.Height, the reference's Height. -/
import Derived.Test.YtgplnlpbpcpacaaRefCheck
import Derived.Test.YtgplnlpbpcpacaaLatOrd
namespace Go.Proofs.Ytgplnlpbpcpacaa
open Go.RowKit

theorem val_i64 {x y : Int} (h : x = y) : Value.int .i64 x = .int .i64 y := by rw [h]

set_option maxHeartbeats 1000000 in
theorem height_any {B : Nat} {A : Option Addr} {up : List Nat} (c : Nat) (hl : up.length ≤ 31) (ho : Lat.isOrder up = true) (f : Nat) : ∀ (a : Nat) (w : World), Ups w B A up → a < up.length → Lat.belowN up a < f → f ≤ 100 →
    Calls Try.prog 36 #[.slice A up.length c, .int .i64 a] w fun e w' => e = .returned (.int .i64 (Lat.ht up f a : Nat)) ∧ w = w' := by
  induction f with
  | zero => intro a w _ _ h _; omega
  | succ f ih =>
    intro a w h ha hbl hf
    have HR : Hid (Lat.ht up (f + 1) a = Lat.htTo up f a up.length) := Lat.ht_succ up f a
    have HIH : Hid (∀ b, b < up.length → Lat.und up a b = true → Calls Try.prog 36 #[.slice A up.length c, .int .i64 b] w fun e w' => e = .returned (.int .i64 (Lat.ht up f b : Nat)) ∧ w = w') := fun b hb hu =>
      ih b w h hb (by have := Lat.belowN_lt ho ha hb hu; omega) (by omega)
    have HFL : Hid (∀ b, b < up.length → Calls Try.prog 34 #[.slice A up.length c, .int .i64 b, .int .i64 a] w fun e w' => e = .returned (.bool (Lat.fl up b a)) ∧ w = w') := fun b hb => flows_any c b a w h hb (by omega)
    have HO := Lib.hid ho
    clear ih h ho hbl
    go_enter Try.func36, Try.ntmps36
    go_wp2
    go_loop [5, 9] (fun y i => ∃ k : Nat, k ≤ up.length ∧ i = .int .i64 k ∧ y = .int .i64 (Lat.htTo up f a k : Nat)) (fun _ i => up.length - (intOf i).toNat)
    case atStart => exact ⟨0, Nat.zero_le _, rfl, rfl⟩
    case round =>
      obtain ⟨k, hk, rfl, rfl⟩ := hrel
      have hs := Lat.htTo_succ up f a k
      have hbd := Lat.htTo_le up f a k
      obtain ⟨m, hm⟩ : ∃ m, Lat.htTo up f a k = m := ⟨_, rfl⟩
      rw [hm] at hs hbd ⊢
      have HS := Lib.hid hs
      have HMM := Lib.hid hm
      clear hs hm
      by_cases hlt : k < up.length
      · by_cases hka : k = a
        · have hb2 : ((k : Int) != (a : Int)) = false := by rw [bne_eq_false_iff_eq]; omega
          have hu : Lat.und up a k = false := by simp [Lat.und, hka]
          have HU := Lib.hid hu
          clear hu hka
          go_wp2
          go_round
          case rel => exact ⟨k + 1, by omega, by go_num, by rw [HS.out, HU.out]; rfl⟩
          case measure => simp [intOf]; omega
        · have hb2 : ((k : Int) != (a : Int)) = true := by rw [bne_iff_ne]; omega
          have hu : Lat.und up a k = Lat.fl up k a := by simp [Lat.und, hka]
          have HU := Lib.hid hu
          clear hu
          cases e1 : Lat.fl up k a
          · have HE1 := Lib.hid e1
            go_wp2_with (go_at_call 34; refine (HFL.out k hlt).mono ?_; rintro e w' ⟨rfl, rfl⟩)
            go_round
            case rel => exact ⟨k + 1, by omega, by go_num, by rw [HS.out, HU.out, HE1.out]; rfl⟩
            case measure => simp [intOf]; omega
          · have HE1 := Lib.hid e1
            have hh := HIH.out k hlt (by rw [HU.out, HE1.out])
            have hhb := Lat.ht_le up f k
            obtain ⟨q, hq⟩ : ∃ q, Lat.ht up f k = q := ⟨_, rfl⟩
            rw [hq] at hh hhb
            have HH := Lib.hid hh
            have HQ := Lib.hid hq
            clear hh hq
            go_wp2_with (first | (go_at_call 34; refine (HFL.out k hlt).mono ?_; rintro e w' ⟨rfl, rfl⟩) | (go_at_call 36; refine HH.out.mono ?_; rintro e w' ⟨rfl, rfl⟩))
            go_round
            case rel => exact ⟨k + 1, by omega, by go_num, by rw [HS.out, HU.out, HE1.out, if_pos rfl, HQ.out]; exact val_i64 (by split <;> omega)⟩
            case measure => simp [intOf]; omega
      · obtain rfl : k = up.length := by omega
        go_wp2
        go_ret
        exact ⟨ret_i64 (by rw [HR.out, HMM.out]), rfl⟩

def heightR (names : List ByteArray) (up : List Nat) (a : Int) : Nat := if labN names up a a = 0 then Lat.htS up a.toNat else 0

set_option maxHeartbeats 1000000 in
theorem Height_any {v : Value} {names : List ByteArray} {up : List Nat} (a : Int) (w : World) (h : IsLat w w.heap.size v names up) :
    Calls Try.prog 17 #[v, .int .i64 a] w fun e w' => e = .returned (.tuple #[.int .i64 (heightR names up a : Nat), .int .i64 (labN names up a a : Nat)]) ∧ Below w.heap.size w w' := by
  have h' := h
  obtain ⟨⟨A, A', c, c', rfl, hN, hU⟩, hshort, ⟨hf1, hf2⟩, -⟩ := h'
  have hb0 : Below w.heap.size w (w.alloc (.cells #[.slice A names.length c, .slice A' up.length c'] 25)) := (Below.refl _ w).alloc (Nat.le_refl _) _
  have p0 : Blk (w.alloc (.cells #[.slice A names.length c, .slice A' up.length c'] 25)) w.heap.size 25 #[.slice A names.length c, .slice A' up.length c'] := Blk.new _ _ _
  have HP0 := Lib.hid p0
  have hch := checkLabels_any a a _ (h.boxed (.cells #[.slice A names.length c, .slice A' up.length c'] 25))
  have HR : Hid (heightR names up a = if labN names up a a = 0 then Lat.htS up a.toNat else 0) := rfl
  clear p0 h
  obtain ⟨n, hn⟩ : ∃ n, labN names up a a = n := ⟨_, rfl⟩
  rw [hn] at hch
  have HN := Lib.hid hn
  rw [hn]
  clear hn
  by_cases hz : n = 0
  · subst hz
    obtain ⟨hz1, ⟨a, rfl, ha⟩, -⟩ := labN_zero HN.out
    obtain ⟨l1, l2⟩ := len_of_checkN hz1
    have hord := (checkN_zero hz1).2.1
    have HORD := Lib.hid hord
    have HCH := Lib.hid hch
    clear hch hz1 hord
    go_enter Try.func17, Try.ntmps17
    go_wp2_with (go_at_call 33; refine HCH.out.mono ?_)
    rintro e w1 ⟨rfl, hb1⟩
    have hp1 := HP0.out.below hb1 (by simp)
    have hbw1 : Below w.heap.size w w1 := hb0.trans (hb1.mono (by simp))
    have hc1 : w1.cell? ⟨w.heap.size, 1, none⟩ = some (.slice A' up.length c') := by rw [hp1.cell]; rfl
    have hht := height_any c' (by omega) HORD.out (up.length + 1) a w1 (hU.below hbw1) ha (by have := Lat.belowN_le up a; omega) (by omega)
    have HHT := Lib.hid hht
    clear hht hb1 HCH
    go_wp2_with (go_at_call 36; refine HHT.out.mono ?_)
    rintro e w2 ⟨rfl, rfl⟩
    go_wp2
    go_ret2
    exact ⟨ret_ii (by rw [HR.out, HN.out]; rfl) rfl, hbw1⟩
  · have hz1 : ((n : Int) == 0) = false := by rw [beq_eq_false_iff_ne]; omega
    have hz2 : ((n : Int) != 0) = true := by rw [bne_iff_ne]; omega
    have HCH := Lib.hid hch
    clear hch
    go_enter Try.func17, Try.ntmps17
    go_wp2_with (go_at_call 33; refine HCH.out.mono ?_)
    rintro e w1 ⟨rfl, hb1⟩
    go_wp2
    go_ret2
    exact ⟨ret_ii (by rw [HR.out, HN.out, if_neg hz]; rfl) rfl, hb0.trans (hb1.mono (by simp))⟩

set_option maxHeartbeats 2000000 in
theorem rHeight_any {v : Value} {names : List ByteArray} {up : List Nat} (hl : up.length ≤ 31) (ho : Lat.isOrder up = true) (f : Nat) : ∀ (a : Nat) (w : World), IsLat w w.heap.size v names up → a < up.length → Lat.belowN up a < f → f ≤ 100 →
    Calls Try.prog 19 #[v, .int .i64 a] w fun e w' => e = .returned (.int .i64 (Lat.ht up f a : Nat)) ∧ Below w.heap.size w w' := by
  induction f with
  | zero => intro a w _ _ h _; omega
  | succ f ih =>
    intro a w h ha hbl hf
    have h' := h
    obtain ⟨⟨A, A', c, c', rfl, -, -⟩, -, ⟨hf1, hf2⟩, -⟩ := h'
    have hst := At.start w (.slice A names.length c) (.slice A' up.length c')
    have HFL := Lib.hid (fun (i j : Nat) (W : World) (hW : At w (.slice A names.length c) (.slice A' up.length c') W) hi hj => At.flows h i j hW hi hj)
    have HR : Hid (Lat.ht up (f + 1) a = Lat.htTo up f a up.length) := Lat.ht_succ up f a
    have HIH : Hid (∀ (b : Nat) (W : World), At w (.slice A names.length c) (.slice A' up.length c') W → b < up.length → Lat.und up a b = true → Calls Try.prog 19 #[.agg #[.slice A names.length c, .slice A' up.length c'], .int .i64 b] W fun e w' => e = .returned (.int .i64 (Lat.ht up f b : Nat)) ∧ At w (.slice A names.length c) (.slice A' up.length c') w' ∧ w'.cell? ⟨w.heap.size, 0, none⟩ = some (.slice A names.length c) ∧ w'.cell? ⟨w.heap.size, 1, none⟩ = some (.slice A' up.length c')) := fun b W hW hb hu =>
      (ih b W (hW.lat h) hb (by have := Lat.belowN_lt ho ha hb hu; omega) (by omega)).mono fun _ _ ⟨he, hb⟩ => ⟨he, hW.next hb, (hW.next hb).c0, (hW.next hb).c1⟩
    have HO := Lib.hid ho
    clear ih h ho hbl
    go_enter Try.func19, Try.ntmps19
    go_wp2
    go_loopw [5, 11] (fun y i wr => ∃ k : Nat, k ≤ up.length ∧ i = .int .i64 k ∧ y = .int .i64 (Lat.htTo up f a k : Nat) ∧ At w (.slice A names.length c) (.slice A' up.length c') wr) (fun _ i _ => up.length - (intOf i).toNat)
    case atStart => exact ⟨0, Nat.zero_le _, rfl, rfl, hst⟩
    case round =>
      obtain ⟨k, hk, rfl, rfl, hat⟩ := hrel
      have hc0 := hat.c0
      have hc1 := hat.c1
      clear hst
      have hs := Lat.htTo_succ up f a k
      have hbd := Lat.htTo_le up f a k
      obtain ⟨m, hm⟩ : ∃ m, Lat.htTo up f a k = m := ⟨_, rfl⟩
      rw [hm] at hs hbd ⊢
      have HS := Lib.hid hs
      have HMM := Lib.hid hm
      clear hs hm
      by_cases hlt : k < up.length
      · by_cases hka : k = a
        · have hb2 : ((a : Int) != (k : Int)) = false := by rw [bne_eq_false_iff_eq]; omega
          have hu : Lat.und up a k = false := by simp [Lat.und, hka]
          have HU := Lib.hid hu
          clear hu hka
          go_wp2
          go_roundw
          case rel => exact ⟨k + 1, by omega, by go_num, by rw [HS.out, HU.out]; rfl, hat⟩
          case measure => simp [intOf]; omega
        · have hb2 : ((a : Int) != (k : Int)) = true := by rw [bne_iff_ne]; omega
          have hu : Lat.und up a k = Lat.fl up k a := by simp [Lat.und, hka]
          have HU := Lib.hid hu
          clear hu
          cases e1 : Lat.fl up k a
          · have HE1 := Lib.hid e1
            go_wp2_with (go_at_call 20; refine (HFL.out _ _ _ (by assumption) (by omega) (by omega)).mono ?_; rintro e w' ⟨rfl, hat', hc0', hc1'⟩)
            go_roundw
            case rel => exact ⟨k + 1, by omega, by go_num, by rw [HS.out, HU.out, HE1.out]; rfl, by assumption⟩
            case measure => simp [intOf]; omega
          · have HE1 := Lib.hid e1
            have hh := fun W hW => HIH.out k W hW hlt (by rw [HU.out, HE1.out])
            have hhb := Lat.ht_le up f k
            obtain ⟨q, hq⟩ : ∃ q, Lat.ht up f k = q := ⟨_, rfl⟩
            rw [hq] at hh hhb
            have HH := Lib.hid hh
            have HQ := Lib.hid hq
            clear hh hq
            by_cases hmq : m < 1 + q
            all_goals
              go_wp2_with (first | (go_at_call 20; refine (HFL.out _ _ _ (by assumption) (by omega) (by omega)).mono ?_; rintro e w' ⟨rfl, hat', hc0', hc1'⟩) | (go_at_call 19; refine (HH.out _ (by assumption)).mono ?_; rintro e w' ⟨rfl, hat', hc0', hc1'⟩))
              go_roundw
              case rel => exact ⟨k + 1, by omega, by go_num, by rw [HS.out, HU.out, HE1.out, if_pos rfl, HQ.out]; exact val_i64 (by omega), by assumption⟩
              case measure => simp [intOf]; omega
      · obtain rfl : k = up.length := by omega
        go_wp2
        go_ret
        exact ⟨ret_i64 (by rw [HR.out, HMM.out]), hat.2⟩
end Go.Proofs.Ytgplnlpbpcpacaa
