/- Walks of package order's small functions. -/
import Derived.Test.YtaingkjleelbfaaOrdP
import Derived.Test.YtaingkjleelbfaaTurn
import Derived.Test.YtaingkjleelbfaaPub
import Derived.Deep.DeepFit
import Derived.LoopTactic
import Derived.Test.YtaingkjleelbfaaMapLit
namespace Go.Proofs.Ytaingkjleelbfaa
open Go.RowKit Go.Shelf

theorem oFlows_any {B : Nat} {A : Option Addr} {up : List Nat} (c a b : Nat) (w : World) (h : Ups w B A up) (ha : a < up.length) (hb : b < 32) :
    Calls Try.prog 35 #[.slice A up.length c, .int .i64 a, .int .i64 b] w fun e w' => e = .returned (.bool (Lat.fl up a b)) ∧ w = w' := by
  obtain ⟨ad, x, rfl, _, hx, hx32, hc⟩ := h.at_ ha
  have hf : Lat.fl up a b = x.testBit b := by unfold Lat.fl; rw [List.getD_eq_getElem?_getD, hx]; rfl
  have HF := Lib.hid hf
  have HX := Lib.hid hx
  clear hf hx h
  go_enter Try.func35, Try.ntmps35
  go_wp2
  go_ret
  exact ⟨ret_bool (by rw [HF.out]; exact bit_any x b hx32), rfl⟩

def chainF (a b : Nat) : Bool := decide (a ≤ b)
def powerF (a b : Nat) : Bool := decide (a &&& b = a)
def eqF (a b : Nat) : Bool := decide (a = b)
def diamF (n a b : Nat) : Bool := decide (a = 0) || decide (a = b) || decide (b = n + 1)

theorem chain1_any (a b : Nat) (w : World) : Calls Try.prog 60 #[.int .i64 a, .int .i64 b] w fun e w' => e = .returned (.bool (chainF a b)) ∧ w = w' := by
  go_enter Try.func60, Try.ntmps60
  go_wp2
  go_ret
  exact ⟨ret_bool (by unfold chainF; simp), rfl⟩
theorem made1_any (a b : Nat) (w : World) : Calls Try.prog 51 #[.int .i64 a, .int .i64 b] w fun e w' => e = .returned (.bool (eqF a b)) ∧ w = w' := by
  go_enter Try.func51, Try.ntmps51
  go_wp2
  go_ret
  exact ⟨ret_bool (by unfold eqF; rw [Bool.eq_iff_iff, beq_iff_eq, decide_eq_true_eq]; omega), rfl⟩
theorem power1_any (a b : Nat) (w : World) (ha : a < 8) (hb : b < 8) : Calls Try.prog 61 #[.int .i64 a, .int .i64 b] w fun e w' => e = .returned (.bool (powerF a b)) ∧ w = w' := by
  have hx : (bits BinOp.andNot IntKind.i64 (a : Int) (b : Int) == 0) = powerF a b := by
    have H : ∀ a b : Fin 8, (bits BinOp.andNot IntKind.i64 ((a.1 : Nat) : Int) ((b.1 : Nat) : Int) == 0) = powerF a.1 b.1 := by decide
    exact H ⟨a, ha⟩ ⟨b, hb⟩
  have HX := Lib.hid hx
  clear hx
  go_enter Try.func61, Try.ntmps61
  go_wp2
  go_ret
  exact ⟨ret_bool HX.out, rfl⟩
theorem diam1_any (n a b g : Nat) (w : World) (hc : w.cell? ⟨g, 0, none⟩ = some (.int .i64 (n + 1 : Nat))) : Calls Try.prog 62 #[.int .i64 a, .int .i64 b, .pointer (some ⟨g, 0, none⟩)] w fun e w' => e = .returned (.bool (diamF n a b)) ∧ w = w' := by
  go_enter Try.func62, Try.ntmps62
  go_wp2
  all_goals
    go_ret
    refine ⟨ret_bool ?_, rfl⟩
    unfold diamF
    rw [Bool.eq_iff_iff]
    simp
    omega

theorem or_num2 (y a : Nat) (hy : y < 4294967296) (ha : a < 32) : bits BinOp.or IntKind.u32 (y : Int) ((2 : Int) ^ a % 4294967296) = ((y ||| 2 ^ a : Nat) : Int) := by
  have h1 : 2 ^ a < 2 ^ 32 := Nat.pow_lt_pow_right (by decide) ha
  have e : (2 : Int) ^ a % 4294967296 = ((2 ^ a : Nat) : Int) := by
    have e : (2 : Int) ^ a = ((2 ^ a : Nat) : Int) := by rw [Int.natCast_pow]; rfl
    rw [e]
    generalize 2 ^ a = m at *
    omega
  rw [e, u32_or_nat _ _ hy (by omega)]
set_option maxRecDepth 100000 in
set_option maxHeartbeats 1000000 in
theorem ups_any (f : Nat → Nat → Bool) (n g : Nat) (w : World) (hn : n ≤ 31) (hen : ∀ args W, (callFunc g args).run Try.prog W = .ok (.enter g args) W)
    (hg : ∀ W, Below w.heap.size w W → ∀ a b : Nat, a < n → b < n → Calls Try.prog g #[.int .i64 a, .int .i64 b] W fun e w' => e = .returned (.bool (f a b)) ∧ W = w') :
    Calls Try.prog 50 #[.int .i64 n, .func (.func g) #[] #[]] w fun e w' => e = .returned (.slice (some ⟨w.heap.size, 0, none⟩) n n) ∧ Blk w' w.heap.size 62 (u32s (Ordr.ups f n)).toArray ∧ Below w.heap.size w w' := by
  obtain ⟨i0, hi, hz0, hz1, hz2⟩ := info_parts Try.infoU32
  have hmk := fun W => run_make_n (P := Try.prog) 23 62 i0 (.int .u32 0) Try.underlying23 hi hz0 hz1 rfl n (by rw [hz2]; omega) (by omega) W
  have HG := Lib.hid hg
  clear hi hz0 hz1 hz2 hg
  go_enter Try.func50, Try.ntmps50
  go_wp2
  have hst : Blk (w.alloc (.cells (List.replicate n (.int .u32 0)).toArray 62)) w.heap.size 62 (u32s (Ordr.upsAt f n 0 0)).toArray := by
    rw [Ordr.upsAt_start, show u32s (List.replicate n 0) = List.replicate n (.int .u32 0) by simp [u32s]]
    exact Blk.new _ _ _
  have hB := (Below.refl w.heap.size w).alloc (Nat.le_refl _) (.cells (List.replicate n (.int .u32 0)).toArray 62)
  go_loopw [11] (fun i wr => ∃ a : Nat, a ≤ n ∧ i = .int .i64 a ∧ Blk wr w.heap.size 62 (u32s (Ordr.upsAt f n a 0)).toArray ∧ Below w.heap.size w wr) (fun i _ => n - (intOf i).toNat)
  case atStart => exact ⟨0, Nat.zero_le _, rfl, hst, hB⟩
  case round =>
    clear hst hB
    obtain ⟨a, ha, rfl, hblk, hbw⟩ := hrel
    by_cases hlt : a < n
    · obtain ⟨wo, rfl⟩ : ∃ wo : World, wo = wr := ⟨_, rfl⟩
      go_wp2
      go_loopw [15] (fun j wr => ∃ b : Nat, b ≤ n ∧ j = .int .i64 b ∧ Blk wr w.heap.size 62 (u32s (Ordr.upsAt f n a b)).toArray ∧ Below w.heap.size w wr) (fun j _ => n - (intOf j).toNat)
      case atStart => exact ⟨0, Nat.zero_le _, rfl, hblk, hbw⟩
      case round =>
        clear hblk hbw
        obtain ⟨b, hb, rfl, hblk, hbw⟩ := hrel
        by_cases hlt2 : b < n
        · have hcall := HG.out wr hbw a b hlt hlt2
          have hc : wr.cell? ⟨w.heap.size, a, none⟩ = some (.int .u32 (Ordr.rowTo f a b : Nat)) := by
            rw [hblk.cell]; simp [u32s, Ordr.upsAt_at hlt]
          have hfz : wr.frozen? ⟨w.heap.size, a, none⟩ = false := hblk.frozen a
          have hor := or_num2 (Ordr.rowTo f a b) b (Ordr.rowTo_u32 _ _ _ (by omega)) (by omega)
          cases hf : f a b
          · rw [hf] at hcall
            have HCALL := Lib.hid hcall
            have HF := Lib.hid hf
            clear hcall hf
            go_wp2_with fail
            refine HCALL.out.mono ?_
            rintro e w' ⟨rfl, rfl⟩
            go_wp2
            go_roundw
            case rel => exact ⟨b + 1, by omega, by go_num, by rw [Ordr.upsAt_skip HF.out]; exact hblk, hbw⟩
            case measure => simp [intOf]; omega
          · rw [hf] at hcall
            have HCALL := Lib.hid hcall
            have HF := Lib.hid hf
            clear hcall hf
            go_wp2_with fail
            refine HCALL.out.mono ?_
            rintro e w' ⟨rfl, rfl⟩
            go_wp2
            go_region
            all_goals go_wp2
            all_goals
              go_roundw
              case rel => exact ⟨b + 1, by omega, by go_num, by rw [← Ordr.upsAt_set hlt HF.out, ← u32s_set]; exact (hblk.set_ a _).drew, (hbw.setCell (p := ⟨w.heap.size, a, none⟩) (Nat.le_refl _) _).drew⟩
              case measure => simp [intOf]; omega
        · obtain rfl : b = n := by omega
          go_wp2
          go_roundw
          case rel => exact ⟨a + 1, by omega, by go_num, by rw [← Ordr.upsAt_end hlt]; exact hblk, hbw⟩
          case measure => simp [intOf]; omega
    · obtain rfl : a = n := by omega
      rw [Ordr.upsAt_done] at hblk
      go_wp2
      go_ret
      exact ⟨rfl, hblk, hbw⟩
set_option maxRecDepth 100000 in
set_option maxHeartbeats 1000000 in
theorem ups1_any (p : Value) (f : Nat → Nat → Bool) (n g : Nat) (w : World) (hn : n ≤ 31) (hen : ∀ args W, (callFunc g args).run Try.prog W = .ok (.enter g args) W)
    (hg : ∀ W, Below w.heap.size w W → ∀ a b : Nat, a < n → b < n → Calls Try.prog g #[.int .i64 a, .int .i64 b, p] W fun e w' => e = .returned (.bool (f a b)) ∧ W = w') :
    Calls Try.prog 50 #[.int .i64 n, .func (.func g) #[] #[p]] w fun e w' => e = .returned (.slice (some ⟨w.heap.size, 0, none⟩) n n) ∧ Blk w' w.heap.size 62 (u32s (Ordr.ups f n)).toArray ∧ Below w.heap.size w w' := by
  obtain ⟨i0, hi, hz0, hz1, hz2⟩ := info_parts Try.infoU32
  have hmk := fun W => run_make_n (P := Try.prog) 23 62 i0 (.int .u32 0) Try.underlying23 hi hz0 hz1 rfl n (by rw [hz2]; omega) (by omega) W
  have HG := Lib.hid hg
  clear hi hz0 hz1 hz2 hg
  go_enter Try.func50, Try.ntmps50
  go_wp2
  have hst : Blk (w.alloc (.cells (List.replicate n (.int .u32 0)).toArray 62)) w.heap.size 62 (u32s (Ordr.upsAt f n 0 0)).toArray := by
    rw [Ordr.upsAt_start, show u32s (List.replicate n 0) = List.replicate n (.int .u32 0) by simp [u32s]]
    exact Blk.new _ _ _
  have hB := (Below.refl w.heap.size w).alloc (Nat.le_refl _) (.cells (List.replicate n (.int .u32 0)).toArray 62)
  go_loopw [11] (fun i wr => ∃ a : Nat, a ≤ n ∧ i = .int .i64 a ∧ Blk wr w.heap.size 62 (u32s (Ordr.upsAt f n a 0)).toArray ∧ Below w.heap.size w wr) (fun i _ => n - (intOf i).toNat)
  case atStart => exact ⟨0, Nat.zero_le _, rfl, hst, hB⟩
  case round =>
    clear hst hB
    obtain ⟨a, ha, rfl, hblk, hbw⟩ := hrel
    by_cases hlt : a < n
    · obtain ⟨wo, rfl⟩ : ∃ wo : World, wo = wr := ⟨_, rfl⟩
      go_wp2
      go_loopw [15] (fun j wr => ∃ b : Nat, b ≤ n ∧ j = .int .i64 b ∧ Blk wr w.heap.size 62 (u32s (Ordr.upsAt f n a b)).toArray ∧ Below w.heap.size w wr) (fun j _ => n - (intOf j).toNat)
      case atStart => exact ⟨0, Nat.zero_le _, rfl, hblk, hbw⟩
      case round =>
        clear hblk hbw
        obtain ⟨b, hb, rfl, hblk, hbw⟩ := hrel
        by_cases hlt2 : b < n
        · have hcall := HG.out wr hbw a b hlt hlt2
          have hc : wr.cell? ⟨w.heap.size, a, none⟩ = some (.int .u32 (Ordr.rowTo f a b : Nat)) := by
            rw [hblk.cell]; simp [u32s, Ordr.upsAt_at hlt]
          have hfz : wr.frozen? ⟨w.heap.size, a, none⟩ = false := hblk.frozen a
          have hor := or_num2 (Ordr.rowTo f a b) b (Ordr.rowTo_u32 _ _ _ (by omega)) (by omega)
          cases hf : f a b
          · rw [hf] at hcall
            have HCALL := Lib.hid hcall
            have HF := Lib.hid hf
            clear hcall hf
            go_wp2_with fail
            refine HCALL.out.mono ?_
            rintro e w' ⟨rfl, rfl⟩
            go_wp2
            go_roundw
            case rel => exact ⟨b + 1, by omega, by go_num, by rw [Ordr.upsAt_skip HF.out]; exact hblk, hbw⟩
            case measure => simp [intOf]; omega
          · rw [hf] at hcall
            have HCALL := Lib.hid hcall
            have HF := Lib.hid hf
            clear hcall hf
            go_wp2_with fail
            refine HCALL.out.mono ?_
            rintro e w' ⟨rfl, rfl⟩
            go_wp2
            go_region
            all_goals go_wp2
            all_goals
              go_roundw
              case rel => exact ⟨b + 1, by omega, by go_num, by rw [← Ordr.upsAt_set hlt HF.out, ← u32s_set]; exact (hblk.set_ a _).drew, (hbw.setCell (p := ⟨w.heap.size, a, none⟩) (Nat.le_refl _) _).drew⟩
              case measure => simp [intOf]; omega
        · obtain rfl : b = n := by omega
          go_wp2
          go_roundw
          case rel => exact ⟨a + 1, by omega, by go_num, by rw [← Ordr.upsAt_end hlt]; exact hblk, hbw⟩
          case measure => simp [intOf]; omega
    · obtain rfl : a = n := by omega
      rw [Ordr.upsAt_done] at hblk
      go_wp2
      go_ret
      exact ⟨rfl, hblk, hbw⟩
/-- What makes a lattice's rows: the rows, or nothing. -/
def Rowed (w : World) (ok : Bool) (l : List Nat) (e : Ending) (w' : World) : Prop :=
  (if ok then ∃ g, e = .returned (.tuple #[.slice (some ⟨g, 0, none⟩) l.length l.length, .bool true]) ∧ Blk w' g 62 (u32s l).toArray else e = .returned (.tuple #[.slice none 0 0, .bool false])) ∧ Below w.heap.size w w'
theorem Rowed.no {w w' : World} {l : List Nat} (hb : Below w.heap.size w w') : Rowed w false l (.returned (.tuple #[.slice none 0 0, .bool false])) w' := ⟨by simp, hb⟩
theorem Rowed.yes {w w' : World} {l : List Nat} {g n : Nat} (hn : l.length = n) (h : Blk w' g 62 (u32s l).toArray) (hb : Below w.heap.size w w') : Rowed w true l (.returned (.tuple #[.slice (some ⟨g, 0, none⟩) n n, .bool true])) w' := by
  subst hn
  exact ⟨by simp only [if_true]; exact ⟨g, rfl, h⟩, hb⟩

theorem chain_any (n : Int) (w : World) : Calls Try.prog 46 #[.int .i64 n] w (Rowed w (decide (1 ≤ n ∧ n ≤ 8)) (Ordr.ups chainF n.toNat)) := by
  by_cases h : 1 ≤ n ∧ n ≤ 8
  · obtain ⟨h1, h2⟩ := h
    obtain ⟨k, rfl⟩ : ∃ k : Nat, n = k := ⟨n.toNat, by omega⟩
    have hu := ups_any chainF k 60 w (by omega) Try.call60 (fun W _ a b _ _ => chain1_any a b W)
    have HU := Lib.hid hu
    rw [show decide (1 ≤ (k : Int) ∧ (k : Int) ≤ 8) = true by simp; omega]
    clear hu
    go_enter Try.func46, Try.ntmps46
    go_wp2_with (go_at_call 50; refine HU.out.mono ?_; rintro e w' ⟨rfl, hblk, hb⟩)
    go_ret2
    exact Rowed.yes Ordr.ups_length hblk hb
  · rw [show decide (1 ≤ n ∧ n ≤ 8) = false by simp; omega]
    go_enter Try.func46, Try.ntmps46
    go_wp2
    all_goals
      go_ret2
      exact Rowed.no (Below.refl _ _)
theorem power_any (n : Int) (w : World) : Calls Try.prog 47 #[.int .i64 n] w (Rowed w (decide (0 ≤ n ∧ n ≤ 3)) (Ordr.ups powerF (2 ^ n.toNat))) := by
  by_cases h : 0 ≤ n ∧ n ≤ 3
  · obtain ⟨h1, h2⟩ := h
    have hn : n = 0 ∨ n = 1 ∨ n = 2 ∨ n = 3 := by omega
    clear h1 h2
    rcases hn with rfl | rfl | rfl | rfl
    · rw [show decide ((0 : Int) ≤ 0 ∧ (0 : Int) ≤ 3) = true by decide]
      have hu : Calls Try.prog 50 #[.int .i64 1, .func (.func 61) #[] #[]] w fun e w' => e = .returned (.slice (some ⟨w.heap.size, 0, none⟩) 1 1) ∧ Blk w' w.heap.size 62 (u32s (Ordr.ups powerF 1)).toArray ∧ Below w.heap.size w w' :=
        ups_any powerF 1 61 w (by omega) Try.call61 (fun W _ a b ha hb => power1_any a b W (by omega) (by omega))
      have HU := Lib.hid hu
      clear hu
      go_enter Try.func47, Try.ntmps47
      go_wp2_with (go_at_call 50; refine HU.out.mono ?_; rintro e w' ⟨rfl, hblk, hb⟩)
      go_ret2
      exact Rowed.yes (l := Ordr.ups powerF 1) Ordr.ups_length hblk hb
    · rw [show decide ((0 : Int) ≤ 1 ∧ (1 : Int) ≤ 3) = true by decide]
      have hu : Calls Try.prog 50 #[.int .i64 2, .func (.func 61) #[] #[]] w fun e w' => e = .returned (.slice (some ⟨w.heap.size, 0, none⟩) 2 2) ∧ Blk w' w.heap.size 62 (u32s (Ordr.ups powerF 2)).toArray ∧ Below w.heap.size w w' :=
        ups_any powerF 2 61 w (by omega) Try.call61 (fun W _ a b ha hb => power1_any a b W (by omega) (by omega))
      have HU := Lib.hid hu
      clear hu
      go_enter Try.func47, Try.ntmps47
      go_wp2_with (go_at_call 50; refine HU.out.mono ?_; rintro e w' ⟨rfl, hblk, hb⟩)
      go_ret2
      exact Rowed.yes (l := Ordr.ups powerF 2) Ordr.ups_length hblk hb
    · rw [show decide ((0 : Int) ≤ 2 ∧ (2 : Int) ≤ 3) = true by decide]
      have hu : Calls Try.prog 50 #[.int .i64 4, .func (.func 61) #[] #[]] w fun e w' => e = .returned (.slice (some ⟨w.heap.size, 0, none⟩) 4 4) ∧ Blk w' w.heap.size 62 (u32s (Ordr.ups powerF 4)).toArray ∧ Below w.heap.size w w' :=
        ups_any powerF 4 61 w (by omega) Try.call61 (fun W _ a b ha hb => power1_any a b W (by omega) (by omega))
      have HU := Lib.hid hu
      clear hu
      go_enter Try.func47, Try.ntmps47
      go_wp2_with (go_at_call 50; refine HU.out.mono ?_; rintro e w' ⟨rfl, hblk, hb⟩)
      go_ret2
      exact Rowed.yes (l := Ordr.ups powerF 4) Ordr.ups_length hblk hb
    · rw [show decide ((0 : Int) ≤ 3 ∧ (3 : Int) ≤ 3) = true by decide]
      have hu : Calls Try.prog 50 #[.int .i64 8, .func (.func 61) #[] #[]] w fun e w' => e = .returned (.slice (some ⟨w.heap.size, 0, none⟩) 8 8) ∧ Blk w' w.heap.size 62 (u32s (Ordr.ups powerF 8)).toArray ∧ Below w.heap.size w w' :=
        ups_any powerF 8 61 w (by omega) Try.call61 (fun W _ a b ha hb => power1_any a b W (by omega) (by omega))
      have HU := Lib.hid hu
      clear hu
      go_enter Try.func47, Try.ntmps47
      go_wp2_with (go_at_call 50; refine HU.out.mono ?_; rintro e w' ⟨rfl, hblk, hb⟩)
      go_ret2
      exact Rowed.yes (l := Ordr.ups powerF 8) Ordr.ups_length hblk hb
  · rw [show decide (0 ≤ n ∧ n ≤ 3) = false by simp; omega]
    go_enter Try.func47, Try.ntmps47
    go_wp2
    all_goals
      go_ret2
      exact Rowed.no (Below.refl _ _)

set_option maxHeartbeats 1000000 in
theorem diamond_any (n : Int) (w : World) : Calls Try.prog 48 #[.int .i64 n] w (Rowed w (decide (1 ≤ n ∧ n ≤ 6)) (Ordr.ups (diamF n.toNat) (n.toNat + 2))) := by
  by_cases h : 1 ≤ n ∧ n ≤ 6
  · obtain ⟨h1, h2⟩ := h
    obtain ⟨k, rfl⟩ : ∃ k : Nat, n = k := ⟨n.toNat, by omega⟩
    have hmf : ∀ (fn : Fn) (first cap : Array Value) (w : World), (Instr.makeFunc fn first cap).run Try.prog w = .ok (.func fn first cap) w := fun _ _ _ _ => rfl
    have hb0 : Below w.heap.size w (w.alloc (.cells #[.int .i64 ((k : Int) + 1)] 3)) := (Below.refl _ w).alloc (Nat.le_refl _) _
    have hc0 : (w.alloc (.cells #[.int .i64 ((k : Int) + 1)] 3)).cell? ⟨w.heap.size, 0, none⟩ = some (.int .i64 (k + 1 : Nat)) := (Blk.new w 3 #[.int .i64 ((k : Int) + 1)]).cell 0
    have hu := ups1_any (.pointer (some ⟨w.heap.size, 0, none⟩)) (diamF k) (k + 2) 62 (w.alloc (.cells #[.int .i64 ((k : Int) + 1)] 3)) (by omega) Try.call62
      (fun W hW a b ha hb => diam1_any k a b w.heap.size W ((hW.cell (p := ⟨w.heap.size, 0, none⟩) (by simp)).trans hc0))
    rw [show ((k + 2 : Nat) : Int) = (k : Int) + 2 from rfl] at hu
    have HU := Lib.hid hu
    rw [show decide (1 ≤ (k : Int) ∧ (k : Int) ≤ 6) = true by simp; omega]
    clear hu hc0
    go_enter Try.func48, Try.ntmps48
    go_wp2_with (go_at_call 50; refine HU.out.mono ?_; rintro e w' ⟨rfl, hblk, hb⟩)
    rw [World.size_alloc] at hblk
    go_ret2
    exact Rowed.yes Ordr.ups_length hblk (hb0.trans (hb.mono (by simp)))
  · rw [show decide (1 ≤ n ∧ n ≤ 6) = false by simp; omega]
    go_enter Try.func48, Try.ntmps48
    go_wp2
    all_goals
      go_ret2
      exact Rowed.no (Below.refl _ _)

/- The map of functions. -/
def kChain : ByteArray := ⟨#[99, 104, 97, 105, 110]⟩
def kPower : ByteArray := ⟨#[112, 111, 119, 101, 114]⟩
def kDiam : ByteArray := ⟨#[100, 105, 97, 109, 111, 110, 100]⟩
def kindEs : Array MapEntry := #[⟨.string kChain, .func (.func 46) #[] #[], 0⟩, ⟨.string kPower, .func (.func 47) #[] #[], 1⟩, ⟨.string kDiam, .func (.func 48) #[] #[], 2⟩]
theorem kinds_any (w : World) : Calls Try.prog 24 #[] w fun e w' => e = .returned (.map (some w.heap.size)) ∧ w.alloc (.map kindEs 3) = w' := by
  have hmm := @run_makeMap Try.prog
  have h1 : ∀ v, (Instr.mapUpdate 56 (.map (some w.heap.size)) (.string ⟨#[99, 104, 97, 105, 110]⟩) v).run Try.prog (w.alloc (.map #[] 0)) = .ok () (w.alloc (.map #[⟨.string kChain, v, 0⟩] 1)) := fun v => (run_insert_new (w.alloc (.map #[] 0)) 56 9 54 w.heap.size 0 #[] kChain v Try.underlying56 Try.underlying9 (World.alloc_heap_new w _) (rfl)).trans (by rw [putObj_alloc]; rfl)
  have h2 : ∀ v e, (Instr.mapUpdate 56 (.map (some w.heap.size)) (.string ⟨#[112, 111, 119, 101, 114]⟩) v).run Try.prog (w.alloc (.map #[⟨.string kChain, e, 0⟩] 1)) = .ok () (w.alloc (.map #[⟨.string kChain, e, 0⟩, ⟨.string kPower, v, 1⟩] 2)) := fun v e => (run_insert_new (w.alloc (.map #[⟨.string kChain, e, 0⟩] 1)) 56 9 54 w.heap.size 1 #[⟨.string kChain, e, 0⟩] kPower v Try.underlying56 Try.underlying9 (World.alloc_heap_new w _) (rfl)).trans (by rw [putObj_alloc]; rfl)
  have h3 : ∀ v e e', (Instr.mapUpdate 56 (.map (some w.heap.size)) (.string ⟨#[100, 105, 97, 109, 111, 110, 100]⟩) v).run Try.prog (w.alloc (.map #[⟨.string kChain, e, 0⟩, ⟨.string kPower, e', 1⟩] 2)) = .ok () (w.alloc (.map #[⟨.string kChain, e, 0⟩, ⟨.string kPower, e', 1⟩, ⟨.string kDiam, v, 2⟩] 3)) := fun v e e' => (run_insert_new (w.alloc (.map #[⟨.string kChain, e, 0⟩, ⟨.string kPower, e', 1⟩] 2)) 56 9 54 w.heap.size 2 #[⟨.string kChain, e, 0⟩, ⟨.string kPower, e', 1⟩] kDiam v Try.underlying56 Try.underlying9 (World.alloc_heap_new w _) (rfl)).trans (by rw [putObj_alloc]; rfl)
  go_enter Try.func24, Try.ntmps24
  go_wp2
  go_ret
  exact ⟨rfl, rfl⟩
end Go.Proofs.Ytaingkjleelbfaa
