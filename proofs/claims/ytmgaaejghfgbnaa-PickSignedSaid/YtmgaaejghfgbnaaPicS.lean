/- The reference of stage 14: Least, Unsigned (by gen_pics.py). -/
import Derived.Test.YtmgaaejghfgbnaaPicR
namespace Go.Proofs.Ytmgaaejghfgbnaa
set_option maxRecDepth 100000
open Go.RowKit Go.Shelf
attribute [local go_sem] Oper.semAt_some

theorem n2_steps13 {W : World} {g : Nat} {t : TypeId} {u0 u1 : Value} (h : Blk W g t #[u0, u1]) (v0 v1 : Value) : ∃ X1 X2, W.setCell ⟨g, 0, none⟩ v0 = X1 ∧ X1.setCell ⟨g, 1, none⟩ v1 = X2 ∧ W.frozen? ⟨g, 0, none⟩ = false ∧ X1.frozen? ⟨g, 1, none⟩ = false ∧ W.cell? ⟨g, 0, none⟩ = some u0 ∧ X1.cell? ⟨g, 1, none⟩ = some u1 ∧ X2.cell? ⟨g, 0, none⟩ = some v0 ∧ X2.cell? ⟨g, 1, none⟩ = some v1 ∧ Hid (Blk X2 g t #[v0, v1]) ∧ Hid (∀ k, k ≠ g → X2.heap[k]? = W.heap[k]?) ∧ Hid (∀ B V, B ≤ g → Below B V W → Below B V X2) := by
  have h0 := h
  obtain ⟨X1, e0⟩ : ∃ X, W.setCell ⟨g, 0, none⟩ v0 = X := ⟨_, rfl⟩
  have h1 : Blk X1 g t #[v0, u1] := e0 ▸ h0.set_ 0 v0
  obtain ⟨X2, e1⟩ : ∃ X, X1.setCell ⟨g, 1, none⟩ v1 = X := ⟨_, rfl⟩
  have h2 : Blk X2 g t #[v0, v1] := e1 ▸ h1.set_ 1 v1
  refine ⟨X1, X2, e0, e1, h0.frozen 0, h1.frozen 1, h0.cell 0, h1.cell 1, h2.cell 0, h2.cell 1, Lib.hid h2, Lib.hid fun k hk => ?_, Lib.hid fun B V hB hb => ?_⟩
  · rw [← e1, ← e0]
    exact (Below.heap_setCell _ _ _ k hk).trans (Below.heap_setCell _ _ _ k hk)
  · rw [← e1, ← e0]
    exact ((hb).setCell (p := ⟨g, 0, none⟩) hB _).setCell (p := ⟨g, 1, none⟩) hB _
/-- What the reference of stage 14 answers: a number, and the error. -/
def TellsT (w : World) (r : Int × Nat) (e : Ending) (w' : World) : Prop := e = .returned (.agg #[.int .i64 r.1, .int .i64 (r.2 : Int)]) ∧ Below w.heap.size w w'
set_option maxHeartbeats 4000000 in
theorem rLeast14_any {A : Option Addr} {l : List Int} (n c : Nat) (i : Int) (w : World) (h : Row w w.heap.size A (ints l)) (hn : l.length = n) (hn9 : n ≤ 1000000) (hc : n ≤ c) :
    Calls Try.prog 10 #[.slice A n c, .int .i64 i] w (TellsT w (Pk.least l i)) := by
  unfold TellsT
  have hb0 := (Below.refl _ w).alloc (Nat.le_refl _) (.cells #[.int .i64 0, .int .i64 0] 35)
  have hk0 := Blk.new w 35 #[.int .i64 0, .int .i64 0]
  obtain ⟨W1, hW1⟩ : ∃ W1, w.alloc (.cells #[.int .i64 0, .int .i64 0] 35) = W1 := ⟨_, rfl⟩
  rw [hW1] at hb0 hk0
  have hw1 := (h.below hb0).more hb0.size
  have hwt := rWeights14_any n c W1 hw1 hn hn9
  by_cases hr : Pk.right l = true
  · obtain ⟨hg, h1, h20, hs0⟩ := Pk.right_good hr
    have hsum := rSum14_any n c W1 hw1 hn hg (by omega)
    have hpk := fun v => rPicks14_any n c v W1 hw1 hn hg (by omega) hc
    have hlow := (Pk.sum_low hg).2
    have hfound := fun (k : Nat) => Pk.least_found (i := i) (k := k) hr
    have hnone := Pk.least_none (i := i) hr
    rw [hr] at hwt
    obtain ⟨res, hres⟩ : ∃ res, Pk.least l i = res := ⟨_, rfl⟩
    obtain ⟨s, hs⟩ : ∃ s, Pk.sum l = s := ⟨_, rfl⟩
    rw [hres]
    rw [hs] at hsum hs0 hlow hfound hnone
    rw [hres] at hfound hnone
    have hs9 : s ≤ 2000 := by omega
    have HWT := Lib.hid hwt
    have HSUM := Lib.hid hsum
    have HPK := Lib.hid hpk
    have HF := Lib.hid hfound
    have HNO := Lib.hid hnone
    have HB0 := Lib.hid hb0
    have HK0 := Lib.hid hk0
    clear h hn hn9 hc hb0 hk0 hw1 hwt hr hg h1 h20 hsum hpk hlow hfound hnone hres hs
    go_enter Try.func10, Try.ntmps10
    go_wp2_with (fail)
    refine HWT.out.mono ?_
    rintro e w1 ⟨rfl, rfl⟩
    go_wp2
    go_loopw [5] (fun iv wr => ∃ (k : Nat), (k : Int) ≤ s ∧ iv = .int .i64 k ∧ Hid (∀ j : Nat, j < k → (Pk.picks l (j : Int) : Int) ≠ i) ∧ wr = W1) (fun iv _ => s.toNat - (intOf iv).toNat)
    case atStart => exact ⟨0, by omega, rfl, Lib.hid fun j hj => absurd hj (by omega), rfl⟩
    case round =>
      obtain ⟨k, hk, rfl, HK, hwr⟩ := hrel
      subst hwr
      by_cases hlt : (k : Int) < s
      · have h1 : decide ((k : Int) < s) = true := decide_eq_true hlt
        obtain ⟨p, hp⟩ : ∃ p, Pk.picks l (k : Int) = p := ⟨_, rfl⟩
        have hcall := HPK.out (k : Int)
        rw [hp] at hcall
        have HC := Lib.hid hcall
        by_cases he : (p : Int) = i
        · subst he
          have h2 : ((p : Int) == (p : Int)) = true := by simp
          have hf := HF.out k hlt (by rw [hp]) HK.out
          obtain ⟨Y1, Y2, e0, e1, f0, f1, g0, g1, r0, r1, -, -, HYB⟩ := n2_steps13 HK0.out (.int .i64 (k : Int)) (.int .i64 0)
          have HB3 := Lib.hid (HYB.out _ _ (Nat.le_refl _) HB0.out)
          have HFF := Lib.hid hf
          clear hcall hp hf HYB hlt
          go_wp2_with (fail)
          refine HSUM.out.mono ?_
          rintro e w2 ⟨rfl, rfl⟩
          go_wp2_with (fail)
          refine HC.out.mono ?_
          rintro e w2 ⟨rfl, rfl⟩
          go_wp2
          exact bodyPost_ret (v := .agg #[.int .i64 (k : Int), .int .i64 0]) (by simp [results, Try.results10, go_sem, r0, r1]) rfl ⟨by rw [HFF.out]; rfl, HB3.out⟩
        · have h2 : ((p : Int) == i) = false := by rw [beq_eq_false_iff_ne]; exact he
          have HK2 : Hid (∀ j : Nat, j < k + 1 → (Pk.picks l (j : Int) : Int) ≠ i) := Lib.hid fun j hj => by
            by_cases e : j = k
            · subst e; rw [hp]; exact he
            · exact HK.out j (by omega)
          clear hcall hp he
          go_wp2_with (fail)
          refine HSUM.out.mono ?_
          rintro e w2 ⟨rfl, rfl⟩
          go_wp2_with (fail)
          refine HC.out.mono ?_
          rintro e w2 ⟨rfl, rfl⟩
          go_wp2
          go_roundw
          case rel => exact ⟨k + 1, by omega, by go_num, HK2, trivial⟩
          case measure => simp [intOf]; omega
      · have h1 : decide ((k : Int) < s) = false := decide_eq_false hlt
        have hf := HNO.out fun j hj => HK.out j (by omega)
        obtain ⟨Y1, Y2, e0, e1, f0, f1, g0, g1, r0, r1, -, -, HYB⟩ := n2_steps13 HK0.out (.int .i64 0) (.int .i64 9)
        have HB3 := Lib.hid (HYB.out _ _ (Nat.le_refl _) HB0.out)
        have HFF := Lib.hid hf
        clear hf HYB hlt
        go_wp2_with (fail)
        refine HSUM.out.mono ?_
        rintro e w2 ⟨rfl, rfl⟩
        go_wp2
        exact bodyPost_ret (v := .agg #[.int .i64 0, .int .i64 9]) (by simp [results, Try.results10, go_sem, r0, r1]) rfl ⟨by rw [HFF.out]; rfl, HB3.out⟩
  · have hl : Pk.least l i = (0, 1) := by unfold Pk.least; rw [if_neg hr]
    rw [Bool.not_eq_true] at hr
    rw [hr] at hwt
    rw [hl]
    have HWT := Lib.hid hwt
    have HB0 := Lib.hid hb0
    have HK0 := Lib.hid hk0
    obtain ⟨Y1, Y2, e0, e1, f0, f1, g0, g1, r0, r1, -, -, HYB⟩ := n2_steps13 HK0.out (.int .i64 0) (.int .i64 1)
    have HB3 := Lib.hid (HYB.out _ _ (Nat.le_refl _) HB0.out)
    clear h hn hn9 hc hb0 hk0 hw1 hwt hr hl HYB
    go_enter Try.func10, Try.ntmps10
    go_wp2_with (fail)
    refine HWT.out.mono ?_
    rintro e w1 ⟨rfl, rfl⟩
    go_wp2
    exact bodyPost_ret (v := .agg #[.int .i64 0, .int .i64 1]) (by simp [results, Try.results10, go_sem, r0, r1]) rfl ⟨rfl, HB3.out⟩
set_option maxHeartbeats 4000000 in
theorem rUnsigned14_any (most n : Int) (w : World) : Calls Try.prog 16 #[.int .i64 most, .int .i64 n] w (TellsT w (Pk.unsigned most n)) := by
  unfold TellsT
  have hb0 := (Below.refl _ w).alloc (Nat.le_refl _) (.cells #[.int .i64 0, .int .i64 0] 35)
  have hk0 := Blk.new w 35 #[.int .i64 0, .int .i64 0]
  obtain ⟨W1, hW1⟩ : ∃ W1, w.alloc (.cells #[.int .i64 0, .int .i64 0] 35) = W1 := ⟨_, rfl⟩
  rw [hW1] at hb0 hk0
  have HB0 := Lib.hid hb0
  have HK0 := Lib.hid hk0
  clear hb0 hk0
  by_cases hr : 0 ≤ most ∧ most ≤ 20
  · have hfound := fun (k : Nat) => Pk.unsigned_found (n := n) (k := k) hr
    have hnone := Pk.unsigned_none (n := n) hr
    obtain ⟨res, hres⟩ : ∃ res, Pk.unsigned most n = res := ⟨_, rfl⟩
    rw [hres]
    rw [hres] at hfound hnone
    have h1 : decide (most < 0) = false := decide_eq_false (by omega)
    have h2 : decide (most > 20) = false := decide_eq_false (by omega)
    have h3 : wrap64 (2 * most) = 2 * most := by unfold wrap64; omega
    have HF := Lib.hid hfound
    have HNO := Lib.hid hnone
    clear hfound hnone hres
    go_enter Try.func16, Try.ntmps16
    go_wp2
    go_loopw [5] (fun iv wr => ∃ (k : Nat), (k : Int) ≤ 2 * most + 1 ∧ iv = .int .i64 k ∧ Hid (∀ j : Nat, j < k → Pk.made j ≠ n) ∧ wr = W1) (fun iv _ => (2 * most + 1).toNat - (intOf iv).toNat)
    case atStart => exact ⟨0, by omega, rfl, Lib.hid fun j hj => absurd hj (by omega), rfl⟩
    case round =>
      obtain ⟨k, hk, rfl, HK, hwr⟩ := hrel
      subst hwr
      by_cases hlt : (k : Int) ≤ 2 * most
      · have h4 : decide ((k : Int) ≤ 2 * most) = true := decide_eq_true hlt
        obtain ⟨p, hp⟩ : ∃ p, Pk.made k = p := ⟨_, rfl⟩
        have hcall := fun W => rMade14_any k (by omega) W
        rw [hp] at hcall
        have HC := Lib.hid hcall
        by_cases he : p = n
        · subst he
          have h5 : (p == p) = true := by simp
          have hf := HF.out k hlt hp
          obtain ⟨Y1, Y2, e0, e1, f0, f1, g0, g1, r0, r1, -, -, HYB⟩ := n2_steps13 HK0.out (.int .i64 (k : Int)) (.int .i64 0)
          have HB3 := Lib.hid (HYB.out _ _ (Nat.le_refl _) HB0.out)
          have HFF := Lib.hid hf
          clear hcall hp hf HYB
          go_wp2_with (fail)
          refine (HC.out _).mono ?_
          rintro e w2 ⟨rfl, rfl⟩
          go_wp2
          exact bodyPost_ret (v := .agg #[.int .i64 (k : Int), .int .i64 0]) (by simp [results, Try.results16, go_sem, r0, r1]) rfl ⟨by rw [HFF.out]; rfl, HB3.out⟩
        · have h5 : (p == n) = false := by rw [beq_eq_false_iff_ne]; exact he
          have HK2 : Hid (∀ j : Nat, j < k + 1 → Pk.made j ≠ n) := Lib.hid fun j hj => by
            by_cases e : j = k
            · subst e; rw [hp]; exact he
            · exact HK.out j (by omega)
          clear hcall hp he
          go_wp2_with (fail)
          refine (HC.out _).mono ?_
          rintro e w2 ⟨rfl, rfl⟩
          go_wp2
          go_roundw
          case rel => exact ⟨k + 1, by omega, by go_num, HK2, trivial⟩
          case measure => simp [intOf]; omega
      · have h4 : decide ((k : Int) ≤ 2 * most) = false := decide_eq_false hlt
        have hf := HNO.out fun j hj => HK.out j (by omega)
        obtain ⟨Y1, Y2, e0, e1, f0, f1, g0, g1, r0, r1, -, -, HYB⟩ := n2_steps13 HK0.out (.int .i64 0) (.int .i64 9)
        have HB3 := Lib.hid (HYB.out _ _ (Nat.le_refl _) HB0.out)
        have HFF := Lib.hid hf
        clear hf HYB
        go_wp2
        exact bodyPost_ret (v := .agg #[.int .i64 0, .int .i64 9]) (by simp [results, Try.results16, go_sem, r0, r1]) rfl ⟨by rw [HFF.out]; rfl, HB3.out⟩
  · have hl : Pk.unsigned most n = (0, 1) := by unfold Pk.unsigned; rw [if_neg hr]
    rw [hl]
    obtain ⟨Y1, Y2, e0, e1, f0, f1, g0, g1, r0, r1, -, -, HYB⟩ := n2_steps13 HK0.out (.int .i64 0) (.int .i64 1)
    have HB3 := Lib.hid (HYB.out _ _ (Nat.le_refl _) HB0.out)
    clear HYB hl
    by_cases h0 : most < 0
    · have h1 : decide (most < 0) = true := decide_eq_true h0
      clear hr
      go_enter Try.func16, Try.ntmps16
      go_wp2
      exact bodyPost_ret (v := .agg #[.int .i64 0, .int .i64 1]) (by simp [results, Try.results16, go_sem, r0, r1]) rfl ⟨rfl, HB3.out⟩
    · have h1 : decide (most < 0) = false := decide_eq_false h0
      have h2 : decide (most > 20) = true := decide_eq_true (by omega)
      clear hr
      go_enter Try.func16, Try.ntmps16
      go_wp2
      exact bodyPost_ret (v := .agg #[.int .i64 0, .int .i64 1]) (by simp [results, Try.results16, go_sem, r0, r1]) rfl ⟨rfl, HB3.out⟩
end Go.Proofs.Ytmgaaejghfgbnaa
