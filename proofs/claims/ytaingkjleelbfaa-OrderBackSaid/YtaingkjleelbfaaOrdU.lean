/- The reference's Make, whole. -/
import Derived.Test.YtaingkjleelbfaaOrdT2
import Derived.Test.YtaingkjleelbfaaOrdT3
namespace Go.Proofs.Ytaingkjleelbfaa
open Go.RowKit Go.Shelf

set_option maxRecDepth 100000 in
set_option maxHeartbeats 1000000 in
theorem rMake_chain_no (n : Int) (w : World) (h : n < 1 ∨ 8 < n) : Calls Try.prog 9 #[.string ⟨#[99, 104, 97, 105, 110]⟩, .int .i64 n] w (TRes w 1 [] []) := by
  have hb0 := Lib.hid ((Below.refl w.heap.size w).alloc (Nat.le_refl _) (.cells #[.slice none 0 0, .slice none 0 0, .int .i64 1] 31))
  rcases h with h | h
  · go_enter Try.func9, Try.ntmps9
    go_wp2
    exact bodyPost_ret (v := .agg #[.slice none 0 0, .slice none 0 0, .int .i64 1]) (by simp [results, Try.results9, go_sem]) rfl (TRes.none_ hb0.out)
  · go_enter Try.func9, Try.ntmps9
    go_wp2
    exact bodyPost_ret (v := .agg #[.slice none 0 0, .slice none 0 0, .int .i64 1]) (by simp [results, Try.results9, go_sem]) rfl (TRes.none_ hb0.out)

set_option maxRecDepth 100000 in
set_option maxHeartbeats 1000000 in
theorem rMake_power_no (n : Int) (w : World) (h : n < 0 ∨ 3 < n) : Calls Try.prog 9 #[.string ⟨#[112, 111, 119, 101, 114]⟩, .int .i64 n] w (TRes w 1 [] []) := by
  have hb0 := Lib.hid ((Below.refl w.heap.size w).alloc (Nat.le_refl _) (.cells #[.slice none 0 0, .slice none 0 0, .int .i64 1] 31))
  rcases h with h | h
  · go_enter Try.func9, Try.ntmps9
    go_wp2
    exact bodyPost_ret (v := .agg #[.slice none 0 0, .slice none 0 0, .int .i64 1]) (by simp [results, Try.results9, go_sem]) rfl (TRes.none_ hb0.out)
  · go_enter Try.func9, Try.ntmps9
    go_wp2
    exact bodyPost_ret (v := .agg #[.slice none 0 0, .slice none 0 0, .int .i64 1]) (by simp [results, Try.results9, go_sem]) rfl (TRes.none_ hb0.out)

set_option maxRecDepth 100000 in
set_option maxHeartbeats 1000000 in
theorem rMake_diam_no (n : Int) (w : World) (h : n < 1 ∨ 6 < n) : Calls Try.prog 9 #[.string ⟨#[100, 105, 97, 109, 111, 110, 100]⟩, .int .i64 n] w (TRes w 1 [] []) := by
  have hb0 := Lib.hid ((Below.refl w.heap.size w).alloc (Nat.le_refl _) (.cells #[.slice none 0 0, .slice none 0 0, .int .i64 1] 31))
  rcases h with h | h
  · go_enter Try.func9, Try.ntmps9
    go_wp2
    exact bodyPost_ret (v := .agg #[.slice none 0 0, .slice none 0 0, .int .i64 1]) (by simp [results, Try.results9, go_sem]) rfl (TRes.none_ hb0.out)
  · go_enter Try.func9, Try.ntmps9
    go_wp2
    exact bodyPost_ret (v := .agg #[.slice none 0 0, .slice none 0 0, .int .i64 1]) (by simp [results, Try.results9, go_sem]) rfl (TRes.none_ hb0.out)

set_option maxRecDepth 100000 in
set_option maxHeartbeats 1000000 in
theorem rMake_bad (kind : ByteArray) (n : Int) (w : World) (h1 : kind ≠ kChain) (h2 : kind ≠ kPower) (h3 : kind ≠ kDiam) : Calls Try.prog 9 #[.string kind, .int .i64 n] w (TRes w 6 [] []) := by
  have hb0 := Lib.hid ((Below.refl w.heap.size w).alloc (Nat.le_refl _) (.cells #[.slice none 0 0, .slice none 0 0, .int .i64 6] 31))
  have e1 : (kind.toList == ByteArray.toList ⟨#[99, 104, 97, 105, 110]⟩) = false := by rw [streq_eq, decide_eq_false_iff_not]; exact h1
  have e2 : (kind.toList == ByteArray.toList ⟨#[112, 111, 119, 101, 114]⟩) = false := by rw [streq_eq, decide_eq_false_iff_not]; exact h2
  have e3 : (kind.toList == ByteArray.toList ⟨#[100, 105, 97, 109, 111, 110, 100]⟩) = false := by rw [streq_eq, decide_eq_false_iff_not]; exact h3
  have t1 : ByteArray.toList ⟨#[99, 104, 97, 105, 110]⟩ = [99, 104, 97, 105, 110] := by decide +kernel
  have t2 : ByteArray.toList ⟨#[112, 111, 119, 101, 114]⟩ = [112, 111, 119, 101, 114] := by decide +kernel
  have t3 : ByteArray.toList ⟨#[100, 105, 97, 109, 111, 110, 100]⟩ = [100, 105, 97, 109, 111, 110, 100] := by decide +kernel
  rw [t1] at e1
  rw [t2] at e2
  rw [t3] at e3
  have g1 : (kind.toList != [99, 104, 97, 105, 110]) = true := by rw [bne, e1]; rfl
  have g2 : (kind.toList != [112, 111, 119, 101, 114]) = true := by rw [bne, e2]; rfl
  have g3 : (kind.toList != [100, 105, 97, 109, 111, 110, 100]) = true := by rw [bne, e3]; rfl
  clear t1 t2 t3 h1 h2 h3
  go_enter Try.func9, Try.ntmps9
  go_wp2
  exact bodyPost_ret (v := .agg #[.slice none 0 0, .slice none 0 0, .int .i64 6]) (by simp [results, Try.results9, go_sem]) rfl (TRes.none_ hb0.out)

theorem tres_of {w : World} {kind : ByteArray} {n : Int} {c : Nat} {names : List ByteArray} {up : List Nat} (h1 : makeN kind n = c) (h2 : c = 0 → makeUp kind n = up ∧ named up.length = names) (h3 : c ≠ 0 → names = [] ∧ up = []) {e : Ending} {w' : World} (h : TRes w c names up e w') : TRes w (makeN kind n) (named (makeUpR kind n).length) (makeUpR kind n) e w' := by
  unfold makeUpR
  rw [h1]
  by_cases hc : c = 0
  · subst hc
    rw [if_pos rfl, (h2 rfl).1, (h2 rfl).2]
    exact h
  · rw [if_neg hc]
    obtain ⟨rfl, rfl⟩ := h3 hc
    exact h
theorem rMake_any (kind : ByteArray) (n : Int) (w : World) : Calls Try.prog 9 #[.string kind, .int .i64 n] w (TRes w (makeN kind n) (named (makeUpR kind n).length) (makeUpR kind n)) := by
  by_cases h1 : kind = kChain
  · by_cases hr : 1 ≤ n ∧ n ≤ 8
    · obtain ⟨k, rfl⟩ : ∃ k : Nat, n = k := ⟨n.toNat, by omega⟩
      subst h1
      refine (rMake_chain k k w (by omega) (by omega) rfl).mono fun e w' h => tres_of (by unfold makeN; rw [if_pos rfl, if_pos hr]) (fun _ => ⟨by unfold makeUp; rw [if_pos rfl]; rfl, by rw [Ordr.ups_length]⟩) (fun h => absurd rfl h) h
    · subst h1
      refine (rMake_chain_no n w (by omega)).mono fun e w' h => tres_of (by unfold makeN; rw [if_pos rfl, if_neg hr]) (fun h => by cases h) (fun _ => ⟨rfl, rfl⟩) h
  · by_cases h2 : kind = kPower
    · by_cases hr : 0 ≤ n ∧ n ≤ 3
      · obtain ⟨k, rfl⟩ : ∃ k : Nat, n = k := ⟨n.toNat, by omega⟩
        subst h2
        have h8 : 2 ^ k ≤ 2 ^ 3 := Nat.pow_le_pow_right (by decide) (by omega)
        refine (rMake_power k (2 ^ k) w (by omega) h8 rfl).mono fun e w' h => tres_of (by unfold makeN; rw [if_neg h1, if_pos rfl, if_pos hr]) (fun _ => ⟨by unfold makeUp; rw [if_neg h1, if_pos rfl]; rfl, by rw [Ordr.ups_length]⟩) (fun h => absurd rfl h) h
      · subst h2
        refine (rMake_power_no n w (by omega)).mono fun e w' h => tres_of (by unfold makeN; rw [if_neg h1, if_pos rfl, if_neg hr]) (fun h => by cases h) (fun _ => ⟨rfl, rfl⟩) h
    · by_cases h3 : kind = kDiam
      · by_cases hr : 1 ≤ n ∧ n ≤ 6
        · obtain ⟨k, rfl⟩ : ∃ k : Nat, n = k := ⟨n.toNat, by omega⟩
          subst h3
          have := rMake_diam k (k + 2) w (by omega) (by omega) rfl
          rw [show ((k + 2 : Nat) : Int) - 2 = (k : Int) by omega] at this
          refine this.mono fun e w' h => tres_of (by unfold makeN; rw [if_neg h1, if_neg h2, if_pos rfl, if_pos hr]) (fun _ => ⟨by unfold makeUp; rw [if_neg h1, if_neg h2]; rfl, by rw [Ordr.ups_length]⟩) (fun h => absurd rfl h) h
        · subst h3
          refine (rMake_diam_no n w (by omega)).mono fun e w' h => tres_of (by unfold makeN; rw [if_neg h1, if_neg h2, if_pos rfl, if_neg hr]) (fun h => by cases h) (fun _ => ⟨rfl, rfl⟩) h
      · refine (rMake_bad kind n w h1 h2 h3).mono fun e w' h => tres_of (by unfold makeN; rw [if_neg h1, if_neg h2, if_neg h3]) (fun h => by cases h) (fun _ => ⟨rfl, rfl⟩) h
end Go.Proofs.Ytaingkjleelbfaa
