/- Two rows compared: cmp.Compare and slices.Compare at int, package draw's compare and Cmp, the reference's Cmp and Ints. -/
import Derived.Test.YtmgaaejghfgbnaaDrwP
import Derived.Test.YtmgaaejghfgbnaaRulJ
import Derived.BigRegion
namespace Go.Proofs.Ytmgaaejghfgbnaa
set_option maxRecDepth 100000
open Go.RowKit Go.Shelf
attribute [local go_sem] Oper.semAt_some

/-- Answers a number, and leaves all memory as it was. -/
def TellsZ13 (w : World) (n : Int) (e : Ending) (w' : World) : Prop := e = .returned (.int .i64 n) ∧ Below w.heap.size w w'
def ordI13 (x y : Int) : Int := if x < y then -1 else if y < x then 1 else 0
set_option maxHeartbeats 2000000 in
theorem rCmp13_any {A B : Option Addr} {a b : List Int} (c d : Nat) (w : World) (h : Row w w.heap.size A (ints a)) (h2 : Row w w.heap.size B (ints b)) (hl : a.length ≤ 1000000) (_ : b.length ≤ 1000000) :
    Calls Try.prog 37 #[.slice A a.length c, .slice B b.length d] w (TellsZ13 w (Dr.cmp a b)) := by
  unfold Dr.cmp
  by_cases h1 : a.length < b.length
  · rw [if_pos h1]
    clear h h2 hl
    generalize a.length = n at *
    generalize b.length = m at *
    go_enter Try.func37, Try.ntmps37
    go_wp2
    go_ret
    exact ⟨rfl, Below.refl _ _⟩
  · by_cases h3 : b.length < a.length
    · rw [if_neg h1, if_pos h3]
      clear h h2 hl
      generalize a.length = n at *
      generalize b.length = m at *
      go_enter Try.func37, Try.ntmps37
      go_wp2
      go_ret
      exact ⟨rfl, Below.refl _ _⟩
    · rw [if_neg h1, if_neg h3]
      obtain ⟨res, hres⟩ : ∃ res, Dr.lex a b = res := ⟨_, rfl⟩
      rw [hres]
      have HRES := Lib.hid hres
      have H := Lib.hid h
      have H2 := Lib.hid h2
      obtain ⟨n, hna⟩ : ∃ n, a.length = n := ⟨_, rfl⟩
      have hnb : b.length = n := by omega
      have HNA := Lib.hid hna
      have HNB := Lib.hid hnb
      rw [hna, hnb]
      have hn9 : n ≤ 1000000 := by omega
      have hff : decide ((n : Int) < (n : Int)) = false := decide_eq_false (by omega)
      clear hres h h2 hna hnb hl h1 h3
      go_enter Try.func37, Try.ntmps37
      go_wp2
      go_loopw [18] (fun i wr => ∃ (k : Nat), k ≤ n ∧ i = .int .i64 k ∧ Hid (Below w.heap.size w wr) ∧ Hid (Dr.lex (a.drop k) (b.drop k) = res)) (fun i _ => n - (intOf i).toNat)
      case atStart => exact ⟨0, Nat.zero_le _, rfl, Lib.hid (Below.refl _ _), HRES⟩
      case round =>
        obtain ⟨k, hk, rfl, HB, HK⟩ := hrel
        by_cases hlt : k < n
        · obtain ⟨ad, hA, hb, c0⟩ := irow_at (H.out.below HB.out) (show k < a.length by rw [HNA.out]; exact hlt)
          obtain ⟨bd, hB, hb2, c1⟩ := irow_at (H2.out.below HB.out) (show k < b.length by rw [HNB.out]; exact hlt)
          have hx : a[k]? = some (a[k]'(by rw [HNA.out]; exact hlt)) := List.getElem?_eq_getElem _
          have hy : b[k]? = some (b[k]'(by rw [HNB.out]; exact hlt)) := List.getElem?_eq_getElem _
          subst hA hB
          generalize a[k]'(by rw [HNA.out]; exact hlt) = x at *
          generalize b[k]'(by rw [HNB.out]; exact hlt) = y at *
          have hst := Dr.lex_step hx hy
          rw [HK.out] at hst
          by_cases hxy : x < y
          · rw [if_pos hxy] at hst
            have HST := Lib.hid hst
            have h5 : decide (x < y) = true := decide_eq_true hxy
            clear hx hy hst hxy
            go_wp2
            go_region
            go_wp2
            go_ret
            exact ⟨by rw [HST.out]; rfl, HB.out.drew⟩
          · have h5 : decide (x < y) = false := decide_eq_false hxy
            by_cases hyx : y < x
            · rw [if_neg hxy, if_pos hyx] at hst
              have HST := Lib.hid hst
              have h6 : decide (y < x) = true := decide_eq_true hyx
              clear hx hy hst hxy hyx
              go_wp2
              go_region
              go_wp2
              go_region
              go_wp2
              go_ret
              exact ⟨by rw [HST.out]; rfl, HB.out.drew.drew⟩
            · rw [if_neg hxy, if_neg hyx] at hst
              have HST := Lib.hid hst.symm
              have h6 : decide (y < x) = false := decide_eq_false hyx
              clear hx hy hst hxy hyx
              go_wp2
              go_region
              go_wp2
              go_region
              go_wp2
              go_roundw
              case rel => exact ⟨k + 1, by omega, by go_num, Lib.hid HB.out.drew.drew, HST⟩
              case measure => simp [intOf]; omega
        · obtain rfl : k = n := by omega
          have htt := Dr.lex_end (a := a) (b := b) (k := k) (by rw [HNA.out]; exact Nat.le_refl _)
          rw [HK.out] at htt
          have HTT := Lib.hid htt
          clear htt
          go_wp2
          go_ret
          exact ⟨by rw [HTT.out]; rfl, HB.out⟩
theorem rInts13_any {A B : Option Addr} {a b : List Int} (c d : Nat) (w : World) (h : Row w w.heap.size A (ints a)) (h2 : Row w w.heap.size B (ints b)) (hl : a.length ≤ 1000000) (hm : b.length ≤ 1000000) :
    Calls Try.prog 26 #[.slice A a.length c, .slice B b.length d] w (Tells w (decide (a = b))) := by
  have HC := Lib.hid (rCmp13_any c d w h h2 hl hm)
  have hres : (Dr.cmp a b == 0) = decide (a = b) := by
    rw [Bool.eq_iff_iff, beq_iff_eq, decide_eq_true_iff]
    exact Dr.cmp_zero
  have HR := Lib.hid hres
  clear h h2 hl hm hres
  generalize Dr.cmp a b = res at *
  generalize decide (a = b) = t at *
  generalize a.length = n at *
  generalize b.length = m at *
  go_enter Try.func26, Try.ntmps26
  go_wp2_with (fail)
  refine HC.out.mono ?_
  rintro e w3 ⟨rfl, hb3⟩
  have HB3 := Lib.hid hb3
  clear hb3
  go_wp2
  go_ret
  exact ⟨by rw [HR.out]; rfl, HB3.out⟩
end Go.Proofs.Ytmgaaejghfgbnaa
