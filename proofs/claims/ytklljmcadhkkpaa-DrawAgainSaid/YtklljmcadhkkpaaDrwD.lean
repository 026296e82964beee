/- Two rows compared: cmp.Compare and slices.Compare at int, package draw's compare and Cmp, the reference's Cmp and Ints. -/
import Derived.Test.YtklljmcadhkkpaaDrwP
import Derived.Test.YtklljmcadhkkpaaRulJ
import Derived.BigRegion
namespace Go.Proofs.Ytklljmcadhkkpaa
set_option maxRecDepth 100000
open Go.RowKit Go.Shelf
attribute [local go_sem] Oper.semAt_some

/-- Answers a number, and leaves all memory as it was. -/
def TellsZ13 (w : World) (n : Int) (e : Ending) (w' : World) : Prop := e = .returned (.int .i64 n) ∧ Below w.heap.size w w'
def ordI13 (x y : Int) : Int := if x < y then -1 else if y < x then 1 else 0
theorem isNaN13_any (x : Int) (w : World) : Calls Try.prog 19 #[.int .i64 x] w fun e w' => e = .returned (.bool false) ∧ w = w' := by
  have hx : (x != x) = false := by simp
  go_enter Try.func19, Try.ntmps19
  go_wp2
  go_ret
  exact ⟨rfl, rfl⟩
theorem cmpI13_any (x y : Int) (w : World) : Calls Try.prog 16 #[.int .i64 x, .int .i64 y] w (TellsZ13 w (ordI13 x y)) := by
  unfold ordI13
  by_cases h : x < y
  · have h1 : decide (x < y) = true := decide_eq_true h
    rw [if_pos h]
    clear h
    go_enter Try.func16, Try.ntmps16
    go_wp2_with (fail)
    refine (isNaN13_any x _).mono ?_
    rintro e w1 ⟨rfl, rfl⟩
    go_wp2_with (fail)
    refine (isNaN13_any y _).mono ?_
    rintro e w1 ⟨rfl, rfl⟩
    go_wp2
    go_ret
    exact ⟨rfl, Below.refl _ _⟩
  · by_cases h2 : y < x
    · have h1 : decide (x < y) = false := decide_eq_false h
      have h3 : decide (y < x) = true := decide_eq_true h2
      rw [if_neg h, if_pos h2]
      clear h h2
      go_enter Try.func16, Try.ntmps16
      go_wp2_with (fail)
      refine (isNaN13_any x _).mono ?_
      rintro e w1 ⟨rfl, rfl⟩
      go_wp2_with (fail)
      refine (isNaN13_any y _).mono ?_
      rintro e w1 ⟨rfl, rfl⟩
      go_wp2
      go_ret
      exact ⟨rfl, Below.refl _ _⟩
    · have h1 : decide (x < y) = false := decide_eq_false h
      have h3 : decide (y < x) = false := decide_eq_false h2
      rw [if_neg h, if_neg h2]
      clear h h2
      go_enter Try.func16, Try.ntmps16
      go_wp2_with (fail)
      refine (isNaN13_any x _).mono ?_
      rintro e w1 ⟨rfl, rfl⟩
      go_wp2_with (fail)
      refine (isNaN13_any y _).mono ?_
      rintro e w1 ⟨rfl, rfl⟩
      go_wp2
      go_ret
      exact ⟨rfl, Below.refl _ _⟩
set_option maxHeartbeats 2000000 in
theorem sCompare13_any {A B : Option Addr} {a b : List Int} (c d : Nat) (w : World) (h : Row w w.heap.size A (ints a)) (h2 : Row w w.heap.size B (ints b)) (hl : a.length ≤ 1000000) (hab : a.length = b.length) :
    Calls Try.prog 17 #[.slice A a.length c, .slice B b.length d] w (TellsZ13 w (Dr.lex a b)) := by
  obtain ⟨res, hres⟩ : ∃ res, Dr.lex a b = res := ⟨_, rfl⟩
  rw [hres]
  have HRES := Lib.hid hres
  have H := Lib.hid h
  have H2 := Lib.hid h2
  obtain ⟨n, hna⟩ : ∃ n, a.length = n := ⟨_, rfl⟩
  have hnb : b.length = n := by omega
  have HNA := Lib.hid hna
  have HNB := Lib.hid hnb
  rw [hna, hnb]
  have hn9 : n ≤ 1000000 := by omega
  clear hres h h2 hna hnb hl hab
  go_enter Try.func17, Try.ntmps17
  go_wp2
  go_loopw [11] (fun i wr => ∃ (k : Nat), k ≤ n ∧ i = .int .i64 k ∧ Hid (Below w.heap.size w wr) ∧ Hid (Dr.lex (a.drop k) (b.drop k) = res)) (fun i _ => n - (intOf i).toNat)
  case atStart => exact ⟨0, Nat.zero_le _, rfl, Lib.hid (Below.refl _ _), HRES⟩
  case round =>
    obtain ⟨k, hk, rfl, HB, HK⟩ := hrel
    by_cases hlt : k < n
    · obtain ⟨ad, hA, hb, c0⟩ := irow_at (H.out.below HB.out) (show k < a.length by rw [HNA.out]; exact hlt)
      obtain ⟨bd, hB, hb2, c1⟩ := irow_at (H2.out.below HB.out) (show k < b.length by rw [HNB.out]; exact hlt)
      have hx : a[k]? = some (a[k]'(by rw [HNA.out]; exact hlt)) := List.getElem?_eq_getElem _
      have hy : b[k]? = some (b[k]'(by rw [HNB.out]; exact hlt)) := List.getElem?_eq_getElem _
      subst hA hB
      generalize a[k]'(by rw [HNA.out]; exact hlt) = x at *
      generalize b[k]'(by rw [HNB.out]; exact hlt) = y at *
      have hst := Dr.lex_step hx hy
      rw [HK.out] at hst
      have hge : decide ((k : Int) ≥ (n : Int)) = false := decide_eq_false (by omega)
      have hcall := fun W => cmpI13_any x y W
      unfold ordI13 at hcall
      by_cases hxy : x < y
      · rw [if_pos hxy] at hst
        simp only [if_pos hxy] at hcall
        have HST := Lib.hid hst
        have HC := Lib.hid hcall
        clear hx hy hst hcall hxy
        go_wp2_with (fail)
        refine (HC.out _).mono ?_
        rintro e w3 ⟨rfl, hb3⟩
        have HB3 := Lib.hid (HB.out.trans (hb3.mono HB.out.size))
        clear hb3
        go_wp2
        go_ret
        exact ⟨by rw [HST.out]; rfl, HB3.out⟩
      · by_cases hyx : y < x
        · rw [if_neg hxy, if_pos hyx] at hst
          simp only [if_neg hxy, if_pos hyx] at hcall
          have HST := Lib.hid hst
          have HC := Lib.hid hcall
          clear hx hy hst hcall hxy hyx
          go_wp2_with (fail)
          refine (HC.out _).mono ?_
          rintro e w3 ⟨rfl, hb3⟩
          have HB3 := Lib.hid (HB.out.trans (hb3.mono HB.out.size))
          clear hb3
          go_wp2
          go_ret
          exact ⟨by rw [HST.out]; rfl, HB3.out⟩
        · rw [if_neg hxy, if_neg hyx] at hst
          simp only [if_neg hxy, if_neg hyx] at hcall
          have HST := Lib.hid hst.symm
          have HC := Lib.hid hcall
          clear hx hy hst hcall hxy hyx
          go_wp2_with (fail)
          refine (HC.out _).mono ?_
          rintro e w3 ⟨rfl, hb3⟩
          have HB3 := Lib.hid (HB.out.trans (hb3.mono HB.out.size))
          clear hb3
          go_wp2
          go_roundw
          case rel => exact ⟨k + 1, by omega, by go_num, HB3, HST⟩
          case measure => simp [intOf]; omega
    · obtain rfl : k = n := by omega
      have htt := Dr.lex_end (a := a) (b := b) (k := k) (by rw [HNA.out]; exact Nat.le_refl _)
      rw [HK.out] at htt
      have HTT := Lib.hid htt
      clear htt
      go_wp2
      go_ret
      exact ⟨by rw [HTT.out]; rfl, HB.out⟩
theorem drwCompare_any {A B : Option Addr} {a b : List Int} (c d : Nat) (w : World) (h : Row w w.heap.size A (ints a)) (h2 : Row w w.heap.size B (ints b)) (hl : a.length ≤ 1000000) (_ : b.length ≤ 1000000) :
    Calls Try.prog 11 #[.slice A a.length c, .slice B b.length d] w (TellsZ13 w (Dr.cmp a b)) := by
  have hord := fun W => cmpI13_any (a.length : Int) (b.length : Int) W
  have hsc := fun W (hW : Below w.heap.size w W) (e : a.length = b.length) => sCompare13_any c d W ((h.below hW).more hW.size) ((h2.below hW).more hW.size) hl e
  unfold ordI13 at hord
  unfold Dr.cmp
  by_cases h1 : a.length < b.length
  · have h1' : (a.length : Int) < (b.length : Int) := by omega
    rw [if_pos h1]
    simp only [if_pos h1'] at hord
    have HC := Lib.hid hord
    clear h h2 hl hord hsc h1 h1'
    generalize a.length = n at *
    generalize b.length = m at *
    go_enter Try.func11, Try.ntmps11
    go_wp2_with (fail)
    refine (HC.out _).mono ?_
    rintro e w3 ⟨rfl, hb3⟩
    have HB3 := Lib.hid hb3
    clear hb3
    go_wp2
    go_ret
    exact ⟨rfl, HB3.out⟩
  · by_cases h3 : b.length < a.length
    · have h1' : ¬ (a.length : Int) < (b.length : Int) := by omega
      have h3' : (b.length : Int) < (a.length : Int) := by omega
      rw [if_neg h1, if_pos h3]
      simp only [if_neg h1', if_pos h3'] at hord
      have HC := Lib.hid hord
      clear h h2 hl hord hsc h1 h1' h3 h3'
      generalize a.length = n at *
      generalize b.length = m at *
      go_enter Try.func11, Try.ntmps11
      go_wp2_with (fail)
      refine (HC.out _).mono ?_
      rintro e w3 ⟨rfl, hb3⟩
      have HB3 := Lib.hid hb3
      clear hb3
      go_wp2
      go_ret
      exact ⟨rfl, HB3.out⟩
    · have h1' : ¬ (a.length : Int) < (b.length : Int) := by omega
      have h3' : ¬ (b.length : Int) < (a.length : Int) := by omega
      have he : a.length = b.length := by omega
      rw [if_neg h1, if_neg h3]
      simp only [if_neg h1', if_neg h3'] at hord
      have HC := Lib.hid hord
      have HS := Lib.hid fun W hW => hsc W hW he
      clear h h2 hl hord hsc h1 h1' h3 h3'
      generalize Dr.lex a b = res at *
      generalize a.length = n at *
      generalize b.length = m at *
      clear he
      go_enter Try.func11, Try.ntmps11
      go_wp2_with (fail)
      refine (HC.out _).mono ?_
      rintro e w3 ⟨rfl, hb3⟩
      have HB3 := Lib.hid hb3
      clear hb3
      go_wp2_with (fail)
      refine (HS.out _ HB3.out).mono ?_
      rintro e w4 ⟨rfl, hb4⟩
      have HB4 := Lib.hid (HB3.out.trans (hb4.mono HB3.out.size))
      clear hb4
      go_wp2
      go_ret
      exact ⟨rfl, HB4.out⟩
theorem drwCmp_any {A B : Option Addr} {a b : List Int} (c d : Nat) (w : World) (h : Row w w.heap.size A (ints a)) (h2 : Row w w.heap.size B (ints b)) (hl : a.length ≤ 1000000) (hm : b.length ≤ 1000000) :
    Calls Try.prog 5 #[.slice A a.length c, .slice B b.length d] w (TellsZ13 w (Dr.cmp a b)) := by
  have HC := Lib.hid (drwCompare_any c d w h h2 hl hm)
  clear h h2 hl hm
  generalize Dr.cmp a b = res at *
  generalize a.length = n at *
  generalize b.length = m at *
  go_enter Try.func5, Try.ntmps5
  go_wp2_with (fail)
  refine HC.out.mono ?_
  rintro e w3 ⟨rfl, hb3⟩
  have HB3 := Lib.hid hb3
  clear hb3
  go_wp2
  go_ret
  exact ⟨rfl, HB3.out⟩
set_option maxHeartbeats 2000000 in
theorem rCmp13_any {A B : Option Addr} {a b : List Int} (c d : Nat) (w : World) (h : Row w w.heap.size A (ints a)) (h2 : Row w w.heap.size B (ints b)) (hl : a.length ≤ 1000000) (_ : b.length ≤ 1000000) :
    Calls Try.prog 7 #[.slice A a.length c, .slice B b.length d] w (TellsZ13 w (Dr.cmp a b)) := by
  unfold Dr.cmp
  by_cases h1 : a.length < b.length
  · rw [if_pos h1]
    clear h h2 hl
    generalize a.length = n at *
    generalize b.length = m at *
    go_enter Try.func7, Try.ntmps7
    go_wp2
    go_ret
    exact ⟨rfl, Below.refl _ _⟩
  · by_cases h3 : b.length < a.length
    · rw [if_neg h1, if_pos h3]
      clear h h2 hl
      generalize a.length = n at *
      generalize b.length = m at *
      go_enter Try.func7, Try.ntmps7
      go_wp2
      go_ret
      exact ⟨rfl, Below.refl _ _⟩
    · rw [if_neg h1, if_neg h3]
      obtain ⟨res, hres⟩ : ∃ res, Dr.lex a b = res := ⟨_, rfl⟩
      rw [hres]
      have HRES := Lib.hid hres
      have H := Lib.hid h
      have H2 := Lib.hid h2
      obtain ⟨n, hna⟩ : ∃ n, a.length = n := ⟨_, rfl⟩
      have hnb : b.length = n := by omega
      have HNA := Lib.hid hna
      have HNB := Lib.hid hnb
      rw [hna, hnb]
      have hn9 : n ≤ 1000000 := by omega
      have hff : decide ((n : Int) < (n : Int)) = false := decide_eq_false (by omega)
      clear hres h h2 hna hnb hl h1 h3
      go_enter Try.func7, Try.ntmps7
      go_wp2
      go_loopw [18] (fun i wr => ∃ (k : Nat), k ≤ n ∧ i = .int .i64 k ∧ Hid (Below w.heap.size w wr) ∧ Hid (Dr.lex (a.drop k) (b.drop k) = res)) (fun i _ => n - (intOf i).toNat)
      case atStart => exact ⟨0, Nat.zero_le _, rfl, Lib.hid (Below.refl _ _), HRES⟩
      case round =>
        obtain ⟨k, hk, rfl, HB, HK⟩ := hrel
        by_cases hlt : k < n
        · obtain ⟨ad, hA, hb, c0⟩ := irow_at (H.out.below HB.out) (show k < a.length by rw [HNA.out]; exact hlt)
          obtain ⟨bd, hB, hb2, c1⟩ := irow_at (H2.out.below HB.out) (show k < b.length by rw [HNB.out]; exact hlt)
          have hx : a[k]? = some (a[k]'(by rw [HNA.out]; exact hlt)) := List.getElem?_eq_getElem _
          have hy : b[k]? = some (b[k]'(by rw [HNB.out]; exact hlt)) := List.getElem?_eq_getElem _
          subst hA hB
          generalize a[k]'(by rw [HNA.out]; exact hlt) = x at *
          generalize b[k]'(by rw [HNB.out]; exact hlt) = y at *
          have hst := Dr.lex_step hx hy
          rw [HK.out] at hst
          by_cases hxy : x < y
          · rw [if_pos hxy] at hst
            have HST := Lib.hid hst
            have h5 : decide (x < y) = true := decide_eq_true hxy
            clear hx hy hst hxy
            go_wp2
            go_region
            go_wp2
            go_ret
            exact ⟨by rw [HST.out]; rfl, HB.out.drew⟩
          · have h5 : decide (x < y) = false := decide_eq_false hxy
            by_cases hyx : y < x
            · rw [if_neg hxy, if_pos hyx] at hst
              have HST := Lib.hid hst
              have h6 : decide (y < x) = true := decide_eq_true hyx
              clear hx hy hst hxy hyx
              go_wp2
              go_region
              go_wp2
              go_region
              go_wp2
              go_ret
              exact ⟨by rw [HST.out]; rfl, HB.out.drew.drew⟩
            · rw [if_neg hxy, if_neg hyx] at hst
              have HST := Lib.hid hst.symm
              have h6 : decide (y < x) = false := decide_eq_false hyx
              clear hx hy hst hxy hyx
              go_wp2
              go_region
              go_wp2
              go_region
              go_wp2
              go_roundw
              case rel => exact ⟨k + 1, by omega, by go_num, Lib.hid HB.out.drew.drew, HST⟩
              case measure => simp [intOf]; omega
        · obtain rfl : k = n := by omega
          have htt := Dr.lex_end (a := a) (b := b) (k := k) (by rw [HNA.out]; exact Nat.le_refl _)
          rw [HK.out] at htt
          have HTT := Lib.hid htt
          clear htt
          go_wp2
          go_ret
          exact ⟨by rw [HTT.out]; rfl, HB.out⟩
theorem rInts13_any {A B : Option Addr} {a b : List Int} (c d : Nat) (w : World) (h : Row w w.heap.size A (ints a)) (h2 : Row w w.heap.size B (ints b)) (hl : a.length ≤ 1000000) (hm : b.length ≤ 1000000) :
    Calls Try.prog 10 #[.slice A a.length c, .slice B b.length d] w (Tells w (decide (a = b))) := by
  have HC := Lib.hid (rCmp13_any c d w h h2 hl hm)
  have hres : (Dr.cmp a b == 0) = decide (a = b) := by
    rw [Bool.eq_iff_iff, beq_iff_eq, decide_eq_true_iff]
    exact Dr.cmp_zero
  have HR := Lib.hid hres
  clear h h2 hl hm hres
  generalize Dr.cmp a b = res at *
  generalize decide (a = b) = t at *
  generalize a.length = n at *
  generalize b.length = m at *
  go_enter Try.func10, Try.ntmps10
  go_wp2_with (fail)
  refine HC.out.mono ?_
  rintro e w3 ⟨rfl, hb3⟩
  have HB3 := Lib.hid hb3
  clear hb3
  go_wp2
  go_ret
  exact ⟨by rw [HR.out]; rfl, HB3.out⟩
end Go.Proofs.Ytklljmcadhkkpaa
