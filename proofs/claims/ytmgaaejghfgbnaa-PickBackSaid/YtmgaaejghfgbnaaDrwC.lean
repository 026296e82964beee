/- The walks of package draw's Right, New, and the parts of Many. -/
import Derived.Test.YtmgaaejghfgbnaaDrwB
import Derived.Test.YtmgaaejghfgbnaaSeq
import Derived.Deep.RegionHeld3
import Derived.Deep.Cut
import Derived.Deep.CutRange
namespace Go.Proofs.Ytmgaaejghfgbnaa
set_option maxRecDepth 100000
open Go.RowKit Go.Shelf
attribute [local go_sem] Oper.semAt_some

/-- May draws be? -/
def Dr.right (n : Nat) (i : Int) (m : Nat) : Bool := decide (n ≤ 500 ∧ m ≤ 2000 ∧ 0 ≤ i)
theorem right13_any {A L : Option Addr} (n c m d : Nat) (i : Int) (w : World) : Calls Try.prog 38 #[.agg #[.slice A n c, .int .i64 i, .slice L m d]] w (Tells w (Dr.right n i m)) := by
  unfold Dr.right
  have hb := (Below.refl _ w).alloc (Nat.le_refl _) (.cells #[.slice A n c, .int .i64 i, .slice L m d] 24)
  have HB := Lib.hid hb
  clear hb
  by_cases h1 : n ≤ 500
  · by_cases h2 : m ≤ 2000
    · by_cases h3 : 0 ≤ i
      · have h4 : decide (i ≥ 0) = true := decide_eq_true h3
        rw [decide_eq_true (show n ≤ 500 ∧ m ≤ 2000 ∧ 0 ≤ i from ⟨h1, h2, h3⟩)]
        go_enter Try.func38, Try.ntmps38
        go_wp2
        go_ret
        exact ⟨rfl, HB.out⟩
      · have h4 : decide (i ≥ 0) = false := decide_eq_false h3
        rw [decide_eq_false (show ¬ (n ≤ 500 ∧ m ≤ 2000 ∧ 0 ≤ i) from fun h => h3 h.2.2)]
        go_enter Try.func38, Try.ntmps38
        go_wp2
        go_ret
        exact ⟨rfl, HB.out⟩
    · rw [decide_eq_false (show ¬ (n ≤ 500 ∧ m ≤ 2000 ∧ 0 ≤ i) from fun h => h2 h.2.1)]
      go_enter Try.func38, Try.ntmps38
      go_wp2
      go_ret
      exact ⟨rfl, HB.out⟩
  · rw [decide_eq_false (show ¬ (n ≤ 500 ∧ m ≤ 2000 ∧ 0 ≤ i) from fun h => h1 h.1)]
    go_enter Try.func38, Try.ntmps38
    go_wp2
    go_ret
    exact ⟨rfl, HB.out⟩
/-- New draws: the row's copy, from its start on. -/
def New13 (w : World) (l : List Int) (e : Ending) (w' : World) : Prop := ∃ A c, e = .returned (.agg #[.slice A l.length c, .int .i64 0, .slice none 0 0]) ∧ w'.ownsRow w.heap.size 3 1 (.slice A l.length c) l.length (ints l) ∧ Below w.heap.size w w'
theorem new13_any {A : Option Addr} (c : Nat) (l : List Int) (w : World) (h : Row w w.heap.size A (ints l)) (hl : l.length ≤ 1000000) : Calls Try.prog 17 #[.slice A l.length c] w (New13 w l) := by
  have hb := (Below.refl _ w).alloc (Nat.le_refl _) (.cells #[.slice none 0 0, .int .i64 0, .slice none 0 0] 24)
  have hk := Blk.new w 24 #[.slice none 0 0, .int .i64 0, .slice none 0 0]
  have hc := cloneI_any A c l _ ((h.below hb).more hb.size) hl
  unfold New13
  have HB := Lib.hid hb
  have HK := Lib.hid hk
  have HC := Lib.hid hc
  clear h hl hb hk hc
  unfold Cloned at HC
  generalize ints l = xs at *
  generalize l.length = n at *
  go_enter Try.func17, Try.ntmps17
  go_wp2_with (fail)
  refine HC.out.mono ?_
  rintro e w1 ⟨v, rfl, hown, hb1⟩
  obtain ⟨A', c', rfl⟩ := ownT_slice hown
  have hk1 := HK.out.below hb1 HK.out.lt
  have q0 := hk1.cell 0
  have q1 := hk1.cell 1
  have q2 := hk1.cell 2
  have f0 := hk1.frozen 0
  have f1 := hk1.frozen 1
  have f2 := hk1.frozen 2
  have hap : ∀ g, (Value.slice A' n c').ownBlock = some g → g ≠ w.heap.size := fun g hg => by
    obtain ⟨cs, hbk⟩ := own_blkD hown hg
    exact hbk.ty_neD hk1 (by decide)
  have hown2 : (((w1.setCell ⟨w.heap.size, 0, none⟩ (.slice A' n c')).setCell ⟨w.heap.size, 1, none⟩ (.int .i64 0)).setCell ⟨w.heap.size, 2, none⟩ (.slice none 0 0)).ownsRow w.heap.size 3 1 (.slice A' n c') n xs :=
    own_ofD (ownT_mono hown (by simp)) fun g hg => ((Below.heap_setCell _ _ _ g (hap g hg)).trans (Below.heap_setCell _ _ _ g (hap g hg))).trans (Below.heap_setCell _ _ _ g (hap g hg))
  have hk2 := ((hk1.set_ 0 (.slice A' n c')).set_ 1 (.int .i64 0)).set_ 2 (.slice none 0 0)
  have r0 := hk2.cell 0
  have r1 := hk2.cell 1
  have r2 := hk2.cell 2
  have HO := Lib.hid hown2
  have HB2 := Lib.hid ((((HB.out.trans (hb1.mono HB.out.size)).setCell (p := ⟨w.heap.size, 0, none⟩) (Nat.le_refl _) (.slice A' n c')).setCell (p := ⟨w.heap.size, 1, none⟩) (Nat.le_refl _) (.int .i64 0)).setCell (p := ⟨w.heap.size, 2, none⟩) (Nat.le_refl _) (.slice none 0 0))
  clear hown hown2 hb1 hap hk1 hk2
  go_wp2
  exact bodyPost_ret (v := .agg #[.slice A' n c', .int .i64 0, .slice none 0 0]) (by simp [results, Try.results17, go_sem, r0, r1, r2]) rfl ⟨A', c', rfl, HO.out, HB2.out⟩
end Go.Proofs.Ytmgaaejghfgbnaa
