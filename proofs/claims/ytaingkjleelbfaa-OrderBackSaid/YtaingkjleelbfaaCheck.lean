/- Walks of lattice's Check, checkLabels, Flows, Join, Meet, Bottom, Top. -/
import Derived.Test.YtaingkjleelbfaaMay
namespace Go.Proofs.Ytaingkjleelbfaa
open Go.RowKit

def checkN (names : List ByteArray) (up : List Nat) : Nat := if mayB names up then if Lat.isOrder up then if Lat.isLattice up then 0 else 3 else 2 else 1
theorem mayB_len {names : List ByteArray} {up : List Nat} (h : mayB names up = true) : 1 ≤ up.length ∧ up.length ≤ 8 ∧ names.length = up.length := by
  unfold mayB at h
  simp only [Bool.and_eq_true, decide_eq_true_eq] at h
  exact ⟨h.1.1.1, h.1.1.2, h.1.2⟩
theorem ret_i64 {x y : Int} (h : x = y) : Ending.returned (.int .i64 x) = .returned (.int .i64 y) := by rw [h]

/-- What a lattice's box holds. -/
theorem IsLat.boxed {w : World} {v : Value} {names : List ByteArray} {up : List Nat} (h : IsLat w w.heap.size v names up) (o : Obj) : IsLat (w.alloc o) (w.alloc o).heap.size v names up :=
  (h.below ((Below.refl _ w).alloc (Nat.le_refl _) o)).more (by simp)

set_option maxHeartbeats 1000000 in
theorem check_any {v : Value} {names : List ByteArray} {up : List Nat} (w : World) (h : IsLat w w.heap.size v names up) :
    Calls Try.prog 21 #[v] w fun e w' => e = .returned (.int .i64 (checkN names up : Nat)) ∧ Below w.heap.size w w' := by
  have h' := h
  obtain ⟨⟨A, A', c, c', rfl, hN, hU⟩, hshort, ⟨hf1, hf2⟩, -⟩ := h'
  have hb0 : Below w.heap.size w (w.alloc (.cells #[.slice A names.length c, .slice A' up.length c'] 25)) := (Below.refl _ w).alloc (Nat.le_refl _) _
  have p0 : Blk (w.alloc (.cells #[.slice A names.length c, .slice A' up.length c'] 25)) w.heap.size 25 #[.slice A names.length c, .slice A' up.length c'] := Blk.new _ _ _
  have hmay := Lib.hid (mayBe_any _ (h.boxed (.cells #[.slice A names.length c, .slice A' up.length c'] 25)))
  have HP0 := Lib.hid p0
  have HCH : Hid (checkN names up = if mayB names up then if Lat.isOrder up then if Lat.isLattice up then 0 else 3 else 2 else 1) := rfl
  clear p0 h
  cases e1 : mayB names up
  · have HE1 := Lib.hid e1
    rw [e1] at hmay
    clear e1
    go_enter Try.func21, Try.ntmps21
    go_wp2_with (go_at_call 43; refine hmay.out.mono ?_; rintro e w1 ⟨rfl, hb1⟩)
    go_ret
    exact ⟨ret_i64 (by rw [HCH.out, HE1.out]; rfl), hb0.trans (hb1.mono (by simp))⟩
  · have HE1 := Lib.hid e1
    have hlen := mayB_len e1
    obtain ⟨l1, l2, -⟩ := hlen
    rw [e1] at hmay
    clear e1
    cases e2 : Lat.isOrder up
    · have HE2 := Lib.hid e2
      clear e2
      go_enter Try.func21, Try.ntmps21
      go_wp2_with (go_at_call 43; refine hmay.out.mono ?_)
      rintro e w1 ⟨rfl, hb1⟩
      have hs := hb1.size
      have hp1 := HP0.out.below hb1 (by simp)
      have hc1 : w1.cell? ⟨w.heap.size, 1, none⟩ = some (.slice A' up.length c') := by rw [hp1.cell]; rfl
      have hbw1 : Below w.heap.size w w1 := hb0.trans (hb1.mono (by simp))
      have hio := isOrder_any c' w1 ((hU.below hbw1).more hbw1.size) (by omega)
      rw [HE2.out] at hio
      have HIO := Lib.hid hio
      clear hio hp1 hb1
      go_wp2_with (go_at_call 44; refine HIO.out.mono ?_)
      rintro e w2 ⟨rfl, hb2⟩
      go_wp2
      go_ret
      exact ⟨ret_i64 (by rw [HCH.out, HE1.out, HE2.out]; rfl), hbw1.trans (hb2.mono hbw1.size)⟩
    · have HE2 := Lib.hid e2
      clear e2
      go_enter Try.func21, Try.ntmps21
      go_wp2_with (go_at_call 43; refine hmay.out.mono ?_)
      rintro e w1 ⟨rfl, hb1⟩
      have hs := hb1.size
      have hp1 := HP0.out.below hb1 (by simp)
      have hc1 : w1.cell? ⟨w.heap.size, 1, none⟩ = some (.slice A' up.length c') := by rw [hp1.cell]; rfl
      have hbw1 : Below w.heap.size w w1 := hb0.trans (hb1.mono (by simp))
      have hlt1 := hp1.lt
      have hio := isOrder_any c' w1 ((hU.below hbw1).more hbw1.size) (by omega)
      rw [HE2.out] at hio
      have HIO := Lib.hid hio
      clear hio hb1
      go_wp2_with (go_at_call 44; refine HIO.out.mono ?_)
      rintro e w2 ⟨rfl, hb2⟩
      have hp2 := hp1.below hb2 hlt1
      have hc2 : w2.cell? ⟨w.heap.size, 1, none⟩ = some (.slice A' up.length c') := by rw [hp2.cell]; rfl
      have hbw2 : Below w.heap.size w w2 := hbw1.trans (hb2.mono hbw1.size)
      have hil := isLattice_any c' w2 ((hU.below hbw2).more hbw2.size) (by omega)
      clear hp1 hb2 HIO hc1
      cases e3 : Lat.isLattice up
      all_goals
        have HE3 := Lib.hid e3
        rw [e3] at hil
        have HIL := Lib.hid hil
        clear hil e3
        go_wp2_with (go_at_call 45; refine HIL.out.mono ?_)
        rintro e w3 ⟨rfl, hb3⟩
        go_wp2
        go_ret
        exact ⟨ret_i64 (by rw [HCH.out, HE1.out, HE2.out, HE3.out]; rfl), hbw2.trans (hb3.mono hbw2.size)⟩

def isLab (up : List Nat) (a : Int) : Bool := decide (0 ≤ a ∧ a < up.length)
/-- Check's error, or that a label is none. -/
def labN (names : List ByteArray) (up : List Nat) (a b : Int) : Nat := if checkN names up = 0 then if isLab up a && isLab up b then 0 else 9 else checkN names up

end Go.Proofs.Ytaingkjleelbfaa
