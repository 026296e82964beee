/- Walk of the law's alive. -/
import Derived.Test.YtgplnlpbpcpacaaHeight
namespace Go.Proofs.Ytgplnlpbpcpacaa
open Go.RowKit

def dNames : List ByteArray := [⟨#[97]⟩, ⟨#[98]⟩, ⟨#[99]⟩, ⟨#[100]⟩]
def dUp : List Nat := [15, 10, 12, 8]

theorem dLab1 : labN dNames dUp 1 2 = 0 := by decide +kernel
theorem dJoin : joinR dNames dUp 1 2 = 3 := by decide +kernel
theorem dLab3 : labN dNames dUp 3 3 = 0 := by decide +kernel
theorem dHeight : heightR dNames dUp 3 = 2 := by decide +kernel

theorem Blk.at' {W : World} {t : TypeId} {cs : Array Value} {g : Nat} (h : W.heap.size = g) : Blk (W.alloc (.cells cs t)) g t cs := h ▸ Blk.new W t cs

theorem alive_lat (w : World) : IsLat (((w.alloc (.cells #[.string ⟨#[97]⟩, .string ⟨#[98]⟩, .string ⟨#[99]⟩, .string ⟨#[100]⟩] 9)).alloc (.cells #[.int .u32 15, .int .u32 10, .int .u32 12, .int .u32 8] 46)).alloc (.cells #[.slice (some ⟨w.heap.size, 0, none⟩) 4 4, .slice (some ⟨w.heap.size + 1, 0, none⟩) 4 4] 25)) (w.heap.size + 3)
    (.agg #[.slice (some ⟨w.heap.size, 0, none⟩) 4 4, .slice (some ⟨w.heap.size + 1, 0, none⟩) 4 4]) dNames dUp := by
  have h0 := ((Blk.new w 9 (strs dNames).toArray).alloc (.cells #[.int .u32 15, .int .u32 10, .int .u32 12, .int .u32 8] 46)).alloc (.cells #[.slice (some ⟨w.heap.size, 0, none⟩) 4 4, .slice (some ⟨w.heap.size + 1, 0, none⟩) 4 4] 25)
  have h1 := (Blk.at' (W := w.alloc (.cells (strs dNames).toArray 9)) (t := 46) (cs := (u32s dUp).toArray) (g := w.heap.size + 1) (by simp)).alloc (.cells #[.slice (some ⟨w.heap.size, 0, none⟩) 4 4, .slice (some ⟨w.heap.size + 1, 0, none⟩) 4 4] 25)
  refine ⟨⟨some ⟨w.heap.size, 0, none⟩, some ⟨w.heap.size + 1, 0, none⟩, 4, 4, rfl, h0.row.more (by omega), h1.row.more (by omega), ?_⟩, ?_, by decide, ?_⟩
  · intro k x hx
    unfold dUp at hx
    have := List.mem_of_getElem? hx
    simp at this
    omega
  · intro s hs
    unfold dNames at hs
    simp at hs
    unfold maxLen
    rcases hs with rfl | rfl | rfl | rfl <;> decide
  · intro A1 n1 c1 A2 n2 c2 he
    injection he with he
    injection he with he
    injection he with e1 he
    injection he with e2 he
    injection e1 with _ e11 e12
    injection e2 with _ e21 e22
    omega

set_option maxHeartbeats 1000000 in
theorem alive_any (w : World) :
    Calls Try.prog 11 #[] w fun e w' => e = .returned (.bool true) ∧ Below w.heap.size w w' := by
  obtain ⟨W0, hW0⟩ : ∃ W0 : World, (((w.alloc (.cells #[.string ⟨#[97]⟩, .string ⟨#[98]⟩, .string ⟨#[99]⟩, .string ⟨#[100]⟩] 9)).alloc (.cells #[.int .u32 15, .int .u32 10, .int .u32 12, .int .u32 8] 46)).alloc (.cells #[.slice (some ⟨w.heap.size, 0, none⟩) 4 4, .slice (some ⟨w.heap.size + 1, 0, none⟩) 4 4] 25)) = W0 := ⟨_, rfl⟩
  have hlat := alive_lat w
  have hB : Below w.heap.size w W0 := by rw [← hW0]; exact (((Below.refl _ w).alloc (Nat.le_refl _) _).alloc (by simp) _).alloc (by simp; omega) _
  have hsz : W0.heap.size = w.heap.size + 3 := by rw [← hW0]; simp
  have hbl : Blk W0 (w.heap.size + 1 + 1) 25 #[.slice (some ⟨w.heap.size, 0, none⟩) 4 4, .slice (some ⟨w.heap.size + 1, 0, none⟩) 4 4] := by rw [← hW0]; exact Blk.at' (by simp)
  rw [hW0] at hlat
  rw [← hsz] at hlat
  have hj := Join_any 1 2 W0 hlat
  rw [dLab1, dJoin] at hj
  have HJ := Lib.hid hj
  have HB := Lib.hid hB
  have HBL := Lib.hid hbl
  have HW0 := Lib.hid hW0
  have HLAT := Lib.hid hlat
  have HSZ := Lib.hid hsz
  clear hj hB hbl hW0 hlat hsz
  go_enter Try.func11, Try.ntmps11
  go_wp2_with (fail)
  rw [HW0.out]
  refine HJ.out.mono ?_
  rintro e w1 ⟨rfl, hb1⟩
  have hp1 := HBL.out.below hb1 (by rw [HSZ.out]; omega)
  have hc0 : w1.cell? ⟨w.heap.size + 1 + 1, 0, none⟩ = some (.slice (some ⟨w.heap.size, 0, none⟩) 4 4) := by rw [hp1.cell]; rfl
  have hc1 : w1.cell? ⟨w.heap.size + 1 + 1, 1, none⟩ = some (.slice (some ⟨w.heap.size + 1, 0, none⟩) 4 4) := by rw [hp1.cell]; rfl
  have hh := Height_any 3 w1 ((HLAT.out.below hb1).more hb1.size)
  rw [dLab3, dHeight] at hh
  have HH := Lib.hid hh
  have HB1 := Lib.hid hb1
  clear hh hb1
  go_wp2_with (go_at_call 17; refine HH.out.mono ?_)
  rintro e w2 ⟨rfl, hb2⟩
  go_wp2
  go_ret
  exact ⟨rfl, (HB.out.trans (HB1.out.mono HB.out.size)).trans (hb2.mono (by have := HB.out.size; have := HB1.out.size; omega))⟩
end Go.Proofs.Ytgplnlpbpcpacaa
