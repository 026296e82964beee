/- The walk of first. -/
import Derived.Test.YtmgaaejghfgbnaaLexC
import Derived.Laws.EntriesVeiled
namespace Go.Proofs.Ytmgaaejghfgbnaa
set_option maxRecDepth 100000
open Go.RowKit Go.Shelf

def Zs (r : List UInt8) (k : Nat) : Prop := (0 < k → Lx.run Lx.blank r = 0) ∧ (1 < k → Lx.comment r = 0) ∧ (2 < k → Lx.run Lx.letter r = 0) ∧ (3 < k → Lx.run Lx.digit r = 0) ∧ (4 < k → Lx.mark r = 0)
theorem first_at0 {r : List UInt8} (_ : Zs r 0) (h : 0 < Lx.run Lx.blank r) : Lx.first r = (-1, Lx.run Lx.blank r) := by
  unfold Lx.first
  rw [if_pos h]
theorem first_at1 {r : List UInt8} (z : Zs r 1) (h : 0 < Lx.comment r) : Lx.first r = (-1, Lx.comment r) := by
  unfold Lx.first
  rw [if_neg (by rw [z.1 (by decide)]; decide), if_pos h]
theorem first_at2 {r : List UInt8} (z : Zs r 2) (h : 0 < Lx.run Lx.letter r) : Lx.first r = (1, Lx.run Lx.letter r) := by
  unfold Lx.first
  rw [if_neg (by rw [z.1 (by decide)]; decide), if_neg (by rw [z.2.1 (by decide)]; decide), if_pos h]
theorem first_at3 {r : List UInt8} (z : Zs r 3) (h : 0 < Lx.run Lx.digit r) : Lx.first r = (2, Lx.run Lx.digit r) := by
  unfold Lx.first
  rw [if_neg (by rw [z.1 (by decide)]; decide), if_neg (by rw [z.2.1 (by decide)]; decide), if_neg (by rw [z.2.2.1 (by decide)]; decide), if_pos h]
theorem first_at4 {r : List UInt8} (z : Zs r 4) (h : 0 < Lx.mark r) : Lx.first r = (3, Lx.mark r) := by
  unfold Lx.first
  rw [if_neg (by rw [z.1 (by decide)]; decide), if_neg (by rw [z.2.1 (by decide)]; decide), if_neg (by rw [z.2.2.1 (by decide)]; decide), if_neg (by rw [z.2.2.2.1 (by decide)]; decide), if_pos h]
theorem first_end {r : List UInt8} (z : Zs r 5) : Lx.first r = (-1, 0) := by
  unfold Lx.first
  rw [if_neg (by rw [z.1 (by decide)]; decide), if_neg (by rw [z.2.1 (by decide)]; decide), if_neg (by rw [z.2.2.1 (by decide)]; decide), if_neg (by rw [z.2.2.2.1 (by decide)]; decide), if_neg (by rw [z.2.2.2.2 (by decide)]; decide)]
theorem zs_next0 {r : List UInt8} (_ : Zs r 0) (h : Lx.run Lx.blank r = 0) : Zs r 1 := ⟨fun _ => h, fun a => absurd a (by decide), fun a => absurd a (by decide), fun a => absurd a (by decide), fun a => absurd a (by decide)⟩
theorem zs_next1 {r : List UInt8} (z : Zs r 1) (h : Lx.comment r = 0) : Zs r 2 := ⟨fun _ => z.1 (by decide), fun _ => h, fun a => absurd a (by decide), fun a => absurd a (by decide), fun a => absurd a (by decide)⟩
theorem zs_next2 {r : List UInt8} (z : Zs r 2) (h : Lx.run Lx.letter r = 0) : Zs r 3 := ⟨fun _ => z.1 (by decide), fun _ => z.2.1 (by decide), fun _ => h, fun a => absurd a (by decide), fun a => absurd a (by decide)⟩
theorem zs_next3 {r : List UInt8} (z : Zs r 3) (h : Lx.run Lx.digit r = 0) : Zs r 4 := ⟨fun _ => z.1 (by decide), fun _ => z.2.1 (by decide), fun _ => z.2.2.1 (by decide), fun _ => h, fun a => absurd a (by decide)⟩
theorem zs_next4 {r : List UInt8} (z : Zs r 4) (h : Lx.mark r = 0) : Zs r 5 := ⟨fun _ => z.1 (by decide), fun _ => z.2.1 (by decide), fun _ => z.2.2.1 (by decide), fun _ => z.2.2.2.1 (by decide), fun _ => h⟩
theorem ret_first {r : List UInt8} {k : Int} {n : Nat} (h : Lx.first r = (k, n)) : Ending.returned (.tuple #[.int .i64 k, .int .i64 (n : Int)]) = .returned (.tuple #[.int .i64 (Lx.first r).1, .int .i64 ((Lx.first r).2 : Nat)]) := by rw [h]
theorem below_drawn {B : Nat} {a w : World} (h : Below B a w) (n : Nat) : Below B a (w.drewN n) := h.trans ⟨rfl, rfl, rfl, Nat.le_refl _, fun _ _ => rfl⟩
theorem addr_next (a : Addr) (m j : Nat) (hj : 0 < j) : a.add (m + j) = ⟨(a.add m).block, (a.add m).off + j, none⟩ := by
  unfold Addr.add
  rw [if_neg (by omega)]
  by_cases hm : m = 0
  · subst hm; simp
  · simp [hm, Nat.add_assoc]

end Go.Proofs.Ytmgaaejghfgbnaa
