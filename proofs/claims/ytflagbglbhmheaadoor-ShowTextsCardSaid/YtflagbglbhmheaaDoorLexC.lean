/- Walks of pieces and first. -/
import Derived.Test.YtflagbglbhmheaaDoorLexA
namespace Go.Proofs.YtflagbglbhmheaaDoor
set_option maxRecDepth 100000
open Go.RowKit Go.Shelf

/-- The closure that run makes. -/
theorem lexRun_any (g : FuncId) (w : World) : Calls Tryd.prog 54 #[.func (.func g) #[] #[]] w fun e w' => e = .returned (.func (.func 68) #[] #[.pointer (some ⟨w.heap.size, 0, none⟩)]) ∧ w.alloc (.cells #[.func (.func g) #[] #[]] 114) = w' := by
  have hmf : ∀ (fn : Fn) (first cap : Array Value) (w : World), (Instr.makeFunc fn first cap).run Tryd.prog w = .ok (.func fn first cap) w := fun _ _ _ _ => rfl
  go_enter Tryd.func54, Tryd.ntmps54
  go_wp2
  go_ret
  exact ⟨rfl, rfl⟩
theorem behind_any (u : ByteArray) (g : FuncId) (cap : Array Value) (w : World) : Calls Tryd.prog 56 #[.string u, .func (.func g) #[] cap] w fun e w' => e = .returned (.func (.func 69) #[] #[.pointer (some ⟨w.heap.size, 0, none⟩), .pointer (some ⟨w.heap.size + 1, 0, none⟩)]) ∧ (w.alloc (.cells #[.string u] 9)).alloc (.cells #[.func (.func g) #[] cap] 112) = w' := by
  have hmf : ∀ (fn : Fn) (first cap : Array Value) (w : World), (Instr.makeFunc fn first cap).run Tryd.prog w = .ok (.func fn first cap) w := fun _ _ _ _ => rfl
  go_enter Tryd.func56, Tryd.ntmps56
  go_wp2
  go_ret
  refine ⟨by simp, rfl⟩

theorem blk_at {W : World} {g : Nat} {t : TypeId} {cs : Array Value} (h : W.heap.size = g) : Blk (W.alloc (.cells cs t)) g t cs := h ▸ Blk.new W t cs
theorem seven_blks (w : World) (s1 s2 s3 s4 s5 s6 s7 : TypeId) (c1 c2 c3 c4 c5 c6 c7 : Array Value) :
    Blk (((((((w.alloc (.cells c1 s1)).alloc (.cells c2 s2)).alloc (.cells c3 s3)).alloc (.cells c4 s4)).alloc (.cells c5 s5)).alloc (.cells c6 s6)).alloc (.cells c7 s7)) w.heap.size s1 c1 ∧
    Blk (((((((w.alloc (.cells c1 s1)).alloc (.cells c2 s2)).alloc (.cells c3 s3)).alloc (.cells c4 s4)).alloc (.cells c5 s5)).alloc (.cells c6 s6)).alloc (.cells c7 s7)) (w.heap.size + 1) s2 c2 ∧
    Blk (((((((w.alloc (.cells c1 s1)).alloc (.cells c2 s2)).alloc (.cells c3 s3)).alloc (.cells c4 s4)).alloc (.cells c5 s5)).alloc (.cells c6 s6)).alloc (.cells c7 s7)) (w.heap.size + 1 + 1) s3 c3 ∧
    Blk (((((((w.alloc (.cells c1 s1)).alloc (.cells c2 s2)).alloc (.cells c3 s3)).alloc (.cells c4 s4)).alloc (.cells c5 s5)).alloc (.cells c6 s6)).alloc (.cells c7 s7)) (w.heap.size + 1 + 1 + 1) s4 c4 ∧
    Blk (((((((w.alloc (.cells c1 s1)).alloc (.cells c2 s2)).alloc (.cells c3 s3)).alloc (.cells c4 s4)).alloc (.cells c5 s5)).alloc (.cells c6 s6)).alloc (.cells c7 s7)) (w.heap.size + 1 + 1 + 1 + 1) s5 c5 ∧
    Blk (((((((w.alloc (.cells c1 s1)).alloc (.cells c2 s2)).alloc (.cells c3 s3)).alloc (.cells c4 s4)).alloc (.cells c5 s5)).alloc (.cells c6 s6)).alloc (.cells c7 s7)) (w.heap.size + 1 + 1 + 1 + 1 + 1) s6 c6 ∧
    Blk (((((((w.alloc (.cells c1 s1)).alloc (.cells c2 s2)).alloc (.cells c3 s3)).alloc (.cells c4 s4)).alloc (.cells c5 s5)).alloc (.cells c6 s6)).alloc (.cells c7 s7)) (w.heap.size + 1 + 1 + 1 + 1 + 1 + 1) s7 c7 :=
  ⟨((((((blk_at rfl).alloc _).alloc _).alloc _).alloc _).alloc _).alloc _, (((((blk_at (by simp)).alloc _).alloc _).alloc _).alloc _).alloc _, ((((blk_at (by simp)).alloc _).alloc _).alloc _).alloc _, (((blk_at (by simp)).alloc _).alloc _).alloc _, ((blk_at (by simp)).alloc _).alloc _, (blk_at (by simp)).alloc _, blk_at (by simp)⟩
/-- What pieces lays. -/
def piecesL (a b1 b2 c d : Nat) : List Value :=
  [.int .i64 (-1), .func (.func 68) #[] #[.pointer (some ⟨a, 0, none⟩)],
   .int .i64 (-1), .func (.func 69) #[] #[.pointer (some ⟨b1, 0, none⟩), .pointer (some ⟨b2, 0, none⟩)],
   .int .i64 1, .func (.func 68) #[] #[.pointer (some ⟨c, 0, none⟩)],
   .int .i64 2, .func (.func 68) #[] #[.pointer (some ⟨d, 0, none⟩)],
   .int .i64 3, .func (.func 60) #[] #[]]
def Pieces (w : World) (B : Nat) (ad : Addr) : Prop := ∃ a b1 b2 b3 c d : Nat, a < B ∧ b1 < B ∧ b2 < B ∧ b3 < B ∧ c < B ∧ d < B ∧
    w.cell? ⟨a, 0, none⟩ = some (.func (.func 55) #[] #[]) ∧
    w.cell? ⟨b1, 0, none⟩ = some (.string { data := #[35] }) ∧
    w.cell? ⟨b2, 0, none⟩ = some (.func (.func 68) #[] #[.pointer (some ⟨b3, 0, none⟩)]) ∧
    w.cell? ⟨b3, 0, none⟩ = some (.func (.func 57) #[] #[]) ∧
    w.cell? ⟨c, 0, none⟩ = some (.func (.func 58) #[] #[]) ∧
    w.cell? ⟨d, 0, none⟩ = some (.func (.func 59) #[] #[]) ∧
    Row w B (some ad) (piecesL a b1 b2 c d)
set_option maxRecDepth 100000 in
set_option maxHeartbeats 2000000 in
theorem pieces_any (w : World) : Calls Tryd.prog 39 #[] w fun e w' => ∃ ad, e = .returned (.slice (some ad) 5 5) ∧ Pieces w' w'.heap.size ad ∧ Below w.heap.size w w' := by
  go_enter Tryd.func39, Tryd.ntmps39
  go_wp2_with (fail)
  refine (lexRun_any _ _).mono ?_
  rintro e w' ⟨rfl, rfl⟩
  go_wp2_with (fail)
  refine (lexRun_any _ _).mono ?_
  rintro e w' ⟨rfl, rfl⟩
  go_wp2_with (fail)
  refine (behind_any _ _ _ _).mono ?_
  rintro e w' ⟨rfl, rfl⟩
  go_wp2_with (fail)
  refine (lexRun_any _ _).mono ?_
  rintro e w' ⟨rfl, rfl⟩
  go_wp2_with (fail)
  refine (lexRun_any _ _).mono ?_
  rintro e w' ⟨rfl, rfl⟩
  go_wp2
  go_ret
  obtain ⟨k1, k2, k3, k4, k5, k6, k7⟩ := seven_blks w 114 114 9 112 114 114 116
    #[.func (.func 55) #[] #[]] #[.func (.func 57) #[] #[]] #[.string { data := #[35] }] #[.func (.func 68) #[] #[.pointer (some ⟨w.heap.size + 1, 0, none⟩)]] #[.func (.func 58) #[] #[]] #[.func (.func 59) #[] #[]]
    (piecesL w.heap.size (w.heap.size + 1 + 1) (w.heap.size + 1 + 1 + 1) (w.heap.size + 1 + 1 + 1 + 1) (w.heap.size + 1 + 1 + 1 + 1 + 1)).toArray
  refine ⟨_, rfl, ⟨w.heap.size, w.heap.size + 1 + 1, w.heap.size + 1 + 1 + 1, w.heap.size + 1, w.heap.size + 1 + 1 + 1 + 1, w.heap.size + 1 + 1 + 1 + 1 + 1, k1.lt, k3.lt, k4.lt, k2.lt, k5.lt, k6.lt, k1.cell 0, k3.cell 0, k4.cell 0, k2.cell 0, k5.cell 0, k6.cell 0, k7.row.more k7.lt⟩, ?_⟩
  repeat (first | exact Below.refl _ _ | refine Below.alloc ?_ (by simp <;> omega) _)
end Go.Proofs.YtflagbglbhmheaaDoor
