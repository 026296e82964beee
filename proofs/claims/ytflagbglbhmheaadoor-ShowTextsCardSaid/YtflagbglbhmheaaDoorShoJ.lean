/- Walks of the reference's word, binds, two, within. -/
import Derived.Test.YtflagbglbhmheaaDoorShoI
namespace Go.Proofs.YtflagbglbhmheaaDoor
set_option maxRecDepth 100000
open Go.RowKit Go.Shelf

/-- A string is answered, and old memory stays. -/
def TellsS (w : World) (s : ByteArray) (e : Ending) (w' : World) : Prop := e = .returned (.string s) ∧ Below w.heap.size w w'
theorem op_cases {n : Int} (h : 1 ≤ n ∧ n ≤ 13) : n = 1 ∨ n = 2 ∨ n = 3 ∨ n = 4 ∨ n = 5 ∨ n = 6 ∨ n = 7 ∨ n = 8 ∨ n = 9 ∨ n = 10 ∨ n = 11 ∨ n = 12 ∨ n = 13 := by omega
set_option maxHeartbeats 4000000 in
theorem rWord_any (n : Int) (h : 1 ≤ n ∧ n ≤ 13) (w : World) : Calls Tryd.prog 36 #[.int .i64 n] w (TellsS w (Sh.nameOf n)) := by
  rcases op_cases h with rfl | rfl | rfl | rfl | rfl | rfl | rfl | rfl | rfl | rfl | rfl | rfl | rfl
  all_goals
    clear h
    go_enter Tryd.func36, Tryd.ntmps36
    go_wp2
    go_ret
    exact ⟨rfl, (Below.refl _ _).alloc (Nat.le_refl _) _⟩
theorem rBinds_any (n : Int) (h : 1 ≤ n ∧ n ≤ 13) (w : World) : Calls Tryd.prog 38 #[.int .i64 n] w fun e w' => e = .returned (.int .i64 (Sh.binds n : Nat)) ∧ w' = w := by
  rcases op_cases h with rfl | rfl | rfl | rfl | rfl | rfl | rfl | rfl | rfl | rfl | rfl | rfl | rfl
  all_goals
    clear h
    go_enter Tryd.func38, Tryd.ntmps38
    go_wp2
    go_ret
    exact ⟨rfl, rfl⟩
theorem rTwo5_any (n : Int) (h : 1 ≤ n ∧ n ≤ 13) (w : World) : Calls Tryd.prog 35 #[.int .i64 n] w fun e w' => e = .returned (.bool (!Sh.isLeaf n)) ∧ w' = w := by
  rcases op_cases h with rfl | rfl | rfl | rfl | rfl | rfl | rfl | rfl | rfl | rfl | rfl | rfl | rfl
  all_goals
    clear h
    go_enter Tryd.func35, Tryd.ntmps35
    go_wp2
    go_ret
    exact ⟨rfl, rfl⟩
/-- The reference's thing. -/
def Things (w : World) (s : ByteArray) (d f : Nat) (e : Ending) (w' : World) : Prop := e = .returned (.agg #[.string s, .int .i64 d, .int .i64 f]) ∧ Below w.heap.size w w'
set_option maxHeartbeats 4000000 in
theorem rWithin_no (s : ByteArray) (d f : Nat) (o p : Int) (m : Nat) (ho : 1 ≤ o ∧ o ≤ 13) (hm : m ≤ Sh.binds o) (w : World) : Calls Tryd.prog 37 #[.agg #[.string s, .int .i64 d, .int .i64 f], .int .i64 o, .int .i64 p, .int .i64 m] w (Things w s d f) := by
  have hb := fun W => rBinds_any o ho W
  have HB := Lib.hid hb
  generalize Sh.binds o = bo at *
  clear hb ho
  go_enter Tryd.func37, Tryd.ntmps37
  go_wp2_with (fail)
  refine (HB.out _).mono ?_
  rintro e w1 ⟨rfl, rfl⟩
  go_wp2
  go_returns
  exact ⟨rfl, ((Below.refl _ w).alloc (Nat.le_refl _) _).alloc (by simp) _⟩
set_option maxHeartbeats 4000000 in
theorem rWithin_yes (s : ByteArray) (d f : Nat) (o p : Int) (m : Nat) (ho : 1 ≤ o ∧ o ≤ 13) (hm : Sh.binds o < m) (hs : s.size ≤ 10000000) (hd : d ≤ 10000000) (w : World) : Calls Tryd.prog 37 #[.agg #[.string s, .int .i64 d, .int .i64 f], .int .i64 o, .int .i64 p, .int .i64 m] w (Things w (Sh.bOpen (Sh.square p) ++ s ++ Sh.bShut (Sh.square p)) (d + 1) f) := by
  have hb := fun W => rBinds_any o ho W
  have HB := Lib.hid hb
  generalize Sh.binds o = bo at *
  have hno : ¬ 9223372036854775807 < 1 + s.size := by omega
  have hno2 : ¬ 9223372036854775807 < 1 + s.size + 1 := by omega
  clear hb ho
  unfold Sh.square
  by_cases hp : 12 ≤ p
  · rw [decide_eq_true hp]
    go_enter Tryd.func37, Tryd.ntmps37
    go_wp2_with (fail)
    refine (HB.out _).mono ?_
    rintro e w1 ⟨rfl, rfl⟩
    go_wp2
    go_returns
    exact ⟨rfl, ((Below.refl _ w).alloc (Nat.le_refl _) _).alloc (by simp) _⟩
  · rw [decide_eq_false hp]
    go_enter Tryd.func37, Tryd.ntmps37
    go_wp2_with (fail)
    refine (HB.out _).mono ?_
    rintro e w1 ⟨rfl, rfl⟩
    go_wp2
    go_returns
    exact ⟨rfl, ((Below.refl _ w).alloc (Nat.le_refl _) _).alloc (by simp) _⟩
end Go.Proofs.YtflagbglbhmheaaDoor
