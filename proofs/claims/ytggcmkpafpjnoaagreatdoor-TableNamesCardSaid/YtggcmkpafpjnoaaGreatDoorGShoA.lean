/- Walks of alone, within, between (by gen_sho.py). -/
import Derived.Handy
import Derived.StillTailTactics
import Derived.Test.YtggcmkpafpjnoaaGreatDoorGShoW
namespace Go.Proofs.YtggcmkpafpjnoaaGreatDoor
set_option maxRecDepth 100000
open Go.RowKit Go.Shelf

set_option maxHeartbeats 2000000 in
theorem aloneC_any (n : Nat) (h1 : 1 ≤ n) (h2 : n ≤ 13) (w : World) (h : Wds w) : Calls Tryz.prog 101 #[.int .i64 n] w (Gives w (Sh.one n)) := by
  have hc := h.2 n h1 h2
  have h0 := h.lt
  have hbd := fun W => binds_any (n : Int) W
  have HB := Lib.hid hbd
  unfold Gives Sh.one
  generalize Sh.nameOf (n : Int) = s at *
  generalize Sh.binds (n : Int) = b at *
  clear h hbd
  go_enter Tryz.func101, Tryz.ntmps101
  go_wp2
  go_region_with (go_at_call 123; refine (HB.out _).mono ?_; rintro e w1 ⟨rfl, rfl⟩)
  all_goals go_wp2
  all_goals
    go_returns
    exact ⟨rfl, (((Below.refl _ w).alloc (Nat.le_refl _) _).drew)⟩

set_option maxHeartbeats 2000000 in
theorem aloneL_any (n : Nat) (h1 : 1 ≤ n) (h2 : n ≤ 13) (w : World) (h : Wds w) : Calls Tryz.prog 107 #[.int .i64 n] w (Gives w (Sh.one n)) := by
  have hc := h.2 n h1 h2
  have h0 := h.lt
  have hbd := fun W => binds_any (n : Int) W
  have HB := Lib.hid hbd
  unfold Gives Sh.one
  generalize Sh.nameOf (n : Int) = s at *
  generalize Sh.binds (n : Int) = b at *
  clear h hbd
  go_enter Tryz.func107, Tryz.ntmps107
  go_wp2
  go_region_with (go_at_call 123; refine (HB.out _).mono ?_; rintro e w1 ⟨rfl, rfl⟩)
  all_goals go_wp2
  all_goals
    go_returns
    exact ⟨rfl, (((Below.refl _ w).alloc (Nat.le_refl _) _).drew)⟩

set_option maxHeartbeats 2000000 in
theorem withinC_any (x : Sh.Th) (o c : ByteArray) (hx : Sh.wt x ≤ 1000000) (ho : o.size ≤ 10) (hc : c.size ≤ 10) (w : World) : Calls Tryz.prog 125 #[thv x, .string o, .string c] w (Gives w (Sh.inBr o c x)) := by
  obtain ⟨s, b, d⟩ := x
  unfold Sh.wt at hx
  dsimp only at hx
  unfold thv Gives Sh.inBr
  dsimp only
  have hno : ¬ 9223372036854775807 < o.size + s.size := by omega
  have hno2 : ¬ 9223372036854775807 < o.size + s.size + c.size := by omega
  have hd : d ≤ 1000000 := by omega
  clear hx ho hc
  go_enter Tryz.func125, Tryz.ntmps125
  go_wp2
  go_returns
  exact ⟨rfl, (((Below.refl _ w).alloc (Nat.le_refl _) _).alloc (by simp) _)⟩

set_option maxHeartbeats 2000000 in
theorem withinL_any (x : Sh.Th) (o c : ByteArray) (hx : Sh.wt x ≤ 1000000) (ho : o.size ≤ 10) (hc : c.size ≤ 10) (w : World) : Calls Tryz.prog 127 #[thv x, .string o, .string c] w (Gives w (Sh.inBr o c x)) := by
  obtain ⟨s, b, d⟩ := x
  unfold Sh.wt at hx
  dsimp only at hx
  unfold thv Gives Sh.inBr
  dsimp only
  have hno : ¬ 9223372036854775807 < o.size + s.size := by omega
  have hno2 : ¬ 9223372036854775807 < o.size + s.size + c.size := by omega
  have hd : d ≤ 1000000 := by omega
  clear hx ho hc
  go_enter Tryz.func127, Tryz.ntmps127
  go_wp2
  go_returns
  exact ⟨rfl, (((Below.refl _ w).alloc (Nat.le_refl _) _).alloc (by simp) _)⟩
end Go.Proofs.YtggcmkpafpjnoaaGreatDoor
