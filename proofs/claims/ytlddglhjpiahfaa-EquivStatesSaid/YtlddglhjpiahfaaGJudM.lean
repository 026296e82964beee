/- The walks of slices.Grow and slices.Concat at []int (made out of TurC's). -/
import Derived.Lib.AppendZerosOnto
import Derived.Test.YtlddglhjpiahfaaGRulA
import Derived.Test.YtlddglhjpiahfaaGFree
namespace Go.Proofs.Ytlddglhjpiahfaa
set_option maxRecDepth 100000
open Go.RowKit Go.Shelf
attribute [local go_sem] Oper.semAt_some

theorem Try.infoIntG : (Try.prog.info? 3).map (fun i => (i.zero, i.size, i.bytes)) = some (some (.int .i64 0), 1, 8) := by kernel_rfl
/-- append, by its run. -/
theorem wpList_app_run {P : Program} {ops : Array Oper} {rest : List Oper} {o : Oper} {a : Act} {w : World} {Q : Exit → Act → World → Prop} (hgd : o.guard = none) (s x : Operand) (t1 t2 : TypeId)
    (ho : o.op = .call { callee := .builtin .append, args := #[s, x], argTypes := #[t1, t2] }) (v1 v2 : Value) (hs : a.eval s = v1) (hx : a.eval x = v2) (v' : Value) (w' : World)
    (hr : (Builtin.append_ #[t1, t2] o.type #[v1, v2]).run P w = .ok v' w') (h : wpList P ops Q rest (a.put o.dst v') w') : wpList P ops Q (o :: rest) a w := by
  refine wpList_plain hgd fun K hK => ?_
  unfold Oper.wp execOp
  simp only [ho, resolve, invoke, builtin, Sem.run_bind, Sem.run_pure, Result.andThen_ok, List.map_toArray, List.map_cons, List.map_nil, hs, hx, hr]
  exact hK _ _ h
/-- A row of the call's own, with nothing in it yet. -/
def IRoomy (w : World) (n : Nat) (e : Ending) (w' : World) : Prop :=
  ∃ G, e = .returned (.slice (some ⟨w.heap.size, 0, none⟩) 0 G) ∧ n ≤ G ∧ w'.ownsRow w.heap.size 3 1 (.slice (some ⟨w.heap.size, 0, none⟩) 0 G) 0 [] ∧ Below w.heap.size w w'
set_option maxHeartbeats 4000000 in
theorem igrow_any (n : Nat) (w : World) (h0 : 0 < n) (hn : n ≤ 1000) : Calls Try.prog 89 #[.slice none 0 0, .int .i64 n] w (IRoomy w n) := by
  obtain ⟨i0, hi, hz0, hz1, hz2⟩ := info_parts Try.infoIntG
  obtain ⟨G, hG⟩ : ∃ G, grownCap w n 0 3 = G := ⟨_, rfl⟩
  have hGn : n ≤ G := by rw [← hG]; exact grownCap_ge w _ _ _
  have hG63 : G ≤ maxLen := by
    rw [← hG]
    exact grownCap_le_maxLen w n 0 3 (by unfold maxLen; omega)
  obtain ⟨cs, hcs⟩ : ∃ cs, #[] ++ Builtin.zeroCells (Value.int .i64 0).cells n ++ Builtin.zeroCells (Value.int .i64 0).cells (G - n) = cs := ⟨_, rfl⟩
  have hsz : cs.size = G * 1 := by
    rw [← hcs]
    simp [Builtin.zeroCells, Value.cells]
    omega
  have hrz : ∀ ty, (Builtin.append_ #[83, 3] ty #[.slice none 0 0, .int .i64 (n : Int)]).run Try.prog w = .ok (.slice (some ⟨w.heap.size, 0, none⟩) n G) (w.drew.alloc (.cells cs 3)) := fun ty => by
    have h := Lib.run_append_grow_zeros w 83 3 ty 3 i0 (.int .i64 0) .i64 .i64 Try.underlying83 Try.underlying3 hi hz0 none 0 0 [] (run_firstCells_none w.drew i0.size 0 0 0) n h0 (by omega) (by omega) (by omega)
      (by rw [hz2]; omega) (by rw [Nat.zero_add]; exact growslice_fits (by omega) (by rw [hz2]; omega))
    rw [Nat.zero_add, hG, show (([] : List Value).toArray) = #[] from rfl, hcs] at h
    exact h
  have hown := World.ownsRow_made (base := w.heap.size) (e := 3) (size := 1) w.drew cs G (Nat.le_refl _) hG63 hsz
  have HOWN := Lib.hid hown
  have HBB := Lib.hid (((Below.refl _ w).drew).alloc (Nat.le_refl _) (.cells cs 3))
  clear hsz hown hcs hG hi hz0 hz1 hz2
  have hG2 : G ≤ 9223372036854775807 := hG63
  go_enter Try.func89, Try.ntmps89
  have HRZ := Lib.hid hrz
  clear hrz
  go_wp2_with (at_builtin; refine wpList_app_run rfl _ _ 83 3 rfl _ _ rfl rfl _ _ (HRZ.out _) ?_)
  go_wp2
  go_ret
  exact ⟨G, rfl, hGn, HOWN.out, HBB.out⟩
theorem ints_app (a b : List Int) : ints (a ++ b) = ints a ++ ints b := by simp [ints]
theorem ints_len (a : List Int) : (ints a).length = a.length := by simp [ints]
end Go.Proofs.Ytlddglhjpiahfaa
