/- The walks of slices.Grow and slices.Concat at []int (made out of TurC's). -/
import Derived.Lib.AppendZerosOnto
import Derived.Test.YtggcmkpafpjnoaaGRulB
import Derived.Test.YtggcmkpafpjnoaaGFree
namespace Go.Proofs.Ytggcmkpafpjnoaa
set_option maxRecDepth 100000
open Go.RowKit Go.Shelf
attribute [local go_sem] Oper.semAt_some

theorem Try.infoIntG : (Try.prog.info? 3).map (fun i => (i.zero, i.size, i.bytes)) = some (some (.int .i64 0), 1, 8) := by kernel_rfl
/-- append, by its run. -/
theorem wpList_app_run {P : Program} {ops : Array Oper} {rest : List Oper} {o : Oper} {a : Act} {w : World} {Q : Exit → Act → World → Prop} (hgd : o.guard = none) (s x : Operand) (t1 t2 : TypeId)
    (ho : o.op = .call { callee := .builtin .append, args := #[s, x], argTypes := #[t1, t2] }) (v1 v2 : Value) (hs : a.eval s = v1) (hx : a.eval x = v2) (v' : Value) (w' : World)
    (hr : (Builtin.append_ #[t1, t2] o.type #[v1, v2]).run P w = .ok v' w') (h : wpList P ops Q rest (a.put o.dst v') w') : wpList P ops Q (o :: rest) a w := by
  refine wpList_plain hgd fun K hK => ?_
  unfold Oper.wp execOp
  simp only [ho, resolve, invoke, builtin, Sem.run_bind, Sem.run_pure, Result.andThen_ok, List.map_toArray, List.map_cons, List.map_nil, hs, hx, hr]
  exact hK _ _ h
/-- A row of the call's own, with nothing in it yet. -/
def IRoomy (w : World) (n : Nat) (e : Ending) (w' : World) : Prop :=
  ∃ G, e = .returned (.slice (some ⟨w.heap.size, 0, none⟩) 0 G) ∧ n ≤ G ∧ w'.ownsRow w.heap.size 3 1 (.slice (some ⟨w.heap.size, 0, none⟩) 0 G) 0 [] ∧ Below w.heap.size w w'
set_option maxHeartbeats 4000000 in
theorem igrow_any (n : Nat) (w : World) (h0 : 0 < n) (hn : n ≤ 1000) : Calls Try.prog 23 #[.slice none 0 0, .int .i64 n] w (IRoomy w n) := by
  obtain ⟨i0, hi, hz0, hz1, hz2⟩ := info_parts Try.infoIntG
  obtain ⟨G, hG⟩ : ∃ G, grownCap w n 0 3 = G := ⟨_, rfl⟩
  have hGn : n ≤ G := by rw [← hG]; exact grownCap_ge w _ _ _
  have hG63 : G ≤ maxLen := by
    rw [← hG]
    exact grownCap_le_maxLen w n 0 3 (by unfold maxLen; omega)
  obtain ⟨cs, hcs⟩ : ∃ cs, #[] ++ Builtin.zeroCells (Value.int .i64 0).cells n ++ Builtin.zeroCells (Value.int .i64 0).cells (G - n) = cs := ⟨_, rfl⟩
  have hsz : cs.size = G * 1 := by
    rw [← hcs]
    simp [Builtin.zeroCells, Value.cells]
    omega
  have hrz : ∀ ty, (Builtin.append_ #[26, 3] ty #[.slice none 0 0, .int .i64 (n : Int)]).run Try.prog w = .ok (.slice (some ⟨w.heap.size, 0, none⟩) n G) (w.drew.alloc (.cells cs 3)) := fun ty => by
    have h := Lib.run_append_grow_zeros w 26 3 ty 3 i0 (.int .i64 0) .i64 .i64 Try.underlying26 Try.underlying3 hi hz0 none 0 0 [] (run_firstCells_none w.drew i0.size 0 0 0) n h0 (by omega) (by omega) (by omega)
      (by rw [hz2]; omega) (by rw [Nat.zero_add]; exact growslice_fits (by omega) (by rw [hz2]; omega))
    rw [Nat.zero_add, hG, show (([] : List Value).toArray) = #[] from rfl, hcs] at h
    exact h
  have hown := World.ownsRow_made (base := w.heap.size) (e := 3) (size := 1) w.drew cs G (Nat.le_refl _) hG63 hsz
  have HOWN := Lib.hid hown
  have HBB := Lib.hid (((Below.refl _ w).drew).alloc (Nat.le_refl _) (.cells cs 3))
  clear hsz hown hcs hG hi hz0 hz1 hz2
  have hG2 : G ≤ 9223372036854775807 := hG63
  go_enter Try.func23, Try.ntmps23
  have HRZ := Lib.hid hrz
  clear hrz
  go_wp2_with (at_builtin; refine wpList_app_run rfl _ _ 26 3 rfl _ _ rfl rfl _ _ (HRZ.out _) ?_)
  go_wp2
  go_ret
  exact ⟨G, rfl, hGn, HOWN.out, HBB.out⟩
theorem ints_app (a b : List Int) : ints (a ++ b) = ints a ++ ints b := by simp [ints]
theorem ints_len (a : List Int) : (ints a).length = a.length := by simp [ints]
/-- What Concat hands back. -/
def IJoined3 (w : World) (l : List Int) (e : Ending) (w' : World) : Prop := ∃ v, e = .returned v ∧ w'.ownsRow w.heap.size 3 1 v l.length (ints l) ∧ Below w.heap.size w w'
/-- The rows so far. -/
def ifirsts (L0 L1 L2 : List Int) (k : Nat) : List Int := if k = 0 then [] else if k = 1 then L0 else if k = 2 then L0 ++ L1 else L0 ++ L1 ++ L2
set_option maxHeartbeats 8000000 in
theorem iconcat_any {ad0 ad1 ad2 : Addr} {c0 c1 c2 g : Nat} {L0 L1 L2 : List Int} (w : World)
    (e0 : w.cell? ⟨g, 0, none⟩ = some (.slice (some ad0) L0.length c0)) (e1 : w.cell? ⟨g, 1, none⟩ = some (.slice (some ad1) L1.length c1)) (e2 : w.cell? ⟨g, 2, none⟩ = some (.slice (some ad2) L2.length c2))
    (b0 : ad0.block < w.heap.size) (b1 : ad1.block < w.heap.size) (b2 : ad2.block < w.heap.size)
    (r0 : ∀ j u, (ints L0)[j]? = some u → w.cell? (ad0.add j) = some u) (r1 : ∀ j u, (ints L1)[j]? = some u → w.cell? (ad1.add j) = some u) (r2 : ∀ j u, (ints L2)[j]? = some u → w.cell? (ad2.add j) = some u)
    (hpos : 0 < L0.length + L1.length + L2.length) (hle : L0.length + L1.length + L2.length ≤ 1000) :
    Calls Try.prog 12 #[.slice (some ⟨g, 0, none⟩) 3 3] w (IJoined3 w (L0 ++ L1 ++ L2)) := by
  obtain ⟨i0, hi, hz0, hz1, hz2⟩ := info_parts Try.infoIntG
  have hgb : g < w.heap.size := World.block_lt_of_cell? w ⟨g, 0, none⟩ e0
  obtain ⟨n0, hn0⟩ : ∃ n, L0.length = n := ⟨_, rfl⟩
  obtain ⟨n1, hn1⟩ : ∃ n, L1.length = n := ⟨_, rfl⟩
  obtain ⟨n2, hn2⟩ : ∃ n, L2.length = n := ⟨_, rfl⟩
  have R0 := Lib.hid r0
  have R1 := Lib.hid r1
  have R2 := Lib.hid r2
  have N0 := Lib.hid hn0
  have N1 := Lib.hid hn1
  have N2 := Lib.hid hn2
  rw [hn0] at e0
  rw [hn1] at e1
  rw [hn2] at e2
  rw [hn0, hn1, hn2] at hpos hle
  have E0 := Lib.hid e0
  have E1 := Lib.hid e1
  have E2 := Lib.hid e2
  have HGROW := Lib.hid (fun W => igrow_any (n0 + n1 + n2) W hpos hle)
  have hnew : ∀ w1 : World, Below w.heap.size w w1 → True := fun _ _ => trivial
  clear r0 r1 r2 hn0 hn1 hn2 hnew
  go_enter Try.func12, Try.ntmps12
  go_wp2
  go_loopw [3, 11] (fun a i wr => ∃ (k : Nat), k ≤ 3 ∧ i = .int .i64 k ∧ a = .int .i64 ((if k = 0 then 0 else if k = 1 then n0 else if k = 2 then n0 + n1 else n0 + n1 + n2 : Nat) : Int) ∧ wr = w) (fun _ i _ => 3 - (intOf i).toNat)
  case atStart => exact ⟨0, by decide, rfl, rfl, rfl⟩
  case round =>
    obtain ⟨k, hk, rfl, rfl, hwr⟩ := hrel
    obtain rfl := hwr.symm
    rcases (by omega : k = 0 ∨ k = 1 ∨ k = 2 ∨ k = 3) with rfl | rfl | rfl | rfl
    · go_wp2
      go_roundw
      case rel => exact ⟨1, by decide, rfl, by simp, trivial⟩
      case measure => simp [intOf]
    · go_wp2
      go_roundw
      case rel => exact ⟨2, by decide, rfl, by simp, trivial⟩
      case measure => simp [intOf]
    · go_wp2
      go_roundw
      case rel => exact ⟨3, by decide, rfl, by simp, trivial⟩
      case measure => simp [intOf]
    · have HG := Lib.hid (HGROW.out w)
      clear HGROW
      go_wp2_with (fail)
      refine HG.out.mono ?_
      rintro e w1 ⟨G, rfl, hGn, hown, hbw⟩
      have HB1 := Lib.hid hbw
      have HO1 : Hid (w1.ownsRow w.heap.size 3 1 (.slice (some ⟨w.heap.size, 0, none⟩) 0 G) (ifirsts L0 L1 L2 0).length (ints (ifirsts L0 L1 L2 0))) := Lib.hid hown
      clear hown hbw e0 e1 e2 HG
      go_wp2
      go_loopw [6, 27] (fun v i wr => ∃ (k : Nat), k ≤ 3 ∧ i = .int .i64 k ∧ Hid (wr.ownsRow w.heap.size 3 1 v (ifirsts L0 L1 L2 k).length (ints (ifirsts L0 L1 L2 k))) ∧ Hid (Below w.heap.size w wr)) (fun _ i _ => 3 - (intOf i).toNat)
      case atStart => exact ⟨0, by decide, rfl, HO1, HB1⟩
      case round =>
        clear HB1 HO1
        obtain ⟨k, hk, rfl, HO, HB⟩ := hrel
        have hown := HO.out
        obtain ⟨An, cn, rfl⟩ := ownT_slice hown
        rcases (by omega : k = 0 ∨ k = 1 ∨ k = 2 ∨ k = 3) with rfl | rfl | rfl | rfl
        · have hc := (HB.out.cell (p := ⟨g, 0, none⟩) hgb).trans E0.out
          have hlen : (ifirsts L0 L1 L2 0).length ≤ 1000 := by
            have h0 := N0.out
            have h1 := N1.out
            have h2 := N2.out
            first | (simp [ifirsts]; done) | (simp [ifirsts]; omega)
          go_wp2_with (at_builtin; refine wpList_append_own _ rfl _ _ 26 rfl w.heap.size 3 i0 (.int .i64 0) 1 8 Try.underlying26 hi hz0 hz1 hz2 rfl (by decide) _ _ _ rfl hown ad0 n0 c0 (ints L0) rfl ?c0 ?c1 ?c2 ?c3 ?c4 ?c5 ?_)
          case c0 => rw [ints_len, N0.out, Nat.mul_one]
          case c1 => exact fun j u hu => (HB.out.cell (by rw [add_block]; exact b0)).trans (R0.out j u hu)
          case c2 =>
            intro u hu
            obtain ⟨x, _, rfl⟩ := List.mem_map.1 hu
            rfl
          case c3 => unfold maxLen; omega
          case c4 => omega
          case c5 => exact HB.out.size
          intro v' w' hown' hgrow _
          have HB' := Lib.hid (HB.out.grown hgrow HB.out.size (fun k he => (hown.lt k he).1))
          have HO' : Hid (w'.ownsRow w.heap.size 3 1 v' (ifirsts L0 L1 L2 1).length (ints (ifirsts L0 L1 L2 1))) := by
            have e : ifirsts L0 L1 L2 1 = ifirsts L0 L1 L2 0 ++ L0 := by simp [ifirsts]
            rw [e, List.length_append, ints_app, N0.out]
            exact hown'
          clear hown' hgrow hc hown
          obtain ⟨A', c', rfl⟩ := ownT_slice HO'.out
          go_wp2
          go_roundw
          case rel => exact ⟨1, by decide, rfl, HO', HB'⟩
          case measure => simp [intOf]
        · have hc := (HB.out.cell (p := ⟨g, 1, none⟩) hgb).trans E1.out
          have hlen : (ifirsts L0 L1 L2 1).length ≤ 1000 := by
            have h0 := N0.out
            have h1 := N1.out
            have h2 := N2.out
            first | (simp [ifirsts]; done) | (simp [ifirsts]; omega)
          go_wp2_with (at_builtin; refine wpList_append_own _ rfl _ _ 26 rfl w.heap.size 3 i0 (.int .i64 0) 1 8 Try.underlying26 hi hz0 hz1 hz2 rfl (by decide) _ _ _ rfl hown ad1 n1 c1 (ints L1) rfl ?c0 ?c1 ?c2 ?c3 ?c4 ?c5 ?_)
          case c0 => rw [ints_len, N1.out, Nat.mul_one]
          case c1 => exact fun j u hu => (HB.out.cell (by rw [add_block]; exact b1)).trans (R1.out j u hu)
          case c2 =>
            intro u hu
            obtain ⟨x, _, rfl⟩ := List.mem_map.1 hu
            rfl
          case c3 => unfold maxLen; omega
          case c4 => omega
          case c5 => exact HB.out.size
          intro v' w' hown' hgrow _
          have HB' := Lib.hid (HB.out.grown hgrow HB.out.size (fun k he => (hown.lt k he).1))
          have HO' : Hid (w'.ownsRow w.heap.size 3 1 v' (ifirsts L0 L1 L2 2).length (ints (ifirsts L0 L1 L2 2))) := by
            have e : ifirsts L0 L1 L2 2 = ifirsts L0 L1 L2 1 ++ L1 := by simp [ifirsts]
            rw [e, List.length_append, ints_app, N1.out]
            exact hown'
          clear hown' hgrow hc hown
          obtain ⟨A', c', rfl⟩ := ownT_slice HO'.out
          go_wp2
          go_roundw
          case rel => exact ⟨2, by decide, rfl, HO', HB'⟩
          case measure => simp [intOf]
        · have hc := (HB.out.cell (p := ⟨g, 2, none⟩) hgb).trans E2.out
          have hlen : (ifirsts L0 L1 L2 2).length ≤ 1000 := by
            have h0 := N0.out
            have h1 := N1.out
            have h2 := N2.out
            first | (simp [ifirsts]; done) | (simp [ifirsts]; omega)
          go_wp2_with (at_builtin; refine wpList_append_own _ rfl _ _ 26 rfl w.heap.size 3 i0 (.int .i64 0) 1 8 Try.underlying26 hi hz0 hz1 hz2 rfl (by decide) _ _ _ rfl hown ad2 n2 c2 (ints L2) rfl ?c0 ?c1 ?c2 ?c3 ?c4 ?c5 ?_)
          case c0 => rw [ints_len, N2.out, Nat.mul_one]
          case c1 => exact fun j u hu => (HB.out.cell (by rw [add_block]; exact b2)).trans (R2.out j u hu)
          case c2 =>
            intro u hu
            obtain ⟨x, _, rfl⟩ := List.mem_map.1 hu
            rfl
          case c3 => unfold maxLen; omega
          case c4 => omega
          case c5 => exact HB.out.size
          intro v' w' hown' hgrow _
          have HB' := Lib.hid (HB.out.grown hgrow HB.out.size (fun k he => (hown.lt k he).1))
          have HO' : Hid (w'.ownsRow w.heap.size 3 1 v' (ifirsts L0 L1 L2 3).length (ints (ifirsts L0 L1 L2 3))) := by
            have e : ifirsts L0 L1 L2 3 = ifirsts L0 L1 L2 2 ++ L2 := by simp [ifirsts]
            rw [e, List.length_append, ints_app, N2.out]
            exact hown'
          clear hown' hgrow hc hown
          obtain ⟨A', c', rfl⟩ := ownT_slice HO'.out
          go_wp2
          go_roundw
          case rel => exact ⟨3, by decide, rfl, HO', HB'⟩
          case measure => simp [intOf]
        · go_wp2
          go_ret
          exact ⟨_, rfl, HO.out, HB.out⟩
end Go.Proofs.Ytggcmkpafpjnoaa
