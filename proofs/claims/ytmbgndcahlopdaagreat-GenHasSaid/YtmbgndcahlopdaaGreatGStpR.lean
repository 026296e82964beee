/- law10's cut and rows (by gen_stpr.py, out of XStmJ and XTabU). -/
import Derived.Test.YtmbgndcahlopdaaGreatGCodE
import Derived.Test.YtmbgndcahlopdaaGreatGTabU
namespace Go.Proofs.YtmbgndcahlopdaaGreat
set_option maxRecDepth 100000
open Go.RowKit Go.Shelf
attribute [local go_sem] Oper.semAt_some
set_option maxHeartbeats 8000000 in
theorem scut_plain10 (pv pl : Int) (cA mA sA oA : Option Addr) (cn cc mn mc sn sc on oc cN mN sN oN : Nat) (hcN : cN = min 15 cn) (hmN : mN = min 15 mn) (hsN : sN = min 15 sn) (hoN : oN = min 15 on) (h1 : cn ≤ cc ∧ cc ≤ maxLen) (h2 : mn ≤ mc ∧ mc ≤ maxLen) (h3 : sn ≤ sc ∧ sc ≤ maxLen) (h4 : on ≤ oc ∧ oc ≤ maxLen) (w : World) :
    Calls Tryz.prog 5 #[.agg #[.int .i64 pv, .int .i64 pl, .slice cA cn cc, .slice mA mn mc, .slice sA sn sc, .slice oA on oc]] w fun e w' => e = .returned (.agg #[.int .i64 pv, .int .i64 pl, .slice cA cN cc, .slice mA mN mc, .slice sA sN sc, .slice oA oN oc]) ∧ Below w.heap.size w w' := by
  have i1 : min (cn : Int) 15 = (cN : Int) := by omega
  have i2 : min (mn : Int) 15 = (mN : Int) := by omega
  have i3 : min (sn : Int) 15 = (sN : Int) := by omega
  have i4 : min (on : Int) 15 = (oN : Int) := by omega
  have j1 : (cN ≤ cc) = True := eq_true (by omega)
  have j2 : (mN ≤ mc) = True := eq_true (by omega)
  have j3 : (sN ≤ sc) = True := eq_true (by omega)
  have j4 : (oN ≤ oc) = True := eq_true (by omega)
  have k1 : (cn : Int) ≤ 9223372036854775807 := by have := h1.2; unfold maxLen at this; omega
  have k2 : (mn : Int) ≤ 9223372036854775807 := by have := h2.2; unfold maxLen at this; omega
  have k3 : (sn : Int) ≤ 9223372036854775807 := by have := h3.2; unfold maxLen at this; omega
  have k4 : (on : Int) ≤ 9223372036854775807 := by have := h4.2; unfold maxLen at this; omega
  have hb0 := (((Below.refl _ w).alloc (Nat.le_refl _) (.cells #[.int .i64 pv, .int .i64 pl, .slice cA cn cc, .slice mA mn mc, .slice sA sn sc, .slice oA on oc] 35)).alloc (by simp) (.cells #[.int .i64 0, .int .i64 0, .slice none 0 0, .slice none 0 0, .slice none 0 0, .slice none 0 0] 35))
  obtain ⟨W0, hW0⟩ : ∃ W0, (w.alloc (.cells #[.int .i64 pv, .int .i64 pl, .slice cA cn cc, .slice mA mn mc, .slice sA sn sc, .slice oA on oc] 35)).alloc (.cells #[.int .i64 0, .int .i64 0, .slice none 0 0, .slice none 0 0, .slice none 0 0, .slice none 0 0] 35) = W0 := ⟨_, rfl⟩
  have hp0 : Blk W0 w.heap.size 35 #[.int .i64 pv, .int .i64 pl, .slice cA cn cc, .slice mA mn mc, .slice sA sn sc, .slice oA on oc] := hW0 ▸ (Blk.new _ _ _).alloc _
  have hq0 : Blk W0 (w.heap.size + 1) 35 #[.int .i64 0, .int .i64 0, .slice none 0 0, .slice none 0 0, .slice none 0 0, .slice none 0 0] := by
    have h1 := Blk.new (w.alloc (.cells #[.int .i64 pv, .int .i64 pl, .slice cA cn cc, .slice mA mn mc, .slice sA sn sc, .slice oA on oc] 35)) 35 #[.int .i64 0, .int .i64 0, .slice none 0 0, .slice none 0 0, .slice none 0 0, .slice none 0 0]
    rw [show (w.alloc (.cells #[.int .i64 pv, .int .i64 pl, .slice cA cn cc, .slice mA mn mc, .slice sA sn sc, .slice oA on oc] 35)).heap.size = w.heap.size + 1 by simp] at h1
    rw [← hW0]; exact h1
  rw [hW0] at hb0
  have a0 : W0.cell? ⟨w.heap.size, 0, none⟩ = some (.int .i64 pv) := hp0.cell 0
  have a1 : W0.cell? ⟨w.heap.size, 1, none⟩ = some (.int .i64 pl) := hp0.cell 1
  have a2 : W0.cell? ⟨w.heap.size, 2, none⟩ = some (.slice cA cn cc) := hp0.cell 2
  have a3 : W0.cell? ⟨w.heap.size, 3, none⟩ = some (.slice mA mn mc) := hp0.cell 3
  have a4 : W0.cell? ⟨w.heap.size, 4, none⟩ = some (.slice sA sn sc) := hp0.cell 4
  have a5 : W0.cell? ⟨w.heap.size, 5, none⟩ = some (.slice oA on oc) := hp0.cell 5
  have f2 : W0.frozen? ⟨w.heap.size, 2, none⟩ = false := hp0.frozen 2
  have f3 : W0.frozen? ⟨w.heap.size, 3, none⟩ = false := hp0.frozen 3
  have f4 : W0.frozen? ⟨w.heap.size, 4, none⟩ = false := hp0.frozen 4
  have f5 : W0.frozen? ⟨w.heap.size, 5, none⟩ = false := hp0.frozen 5
  have HP := Lib.hid hp0
  have HQ := Lib.hid hq0
  have HB := Lib.hid hb0
  clear hb0 hp0 hq0 hcN hmN hsN hoN h1 h2 h3 h4
  go_enter Tryz.func5, Tryz.ntmps5
  go_wp2_with (fail)
  refine Free.region_seq [29, 31, 33, 35] [1, 3, 8, 10, 15, 17, 22, 24] 29 (fun W' => W'.cell? ⟨w.heap.size, 2, none⟩ = some (.slice cA cn cc) ∧ W'.cell? ⟨w.heap.size, 3, none⟩ = some (.slice mA mn mc) ∧ W'.cell? ⟨w.heap.size, 4, none⟩ = some (.slice sA sn sc) ∧ W'.cell? ⟨w.heap.size, 5, none⟩ = some (.slice oA on oc)) (by kernel_rfl) (by kernel_rfl) (by kernel_rfl) (by kernel_rfl) (⟨a2, a3, a4, a5⟩) (fun ops hops => ?_)
  clear hops
  iterate 29
    refine Free.Seq.quiet (v := ?_) (a' := ?_) rfl rfl (fun W' hW' => ?_) ?_ ?_
    rotate_left 2
    · first | obtain ⟨s0, s1, s2, s3⟩ := hW' rfl | skip
      go_simp
      try with_reducible rfl
    · simp only [Act.put, List.setIfInBounds_toArray, List.set_cons_zero, List.set_cons_succ]
      try with_reducible rfl
  refine Free.Seq.loud_ rfl (.inl rfl) (fun K hK => ?_)
  go_simp
  refine hK.out _ _ rfl (fun h => absurd h (by decide)) ?_
  clear hK K
  iterate 1
    refine Free.Seq.quiet (v := ?_) (a' := ?_) rfl rfl (fun W' hW' => ?_) ?_ ?_
    rotate_left 2
    · skip
      go_simp
      try with_reducible rfl
    · simp only [Act.put, List.setIfInBounds_toArray, List.set_cons_zero, List.set_cons_succ]
      try with_reducible rfl
  refine Free.Seq.loud_ rfl (.inl rfl) (fun K hK => ?_)
  go_simp
  refine hK.out _ _ rfl (fun h => absurd h (by decide)) ?_
  clear hK K
  iterate 1
    refine Free.Seq.quiet (v := ?_) (a' := ?_) rfl rfl (fun W' hW' => ?_) ?_ ?_
    rotate_left 2
    · skip
      go_simp
      try with_reducible rfl
    · simp only [Act.put, List.setIfInBounds_toArray, List.set_cons_zero, List.set_cons_succ]
      try with_reducible rfl
  refine Free.Seq.loud_ rfl (.inl rfl) (fun K hK => ?_)
  go_simp
  refine hK.out _ _ rfl (fun h => absurd h (by decide)) ?_
  clear hK K
  iterate 1
    refine Free.Seq.quiet (v := ?_) (a' := ?_) rfl rfl (fun W' hW' => ?_) ?_ ?_
    rotate_left 2
    · skip
      go_simp
      try with_reducible rfl
    · simp only [Act.put, List.setIfInBounds_toArray, List.set_cons_zero, List.set_cons_succ]
      try with_reducible rfl
  refine Free.Seq.loud_ rfl (.inl rfl) (fun K hK => ?_)
  go_simp
  refine hK.out _ _ rfl (fun h => absurd h (by decide)) ?_
  clear hK K
  refine Free.Seq.nil_ ?_
  obtain ⟨W5, hW5⟩ : ∃ W5, ((((W0.setCell ⟨w.heap.size, 2, none⟩ (.slice cA cN cc)).setCell ⟨w.heap.size, 3, none⟩ (.slice mA mN mc)).setCell ⟨w.heap.size, 4, none⟩ (.slice sA sN sc)).setCell ⟨w.heap.size, 5, none⟩ (.slice oA oN oc)).drew = W5 := ⟨_, rfl⟩
  have hp5 : Blk W5 w.heap.size 35 #[.int .i64 pv, .int .i64 pl, .slice cA cN cc, .slice mA mN mc, .slice sA sN sc, .slice oA oN oc] := by
    rw [← hW5]
    exact Blk.drew9 ((((HP.out.set_ 2 _).set_ 3 _).set_ 4 _).set_ 5 _)
  have hq5 : Blk W5 (w.heap.size + 1) 35 #[.int .i64 0, .int .i64 0, .slice none 0 0, .slice none 0 0, .slice none 0 0, .slice none 0 0] := by
    rw [← hW5]
    exact Blk.drew9 ((((HQ.out.other (by show w.heap.size ≠ _; omega) _).other (by show w.heap.size ≠ _; omega) _).other (by show w.heap.size ≠ _; omega) _).other (by show w.heap.size ≠ _; omega) _)
  have hb5 : Below w.heap.size w W5 := by
    rw [← hW5]
    exact ((((HB.out.setCell (p := ⟨w.heap.size, 2, none⟩) (Nat.le_refl _) _).setCell (p := ⟨w.heap.size, 3, none⟩) (Nat.le_refl _) _).setCell (p := ⟨w.heap.size, 4, none⟩) (Nat.le_refl _) _).setCell (p := ⟨w.heap.size, 5, none⟩) (Nat.le_refl _) _).drew
  rw [hW5]
  have HY := Lib.hid hq5
  have HB5 := Lib.hid hb5
  clear hW5 a0 a1 a2 a3 a4 a5 f2 f3 f4 f5 HP HQ HB hb5 hq5 hW0
  have x0 : W5.cell? ⟨w.heap.size, 0, none⟩ = some (.int .i64 pv) := hp5.cell 0
  have x1 : W5.cell? ⟨w.heap.size, 1, none⟩ = some (.int .i64 pl) := hp5.cell 1
  have x2 : W5.cell? ⟨w.heap.size, 2, none⟩ = some (.slice cA cN cc) := hp5.cell 2
  have x3 : W5.cell? ⟨w.heap.size, 3, none⟩ = some (.slice mA mN mc) := hp5.cell 3
  have x4 : W5.cell? ⟨w.heap.size, 4, none⟩ = some (.slice sA sN sc) := hp5.cell 4
  have x5 : W5.cell? ⟨w.heap.size, 5, none⟩ = some (.slice oA oN oc) := hp5.cell 5
  have hyv : Blk (ansF w W5 (.int .i64 pv) (.int .i64 pl) (.slice cA cN cc) (.slice mA mN mc) (.slice sA sN sc) (.slice oA oN oc)) (w.heap.size + 1) 35 #[.int .i64 pv, .int .i64 pl, .slice cA cN cc, .slice mA mN mc, .slice sA sN sc, .slice oA oN oc] := blk_ansF HY.out
  have hbv : Below w.heap.size w (ansF w W5 (.int .i64 pv) (.int .i64 pl) (.slice cA cN cc) (.slice mA mN mc) (.slice sA sN sc) (.slice oA oN oc)) := below_ansF HB5.out
  have y0 : W5.cell? ⟨w.heap.size + 1, 0, none⟩ = some (.int .i64 0) := HY.out.cell 0
  have g0 : W5.frozen? ⟨w.heap.size + 1, 0, none⟩ = false := HY.out.frozen 0
  have v0 := hyv.cell 0
  have y1 : W5.cell? ⟨w.heap.size + 1, 1, none⟩ = some (.int .i64 0) := HY.out.cell 1
  have g1 : W5.frozen? ⟨w.heap.size + 1, 1, none⟩ = false := HY.out.frozen 1
  have v1 := hyv.cell 1
  have y2 : W5.cell? ⟨w.heap.size + 1, 2, none⟩ = some (.slice none 0 0) := HY.out.cell 2
  have g2 : W5.frozen? ⟨w.heap.size + 1, 2, none⟩ = false := HY.out.frozen 2
  have v2 := hyv.cell 2
  have y3 : W5.cell? ⟨w.heap.size + 1, 3, none⟩ = some (.slice none 0 0) := HY.out.cell 3
  have g3 : W5.frozen? ⟨w.heap.size + 1, 3, none⟩ = false := HY.out.frozen 3
  have v3 := hyv.cell 3
  have y4 : W5.cell? ⟨w.heap.size + 1, 4, none⟩ = some (.slice none 0 0) := HY.out.cell 4
  have g4 : W5.frozen? ⟨w.heap.size + 1, 4, none⟩ = false := HY.out.frozen 4
  have v4 := hyv.cell 4
  have y5 : W5.cell? ⟨w.heap.size + 1, 5, none⟩ = some (.slice none 0 0) := HY.out.cell 5
  have g5 : W5.frozen? ⟨w.heap.size + 1, 5, none⟩ = false := HY.out.frozen 5
  have v5 := hyv.cell 5
  have HBV := Lib.hid hbv
  have hylt := HY.out.lt
  unfold ansF at v0 v1 v2 v3 v4 v5 HBV
  clear hyv hbv hp5
  go_wp2
  exact bodyPost_ret (v := .agg #[.int .i64 pv, .int .i64 pl, .slice cA cN cc, .slice mA mN mc, .slice sA sN sc, .slice oA oN oc]) (by simp [results, Tryz.results5, go_sem, v0, v1, v2, v3, v4, v5]) rfl ⟨rfl, HBV.out⟩
theorem scut_any10 {s : St.State} {cA mA sA oA : Option Addr} {cc mc sc oc : Nat} (w : World) {w0 : World} {B : Nat} (h : StIn w0 B s cA cc mA mc sA sc oA oc) :
    Calls Tryz.prog 5 #[incv s cA cc mA mc sA sc oA oc] w fun e w' => e = .returned (incv (cutS s) cA cc mA mc sA sc oA oc) ∧ Below w.heap.size w w' := by
  rw [incv_cut]
  exact scut_plain10 s.pc.v s.pc.l cA mA sA oA _ cc _ mc _ sc _ oc _ _ _ _ rfl rfl rfl rfl h.rc.2 h.rm.2 h.rs.2 h.ro.2 w
/-! alive -/
deriving instance DecidableEq for St.State
end Go.Proofs.YtmbgndcahlopdaaGreat
