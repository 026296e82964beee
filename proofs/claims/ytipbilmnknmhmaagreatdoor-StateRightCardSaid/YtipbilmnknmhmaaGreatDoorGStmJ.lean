/- The laws' cut and alive, of states (by gen_stmj.py). -/
import Derived.Test.YtipbilmnknmhmaaGreatDoorGCodE
import Derived.Test.YtipbilmnknmhmaaGreatDoorGCodK
import Derived.Test.YtipbilmnknmhmaaGreatDoorGFree
namespace Go.Proofs.YtipbilmnknmhmaaGreatDoor
set_option maxRecDepth 100000
open Go.RowKit Go.Shelf Go.Sort
attribute [local go_sem] Oper.semAt_some
theorem fcells_take {α : Type} {f : α → List Value} {m : Nat} (hf : ∀ x, (f x).length = m) (l : List α) (n : Nat) : fcells f (l.take n) = (fcells f l).take (n * m) := by
  induction l generalizing n with
  | nil => simp [fcells]
  | cons x r ih =>
    cases n with
    | zero => simp [fcells]
    | succ n =>
      have := ih n
      have hx : (f x).length ≤ n * m + m := by rw [hf]; omega
      rw [List.take_succ_cons, show fcells f (x :: r.take n) = f x ++ fcells f (r.take n) from rfl, this, show fcells f (x :: r) = f x ++ fcells f r from rfl, Nat.succ_mul, List.take_append, List.take_of_length_le hx, hf, Nat.add_sub_cancel]
def cutS (s : St.State) : St.State := ⟨s.pc, s.code.take 15, s.mem.take 15, s.stack.take 15, s.out.take 15⟩
theorem cutS_small (s : St.State) : SmallS (cutS s) := by
  refine ⟨?_, ?_, ?_, ?_⟩ <;> (unfold cutS; dsimp only; rw [List.length_take]; omega)
/-- A state as it comes in: rows, with the room behind them. -/
structure StIn (w : World) (B : Nat) (s : St.State) (cA : Option Addr) (cc : Nat) (mA : Option Addr) (mc : Nat) (sA : Option Addr) (sc : Nat) (oA : Option Addr) (oc : Nat) : Prop where
  rc : Row w B cA (icells s.code) ∧ s.code.length ≤ cc ∧ cc ≤ maxLen
  rm : Row w B mA (fcells avs s.mem) ∧ s.mem.length ≤ mc ∧ mc ≤ maxLen
  rs : Row w B sA (fcells svs s.stack) ∧ s.stack.length ≤ sc ∧ sc ≤ maxLen
  ro : Row w B oA (fcells avs s.out) ∧ s.out.length ≤ oc ∧ oc ≤ maxLen
def incv (s : St.State) (cA : Option Addr) (cc : Nat) (mA : Option Addr) (mc : Nat) (sA : Option Addr) (sc : Nat) (oA : Option Addr) (oc : Nat) : Value := .agg #[.int .i64 s.pc.v, .int .i64 s.pc.l, .slice cA s.code.length cc, .slice mA s.mem.length mc, .slice sA s.stack.length sc, .slice oA s.out.length oc]
theorem StIn.below {w w' : World} {B : Nat} {s : St.State} {cA mA sA oA : Option Addr} {cc mc sc oc : Nat} (h : StIn w B s cA cc mA mc sA sc oA oc) (hb : Below B w w') : StIn w' B s cA cc mA mc sA sc oA oc :=
  ⟨⟨h.rc.1.below hb, h.rc.2⟩, ⟨h.rm.1.below hb, h.rm.2⟩, ⟨h.rs.1.below hb, h.rs.2⟩, ⟨h.ro.1.below hb, h.ro.2⟩⟩
theorem StIn.more {w : World} {B B' : Nat} {s : St.State} {cA mA sA oA : Option Addr} {cc mc sc oc : Nat} (h : StIn w B s cA cc mA mc sA sc oA oc) (hB : B ≤ B') : StIn w B' s cA cc mA mc sA sc oA oc :=
  ⟨⟨h.rc.1.more hB, h.rc.2⟩, ⟨h.rm.1.more hB, h.rm.2⟩, ⟨h.rs.1.more hB, h.rs.2⟩, ⟨h.ro.1.more hB, h.ro.2⟩⟩
theorem StIn.cut {w : World} {B : Nat} {s : St.State} {cA mA sA oA : Option Addr} {cc mc sc oc : Nat} (h : StIn w B s cA cc mA mc sA sc oA oc) : StIn w B (cutS s) cA cc mA mc sA sc oA oc := by
  refine ⟨⟨?_, ?_, h.rc.2.2⟩, ⟨?_, ?_, h.rm.2.2⟩, ⟨?_, ?_, h.rs.2.2⟩, ⟨?_, ?_, h.ro.2.2⟩⟩
  · show Row w B cA (icells (s.code.take 15)); rw [icells_f, fcells_take ivs_len]; exact h.rc.1.take _
  · have := h.rc.2.1; show (s.code.take 15).length ≤ cc; rw [List.length_take]; omega
  · show Row w B mA (fcells avs (s.mem.take 15)); rw [fcells_take avs_len]; exact h.rm.1.take _
  · have := h.rm.2.1; show (s.mem.take 15).length ≤ mc; rw [List.length_take]; omega
  · show Row w B sA (fcells svs (s.stack.take 15)); rw [fcells_take svs_len]; exact h.rs.1.take _
  · have := h.rs.2.1; show (s.stack.take 15).length ≤ sc; rw [List.length_take]; omega
  · show Row w B oA (fcells avs (s.out.take 15)); rw [fcells_take avs_len]; exact h.ro.1.take _
  · have := h.ro.2.1; show (s.out.take 15).length ≤ oc; rw [List.length_take]; omega
theorem StIn.isSt {w : World} {B : Nat} {s : St.State} {cA mA sA oA : Option Addr} {cc mc sc oc : Nat} (h : StIn w B s cA cc mA mc sA sc oA oc) : IsSt w B (incv s cA cc mA mc sA sc oA oc) s :=
  ⟨_, _, _, _, rfl, ⟨cA, cc, rfl, h.rc.1, h.rc.2.1⟩, ⟨mA, mc, rfl, h.rm.1, h.rm.2.1⟩, ⟨sA, sc, rfl, h.rs.1, h.rs.2.1⟩, ⟨oA, oc, rfl, h.ro.1, h.ro.2.1⟩⟩
theorem incv_cut (s : St.State) (cA mA sA oA : Option Addr) (cc mc sc oc : Nat) : incv (cutS s) cA cc mA mc sA sc oA oc = .agg #[.int .i64 s.pc.v, .int .i64 s.pc.l, .slice cA (min 15 s.code.length) cc, .slice mA (min 15 s.mem.length) mc, .slice sA (min 15 s.stack.length) sc, .slice oA (min 15 s.out.length) oc] := by
  unfold incv cutS
  simp only [List.length_take]
set_option maxHeartbeats 8000000 in
theorem scut_plain (pv pl : Int) (cA mA sA oA : Option Addr) (cn cc mn mc sn sc on oc cN mN sN oN : Nat) (hcN : cN = min 15 cn) (hmN : mN = min 15 mn) (hsN : sN = min 15 sn) (hoN : oN = min 15 on) (h1 : cn ≤ cc ∧ cc ≤ maxLen) (h2 : mn ≤ mc ∧ mc ≤ maxLen) (h3 : sn ≤ sc ∧ sc ≤ maxLen) (h4 : on ≤ oc ∧ oc ≤ maxLen) (w : World) :
    Calls Tryz.prog 17 #[.agg #[.int .i64 pv, .int .i64 pl, .slice cA cn cc, .slice mA mn mc, .slice sA sn sc, .slice oA on oc]] w fun e w' => e = .returned (.agg #[.int .i64 pv, .int .i64 pl, .slice cA cN cc, .slice mA mN mc, .slice sA sN sc, .slice oA oN oc]) ∧ Below w.heap.size w w' := by
  have i1 : min (cn : Int) 15 = (cN : Int) := by omega
  have i2 : min (mn : Int) 15 = (mN : Int) := by omega
  have i3 : min (sn : Int) 15 = (sN : Int) := by omega
  have i4 : min (on : Int) 15 = (oN : Int) := by omega
  have j1 : (cN ≤ cc) = True := eq_true (by omega)
  have j2 : (mN ≤ mc) = True := eq_true (by omega)
  have j3 : (sN ≤ sc) = True := eq_true (by omega)
  have j4 : (oN ≤ oc) = True := eq_true (by omega)
  have k1 : (cn : Int) ≤ 9223372036854775807 := by have := h1.2; unfold maxLen at this; omega
  have k2 : (mn : Int) ≤ 9223372036854775807 := by have := h2.2; unfold maxLen at this; omega
  have k3 : (sn : Int) ≤ 9223372036854775807 := by have := h3.2; unfold maxLen at this; omega
  have k4 : (on : Int) ≤ 9223372036854775807 := by have := h4.2; unfold maxLen at this; omega
  have hb0 := (((Below.refl _ w).alloc (Nat.le_refl _) (.cells #[.int .i64 pv, .int .i64 pl, .slice cA cn cc, .slice mA mn mc, .slice sA sn sc, .slice oA on oc] 42)).alloc (by simp) (.cells #[.int .i64 0, .int .i64 0, .slice none 0 0, .slice none 0 0, .slice none 0 0, .slice none 0 0] 42))
  obtain ⟨W0, hW0⟩ : ∃ W0, (w.alloc (.cells #[.int .i64 pv, .int .i64 pl, .slice cA cn cc, .slice mA mn mc, .slice sA sn sc, .slice oA on oc] 42)).alloc (.cells #[.int .i64 0, .int .i64 0, .slice none 0 0, .slice none 0 0, .slice none 0 0, .slice none 0 0] 42) = W0 := ⟨_, rfl⟩
  have hp0 : Blk W0 w.heap.size 42 #[.int .i64 pv, .int .i64 pl, .slice cA cn cc, .slice mA mn mc, .slice sA sn sc, .slice oA on oc] := hW0 ▸ (Blk.new _ _ _).alloc _
  have hq0 : Blk W0 (w.heap.size + 1) 42 #[.int .i64 0, .int .i64 0, .slice none 0 0, .slice none 0 0, .slice none 0 0, .slice none 0 0] := by
    have h1 := Blk.new (w.alloc (.cells #[.int .i64 pv, .int .i64 pl, .slice cA cn cc, .slice mA mn mc, .slice sA sn sc, .slice oA on oc] 42)) 42 #[.int .i64 0, .int .i64 0, .slice none 0 0, .slice none 0 0, .slice none 0 0, .slice none 0 0]
    rw [show (w.alloc (.cells #[.int .i64 pv, .int .i64 pl, .slice cA cn cc, .slice mA mn mc, .slice sA sn sc, .slice oA on oc] 42)).heap.size = w.heap.size + 1 by simp] at h1
    rw [← hW0]; exact h1
  rw [hW0] at hb0
  have a0 : W0.cell? ⟨w.heap.size, 0, none⟩ = some (.int .i64 pv) := hp0.cell 0
  have a1 : W0.cell? ⟨w.heap.size, 1, none⟩ = some (.int .i64 pl) := hp0.cell 1
  have a2 : W0.cell? ⟨w.heap.size, 2, none⟩ = some (.slice cA cn cc) := hp0.cell 2
  have a3 : W0.cell? ⟨w.heap.size, 3, none⟩ = some (.slice mA mn mc) := hp0.cell 3
  have a4 : W0.cell? ⟨w.heap.size, 4, none⟩ = some (.slice sA sn sc) := hp0.cell 4
  have a5 : W0.cell? ⟨w.heap.size, 5, none⟩ = some (.slice oA on oc) := hp0.cell 5
  have f2 : W0.frozen? ⟨w.heap.size, 2, none⟩ = false := hp0.frozen 2
  have f3 : W0.frozen? ⟨w.heap.size, 3, none⟩ = false := hp0.frozen 3
  have f4 : W0.frozen? ⟨w.heap.size, 4, none⟩ = false := hp0.frozen 4
  have f5 : W0.frozen? ⟨w.heap.size, 5, none⟩ = false := hp0.frozen 5
  have HP := Lib.hid hp0
  have HQ := Lib.hid hq0
  have HB := Lib.hid hb0
  clear hb0 hp0 hq0 hcN hmN hsN hoN h1 h2 h3 h4
  go_enter Tryz.func17, Tryz.ntmps17
  go_wp2_with (fail)
  refine Free.region_seq [29, 31, 33, 35] [1, 3, 8, 10, 15, 17, 22, 24] 29 (fun W' => W'.cell? ⟨w.heap.size, 2, none⟩ = some (.slice cA cn cc) ∧ W'.cell? ⟨w.heap.size, 3, none⟩ = some (.slice mA mn mc) ∧ W'.cell? ⟨w.heap.size, 4, none⟩ = some (.slice sA sn sc) ∧ W'.cell? ⟨w.heap.size, 5, none⟩ = some (.slice oA on oc)) (by kernel_rfl) (by kernel_rfl) (by kernel_rfl) (by kernel_rfl) (⟨a2, a3, a4, a5⟩) (fun ops hops => ?_)
  clear hops
  iterate 29
    refine Free.Seq.quiet (v := ?_) (a' := ?_) rfl rfl (fun W' hW' => ?_) ?_ ?_
    rotate_left 2
    · first | obtain ⟨s0, s1, s2, s3⟩ := hW' rfl | skip
      go_simp
      try with_reducible rfl
    · simp only [Act.put, List.setIfInBounds_toArray, List.set_cons_zero, List.set_cons_succ]
      try with_reducible rfl
  refine Free.Seq.loud_ rfl (.inl rfl) (fun K hK => ?_)
  go_simp
  refine hK.out _ _ rfl (fun h => absurd h (by decide)) ?_
  clear hK K
  iterate 1
    refine Free.Seq.quiet (v := ?_) (a' := ?_) rfl rfl (fun W' hW' => ?_) ?_ ?_
    rotate_left 2
    · skip
      go_simp
      try with_reducible rfl
    · simp only [Act.put, List.setIfInBounds_toArray, List.set_cons_zero, List.set_cons_succ]
      try with_reducible rfl
  refine Free.Seq.loud_ rfl (.inl rfl) (fun K hK => ?_)
  go_simp
  refine hK.out _ _ rfl (fun h => absurd h (by decide)) ?_
  clear hK K
  iterate 1
    refine Free.Seq.quiet (v := ?_) (a' := ?_) rfl rfl (fun W' hW' => ?_) ?_ ?_
    rotate_left 2
    · skip
      go_simp
      try with_reducible rfl
    · simp only [Act.put, List.setIfInBounds_toArray, List.set_cons_zero, List.set_cons_succ]
      try with_reducible rfl
  refine Free.Seq.loud_ rfl (.inl rfl) (fun K hK => ?_)
  go_simp
  refine hK.out _ _ rfl (fun h => absurd h (by decide)) ?_
  clear hK K
  iterate 1
    refine Free.Seq.quiet (v := ?_) (a' := ?_) rfl rfl (fun W' hW' => ?_) ?_ ?_
    rotate_left 2
    · skip
      go_simp
      try with_reducible rfl
    · simp only [Act.put, List.setIfInBounds_toArray, List.set_cons_zero, List.set_cons_succ]
      try with_reducible rfl
  refine Free.Seq.loud_ rfl (.inl rfl) (fun K hK => ?_)
  go_simp
  refine hK.out _ _ rfl (fun h => absurd h (by decide)) ?_
  clear hK K
  refine Free.Seq.nil_ ?_
  obtain ⟨W5, hW5⟩ : ∃ W5, ((((W0.setCell ⟨w.heap.size, 2, none⟩ (.slice cA cN cc)).setCell ⟨w.heap.size, 3, none⟩ (.slice mA mN mc)).setCell ⟨w.heap.size, 4, none⟩ (.slice sA sN sc)).setCell ⟨w.heap.size, 5, none⟩ (.slice oA oN oc)).drew = W5 := ⟨_, rfl⟩
  have hp5 : Blk W5 w.heap.size 42 #[.int .i64 pv, .int .i64 pl, .slice cA cN cc, .slice mA mN mc, .slice sA sN sc, .slice oA oN oc] := by
    rw [← hW5]
    exact Blk.drew9 ((((HP.out.set_ 2 _).set_ 3 _).set_ 4 _).set_ 5 _)
  have hq5 : Blk W5 (w.heap.size + 1) 42 #[.int .i64 0, .int .i64 0, .slice none 0 0, .slice none 0 0, .slice none 0 0, .slice none 0 0] := by
    rw [← hW5]
    exact Blk.drew9 ((((HQ.out.other (by show w.heap.size ≠ _; omega) _).other (by show w.heap.size ≠ _; omega) _).other (by show w.heap.size ≠ _; omega) _).other (by show w.heap.size ≠ _; omega) _)
  have hb5 : Below w.heap.size w W5 := by
    rw [← hW5]
    exact ((((HB.out.setCell (p := ⟨w.heap.size, 2, none⟩) (Nat.le_refl _) _).setCell (p := ⟨w.heap.size, 3, none⟩) (Nat.le_refl _) _).setCell (p := ⟨w.heap.size, 4, none⟩) (Nat.le_refl _) _).setCell (p := ⟨w.heap.size, 5, none⟩) (Nat.le_refl _) _).drew
  rw [hW5]
  have HY := Lib.hid hq5
  have HB5 := Lib.hid hb5
  clear hW5 a0 a1 a2 a3 a4 a5 f2 f3 f4 f5 HP HQ HB hb5 hq5 hW0
  have x0 : W5.cell? ⟨w.heap.size, 0, none⟩ = some (.int .i64 pv) := hp5.cell 0
  have x1 : W5.cell? ⟨w.heap.size, 1, none⟩ = some (.int .i64 pl) := hp5.cell 1
  have x2 : W5.cell? ⟨w.heap.size, 2, none⟩ = some (.slice cA cN cc) := hp5.cell 2
  have x3 : W5.cell? ⟨w.heap.size, 3, none⟩ = some (.slice mA mN mc) := hp5.cell 3
  have x4 : W5.cell? ⟨w.heap.size, 4, none⟩ = some (.slice sA sN sc) := hp5.cell 4
  have x5 : W5.cell? ⟨w.heap.size, 5, none⟩ = some (.slice oA oN oc) := hp5.cell 5
  have hyv : Blk (ansF w W5 (.int .i64 pv) (.int .i64 pl) (.slice cA cN cc) (.slice mA mN mc) (.slice sA sN sc) (.slice oA oN oc)) (w.heap.size + 1) 42 #[.int .i64 pv, .int .i64 pl, .slice cA cN cc, .slice mA mN mc, .slice sA sN sc, .slice oA oN oc] := blk_ansF HY.out
  have hbv : Below w.heap.size w (ansF w W5 (.int .i64 pv) (.int .i64 pl) (.slice cA cN cc) (.slice mA mN mc) (.slice sA sN sc) (.slice oA oN oc)) := below_ansF HB5.out
  have y0 : W5.cell? ⟨w.heap.size + 1, 0, none⟩ = some (.int .i64 0) := HY.out.cell 0
  have g0 : W5.frozen? ⟨w.heap.size + 1, 0, none⟩ = false := HY.out.frozen 0
  have v0 := hyv.cell 0
  have y1 : W5.cell? ⟨w.heap.size + 1, 1, none⟩ = some (.int .i64 0) := HY.out.cell 1
  have g1 : W5.frozen? ⟨w.heap.size + 1, 1, none⟩ = false := HY.out.frozen 1
  have v1 := hyv.cell 1
  have y2 : W5.cell? ⟨w.heap.size + 1, 2, none⟩ = some (.slice none 0 0) := HY.out.cell 2
  have g2 : W5.frozen? ⟨w.heap.size + 1, 2, none⟩ = false := HY.out.frozen 2
  have v2 := hyv.cell 2
  have y3 : W5.cell? ⟨w.heap.size + 1, 3, none⟩ = some (.slice none 0 0) := HY.out.cell 3
  have g3 : W5.frozen? ⟨w.heap.size + 1, 3, none⟩ = false := HY.out.frozen 3
  have v3 := hyv.cell 3
  have y4 : W5.cell? ⟨w.heap.size + 1, 4, none⟩ = some (.slice none 0 0) := HY.out.cell 4
  have g4 : W5.frozen? ⟨w.heap.size + 1, 4, none⟩ = false := HY.out.frozen 4
  have v4 := hyv.cell 4
  have y5 : W5.cell? ⟨w.heap.size + 1, 5, none⟩ = some (.slice none 0 0) := HY.out.cell 5
  have g5 : W5.frozen? ⟨w.heap.size + 1, 5, none⟩ = false := HY.out.frozen 5
  have v5 := hyv.cell 5
  have HBV := Lib.hid hbv
  have hylt := HY.out.lt
  unfold ansF at v0 v1 v2 v3 v4 v5 HBV
  clear hyv hbv hp5
  go_wp2
  exact bodyPost_ret (v := .agg #[.int .i64 pv, .int .i64 pl, .slice cA cN cc, .slice mA mN mc, .slice sA sN sc, .slice oA oN oc]) (by simp [results, Tryz.results17, go_sem, v0, v1, v2, v3, v4, v5]) rfl ⟨rfl, HBV.out⟩
/-- What cut answers. -/
theorem scut_any {s : St.State} {cA mA sA oA : Option Addr} {cc mc sc oc : Nat} (w : World) {w0 : World} {B : Nat} (h : StIn w0 B s cA cc mA mc sA sc oA oc) :
    Calls Tryz.prog 17 #[incv s cA cc mA mc sA sc oA oc] w fun e w' => e = .returned (incv (cutS s) cA cc mA mc sA sc oA oc) ∧ Below w.heap.size w w' := by
  rw [incv_cut]
  exact scut_plain s.pc.v s.pc.l cA mA sA oA _ cc _ mc _ sc _ oc _ _ _ _ rfl rfl rfl rfl h.rc.2 h.rm.2 h.rs.2 h.ro.2 w
/-! alive -/
deriving instance DecidableEq for St.State
def bText9 : ByteArray := { data := #[112, 99, 32, 48, 32, 64, 32, 97, 32, 59, 32, 99, 111, 100, 101, 32, 104, 97, 108, 116, 32, 59, 32, 109, 101, 109, 32, 59, 32, 115, 116, 97, 99, 107, 32, 114, 101, 116, 32, 49, 32, 64, 32, 98, 32, 59, 32, 111, 117, 116, 32, 59] }
def bState9 : St.State := ⟨⟨0, 0⟩, [⟨12, 0, 0⟩], [], [⟨true, 1, 1⟩], []⟩
theorem bParse9 : St.parse bNames8 bUp8 bText9.data.toList = (bState9, 0, 0) := by decide +kernel
theorem bRight9 : pubS bNames8 bUp8 bState9 = true := by decide +kernel
theorem KSt.open9 {B : Nat} {w : World} {a b : Int} {cA mA sA oA : Option Addr} {cn cc mn mc sn sc on oc : Nat} {s : St.State} (h : KSt B w (.agg #[.int .i64 a, .int .i64 b, .slice cA cn cc, .slice mA mn mc, .slice sA sn sc, .slice oA on oc]) s) :
    a = s.pc.v ∧ b = s.pc.l ∧ cn = s.code.length ∧ mn = s.mem.length ∧ sn = s.stack.length ∧ on = s.out.length ∧ Row w w.heap.size sA (fcells svs s.stack) ∧ IsSt w w.heap.size (.agg #[.int .i64 a, .int .i64 b, .slice cA cn cc, .slice mA mn mc, .slice sA sn sc, .slice oA on oc]) s := by
  have hi := h.isSt
  refine ⟨?_, ?_, ?_, ?_, ?_, ?_, ?_, hi⟩ <;>
  · obtain ⟨cv, mv, sv, ov, e, ⟨A1, k1, rfl, -, -⟩, ⟨A2, k2, rfl, -, -⟩, ⟨A3, k3, rfl, hr, -⟩, ⟨A4, k4, rfl, -, -⟩⟩ := hi
    simp only [stv, Value.agg.injEq, Array.mk.injEq, List.cons.injEq, Value.int.injEq, Value.slice.injEq, true_and, and_true] at e
    obtain ⟨e0, e1, ⟨e2a, e2, -⟩, ⟨e3a, e3, -⟩, ⟨e4a, e4, -⟩, ⟨e5a, e5, -⟩⟩ := e
    first | exact e0 | exact e1 | exact e2 | exact e3 | exact e4 | exact e5 | (rw [e4a]; exact hr)
set_option maxHeartbeats 8000000 in
theorem alive9_any (w : World) (hi : Ins w) : Calls Tryz.prog 23 #[] w (Tells w true) := by
  obtain ⟨W0, hW0⟩ : ∃ W0 : World, (((w.alloc (.cells #[.string ⟨#[97]⟩, .string ⟨#[98]⟩] 9)).alloc (.cells #[.int .u32 3, .int .u32 2] 63)).alloc (.cells #[.slice (some ⟨w.heap.size, 0, none⟩) 2 2, .slice (some ⟨w.heap.size + 1, 0, none⟩) 2 2] 25)) = W0 := ⟨_, rfl⟩
  have hlat := alive8_lat w
  have hB : Below w.heap.size w W0 := by rw [← hW0]; exact (((Below.refl _ w).alloc (Nat.le_refl _) _).alloc (by simp) _).alloc (by simp; omega) _
  have hsz : W0.heap.size = w.heap.size + 3 := by rw [← hW0]; simp
  have hbl : Blk W0 (w.heap.size + 1 + 1) 25 #[.slice (some ⟨w.heap.size, 0, none⟩) 2 2, .slice (some ⟨w.heap.size + 1, 0, none⟩) 2 2] := by rw [← hW0]; exact Blk.new' _ _ _ _ (by simp)
  rw [hW0] at hlat
  rw [← hsz] at hlat
  have hp := sparse_any bText9 (by decide) W0 hlat (hi.below hB hi.lt)
  rw [bParse9] at hp
  unfold bText9 at hp
  have HP := Lib.hid hp
  have HB := Lib.hid hB
  have HBL := Lib.hid hbl
  have HW0 := Lib.hid hW0
  have HLAT := Lib.hid hlat
  have HSZ := Lib.hid hsz
  clear hp hB hbl hW0 hlat hsz hi
  go_enter Tryz.func23, Tryz.ntmps23
  go_wp2_with (fail)
  rw [HW0.out]
  refine HP.out.mono ?_
  rintro e w1 ⟨a, b, cA, cn, cc, mA, mn, mc, sA, sn, sc, oA, on, oc, rfl, hks, hb1⟩
  dsimp only at hks
  obtain ⟨rfl, rfl, rfl, rfl, rfl, rfl, hrow, hst⟩ := hks.open9
  have hal := (Below.refl _ w1).alloc (Nat.le_refl _) (.cells #[.int .i64 bState9.pc.v, .int .i64 bState9.pc.l, .slice cA bState9.code.length cc, .slice mA bState9.mem.length mc, .slice sA bState9.stack.length sc, .slice oA bState9.out.length oc] 42)
  have hbx := Blk.new w1 42 #[.int .i64 bState9.pc.v, .int .i64 bState9.pc.l, .slice cA bState9.code.length cc, .slice mA bState9.mem.length mc, .slice sA bState9.stack.length sc, .slice oA bState9.out.length oc]
  have hb2 := hb1.alloc hb1.size (.cells #[.int .i64 bState9.pc.v, .int .i64 bState9.pc.l, .slice cA bState9.code.length cc, .slice mA bState9.mem.length mc, .slice sA bState9.stack.length sc, .slice oA bState9.out.length oc] 42)
  have hrow2 := (hrow.below hal).more hal.size
  have hst2 := (hst.below hal).more hal.size
  dsimp only [bState9, List.length_cons, List.length_nil] at hal hbx hb2 hrow2 hst2 ⊢
  obtain ⟨W2, hW2⟩ : ∃ W2, w1.alloc (.cells #[.int .i64 0, .int .i64 0, .slice cA (0 + 1) cc, .slice mA 0 mc, .slice sA (0 + 1) sc, .slice oA 0 oc] 42) = W2 := ⟨_, rfl⟩
  rw [hW2] at hal hbx hb2 hrow2 hst2
  have hp1 := HBL.out.below hb2 (by rw [HSZ.out]; omega)
  have hc0 : W2.cell? ⟨w.heap.size + 1 + 1, 0, none⟩ = some (.slice (some ⟨w.heap.size, 0, none⟩) 2 2) := hp1.cell 0
  have hc1 : W2.cell? ⟨w.heap.size + 1 + 1, 1, none⟩ = some (.slice (some ⟨w.heap.size + 1, 0, none⟩) 2 2) := hp1.cell 1
  have x0 := hbx.cell 0
  have x1 := hbx.cell 1
  have x2 := hbx.cell 2
  have x3 := hbx.cell 3
  have x4 := hbx.cell 4
  have x5 := hbx.cell 5
  obtain ⟨ad, t, rfl, hadb, ht, d0, d1, d2⟩ := srow_at (k := 0) hrow2 (by decide)
  obtain rfl : (⟨true, 1, 1⟩ : St.Slot) = t := Option.some.inj ht
  have d0 : W2.cell? ad = some (.bool true) := d0
  have d1 : W2.cell? ⟨ad.block, ad.off + 1, none⟩ = some (.int .i64 1) := d1
  have d2 : W2.cell? ⟨ad.block, ad.off + 2, none⟩ = some (.int .i64 1) := d2
  have hr := sright_any (s := bState9) W2 ((HLAT.out.below hb2).more hb2.size) hst2 ⟨by decide, by decide, by decide, by decide⟩
  rw [bRight9] at hr
  have HR := Lib.hid hr
  have HB1 := Lib.hid (HB.out.trans (hb2.mono HB.out.size))
  have heq := run_sl_eql ⟨true, 1, 1⟩ ⟨true, 1, 1⟩
  rw [decide_eq_true rfl] at heq
  dsimp only at heq
  clear hr hb1 hb2 hp1 hrow hrow2 hst hst2 ht hal hbx hks
  go_wp2_with (fail)
  refine HR.out.mono ?_
  rintro e w2 ⟨rfl, hb2⟩
  go_wp2
  go_ret
  exact ⟨rfl, HB1.out.trans (hb2.mono HB1.out.size)⟩
end Go.Proofs.YtipbilmnknmhmaaGreatDoor
