/- Package gen's State (by gen_gmi.py). -/
import Derived.Test.YtmbgndcahlopdaaGGnA
import Derived.Test.YtmbgndcahlopdaaGDrwC
import Derived.Test.YtmbgndcahlopdaaGFew
import Derived.Test.YtmbgndcahlopdaaGCodE
import Derived.Test.YtmbgndcahlopdaaGRulA
namespace Go.Proofs.Ytmbgndcahlopdaa
set_option maxRecDepth 100000
open Go.RowKit Go.Shelf
attribute [local go_sem] Oper.semAt_some

/-- What State answers where it makes none. -/
def GErr (w : World) (er : Nat) (e : Ending) (w' : World) : Prop := e = .returned (.tuple #[.agg #[.slice none 0 0, .int .i64 0, .slice none 0 0], .agg #[.int .i64 0, .int .i64 0, .slice none 0 0, .slice none 0 0, .slice none 0 0, .slice none 0 0], .int .i64 (er : Int)]) ∧ Below w.heap.size w w'
/-- What it answers where it makes one. -/
def GYes (w : World) (B n : Nat) (list : List Int) (s : St.State) (d : Gn.D) (e : Ending) (w' : World) : Prop := ∃ (A : Option Addr) (ca : Nat) (L : Option Addr) (dd : Nat) (cv mv sv : Value),
  e = .returned (.tuple #[.agg #[.slice A n ca, .int .i64 (d.i : Int), .slice L d.log.length dd], .agg #[.int .i64 s.pc.v, .int .i64 s.pc.l, cv, mv, sv, .slice none 0 0], .int .i64 0]) ∧
  RowX w' B A list ∧ RowX w' B L d.log ∧ w'.ownsRow w.heap.size 66 3 cv s.code.length (fcells ivs s.code) ∧ w'.ownsRow w.heap.size 34 2 mv s.mem.length (fcells avs s.mem) ∧ w'.ownsRow w.heap.size 70 3 sv s.stack.length (fcells svs s.stack) ∧ d.log.length ≤ 2000 ∧ Below w.heap.size w w'
def GotG (w : World) (B er n : Nat) (list : List Int) (r : Option (St.State × Gn.D)) (e : Ending) (w' : World) : Prop := match r with
  | none => GErr w er e w'
  | some (s, d) => GYes w B n list s d e w'
set_option maxHeartbeats 8000000 in
theorem gState_no {N U Q : Option Addr} {er : Nat} (n1 k c1 c2 n3 f : Nat) (p : Gn.Sp) (y : MM) (w : World) (her : er ≠ 0) (hck : ∀ W, Below w.heap.size w W → Calls Try.prog 17 #[.agg #[.slice N n1 c1, .slice U k c2], .agg #[.int .i64 p.code, .int .i64 p.mem, .int .i64 p.stack, .int .i64 p.val, .slice Q n3 f]] W (TellsN W er)) :
    Calls Try.prog 7 #[.agg #[.slice N n1 c1, .slice U k c2], .agg #[.int .i64 p.code, .int .i64 p.mem, .int .i64 p.stack, .int .i64 p.val, .slice Q n3 f], y.dv] w (GErr w er) := by
  unfold MM.dv
  have hb := (((((Below.refl w.heap.size w).alloc (Nat.le_refl _) (.cells #[.slice N n1 c1, .slice U k c2] 25)).alloc (by simp) (.cells #[.int .i64 p.code, .int .i64 p.mem, .int .i64 p.stack, .int .i64 p.val, .slice Q n3 f] 28)).alloc (by simp; omega) (.cells #[.slice y.A y.n y.c, .int .i64 y.i, .slice y.L y.m y.d] 30)).alloc (by simp; omega) (.cells #[.slice none 0 0, .int .i64 0, .slice none 0 0] 30)).alloc (by simp; omega) (.cells #[.int .i64 0, .int .i64 0, .slice none 0 0, .slice none 0 0, .slice none 0 0, .slice none 0 0] 39)
  obtain ⟨V1, hV1⟩ : ∃ V, w.alloc (.cells #[.slice N n1 c1, .slice U k c2] 25) = V := ⟨_, rfl⟩
  have z1 : V1.heap.size = w.heap.size + 1 := by rw [← hV1]; simp
  have p0 : Blk V1 w.heap.size 25 #[.slice N n1 c1, .slice U k c2] := hV1 ▸ Blk.new _ _ _
  obtain ⟨V2, hV2⟩ : ∃ V, V1.alloc (.cells #[.int .i64 p.code, .int .i64 p.mem, .int .i64 p.stack, .int .i64 p.val, .slice Q n3 f] 28) = V := ⟨_, rfl⟩
  have z2 : V2.heap.size = w.heap.size + 1 + 1 := by rw [← hV2]; simp [z1]
  have p1 : Blk V2 (w.heap.size + 1) 28 #[.int .i64 p.code, .int .i64 p.mem, .int .i64 p.stack, .int .i64 p.val, .slice Q n3 f] := z1 ▸ hV2 ▸ Blk.new V1 28 #[.int .i64 p.code, .int .i64 p.mem, .int .i64 p.stack, .int .i64 p.val, .slice Q n3 f]
  obtain ⟨V3, hV3⟩ : ∃ V, V2.alloc (.cells #[.slice y.A y.n y.c, .int .i64 y.i, .slice y.L y.m y.d] 30) = V := ⟨_, rfl⟩
  have z3 : V3.heap.size = w.heap.size + 1 + 1 + 1 := by rw [← hV3]; simp [z2]
  have p2 : Blk V3 (w.heap.size + 1 + 1) 30 #[.slice y.A y.n y.c, .int .i64 y.i, .slice y.L y.m y.d] := z2 ▸ hV3 ▸ Blk.new V2 30 #[.slice y.A y.n y.c, .int .i64 y.i, .slice y.L y.m y.d]
  obtain ⟨V4, hV4⟩ : ∃ V, V3.alloc (.cells #[.slice none 0 0, .int .i64 0, .slice none 0 0] 30) = V := ⟨_, rfl⟩
  have z4 : V4.heap.size = w.heap.size + 1 + 1 + 1 + 1 := by rw [← hV4]; simp [z3]
  have p3 : Blk V4 (w.heap.size + 1 + 1 + 1) 30 #[.slice none 0 0, .int .i64 0, .slice none 0 0] := z3 ▸ hV4 ▸ Blk.new V3 30 #[.slice none 0 0, .int .i64 0, .slice none 0 0]
  obtain ⟨V5, hV5⟩ : ∃ V, V4.alloc (.cells #[.int .i64 0, .int .i64 0, .slice none 0 0, .slice none 0 0, .slice none 0 0, .slice none 0 0] 39) = V := ⟨_, rfl⟩
  have z5 : V5.heap.size = w.heap.size + 1 + 1 + 1 + 1 + 1 := by rw [← hV5]; simp [z4]
  have p4 : Blk V5 (w.heap.size + 1 + 1 + 1 + 1) 39 #[.int .i64 0, .int .i64 0, .slice none 0 0, .slice none 0 0, .slice none 0 0, .slice none 0 0] := z4 ▸ hV5 ▸ Blk.new V4 39 #[.int .i64 0, .int .i64 0, .slice none 0 0, .slice none 0 0, .slice none 0 0, .slice none 0 0]
  have p0 : Blk V5 w.heap.size 25 #[.slice N n1 c1, .slice U k c2] := hV5 ▸ (hV4 ▸ (hV3 ▸ (hV2 ▸ p0.alloc _ : Blk V2 _ _ _).alloc _ : Blk V3 _ _ _).alloc _ : Blk V4 _ _ _).alloc _
  have p1 : Blk V5 (w.heap.size + 1) 28 #[.int .i64 p.code, .int .i64 p.mem, .int .i64 p.stack, .int .i64 p.val, .slice Q n3 f] := hV5 ▸ (hV4 ▸ (hV3 ▸ p1.alloc _ : Blk V3 _ _ _).alloc _ : Blk V4 _ _ _).alloc _
  have p2 : Blk V5 (w.heap.size + 1 + 1) 30 #[.slice y.A y.n y.c, .int .i64 y.i, .slice y.L y.m y.d] := hV5 ▸ (hV4 ▸ p2.alloc _ : Blk V4 _ _ _).alloc _
  have p3 : Blk V5 (w.heap.size + 1 + 1 + 1) 30 #[.slice none 0 0, .int .i64 0, .slice none 0 0] := hV5 ▸ p3.alloc _
  rw [hV1, hV2, hV3, hV4, hV5] at hb
  have HB := Lib.hid hb
  have HP0 := Lib.hid p0
  have HP1 := Lib.hid p1
  have HP2 := Lib.hid p2
  have HP3 := Lib.hid p3
  have HP4 := Lib.hid p4
  have HZ5 := Lib.hid z5
  have HC := Lib.hid (hck V5 hb)
  have hz : ((er : Int) != 0) = true := by rw [bne_iff_ne]; omega
  have l0 := HP0.out.cell 0
  have l1 := HP0.out.cell 1
  have s0 := HP1.out.cell 0
  have s1 := HP1.out.cell 1
  have s2 := HP1.out.cell 2
  have s3 := HP1.out.cell 3
  have s4 := HP1.out.cell 4
  clear hb p0 p1 p2 p3 p4 z5 hck
  go_enter Try.func7, Try.ntmps7
  go_wp2_with (fail)
  refine HC.out.mono ?_
  rintro e w1 ⟨rfl, hb1⟩
  have H_rd := Lib.hid (HP3.out.below hb1 HP3.out.lt)
  have H_rs := Lib.hid (HP4.out.below hb1 HP4.out.lt)
  have HB := Lib.hid (HB.out.trans (hb1.mono HB.out.size))
  clear l0 l1 s0 s1 s2 s3 s4 hb1 HC HP0 HP1 HP2 HP3 HP4
  obtain ⟨X1, eX1⟩ : ∃ U, w1.setCell ⟨w.heap.size + 1 + 1 + 1, 0, none⟩ (.slice none 0 0) = U := ⟨_, rfl⟩
  have fX1 := H_rd.out.frozen 0
  have cX1 := H_rd.out.cell 0
  have N_rd : Blk X1 (w.heap.size + 1 + 1 + 1) 30 #[.slice none 0 0, .int .i64 0, .slice none 0 0] := eX1 ▸ H_rd.out.set_ 0 _
  have N_rs : Blk X1 (w.heap.size + 1 + 1 + 1 + 1) 39 #[.int .i64 0, .int .i64 0, .slice none 0 0, .slice none 0 0, .slice none 0 0, .slice none 0 0] := eX1 ▸ H_rs.out.other (show w.heap.size + 1 + 1 + 1 ≠ w.heap.size + 1 + 1 + 1 + 1 by omega) _
  have NB : Below w.heap.size w X1 := eX1 ▸ HB.out.setCell (p := ⟨w.heap.size + 1 + 1 + 1, 0, none⟩) (by show w.heap.size ≤ w.heap.size + 1 + 1 + 1; omega) _
  clear H_rd H_rs HB
  have H_rd := Lib.hid N_rd
  have H_rs := Lib.hid N_rs
  have HB := Lib.hid NB
  clear NB N_rd N_rs
  obtain ⟨X2, eX2⟩ : ∃ U, X1.setCell ⟨w.heap.size + 1 + 1 + 1, 1, none⟩ (.int .i64 0) = U := ⟨_, rfl⟩
  have fX2 := H_rd.out.frozen 1
  have cX2 := H_rd.out.cell 1
  have N_rd : Blk X2 (w.heap.size + 1 + 1 + 1) 30 #[.slice none 0 0, .int .i64 0, .slice none 0 0] := eX2 ▸ H_rd.out.set_ 1 _
  have N_rs : Blk X2 (w.heap.size + 1 + 1 + 1 + 1) 39 #[.int .i64 0, .int .i64 0, .slice none 0 0, .slice none 0 0, .slice none 0 0, .slice none 0 0] := eX2 ▸ H_rs.out.other (show w.heap.size + 1 + 1 + 1 ≠ w.heap.size + 1 + 1 + 1 + 1 by omega) _
  have NB : Below w.heap.size w X2 := eX2 ▸ HB.out.setCell (p := ⟨w.heap.size + 1 + 1 + 1, 1, none⟩) (by show w.heap.size ≤ w.heap.size + 1 + 1 + 1; omega) _
  clear H_rd H_rs HB
  have H_rd := Lib.hid N_rd
  have H_rs := Lib.hid N_rs
  have HB := Lib.hid NB
  clear NB N_rd N_rs
  obtain ⟨X3, eX3⟩ : ∃ U, X2.setCell ⟨w.heap.size + 1 + 1 + 1, 2, none⟩ (.slice none 0 0) = U := ⟨_, rfl⟩
  have fX3 := H_rd.out.frozen 2
  have cX3 := H_rd.out.cell 2
  have N_rd : Blk X3 (w.heap.size + 1 + 1 + 1) 30 #[.slice none 0 0, .int .i64 0, .slice none 0 0] := eX3 ▸ H_rd.out.set_ 2 _
  have N_rs : Blk X3 (w.heap.size + 1 + 1 + 1 + 1) 39 #[.int .i64 0, .int .i64 0, .slice none 0 0, .slice none 0 0, .slice none 0 0, .slice none 0 0] := eX3 ▸ H_rs.out.other (show w.heap.size + 1 + 1 + 1 ≠ w.heap.size + 1 + 1 + 1 + 1 by omega) _
  have NB : Below w.heap.size w X3 := eX3 ▸ HB.out.setCell (p := ⟨w.heap.size + 1 + 1 + 1, 2, none⟩) (by show w.heap.size ≤ w.heap.size + 1 + 1 + 1; omega) _
  clear H_rd H_rs HB
  have H_rd := Lib.hid N_rd
  have H_rs := Lib.hid N_rs
  have HB := Lib.hid NB
  clear NB N_rd N_rs
  obtain ⟨X4, eX4⟩ : ∃ U, X3.setCell ⟨w.heap.size + 1 + 1 + 1 + 1, 0, none⟩ (.int .i64 0) = U := ⟨_, rfl⟩
  have fX4 := H_rs.out.frozen 0
  have cX4 := H_rs.out.cell 0
  have N_rd : Blk X4 (w.heap.size + 1 + 1 + 1) 30 #[.slice none 0 0, .int .i64 0, .slice none 0 0] := eX4 ▸ H_rd.out.other (show w.heap.size + 1 + 1 + 1 + 1 ≠ w.heap.size + 1 + 1 + 1 by omega) _
  have N_rs : Blk X4 (w.heap.size + 1 + 1 + 1 + 1) 39 #[.int .i64 0, .int .i64 0, .slice none 0 0, .slice none 0 0, .slice none 0 0, .slice none 0 0] := eX4 ▸ H_rs.out.set_ 0 _
  have NB : Below w.heap.size w X4 := eX4 ▸ HB.out.setCell (p := ⟨w.heap.size + 1 + 1 + 1 + 1, 0, none⟩) (by show w.heap.size ≤ w.heap.size + 1 + 1 + 1 + 1; omega) _
  clear H_rd H_rs HB
  have H_rd := Lib.hid N_rd
  have H_rs := Lib.hid N_rs
  have HB := Lib.hid NB
  clear NB N_rd N_rs
  obtain ⟨X5, eX5⟩ : ∃ U, X4.setCell ⟨w.heap.size + 1 + 1 + 1 + 1, 1, none⟩ (.int .i64 0) = U := ⟨_, rfl⟩
  have fX5 := H_rs.out.frozen 1
  have cX5 := H_rs.out.cell 1
  have N_rd : Blk X5 (w.heap.size + 1 + 1 + 1) 30 #[.slice none 0 0, .int .i64 0, .slice none 0 0] := eX5 ▸ H_rd.out.other (show w.heap.size + 1 + 1 + 1 + 1 ≠ w.heap.size + 1 + 1 + 1 by omega) _
  have N_rs : Blk X5 (w.heap.size + 1 + 1 + 1 + 1) 39 #[.int .i64 0, .int .i64 0, .slice none 0 0, .slice none 0 0, .slice none 0 0, .slice none 0 0] := eX5 ▸ H_rs.out.set_ 1 _
  have NB : Below w.heap.size w X5 := eX5 ▸ HB.out.setCell (p := ⟨w.heap.size + 1 + 1 + 1 + 1, 1, none⟩) (by show w.heap.size ≤ w.heap.size + 1 + 1 + 1 + 1; omega) _
  clear H_rd H_rs HB
  have H_rd := Lib.hid N_rd
  have H_rs := Lib.hid N_rs
  have HB := Lib.hid NB
  clear NB N_rd N_rs
  obtain ⟨X6, eX6⟩ : ∃ U, X5.setCell ⟨w.heap.size + 1 + 1 + 1 + 1, 2, none⟩ (.slice none 0 0) = U := ⟨_, rfl⟩
  have fX6 := H_rs.out.frozen 2
  have cX6 := H_rs.out.cell 2
  have N_rd : Blk X6 (w.heap.size + 1 + 1 + 1) 30 #[.slice none 0 0, .int .i64 0, .slice none 0 0] := eX6 ▸ H_rd.out.other (show w.heap.size + 1 + 1 + 1 + 1 ≠ w.heap.size + 1 + 1 + 1 by omega) _
  have N_rs : Blk X6 (w.heap.size + 1 + 1 + 1 + 1) 39 #[.int .i64 0, .int .i64 0, .slice none 0 0, .slice none 0 0, .slice none 0 0, .slice none 0 0] := eX6 ▸ H_rs.out.set_ 2 _
  have NB : Below w.heap.size w X6 := eX6 ▸ HB.out.setCell (p := ⟨w.heap.size + 1 + 1 + 1 + 1, 2, none⟩) (by show w.heap.size ≤ w.heap.size + 1 + 1 + 1 + 1; omega) _
  clear H_rd H_rs HB
  have H_rd := Lib.hid N_rd
  have H_rs := Lib.hid N_rs
  have HB := Lib.hid NB
  clear NB N_rd N_rs
  obtain ⟨X7, eX7⟩ : ∃ U, X6.setCell ⟨w.heap.size + 1 + 1 + 1 + 1, 3, none⟩ (.slice none 0 0) = U := ⟨_, rfl⟩
  have fX7 := H_rs.out.frozen 3
  have cX7 := H_rs.out.cell 3
  have N_rd : Blk X7 (w.heap.size + 1 + 1 + 1) 30 #[.slice none 0 0, .int .i64 0, .slice none 0 0] := eX7 ▸ H_rd.out.other (show w.heap.size + 1 + 1 + 1 + 1 ≠ w.heap.size + 1 + 1 + 1 by omega) _
  have N_rs : Blk X7 (w.heap.size + 1 + 1 + 1 + 1) 39 #[.int .i64 0, .int .i64 0, .slice none 0 0, .slice none 0 0, .slice none 0 0, .slice none 0 0] := eX7 ▸ H_rs.out.set_ 3 _
  have NB : Below w.heap.size w X7 := eX7 ▸ HB.out.setCell (p := ⟨w.heap.size + 1 + 1 + 1 + 1, 3, none⟩) (by show w.heap.size ≤ w.heap.size + 1 + 1 + 1 + 1; omega) _
  clear H_rd H_rs HB
  have H_rd := Lib.hid N_rd
  have H_rs := Lib.hid N_rs
  have HB := Lib.hid NB
  clear NB N_rd N_rs
  obtain ⟨X8, eX8⟩ : ∃ U, X7.setCell ⟨w.heap.size + 1 + 1 + 1 + 1, 4, none⟩ (.slice none 0 0) = U := ⟨_, rfl⟩
  have fX8 := H_rs.out.frozen 4
  have cX8 := H_rs.out.cell 4
  have N_rd : Blk X8 (w.heap.size + 1 + 1 + 1) 30 #[.slice none 0 0, .int .i64 0, .slice none 0 0] := eX8 ▸ H_rd.out.other (show w.heap.size + 1 + 1 + 1 + 1 ≠ w.heap.size + 1 + 1 + 1 by omega) _
  have N_rs : Blk X8 (w.heap.size + 1 + 1 + 1 + 1) 39 #[.int .i64 0, .int .i64 0, .slice none 0 0, .slice none 0 0, .slice none 0 0, .slice none 0 0] := eX8 ▸ H_rs.out.set_ 4 _
  have NB : Below w.heap.size w X8 := eX8 ▸ HB.out.setCell (p := ⟨w.heap.size + 1 + 1 + 1 + 1, 4, none⟩) (by show w.heap.size ≤ w.heap.size + 1 + 1 + 1 + 1; omega) _
  clear H_rd H_rs HB
  have H_rd := Lib.hid N_rd
  have H_rs := Lib.hid N_rs
  have HB := Lib.hid NB
  clear NB N_rd N_rs
  obtain ⟨X9, eX9⟩ : ∃ U, X8.setCell ⟨w.heap.size + 1 + 1 + 1 + 1, 5, none⟩ (.slice none 0 0) = U := ⟨_, rfl⟩
  have fX9 := H_rs.out.frozen 5
  have cX9 := H_rs.out.cell 5
  have N_rd : Blk X9 (w.heap.size + 1 + 1 + 1) 30 #[.slice none 0 0, .int .i64 0, .slice none 0 0] := eX9 ▸ H_rd.out.other (show w.heap.size + 1 + 1 + 1 + 1 ≠ w.heap.size + 1 + 1 + 1 by omega) _
  have N_rs : Blk X9 (w.heap.size + 1 + 1 + 1 + 1) 39 #[.int .i64 0, .int .i64 0, .slice none 0 0, .slice none 0 0, .slice none 0 0, .slice none 0 0] := eX9 ▸ H_rs.out.set_ 5 _
  have NB : Below w.heap.size w X9 := eX9 ▸ HB.out.setCell (p := ⟨w.heap.size + 1 + 1 + 1 + 1, 5, none⟩) (by show w.heap.size ≤ w.heap.size + 1 + 1 + 1 + 1; omega) _
  clear H_rd H_rs HB
  have H_rd := Lib.hid N_rd
  have H_rs := Lib.hid N_rs
  have HB := Lib.hid NB
  clear NB N_rd N_rs
  have r0 := H_rd.out.cell 0
  have r1 := H_rd.out.cell 1
  have r2 := H_rd.out.cell 2
  have t0 := H_rs.out.cell 0
  have t1 := H_rs.out.cell 1
  have t2 := H_rs.out.cell 2
  have t3 := H_rs.out.cell 3
  have t4 := H_rs.out.cell 4
  have t5 := H_rs.out.cell 5
  go_wp2
  exact bodyPost_ret (v := .tuple #[.agg #[.slice none 0 0, .int .i64 0, .slice none 0 0], .agg #[.int .i64 0, .int .i64 0, .slice none 0 0, .slice none 0 0, .slice none 0 0, .slice none 0 0], .int .i64 (er : Int)]) (by simp [results, Try.results7, go_sem, r0, r1, r2, t0, t1, t2, t3, t4, t5]) rfl ⟨rfl, HB.out⟩
set_option maxHeartbeats 16000000 in
theorem gState_go {N U Q : Option Addr} {er n B : Nat} {list : List Int} {ans : Option (St.State × Gn.D)} (n1 k c1 c2 f : Nat) (p : Gn.Sp) (y : MM) (w : World) (her : er ≠ 0) (hme : y.me = 0) (hBw : B ≤ w.heap.size) (hck : ∀ W, Below w.heap.size w W → Calls Try.prog 17 #[.agg #[.slice N n1 c1, .slice U k c2], .agg #[.int .i64 p.code, .int .i64 p.mem, .int .i64 p.stack, .int .i64 p.val, .slice Q 13 f]] W (TellsN W 0))
    (hS : ∀ W g, Below w.heap.size w W → w.heap.size ≤ g → Blk W g 59 (MC.cells ⟨g, k, p, Q, f, er, n, list, B⟩ y) → Calls Try.prog 18 #[.pointer (some ⟨g, 0, none⟩)] W (StP W ⟨g, k, p, Q, f, er, n, list, B⟩ ans)) :
    Calls Try.prog 7 #[.agg #[.slice N n1 c1, .slice U k c2], .agg #[.int .i64 p.code, .int .i64 p.mem, .int .i64 p.stack, .int .i64 p.val, .slice Q 13 f], y.dv] w (GotG w B er n list ans) := by
  unfold MM.dv MC.cells at *
  dsimp only at hS ⊢
  simp only [hme] at hS
  clear hme
  have hb := (((((Below.refl w.heap.size w).alloc (Nat.le_refl _) (.cells #[.slice N n1 c1, .slice U k c2] 25)).alloc (by simp) (.cells #[.int .i64 p.code, .int .i64 p.mem, .int .i64 p.stack, .int .i64 p.val, .slice Q 13 f] 28)).alloc (by simp; omega) (.cells #[.slice y.A y.n y.c, .int .i64 y.i, .slice y.L y.m y.d] 30)).alloc (by simp; omega) (.cells #[.slice none 0 0, .int .i64 0, .slice none 0 0] 30)).alloc (by simp; omega) (.cells #[.int .i64 0, .int .i64 0, .slice none 0 0, .slice none 0 0, .slice none 0 0, .slice none 0 0] 39)
  obtain ⟨V1, hV1⟩ : ∃ V, w.alloc (.cells #[.slice N n1 c1, .slice U k c2] 25) = V := ⟨_, rfl⟩
  have z1 : V1.heap.size = w.heap.size + 1 := by rw [← hV1]; simp
  have p0 : Blk V1 w.heap.size 25 #[.slice N n1 c1, .slice U k c2] := hV1 ▸ Blk.new _ _ _
  obtain ⟨V2, hV2⟩ : ∃ V, V1.alloc (.cells #[.int .i64 p.code, .int .i64 p.mem, .int .i64 p.stack, .int .i64 p.val, .slice Q 13 f] 28) = V := ⟨_, rfl⟩
  have z2 : V2.heap.size = w.heap.size + 1 + 1 := by rw [← hV2]; simp [z1]
  have p1 : Blk V2 (w.heap.size + 1) 28 #[.int .i64 p.code, .int .i64 p.mem, .int .i64 p.stack, .int .i64 p.val, .slice Q 13 f] := z1 ▸ hV2 ▸ Blk.new V1 28 #[.int .i64 p.code, .int .i64 p.mem, .int .i64 p.stack, .int .i64 p.val, .slice Q 13 f]
  obtain ⟨V3, hV3⟩ : ∃ V, V2.alloc (.cells #[.slice y.A y.n y.c, .int .i64 y.i, .slice y.L y.m y.d] 30) = V := ⟨_, rfl⟩
  have z3 : V3.heap.size = w.heap.size + 1 + 1 + 1 := by rw [← hV3]; simp [z2]
  have p2 : Blk V3 (w.heap.size + 1 + 1) 30 #[.slice y.A y.n y.c, .int .i64 y.i, .slice y.L y.m y.d] := z2 ▸ hV3 ▸ Blk.new V2 30 #[.slice y.A y.n y.c, .int .i64 y.i, .slice y.L y.m y.d]
  obtain ⟨V4, hV4⟩ : ∃ V, V3.alloc (.cells #[.slice none 0 0, .int .i64 0, .slice none 0 0] 30) = V := ⟨_, rfl⟩
  have z4 : V4.heap.size = w.heap.size + 1 + 1 + 1 + 1 := by rw [← hV4]; simp [z3]
  have p3 : Blk V4 (w.heap.size + 1 + 1 + 1) 30 #[.slice none 0 0, .int .i64 0, .slice none 0 0] := z3 ▸ hV4 ▸ Blk.new V3 30 #[.slice none 0 0, .int .i64 0, .slice none 0 0]
  obtain ⟨V5, hV5⟩ : ∃ V, V4.alloc (.cells #[.int .i64 0, .int .i64 0, .slice none 0 0, .slice none 0 0, .slice none 0 0, .slice none 0 0] 39) = V := ⟨_, rfl⟩
  have z5 : V5.heap.size = w.heap.size + 1 + 1 + 1 + 1 + 1 := by rw [← hV5]; simp [z4]
  have p4 : Blk V5 (w.heap.size + 1 + 1 + 1 + 1) 39 #[.int .i64 0, .int .i64 0, .slice none 0 0, .slice none 0 0, .slice none 0 0, .slice none 0 0] := z4 ▸ hV5 ▸ Blk.new V4 39 #[.int .i64 0, .int .i64 0, .slice none 0 0, .slice none 0 0, .slice none 0 0, .slice none 0 0]
  have p0 : Blk V5 w.heap.size 25 #[.slice N n1 c1, .slice U k c2] := hV5 ▸ (hV4 ▸ (hV3 ▸ (hV2 ▸ p0.alloc _ : Blk V2 _ _ _).alloc _ : Blk V3 _ _ _).alloc _ : Blk V4 _ _ _).alloc _
  have p1 : Blk V5 (w.heap.size + 1) 28 #[.int .i64 p.code, .int .i64 p.mem, .int .i64 p.stack, .int .i64 p.val, .slice Q 13 f] := hV5 ▸ (hV4 ▸ (hV3 ▸ p1.alloc _ : Blk V3 _ _ _).alloc _ : Blk V4 _ _ _).alloc _
  have p2 : Blk V5 (w.heap.size + 1 + 1) 30 #[.slice y.A y.n y.c, .int .i64 y.i, .slice y.L y.m y.d] := hV5 ▸ (hV4 ▸ p2.alloc _ : Blk V4 _ _ _).alloc _
  have p3 : Blk V5 (w.heap.size + 1 + 1 + 1) 30 #[.slice none 0 0, .int .i64 0, .slice none 0 0] := hV5 ▸ p3.alloc _
  rw [hV1, hV2, hV3, hV4, hV5] at hb
  have HB := Lib.hid hb
  have HP0 := Lib.hid p0
  have HP1 := Lib.hid p1
  have HP2 := Lib.hid p2
  have HP3 := Lib.hid p3
  have HP4 := Lib.hid p4
  have HZ5 := Lib.hid z5
  have HC := Lib.hid (hck V5 hb)
  have l0 := HP0.out.cell 0
  have l1 := HP0.out.cell 1
  have s0 := HP1.out.cell 0
  have s1 := HP1.out.cell 1
  have s2 := HP1.out.cell 2
  have s3 := HP1.out.cell 3
  have s4 := HP1.out.cell 4
  clear hb p0 p1 p2 p3 p4 z5 hck
  have HS := Lib.hid hS
  have hz : ((er : Int) != 0) = true := by rw [bne_iff_ne]; omega
  clear hS
  have ga : ∃ a, GotG w B er n list ans = a := ⟨_, rfl⟩
  obtain ⟨post, hpost⟩ := ga
  rw [hpost]
  have HPOST := Lib.hid hpost
  clear hpost
  go_enter Try.func7, Try.ntmps7
  go_wp2_with (fail)
  refine HC.out.mono ?_
  rintro e w1 ⟨rfl, hb1⟩
  have hp0 := HP0.out.below hb1 HP0.out.lt
  have hp1 := HP1.out.below hb1 HP1.out.lt
  have hp2 := HP2.out.below hb1 HP2.out.lt
  have H_rd := Lib.hid (HP3.out.below hb1 HP3.out.lt)
  have H_rs := Lib.hid (HP4.out.below hb1 HP4.out.lt)
  have hbw := HB.out.trans (hb1.mono HB.out.size)
  have hs1 : w.heap.size + 1 + 1 + 1 + 1 + 1 ≤ w1.heap.size := by rw [← HZ5.out]; exact hb1.size
  clear l0 l1 s0 s1 s2 s3 s4 hb1 HC HP0 HP1 HP2 HP3 HP4 HB
  have l1 := hp0.cell 1
  have s0 := hp1.cell 0
  have s1 := hp1.cell 1
  have s2 := hp1.cell 2
  have s3 := hp1.cell 3
  have s4 := hp1.cell 4
  have d0 := hp2.cell 0
  have d1 := hp2.cell 1
  have d2 := hp2.cell 2
  obtain ⟨W2, hW2⟩ : ∃ V, w1.alloc (.cells #[.int .i64 (k : Int), .int .i64 p.code, .int .i64 p.mem, .int .i64 p.stack, .int .i64 p.val, .slice Q 13 f, .slice y.A y.n y.c, .int .i64 y.i, .slice y.L y.m y.d, .int .i64 0] 59) = V := ⟨_, rfl⟩
  have hg : Blk W2 w1.heap.size 59 #[.int .i64 (k : Int), .int .i64 p.code, .int .i64 p.mem, .int .i64 p.stack, .int .i64 p.val, .slice Q 13 f, .slice y.A y.n y.c, .int .i64 y.i, .slice y.L y.m y.d, .int .i64 0] := hW2 ▸ Blk.new _ _ _
  have hb2 : Below w.heap.size w W2 := hW2 ▸ hbw.alloc hbw.size _
  have hgl := hg.lt
  have H_rd2 := Lib.hid (show Blk W2 (w.heap.size + 1 + 1 + 1) 30 #[.slice none 0 0, .int .i64 0, .slice none 0 0] from hW2 ▸ H_rd.out.alloc _)
  have H_rs2 := Lib.hid (show Blk W2 (w.heap.size + 1 + 1 + 1 + 1) 39 #[.int .i64 0, .int .i64 0, .slice none 0 0, .slice none 0 0, .slice none 0 0, .slice none 0 0] from hW2 ▸ H_rs.out.alloc _)
  have HG := Lib.hid hg
  have HB2 := Lib.hid hb2
  clear hp0 hp1 hp2 H_rd H_rs hbw hb2
  go_wp2_with (fail)
  refine (HS.out W2 w1.heap.size HB2.out (by omega) HG.out).mono ?_
  rintro e v1 ⟨ym, cv, mv, sv, s, rfl, hm, hk, hoc, hom, hos, hval⟩
  clear hW2 l1 s0 s1 s2 s3 s4 d0 d1 d2
  obtain ⟨cA, cc, rfl⟩ := ownT_slice hoc
  obtain ⟨mA, mc, rfl⟩ := ownT_slice hom
  obtain ⟨sA, sc, rfl⟩ := ownT_slice hos
  have H_rd := Lib.hid (H_rd2.out.kpg hk (by show w.heap.size + 1 + 1 + 1 ≠ w1.heap.size; omega))
  have H_rs := Lib.hid (H_rs2.out.kpg hk (by show w.heap.size + 1 + 1 + 1 + 1 ≠ w1.heap.size; omega))
  have HB := Lib.hid (HB2.out.trans (hk.low (B := w.heap.size) (by show w.heap.size ≤ w1.heap.size; omega) HB2.out.size))
  have hv1 : W2.heap.size ≤ v1.heap.size := hk.size
  have H_m : Hid (Blk v1 w1.heap.size 59 #[.int .i64 (k : Int), .int .i64 p.code, .int .i64 p.mem, .int .i64 p.stack, .int .i64 p.val, .slice Q 13 f, .slice ym.A ym.n ym.c, .int .i64 ym.i, .slice ym.L ym.m ym.d, .int .i64 ym.me]) := Lib.hid hm.box
  clear H_rd2 H_rs2 HB2 HG hk HS
  have HSV := Lib.hid hval
  obtain ⟨v2, hv2⟩ : ∃ V, v1.alloc (.cells #[.int .i64 0, .int .i64 0, .slice none 0 0, .slice none 0 0, .slice none 0 0, .slice none 0 0] 39) = V := ⟨_, rfl⟩
  have hx : Blk v2 v1.heap.size 39 #[.int .i64 0, .int .i64 0, .slice none 0 0, .slice none 0 0, .slice none 0 0, .slice none 0 0] := hv2 ▸ Blk.new _ _ _
  have hvz : v1.heap.size < v2.heap.size := hx.lt
  have n_rd : Blk v2 (w.heap.size + 1 + 1 + 1) 30 #[.slice none 0 0, .int .i64 0, .slice none 0 0] := hv2 ▸ H_rd.out.alloc _
  have n_rs : Blk v2 (w.heap.size + 1 + 1 + 1 + 1) 39 #[.int .i64 0, .int .i64 0, .slice none 0 0, .slice none 0 0, .slice none 0 0, .slice none 0 0] := hv2 ▸ H_rs.out.alloc _
  have n_m : Blk v2 w1.heap.size 59 #[.int .i64 (k : Int), .int .i64 p.code, .int .i64 p.mem, .int .i64 p.stack, .int .i64 p.val, .slice Q 13 f, .slice ym.A ym.n ym.c, .int .i64 ym.i, .slice ym.L ym.m ym.d, .int .i64 ym.me] := hv2 ▸ H_m.out.alloc _
  have n_B : Below w.heap.size w v2 := hv2 ▸ HB.out.alloc HB.out.size _
  have hkm := hm.alloc (.cells #[.int .i64 0, .int .i64 0, .slice none 0 0, .slice none 0 0, .slice none 0 0, .slice none 0 0] 39)
  rw [hv2] at hkm
  have hz8 : w.heap.size ≤ W2.heap.size := by omega
  have HWZ := Lib.hid hz8
  have oc : v2.ownsRow w.heap.size 66 3 (.slice cA s.code.length cc) s.code.length (fcells ivs s.code) := hv2 ▸ (ownT_mono hoc hz8).alloc _
  have om : v2.ownsRow w.heap.size 34 2 (.slice mA s.mem.length mc) s.mem.length (fcells avs s.mem) := hv2 ▸ (ownT_mono hom hz8).alloc _
  have os : v2.ownsRow w.heap.size 70 3 (.slice sA s.stack.length sc) s.stack.length (fcells svs s.stack) := hv2 ▸ (ownT_mono hos hz8).alloc _
  clear H_rd H_rs H_m HB hm hoc hom hos hval
  have H_rd := Lib.hid n_rd
  have H_rs := Lib.hid n_rs
  have H_m := Lib.hid n_m
  have H_x := Lib.hid hx
  have HB := Lib.hid n_B
  have OC := Lib.hid oc
  have OM := Lib.hid om
  have OS := Lib.hid os
  have RW := Lib.hid hkm.rows
  have RSH := Lib.hid hkm.sh
  clear n_rd n_rs n_m hx n_B oc om os hkm hz8
  have hsm : w1.heap.size < v1.heap.size := Nat.lt_of_lt_of_le hgl hv1
  cases ans with
  | none =>
    obtain rfl : GErr w er = post := HPOST.out
    have hy : ym = ⟨none, 0, 0, 0, none, 0, 0, 0, (er : Int)⟩ := RSH.out
    subst hy
    clear RW RSH OC OM OS HSV
    dsimp only at H_m
    obtain ⟨X1, eX1⟩ : ∃ U, v2.setCell ⟨v1.heap.size, 0, none⟩ (.int .i64 s.pc.v) = U := ⟨_, rfl⟩
    have fX1 := H_x.out.frozen 0
    have cX1 := H_x.out.cell 0
    have N_rd : Blk X1 (w.heap.size + 1 + 1 + 1) 30 #[.slice none 0 0, .int .i64 0, .slice none 0 0] := eX1 ▸ H_rd.out.other (show v1.heap.size ≠ w.heap.size + 1 + 1 + 1 by omega) _
    have N_rs : Blk X1 (w.heap.size + 1 + 1 + 1 + 1) 39 #[.int .i64 0, .int .i64 0, .slice none 0 0, .slice none 0 0, .slice none 0 0, .slice none 0 0] := eX1 ▸ H_rs.out.other (show v1.heap.size ≠ w.heap.size + 1 + 1 + 1 + 1 by omega) _
    have N_m : Blk X1 (w1.heap.size) 59 #[.int .i64 (k : Int), .int .i64 p.code, .int .i64 p.mem, .int .i64 p.stack, .int .i64 p.val, .slice Q 13 f, .slice none 0 0, .int .i64 0, .slice none 0 0, .int .i64 (er : Int)] := eX1 ▸ H_m.out.other (show v1.heap.size ≠ w1.heap.size by omega) _
    have N_x : Blk X1 (v1.heap.size) 39 #[.int .i64 s.pc.v, .int .i64 0, .slice none 0 0, .slice none 0 0, .slice none 0 0, .slice none 0 0] := eX1 ▸ H_x.out.set_ 0 _
    have NB : Below w.heap.size w X1 := eX1 ▸ HB.out.setCell (p := ⟨v1.heap.size, 0, none⟩) (by show w.heap.size ≤ v1.heap.size; omega) _
    clear H_rd H_rs H_m H_x HB
    have H_rd := Lib.hid N_rd
    have H_rs := Lib.hid N_rs
    have H_m := Lib.hid N_m
    have H_x := Lib.hid N_x
    have HB := Lib.hid NB
    clear NB N_rd N_rs N_m N_x
    obtain ⟨X2, eX2⟩ : ∃ U, X1.setCell ⟨v1.heap.size, 1, none⟩ (.int .i64 s.pc.l) = U := ⟨_, rfl⟩
    have fX2 := H_x.out.frozen 1
    have cX2 := H_x.out.cell 1
    have N_rd : Blk X2 (w.heap.size + 1 + 1 + 1) 30 #[.slice none 0 0, .int .i64 0, .slice none 0 0] := eX2 ▸ H_rd.out.other (show v1.heap.size ≠ w.heap.size + 1 + 1 + 1 by omega) _
    have N_rs : Blk X2 (w.heap.size + 1 + 1 + 1 + 1) 39 #[.int .i64 0, .int .i64 0, .slice none 0 0, .slice none 0 0, .slice none 0 0, .slice none 0 0] := eX2 ▸ H_rs.out.other (show v1.heap.size ≠ w.heap.size + 1 + 1 + 1 + 1 by omega) _
    have N_m : Blk X2 (w1.heap.size) 59 #[.int .i64 (k : Int), .int .i64 p.code, .int .i64 p.mem, .int .i64 p.stack, .int .i64 p.val, .slice Q 13 f, .slice none 0 0, .int .i64 0, .slice none 0 0, .int .i64 (er : Int)] := eX2 ▸ H_m.out.other (show v1.heap.size ≠ w1.heap.size by omega) _
    have N_x : Blk X2 (v1.heap.size) 39 #[.int .i64 s.pc.v, .int .i64 s.pc.l, .slice none 0 0, .slice none 0 0, .slice none 0 0, .slice none 0 0] := eX2 ▸ H_x.out.set_ 1 _
    have NB : Below w.heap.size w X2 := eX2 ▸ HB.out.setCell (p := ⟨v1.heap.size, 1, none⟩) (by show w.heap.size ≤ v1.heap.size; omega) _
    clear H_rd H_rs H_m H_x HB
    have H_rd := Lib.hid N_rd
    have H_rs := Lib.hid N_rs
    have H_m := Lib.hid N_m
    have H_x := Lib.hid N_x
    have HB := Lib.hid NB
    clear NB N_rd N_rs N_m N_x
    obtain ⟨X3, eX3⟩ : ∃ U, X2.setCell ⟨v1.heap.size, 2, none⟩ (.slice cA s.code.length cc) = U := ⟨_, rfl⟩
    have fX3 := H_x.out.frozen 2
    have cX3 := H_x.out.cell 2
    have N_rd : Blk X3 (w.heap.size + 1 + 1 + 1) 30 #[.slice none 0 0, .int .i64 0, .slice none 0 0] := eX3 ▸ H_rd.out.other (show v1.heap.size ≠ w.heap.size + 1 + 1 + 1 by omega) _
    have N_rs : Blk X3 (w.heap.size + 1 + 1 + 1 + 1) 39 #[.int .i64 0, .int .i64 0, .slice none 0 0, .slice none 0 0, .slice none 0 0, .slice none 0 0] := eX3 ▸ H_rs.out.other (show v1.heap.size ≠ w.heap.size + 1 + 1 + 1 + 1 by omega) _
    have N_m : Blk X3 (w1.heap.size) 59 #[.int .i64 (k : Int), .int .i64 p.code, .int .i64 p.mem, .int .i64 p.stack, .int .i64 p.val, .slice Q 13 f, .slice none 0 0, .int .i64 0, .slice none 0 0, .int .i64 (er : Int)] := eX3 ▸ H_m.out.other (show v1.heap.size ≠ w1.heap.size by omega) _
    have N_x : Blk X3 (v1.heap.size) 39 #[.int .i64 s.pc.v, .int .i64 s.pc.l, .slice cA s.code.length cc, .slice none 0 0, .slice none 0 0, .slice none 0 0] := eX3 ▸ H_x.out.set_ 2 _
    have NB : Below w.heap.size w X3 := eX3 ▸ HB.out.setCell (p := ⟨v1.heap.size, 2, none⟩) (by show w.heap.size ≤ v1.heap.size; omega) _
    clear H_rd H_rs H_m H_x HB
    have H_rd := Lib.hid N_rd
    have H_rs := Lib.hid N_rs
    have H_m := Lib.hid N_m
    have H_x := Lib.hid N_x
    have HB := Lib.hid NB
    clear NB N_rd N_rs N_m N_x
    obtain ⟨X4, eX4⟩ : ∃ U, X3.setCell ⟨v1.heap.size, 3, none⟩ (.slice mA s.mem.length mc) = U := ⟨_, rfl⟩
    have fX4 := H_x.out.frozen 3
    have cX4 := H_x.out.cell 3
    have N_rd : Blk X4 (w.heap.size + 1 + 1 + 1) 30 #[.slice none 0 0, .int .i64 0, .slice none 0 0] := eX4 ▸ H_rd.out.other (show v1.heap.size ≠ w.heap.size + 1 + 1 + 1 by omega) _
    have N_rs : Blk X4 (w.heap.size + 1 + 1 + 1 + 1) 39 #[.int .i64 0, .int .i64 0, .slice none 0 0, .slice none 0 0, .slice none 0 0, .slice none 0 0] := eX4 ▸ H_rs.out.other (show v1.heap.size ≠ w.heap.size + 1 + 1 + 1 + 1 by omega) _
    have N_m : Blk X4 (w1.heap.size) 59 #[.int .i64 (k : Int), .int .i64 p.code, .int .i64 p.mem, .int .i64 p.stack, .int .i64 p.val, .slice Q 13 f, .slice none 0 0, .int .i64 0, .slice none 0 0, .int .i64 (er : Int)] := eX4 ▸ H_m.out.other (show v1.heap.size ≠ w1.heap.size by omega) _
    have N_x : Blk X4 (v1.heap.size) 39 #[.int .i64 s.pc.v, .int .i64 s.pc.l, .slice cA s.code.length cc, .slice mA s.mem.length mc, .slice none 0 0, .slice none 0 0] := eX4 ▸ H_x.out.set_ 3 _
    have NB : Below w.heap.size w X4 := eX4 ▸ HB.out.setCell (p := ⟨v1.heap.size, 3, none⟩) (by show w.heap.size ≤ v1.heap.size; omega) _
    clear H_rd H_rs H_m H_x HB
    have H_rd := Lib.hid N_rd
    have H_rs := Lib.hid N_rs
    have H_m := Lib.hid N_m
    have H_x := Lib.hid N_x
    have HB := Lib.hid NB
    clear NB N_rd N_rs N_m N_x
    obtain ⟨X5, eX5⟩ : ∃ U, X4.setCell ⟨v1.heap.size, 4, none⟩ (.slice sA s.stack.length sc) = U := ⟨_, rfl⟩
    have fX5 := H_x.out.frozen 4
    have cX5 := H_x.out.cell 4
    have N_rd : Blk X5 (w.heap.size + 1 + 1 + 1) 30 #[.slice none 0 0, .int .i64 0, .slice none 0 0] := eX5 ▸ H_rd.out.other (show v1.heap.size ≠ w.heap.size + 1 + 1 + 1 by omega) _
    have N_rs : Blk X5 (w.heap.size + 1 + 1 + 1 + 1) 39 #[.int .i64 0, .int .i64 0, .slice none 0 0, .slice none 0 0, .slice none 0 0, .slice none 0 0] := eX5 ▸ H_rs.out.other (show v1.heap.size ≠ w.heap.size + 1 + 1 + 1 + 1 by omega) _
    have N_m : Blk X5 (w1.heap.size) 59 #[.int .i64 (k : Int), .int .i64 p.code, .int .i64 p.mem, .int .i64 p.stack, .int .i64 p.val, .slice Q 13 f, .slice none 0 0, .int .i64 0, .slice none 0 0, .int .i64 (er : Int)] := eX5 ▸ H_m.out.other (show v1.heap.size ≠ w1.heap.size by omega) _
    have N_x : Blk X5 (v1.heap.size) 39 #[.int .i64 s.pc.v, .int .i64 s.pc.l, .slice cA s.code.length cc, .slice mA s.mem.length mc, .slice sA s.stack.length sc, .slice none 0 0] := eX5 ▸ H_x.out.set_ 4 _
    have NB : Below w.heap.size w X5 := eX5 ▸ HB.out.setCell (p := ⟨v1.heap.size, 4, none⟩) (by show w.heap.size ≤ v1.heap.size; omega) _
    clear H_rd H_rs H_m H_x HB
    have H_rd := Lib.hid N_rd
    have H_rs := Lib.hid N_rs
    have H_m := Lib.hid N_m
    have H_x := Lib.hid N_x
    have HB := Lib.hid NB
    clear NB N_rd N_rs N_m N_x
    obtain ⟨X6, eX6⟩ : ∃ U, X5.setCell ⟨v1.heap.size, 5, none⟩ (.slice none 0 0) = U := ⟨_, rfl⟩
    have fX6 := H_x.out.frozen 5
    have cX6 := H_x.out.cell 5
    have N_rd : Blk X6 (w.heap.size + 1 + 1 + 1) 30 #[.slice none 0 0, .int .i64 0, .slice none 0 0] := eX6 ▸ H_rd.out.other (show v1.heap.size ≠ w.heap.size + 1 + 1 + 1 by omega) _
    have N_rs : Blk X6 (w.heap.size + 1 + 1 + 1 + 1) 39 #[.int .i64 0, .int .i64 0, .slice none 0 0, .slice none 0 0, .slice none 0 0, .slice none 0 0] := eX6 ▸ H_rs.out.other (show v1.heap.size ≠ w.heap.size + 1 + 1 + 1 + 1 by omega) _
    have N_m : Blk X6 (w1.heap.size) 59 #[.int .i64 (k : Int), .int .i64 p.code, .int .i64 p.mem, .int .i64 p.stack, .int .i64 p.val, .slice Q 13 f, .slice none 0 0, .int .i64 0, .slice none 0 0, .int .i64 (er : Int)] := eX6 ▸ H_m.out.other (show v1.heap.size ≠ w1.heap.size by omega) _
    have N_x : Blk X6 (v1.heap.size) 39 #[.int .i64 s.pc.v, .int .i64 s.pc.l, .slice cA s.code.length cc, .slice mA s.mem.length mc, .slice sA s.stack.length sc, .slice none 0 0] := eX6 ▸ H_x.out.set_ 5 _
    have NB : Below w.heap.size w X6 := eX6 ▸ HB.out.setCell (p := ⟨v1.heap.size, 5, none⟩) (by show w.heap.size ≤ v1.heap.size; omega) _
    clear H_rd H_rs H_m H_x HB
    have H_rd := Lib.hid N_rd
    have H_rs := Lib.hid N_rs
    have H_m := Lib.hid N_m
    have H_x := Lib.hid N_x
    have HB := Lib.hid NB
    clear NB N_rd N_rs N_m N_x
    have m9 := H_m.out.cell 9
    have M9 := Lib.hid m9
    go_wp2_with (fail)
    clear eX1 fX1 cX1 eX2 fX2 cX2 eX3 fX3 cX3 eX4 fX4 cX4 eX5 fX5 cX5 eX6 fX6 cX6 hv2 m9
    refine Free.region_seq [6, 7] [5] 9 (fun W' => W'.cell? ⟨w1.heap.size, 9, none⟩ = some (.int .i64 (er : Int))) (by kernel_rfl) (by kernel_rfl) (by kernel_rfl) (by kernel_rfl) (M9.out) (fun ops hops => ?_)
    clear hops
    iterate 6
      refine Free.Seq.quiet (v := ?_) (a' := ?_) rfl rfl (fun W' hW' => ?_) ?_ ?_
      rotate_left 2
      · first | obtain s0 := hW' rfl | skip
        go_simp
        try with_reducible rfl
      · simp only [Act.put, List.setIfInBounds_toArray, List.set_cons_zero, List.set_cons_succ]
        try with_reducible rfl
    have HDW := Lib.hid (show Below w.heap.size w X6.drew from HB.out.drew)
    clear HB
    have HB := HDW
    clear HDW
    have Z_rd : Blk X6.drew (w.heap.size + 1 + 1 + 1) 30 #[.slice none 0 0, .int .i64 0, .slice none 0 0] := H_rd.out.drew
    clear H_rd
    have H_rd := Lib.hid Z_rd
    clear Z_rd
    have Z_rs : Blk X6.drew (w.heap.size + 1 + 1 + 1 + 1) 39 #[.int .i64 0, .int .i64 0, .slice none 0 0, .slice none 0 0, .slice none 0 0, .slice none 0 0] := H_rs.out.drew
    clear H_rs
    have H_rs := Lib.hid Z_rs
    clear Z_rs
    have Z_m : Blk X6.drew (w1.heap.size) 59 #[.int .i64 (k : Int), .int .i64 p.code, .int .i64 p.mem, .int .i64 p.stack, .int .i64 p.val, .slice Q 13 f, .slice none 0 0, .int .i64 0, .slice none 0 0, .int .i64 (er : Int)] := H_m.out.drew
    clear H_m
    have H_m := Lib.hid Z_m
    clear Z_m
    have Z_x : Blk X6.drew (v1.heap.size) 39 #[.int .i64 s.pc.v, .int .i64 s.pc.l, .slice cA s.code.length cc, .slice mA s.mem.length mc, .slice sA s.stack.length sc, .slice none 0 0] := H_x.out.drew
    clear H_x
    have H_x := Lib.hid Z_x
    clear Z_x
    obtain ⟨X7, eX7⟩ : ∃ U, X6.drew.setCell ⟨w.heap.size + 1 + 1 + 1, 0, none⟩ (.slice none 0 0) = U := ⟨_, rfl⟩
    have fX7 := H_rd.out.frozen 0
    have cX7 := H_rd.out.cell 0
    have N_rd : Blk X7 (w.heap.size + 1 + 1 + 1) 30 #[.slice none 0 0, .int .i64 0, .slice none 0 0] := eX7 ▸ H_rd.out.set_ 0 _
    have N_rs : Blk X7 (w.heap.size + 1 + 1 + 1 + 1) 39 #[.int .i64 0, .int .i64 0, .slice none 0 0, .slice none 0 0, .slice none 0 0, .slice none 0 0] := eX7 ▸ H_rs.out.other (show w.heap.size + 1 + 1 + 1 ≠ w.heap.size + 1 + 1 + 1 + 1 by omega) _
    have N_m : Blk X7 (w1.heap.size) 59 #[.int .i64 (k : Int), .int .i64 p.code, .int .i64 p.mem, .int .i64 p.stack, .int .i64 p.val, .slice Q 13 f, .slice none 0 0, .int .i64 0, .slice none 0 0, .int .i64 (er : Int)] := eX7 ▸ H_m.out.other (show w.heap.size + 1 + 1 + 1 ≠ w1.heap.size by omega) _
    have N_x : Blk X7 (v1.heap.size) 39 #[.int .i64 s.pc.v, .int .i64 s.pc.l, .slice cA s.code.length cc, .slice mA s.mem.length mc, .slice sA s.stack.length sc, .slice none 0 0] := eX7 ▸ H_x.out.other (show w.heap.size + 1 + 1 + 1 ≠ v1.heap.size by omega) _
    have NB : Below w.heap.size w X7 := eX7 ▸ HB.out.setCell (p := ⟨w.heap.size + 1 + 1 + 1, 0, none⟩) (by show w.heap.size ≤ w.heap.size + 1 + 1 + 1; omega) _
    clear H_rd H_rs H_m H_x HB
    have H_rd := Lib.hid N_rd
    have H_rs := Lib.hid N_rs
    have H_m := Lib.hid N_m
    have H_x := Lib.hid N_x
    have HB := Lib.hid NB
    clear NB N_rd N_rs N_m N_x
    obtain ⟨X8, eX8⟩ : ∃ U, X7.setCell ⟨w.heap.size + 1 + 1 + 1, 1, none⟩ (.int .i64 0) = U := ⟨_, rfl⟩
    have fX8 := H_rd.out.frozen 1
    have cX8 := H_rd.out.cell 1
    have N_rd : Blk X8 (w.heap.size + 1 + 1 + 1) 30 #[.slice none 0 0, .int .i64 0, .slice none 0 0] := eX8 ▸ H_rd.out.set_ 1 _
    have N_rs : Blk X8 (w.heap.size + 1 + 1 + 1 + 1) 39 #[.int .i64 0, .int .i64 0, .slice none 0 0, .slice none 0 0, .slice none 0 0, .slice none 0 0] := eX8 ▸ H_rs.out.other (show w.heap.size + 1 + 1 + 1 ≠ w.heap.size + 1 + 1 + 1 + 1 by omega) _
    have N_m : Blk X8 (w1.heap.size) 59 #[.int .i64 (k : Int), .int .i64 p.code, .int .i64 p.mem, .int .i64 p.stack, .int .i64 p.val, .slice Q 13 f, .slice none 0 0, .int .i64 0, .slice none 0 0, .int .i64 (er : Int)] := eX8 ▸ H_m.out.other (show w.heap.size + 1 + 1 + 1 ≠ w1.heap.size by omega) _
    have N_x : Blk X8 (v1.heap.size) 39 #[.int .i64 s.pc.v, .int .i64 s.pc.l, .slice cA s.code.length cc, .slice mA s.mem.length mc, .slice sA s.stack.length sc, .slice none 0 0] := eX8 ▸ H_x.out.other (show w.heap.size + 1 + 1 + 1 ≠ v1.heap.size by omega) _
    have NB : Below w.heap.size w X8 := eX8 ▸ HB.out.setCell (p := ⟨w.heap.size + 1 + 1 + 1, 1, none⟩) (by show w.heap.size ≤ w.heap.size + 1 + 1 + 1; omega) _
    clear H_rd H_rs H_m H_x HB
    have H_rd := Lib.hid N_rd
    have H_rs := Lib.hid N_rs
    have H_m := Lib.hid N_m
    have H_x := Lib.hid N_x
    have HB := Lib.hid NB
    clear NB N_rd N_rs N_m N_x
    obtain ⟨X9, eX9⟩ : ∃ U, X8.setCell ⟨w.heap.size + 1 + 1 + 1, 2, none⟩ (.slice none 0 0) = U := ⟨_, rfl⟩
    have fX9 := H_rd.out.frozen 2
    have cX9 := H_rd.out.cell 2
    have N_rd : Blk X9 (w.heap.size + 1 + 1 + 1) 30 #[.slice none 0 0, .int .i64 0, .slice none 0 0] := eX9 ▸ H_rd.out.set_ 2 _
    have N_rs : Blk X9 (w.heap.size + 1 + 1 + 1 + 1) 39 #[.int .i64 0, .int .i64 0, .slice none 0 0, .slice none 0 0, .slice none 0 0, .slice none 0 0] := eX9 ▸ H_rs.out.other (show w.heap.size + 1 + 1 + 1 ≠ w.heap.size + 1 + 1 + 1 + 1 by omega) _
    have N_m : Blk X9 (w1.heap.size) 59 #[.int .i64 (k : Int), .int .i64 p.code, .int .i64 p.mem, .int .i64 p.stack, .int .i64 p.val, .slice Q 13 f, .slice none 0 0, .int .i64 0, .slice none 0 0, .int .i64 (er : Int)] := eX9 ▸ H_m.out.other (show w.heap.size + 1 + 1 + 1 ≠ w1.heap.size by omega) _
    have N_x : Blk X9 (v1.heap.size) 39 #[.int .i64 s.pc.v, .int .i64 s.pc.l, .slice cA s.code.length cc, .slice mA s.mem.length mc, .slice sA s.stack.length sc, .slice none 0 0] := eX9 ▸ H_x.out.other (show w.heap.size + 1 + 1 + 1 ≠ v1.heap.size by omega) _
    have NB : Below w.heap.size w X9 := eX9 ▸ HB.out.setCell (p := ⟨w.heap.size + 1 + 1 + 1, 2, none⟩) (by show w.heap.size ≤ w.heap.size + 1 + 1 + 1; omega) _
    clear H_rd H_rs H_m H_x HB
    have H_rd := Lib.hid N_rd
    have H_rs := Lib.hid N_rs
    have H_m := Lib.hid N_m
    have H_x := Lib.hid N_x
    have HB := Lib.hid NB
    clear NB N_rd N_rs N_m N_x
    have M91 := Lib.hid (H_m.out.cell 9)
    refine Free.Seq.loud_ rfl (.inl rfl) (fun K hK => ?_)
    go_simp
    refine hK.out _ _ rfl (fun _ => M91.out) ?_
    clear hK K eX7 fX7 cX7 eX8 fX8 cX8 eX9 fX9 cX9
    obtain ⟨X10, eX10⟩ : ∃ U, X9.setCell ⟨w.heap.size + 1 + 1 + 1 + 1, 0, none⟩ (.int .i64 0) = U := ⟨_, rfl⟩
    have fX10 := H_rs.out.frozen 0
    have cX10 := H_rs.out.cell 0
    have N_rd : Blk X10 (w.heap.size + 1 + 1 + 1) 30 #[.slice none 0 0, .int .i64 0, .slice none 0 0] := eX10 ▸ H_rd.out.other (show w.heap.size + 1 + 1 + 1 + 1 ≠ w.heap.size + 1 + 1 + 1 by omega) _
    have N_rs : Blk X10 (w.heap.size + 1 + 1 + 1 + 1) 39 #[.int .i64 0, .int .i64 0, .slice none 0 0, .slice none 0 0, .slice none 0 0, .slice none 0 0] := eX10 ▸ H_rs.out.set_ 0 _
    have N_m : Blk X10 (w1.heap.size) 59 #[.int .i64 (k : Int), .int .i64 p.code, .int .i64 p.mem, .int .i64 p.stack, .int .i64 p.val, .slice Q 13 f, .slice none 0 0, .int .i64 0, .slice none 0 0, .int .i64 (er : Int)] := eX10 ▸ H_m.out.other (show w.heap.size + 1 + 1 + 1 + 1 ≠ w1.heap.size by omega) _
    have N_x : Blk X10 (v1.heap.size) 39 #[.int .i64 s.pc.v, .int .i64 s.pc.l, .slice cA s.code.length cc, .slice mA s.mem.length mc, .slice sA s.stack.length sc, .slice none 0 0] := eX10 ▸ H_x.out.other (show w.heap.size + 1 + 1 + 1 + 1 ≠ v1.heap.size by omega) _
    have NB : Below w.heap.size w X10 := eX10 ▸ HB.out.setCell (p := ⟨w.heap.size + 1 + 1 + 1 + 1, 0, none⟩) (by show w.heap.size ≤ w.heap.size + 1 + 1 + 1 + 1; omega) _
    clear H_rd H_rs H_m H_x HB
    have H_rd := Lib.hid N_rd
    have H_rs := Lib.hid N_rs
    have H_m := Lib.hid N_m
    have H_x := Lib.hid N_x
    have HB := Lib.hid NB
    clear NB N_rd N_rs N_m N_x
    obtain ⟨X11, eX11⟩ : ∃ U, X10.setCell ⟨w.heap.size + 1 + 1 + 1 + 1, 1, none⟩ (.int .i64 0) = U := ⟨_, rfl⟩
    have fX11 := H_rs.out.frozen 1
    have cX11 := H_rs.out.cell 1
    have N_rd : Blk X11 (w.heap.size + 1 + 1 + 1) 30 #[.slice none 0 0, .int .i64 0, .slice none 0 0] := eX11 ▸ H_rd.out.other (show w.heap.size + 1 + 1 + 1 + 1 ≠ w.heap.size + 1 + 1 + 1 by omega) _
    have N_rs : Blk X11 (w.heap.size + 1 + 1 + 1 + 1) 39 #[.int .i64 0, .int .i64 0, .slice none 0 0, .slice none 0 0, .slice none 0 0, .slice none 0 0] := eX11 ▸ H_rs.out.set_ 1 _
    have N_m : Blk X11 (w1.heap.size) 59 #[.int .i64 (k : Int), .int .i64 p.code, .int .i64 p.mem, .int .i64 p.stack, .int .i64 p.val, .slice Q 13 f, .slice none 0 0, .int .i64 0, .slice none 0 0, .int .i64 (er : Int)] := eX11 ▸ H_m.out.other (show w.heap.size + 1 + 1 + 1 + 1 ≠ w1.heap.size by omega) _
    have N_x : Blk X11 (v1.heap.size) 39 #[.int .i64 s.pc.v, .int .i64 s.pc.l, .slice cA s.code.length cc, .slice mA s.mem.length mc, .slice sA s.stack.length sc, .slice none 0 0] := eX11 ▸ H_x.out.other (show w.heap.size + 1 + 1 + 1 + 1 ≠ v1.heap.size by omega) _
    have NB : Below w.heap.size w X11 := eX11 ▸ HB.out.setCell (p := ⟨w.heap.size + 1 + 1 + 1 + 1, 1, none⟩) (by show w.heap.size ≤ w.heap.size + 1 + 1 + 1 + 1; omega) _
    clear H_rd H_rs H_m H_x HB
    have H_rd := Lib.hid N_rd
    have H_rs := Lib.hid N_rs
    have H_m := Lib.hid N_m
    have H_x := Lib.hid N_x
    have HB := Lib.hid NB
    clear NB N_rd N_rs N_m N_x
    obtain ⟨X12, eX12⟩ : ∃ U, X11.setCell ⟨w.heap.size + 1 + 1 + 1 + 1, 2, none⟩ (.slice none 0 0) = U := ⟨_, rfl⟩
    have fX12 := H_rs.out.frozen 2
    have cX12 := H_rs.out.cell 2
    have N_rd : Blk X12 (w.heap.size + 1 + 1 + 1) 30 #[.slice none 0 0, .int .i64 0, .slice none 0 0] := eX12 ▸ H_rd.out.other (show w.heap.size + 1 + 1 + 1 + 1 ≠ w.heap.size + 1 + 1 + 1 by omega) _
    have N_rs : Blk X12 (w.heap.size + 1 + 1 + 1 + 1) 39 #[.int .i64 0, .int .i64 0, .slice none 0 0, .slice none 0 0, .slice none 0 0, .slice none 0 0] := eX12 ▸ H_rs.out.set_ 2 _
    have N_m : Blk X12 (w1.heap.size) 59 #[.int .i64 (k : Int), .int .i64 p.code, .int .i64 p.mem, .int .i64 p.stack, .int .i64 p.val, .slice Q 13 f, .slice none 0 0, .int .i64 0, .slice none 0 0, .int .i64 (er : Int)] := eX12 ▸ H_m.out.other (show w.heap.size + 1 + 1 + 1 + 1 ≠ w1.heap.size by omega) _
    have N_x : Blk X12 (v1.heap.size) 39 #[.int .i64 s.pc.v, .int .i64 s.pc.l, .slice cA s.code.length cc, .slice mA s.mem.length mc, .slice sA s.stack.length sc, .slice none 0 0] := eX12 ▸ H_x.out.other (show w.heap.size + 1 + 1 + 1 + 1 ≠ v1.heap.size by omega) _
    have NB : Below w.heap.size w X12 := eX12 ▸ HB.out.setCell (p := ⟨w.heap.size + 1 + 1 + 1 + 1, 2, none⟩) (by show w.heap.size ≤ w.heap.size + 1 + 1 + 1 + 1; omega) _
    clear H_rd H_rs H_m H_x HB
    have H_rd := Lib.hid N_rd
    have H_rs := Lib.hid N_rs
    have H_m := Lib.hid N_m
    have H_x := Lib.hid N_x
    have HB := Lib.hid NB
    clear NB N_rd N_rs N_m N_x
    obtain ⟨X13, eX13⟩ : ∃ U, X12.setCell ⟨w.heap.size + 1 + 1 + 1 + 1, 3, none⟩ (.slice none 0 0) = U := ⟨_, rfl⟩
    have fX13 := H_rs.out.frozen 3
    have cX13 := H_rs.out.cell 3
    have N_rd : Blk X13 (w.heap.size + 1 + 1 + 1) 30 #[.slice none 0 0, .int .i64 0, .slice none 0 0] := eX13 ▸ H_rd.out.other (show w.heap.size + 1 + 1 + 1 + 1 ≠ w.heap.size + 1 + 1 + 1 by omega) _
    have N_rs : Blk X13 (w.heap.size + 1 + 1 + 1 + 1) 39 #[.int .i64 0, .int .i64 0, .slice none 0 0, .slice none 0 0, .slice none 0 0, .slice none 0 0] := eX13 ▸ H_rs.out.set_ 3 _
    have N_m : Blk X13 (w1.heap.size) 59 #[.int .i64 (k : Int), .int .i64 p.code, .int .i64 p.mem, .int .i64 p.stack, .int .i64 p.val, .slice Q 13 f, .slice none 0 0, .int .i64 0, .slice none 0 0, .int .i64 (er : Int)] := eX13 ▸ H_m.out.other (show w.heap.size + 1 + 1 + 1 + 1 ≠ w1.heap.size by omega) _
    have N_x : Blk X13 (v1.heap.size) 39 #[.int .i64 s.pc.v, .int .i64 s.pc.l, .slice cA s.code.length cc, .slice mA s.mem.length mc, .slice sA s.stack.length sc, .slice none 0 0] := eX13 ▸ H_x.out.other (show w.heap.size + 1 + 1 + 1 + 1 ≠ v1.heap.size by omega) _
    have NB : Below w.heap.size w X13 := eX13 ▸ HB.out.setCell (p := ⟨w.heap.size + 1 + 1 + 1 + 1, 3, none⟩) (by show w.heap.size ≤ w.heap.size + 1 + 1 + 1 + 1; omega) _
    clear H_rd H_rs H_m H_x HB
    have H_rd := Lib.hid N_rd
    have H_rs := Lib.hid N_rs
    have H_m := Lib.hid N_m
    have H_x := Lib.hid N_x
    have HB := Lib.hid NB
    clear NB N_rd N_rs N_m N_x
    obtain ⟨X14, eX14⟩ : ∃ U, X13.setCell ⟨w.heap.size + 1 + 1 + 1 + 1, 4, none⟩ (.slice none 0 0) = U := ⟨_, rfl⟩
    have fX14 := H_rs.out.frozen 4
    have cX14 := H_rs.out.cell 4
    have N_rd : Blk X14 (w.heap.size + 1 + 1 + 1) 30 #[.slice none 0 0, .int .i64 0, .slice none 0 0] := eX14 ▸ H_rd.out.other (show w.heap.size + 1 + 1 + 1 + 1 ≠ w.heap.size + 1 + 1 + 1 by omega) _
    have N_rs : Blk X14 (w.heap.size + 1 + 1 + 1 + 1) 39 #[.int .i64 0, .int .i64 0, .slice none 0 0, .slice none 0 0, .slice none 0 0, .slice none 0 0] := eX14 ▸ H_rs.out.set_ 4 _
    have N_m : Blk X14 (w1.heap.size) 59 #[.int .i64 (k : Int), .int .i64 p.code, .int .i64 p.mem, .int .i64 p.stack, .int .i64 p.val, .slice Q 13 f, .slice none 0 0, .int .i64 0, .slice none 0 0, .int .i64 (er : Int)] := eX14 ▸ H_m.out.other (show w.heap.size + 1 + 1 + 1 + 1 ≠ w1.heap.size by omega) _
    have N_x : Blk X14 (v1.heap.size) 39 #[.int .i64 s.pc.v, .int .i64 s.pc.l, .slice cA s.code.length cc, .slice mA s.mem.length mc, .slice sA s.stack.length sc, .slice none 0 0] := eX14 ▸ H_x.out.other (show w.heap.size + 1 + 1 + 1 + 1 ≠ v1.heap.size by omega) _
    have NB : Below w.heap.size w X14 := eX14 ▸ HB.out.setCell (p := ⟨w.heap.size + 1 + 1 + 1 + 1, 4, none⟩) (by show w.heap.size ≤ w.heap.size + 1 + 1 + 1 + 1; omega) _
    clear H_rd H_rs H_m H_x HB
    have H_rd := Lib.hid N_rd
    have H_rs := Lib.hid N_rs
    have H_m := Lib.hid N_m
    have H_x := Lib.hid N_x
    have HB := Lib.hid NB
    clear NB N_rd N_rs N_m N_x
    obtain ⟨X15, eX15⟩ : ∃ U, X14.setCell ⟨w.heap.size + 1 + 1 + 1 + 1, 5, none⟩ (.slice none 0 0) = U := ⟨_, rfl⟩
    have fX15 := H_rs.out.frozen 5
    have cX15 := H_rs.out.cell 5
    have N_rd : Blk X15 (w.heap.size + 1 + 1 + 1) 30 #[.slice none 0 0, .int .i64 0, .slice none 0 0] := eX15 ▸ H_rd.out.other (show w.heap.size + 1 + 1 + 1 + 1 ≠ w.heap.size + 1 + 1 + 1 by omega) _
    have N_rs : Blk X15 (w.heap.size + 1 + 1 + 1 + 1) 39 #[.int .i64 0, .int .i64 0, .slice none 0 0, .slice none 0 0, .slice none 0 0, .slice none 0 0] := eX15 ▸ H_rs.out.set_ 5 _
    have N_m : Blk X15 (w1.heap.size) 59 #[.int .i64 (k : Int), .int .i64 p.code, .int .i64 p.mem, .int .i64 p.stack, .int .i64 p.val, .slice Q 13 f, .slice none 0 0, .int .i64 0, .slice none 0 0, .int .i64 (er : Int)] := eX15 ▸ H_m.out.other (show w.heap.size + 1 + 1 + 1 + 1 ≠ w1.heap.size by omega) _
    have N_x : Blk X15 (v1.heap.size) 39 #[.int .i64 s.pc.v, .int .i64 s.pc.l, .slice cA s.code.length cc, .slice mA s.mem.length mc, .slice sA s.stack.length sc, .slice none 0 0] := eX15 ▸ H_x.out.other (show w.heap.size + 1 + 1 + 1 + 1 ≠ v1.heap.size by omega) _
    have NB : Below w.heap.size w X15 := eX15 ▸ HB.out.setCell (p := ⟨w.heap.size + 1 + 1 + 1 + 1, 5, none⟩) (by show w.heap.size ≤ w.heap.size + 1 + 1 + 1 + 1; omega) _
    clear H_rd H_rs H_m H_x HB
    have H_rd := Lib.hid N_rd
    have H_rs := Lib.hid N_rs
    have H_m := Lib.hid N_m
    have H_x := Lib.hid N_x
    have HB := Lib.hid NB
    clear NB N_rd N_rs N_m N_x
    have M92 := Lib.hid (H_m.out.cell 9)
    refine Free.Seq.loud_ rfl (.inl rfl) (fun K hK => ?_)
    go_simp
    refine hK.out _ _ rfl (fun _ => M92.out) ?_
    clear hK K eX10 fX10 cX10 eX11 fX11 cX11 eX12 fX12 cX12 eX13 fX13 cX13 eX14 fX14 cX14 eX15 fX15 cX15
    iterate 1
      refine Free.Seq.quiet (v := ?_) (a' := ?_) rfl rfl (fun W' hW' => ?_) ?_ ?_
      rotate_left 2
      · first | obtain s0 := hW' rfl | skip
        go_simp
        try with_reducible rfl
      · simp only [Act.put, List.setIfInBounds_toArray, List.set_cons_zero, List.set_cons_succ]
        try with_reducible rfl
    refine Free.Seq.nil_ ?_
    have r0 := H_rd.out.cell 0
    have r1 := H_rd.out.cell 1
    have r2 := H_rd.out.cell 2
    have t0 := H_rs.out.cell 0
    have t1 := H_rs.out.cell 1
    have t2 := H_rs.out.cell 2
    have t3 := H_rs.out.cell 3
    have t4 := H_rs.out.cell 4
    have t5 := H_rs.out.cell 5
    go_wp2
    exact bodyPost_ret (v := .tuple #[.agg #[.slice none 0 0, .int .i64 0, .slice none 0 0], .agg #[.int .i64 0, .int .i64 0, .slice none 0 0, .slice none 0 0, .slice none 0 0, .slice none 0 0], .int .i64 (er : Int)]) (by simp [results, Try.results7, go_sem, r0, r1, r2, t0, t1, t2, t3, t4, t5]) rfl ⟨rfl, HB.out⟩
  | some r9 =>
    obtain ⟨s9, d9⟩ := r9
    obtain rfl := HSV.out s9 d9 rfl
    obtain rfl : GYes w B n list s9 d9 = post := HPOST.out
    obtain ⟨hy, hl9, -⟩ := RSH.out
    have RAG := Lib.hid (RW.out s9 d9 rfl).1
    have RLG := Lib.hid (RW.out s9 d9 rfl).2
    have HL9 := Lib.hid hl9
    obtain ⟨yA, yn, yc, yi, yL, ymm, yd, yx, ye⟩ := ym
    injection hy with e1 e2 e3 e4 e5 e6 e7 e8 e9
    try dsimp only at e2 e4 e6 e8 e9
    subst e2 e4 e6 e8 e9
    clear e1 e3 e5 e7 RW RSH HSV hl9 hz
    dsimp only at H_m RAG RLG
    obtain ⟨X1, eX1⟩ : ∃ U, v2.setCell ⟨v1.heap.size, 0, none⟩ (.int .i64 s9.pc.v) = U := ⟨_, rfl⟩
    have fX1 := H_x.out.frozen 0
    have cX1 := H_x.out.cell 0
    have N_rd : Blk X1 (w.heap.size + 1 + 1 + 1) 30 #[.slice none 0 0, .int .i64 0, .slice none 0 0] := eX1 ▸ H_rd.out.other (show v1.heap.size ≠ w.heap.size + 1 + 1 + 1 by omega) _
    have N_rs : Blk X1 (w.heap.size + 1 + 1 + 1 + 1) 39 #[.int .i64 0, .int .i64 0, .slice none 0 0, .slice none 0 0, .slice none 0 0, .slice none 0 0] := eX1 ▸ H_rs.out.other (show v1.heap.size ≠ w.heap.size + 1 + 1 + 1 + 1 by omega) _
    have N_m : Blk X1 (w1.heap.size) 59 #[.int .i64 (k : Int), .int .i64 p.code, .int .i64 p.mem, .int .i64 p.stack, .int .i64 p.val, .slice Q 13 f, .slice yA yn yc, .int .i64 (d9.i : Int), .slice yL d9.log.length yd, .int .i64 0] := eX1 ▸ H_m.out.other (show v1.heap.size ≠ w1.heap.size by omega) _
    have N_x : Blk X1 (v1.heap.size) 39 #[.int .i64 s9.pc.v, .int .i64 0, .slice none 0 0, .slice none 0 0, .slice none 0 0, .slice none 0 0] := eX1 ▸ H_x.out.set_ 0 _
    have NB : Below w.heap.size w X1 := eX1 ▸ HB.out.setCell (p := ⟨v1.heap.size, 0, none⟩) (by show w.heap.size ≤ v1.heap.size; omega) _
    have NRAG := eX1 ▸ RAG.out.move (Mv.set_ (p := ⟨v1.heap.size, 0, none⟩) H_x.out (by decide) (show B ≤ v1.heap.size by omega) (.int .i64 s9.pc.v))
    have NRLG := eX1 ▸ RLG.out.move (Mv.set_ (p := ⟨v1.heap.size, 0, none⟩) H_x.out (by decide) (show B ≤ v1.heap.size by omega) (.int .i64 s9.pc.v))
    have NOC := eX1 ▸ own_ofD OC.out fun g9 hg9 => Below.heap_setCell v2 ⟨v1.heap.size, 0, none⟩ (.int .i64 s9.pc.v) g9 (by
      obtain ⟨cs9, hb9⟩ := own_blkD OC.out hg9
      exact hb9.ty_neD H_x.out (by decide))
    have NOM := eX1 ▸ own_ofD OM.out fun g9 hg9 => Below.heap_setCell v2 ⟨v1.heap.size, 0, none⟩ (.int .i64 s9.pc.v) g9 (by
      obtain ⟨cs9, hb9⟩ := own_blkD OM.out hg9
      exact hb9.ty_neD H_x.out (by decide))
    have NOS := eX1 ▸ own_ofD OS.out fun g9 hg9 => Below.heap_setCell v2 ⟨v1.heap.size, 0, none⟩ (.int .i64 s9.pc.v) g9 (by
      obtain ⟨cs9, hb9⟩ := own_blkD OS.out hg9
      exact hb9.ty_neD H_x.out (by decide))
    clear H_rd H_rs H_m H_x HB RAG RLG OC OM OS
    have H_rd := Lib.hid N_rd
    have H_rs := Lib.hid N_rs
    have H_m := Lib.hid N_m
    have H_x := Lib.hid N_x
    have HB := Lib.hid NB
    clear NB N_rd N_rs N_m N_x
    have RAG := Lib.hid NRAG
    clear NRAG
    have RLG := Lib.hid NRLG
    clear NRLG
    have OC := Lib.hid NOC
    clear NOC
    have OM := Lib.hid NOM
    clear NOM
    have OS := Lib.hid NOS
    clear NOS
    obtain ⟨X2, eX2⟩ : ∃ U, X1.setCell ⟨v1.heap.size, 1, none⟩ (.int .i64 s9.pc.l) = U := ⟨_, rfl⟩
    have fX2 := H_x.out.frozen 1
    have cX2 := H_x.out.cell 1
    have N_rd : Blk X2 (w.heap.size + 1 + 1 + 1) 30 #[.slice none 0 0, .int .i64 0, .slice none 0 0] := eX2 ▸ H_rd.out.other (show v1.heap.size ≠ w.heap.size + 1 + 1 + 1 by omega) _
    have N_rs : Blk X2 (w.heap.size + 1 + 1 + 1 + 1) 39 #[.int .i64 0, .int .i64 0, .slice none 0 0, .slice none 0 0, .slice none 0 0, .slice none 0 0] := eX2 ▸ H_rs.out.other (show v1.heap.size ≠ w.heap.size + 1 + 1 + 1 + 1 by omega) _
    have N_m : Blk X2 (w1.heap.size) 59 #[.int .i64 (k : Int), .int .i64 p.code, .int .i64 p.mem, .int .i64 p.stack, .int .i64 p.val, .slice Q 13 f, .slice yA yn yc, .int .i64 (d9.i : Int), .slice yL d9.log.length yd, .int .i64 0] := eX2 ▸ H_m.out.other (show v1.heap.size ≠ w1.heap.size by omega) _
    have N_x : Blk X2 (v1.heap.size) 39 #[.int .i64 s9.pc.v, .int .i64 s9.pc.l, .slice none 0 0, .slice none 0 0, .slice none 0 0, .slice none 0 0] := eX2 ▸ H_x.out.set_ 1 _
    have NB : Below w.heap.size w X2 := eX2 ▸ HB.out.setCell (p := ⟨v1.heap.size, 1, none⟩) (by show w.heap.size ≤ v1.heap.size; omega) _
    have NRAG := eX2 ▸ RAG.out.move (Mv.set_ (p := ⟨v1.heap.size, 1, none⟩) H_x.out (by decide) (show B ≤ v1.heap.size by omega) (.int .i64 s9.pc.l))
    have NRLG := eX2 ▸ RLG.out.move (Mv.set_ (p := ⟨v1.heap.size, 1, none⟩) H_x.out (by decide) (show B ≤ v1.heap.size by omega) (.int .i64 s9.pc.l))
    have NOC := eX2 ▸ own_ofD OC.out fun g9 hg9 => Below.heap_setCell X1 ⟨v1.heap.size, 1, none⟩ (.int .i64 s9.pc.l) g9 (by
      obtain ⟨cs9, hb9⟩ := own_blkD OC.out hg9
      exact hb9.ty_neD H_x.out (by decide))
    have NOM := eX2 ▸ own_ofD OM.out fun g9 hg9 => Below.heap_setCell X1 ⟨v1.heap.size, 1, none⟩ (.int .i64 s9.pc.l) g9 (by
      obtain ⟨cs9, hb9⟩ := own_blkD OM.out hg9
      exact hb9.ty_neD H_x.out (by decide))
    have NOS := eX2 ▸ own_ofD OS.out fun g9 hg9 => Below.heap_setCell X1 ⟨v1.heap.size, 1, none⟩ (.int .i64 s9.pc.l) g9 (by
      obtain ⟨cs9, hb9⟩ := own_blkD OS.out hg9
      exact hb9.ty_neD H_x.out (by decide))
    clear H_rd H_rs H_m H_x HB RAG RLG OC OM OS
    have H_rd := Lib.hid N_rd
    have H_rs := Lib.hid N_rs
    have H_m := Lib.hid N_m
    have H_x := Lib.hid N_x
    have HB := Lib.hid NB
    clear NB N_rd N_rs N_m N_x
    have RAG := Lib.hid NRAG
    clear NRAG
    have RLG := Lib.hid NRLG
    clear NRLG
    have OC := Lib.hid NOC
    clear NOC
    have OM := Lib.hid NOM
    clear NOM
    have OS := Lib.hid NOS
    clear NOS
    obtain ⟨X3, eX3⟩ : ∃ U, X2.setCell ⟨v1.heap.size, 2, none⟩ (.slice cA s9.code.length cc) = U := ⟨_, rfl⟩
    have fX3 := H_x.out.frozen 2
    have cX3 := H_x.out.cell 2
    have N_rd : Blk X3 (w.heap.size + 1 + 1 + 1) 30 #[.slice none 0 0, .int .i64 0, .slice none 0 0] := eX3 ▸ H_rd.out.other (show v1.heap.size ≠ w.heap.size + 1 + 1 + 1 by omega) _
    have N_rs : Blk X3 (w.heap.size + 1 + 1 + 1 + 1) 39 #[.int .i64 0, .int .i64 0, .slice none 0 0, .slice none 0 0, .slice none 0 0, .slice none 0 0] := eX3 ▸ H_rs.out.other (show v1.heap.size ≠ w.heap.size + 1 + 1 + 1 + 1 by omega) _
    have N_m : Blk X3 (w1.heap.size) 59 #[.int .i64 (k : Int), .int .i64 p.code, .int .i64 p.mem, .int .i64 p.stack, .int .i64 p.val, .slice Q 13 f, .slice yA yn yc, .int .i64 (d9.i : Int), .slice yL d9.log.length yd, .int .i64 0] := eX3 ▸ H_m.out.other (show v1.heap.size ≠ w1.heap.size by omega) _
    have N_x : Blk X3 (v1.heap.size) 39 #[.int .i64 s9.pc.v, .int .i64 s9.pc.l, .slice cA s9.code.length cc, .slice none 0 0, .slice none 0 0, .slice none 0 0] := eX3 ▸ H_x.out.set_ 2 _
    have NB : Below w.heap.size w X3 := eX3 ▸ HB.out.setCell (p := ⟨v1.heap.size, 2, none⟩) (by show w.heap.size ≤ v1.heap.size; omega) _
    have NRAG := eX3 ▸ RAG.out.move (Mv.set_ (p := ⟨v1.heap.size, 2, none⟩) H_x.out (by decide) (show B ≤ v1.heap.size by omega) (.slice cA s9.code.length cc))
    have NRLG := eX3 ▸ RLG.out.move (Mv.set_ (p := ⟨v1.heap.size, 2, none⟩) H_x.out (by decide) (show B ≤ v1.heap.size by omega) (.slice cA s9.code.length cc))
    have NOC := eX3 ▸ own_ofD OC.out fun g9 hg9 => Below.heap_setCell X2 ⟨v1.heap.size, 2, none⟩ (.slice cA s9.code.length cc) g9 (by
      obtain ⟨cs9, hb9⟩ := own_blkD OC.out hg9
      exact hb9.ty_neD H_x.out (by decide))
    have NOM := eX3 ▸ own_ofD OM.out fun g9 hg9 => Below.heap_setCell X2 ⟨v1.heap.size, 2, none⟩ (.slice cA s9.code.length cc) g9 (by
      obtain ⟨cs9, hb9⟩ := own_blkD OM.out hg9
      exact hb9.ty_neD H_x.out (by decide))
    have NOS := eX3 ▸ own_ofD OS.out fun g9 hg9 => Below.heap_setCell X2 ⟨v1.heap.size, 2, none⟩ (.slice cA s9.code.length cc) g9 (by
      obtain ⟨cs9, hb9⟩ := own_blkD OS.out hg9
      exact hb9.ty_neD H_x.out (by decide))
    clear H_rd H_rs H_m H_x HB RAG RLG OC OM OS
    have H_rd := Lib.hid N_rd
    have H_rs := Lib.hid N_rs
    have H_m := Lib.hid N_m
    have H_x := Lib.hid N_x
    have HB := Lib.hid NB
    clear NB N_rd N_rs N_m N_x
    have RAG := Lib.hid NRAG
    clear NRAG
    have RLG := Lib.hid NRLG
    clear NRLG
    have OC := Lib.hid NOC
    clear NOC
    have OM := Lib.hid NOM
    clear NOM
    have OS := Lib.hid NOS
    clear NOS
    obtain ⟨X4, eX4⟩ : ∃ U, X3.setCell ⟨v1.heap.size, 3, none⟩ (.slice mA s9.mem.length mc) = U := ⟨_, rfl⟩
    have fX4 := H_x.out.frozen 3
    have cX4 := H_x.out.cell 3
    have N_rd : Blk X4 (w.heap.size + 1 + 1 + 1) 30 #[.slice none 0 0, .int .i64 0, .slice none 0 0] := eX4 ▸ H_rd.out.other (show v1.heap.size ≠ w.heap.size + 1 + 1 + 1 by omega) _
    have N_rs : Blk X4 (w.heap.size + 1 + 1 + 1 + 1) 39 #[.int .i64 0, .int .i64 0, .slice none 0 0, .slice none 0 0, .slice none 0 0, .slice none 0 0] := eX4 ▸ H_rs.out.other (show v1.heap.size ≠ w.heap.size + 1 + 1 + 1 + 1 by omega) _
    have N_m : Blk X4 (w1.heap.size) 59 #[.int .i64 (k : Int), .int .i64 p.code, .int .i64 p.mem, .int .i64 p.stack, .int .i64 p.val, .slice Q 13 f, .slice yA yn yc, .int .i64 (d9.i : Int), .slice yL d9.log.length yd, .int .i64 0] := eX4 ▸ H_m.out.other (show v1.heap.size ≠ w1.heap.size by omega) _
    have N_x : Blk X4 (v1.heap.size) 39 #[.int .i64 s9.pc.v, .int .i64 s9.pc.l, .slice cA s9.code.length cc, .slice mA s9.mem.length mc, .slice none 0 0, .slice none 0 0] := eX4 ▸ H_x.out.set_ 3 _
    have NB : Below w.heap.size w X4 := eX4 ▸ HB.out.setCell (p := ⟨v1.heap.size, 3, none⟩) (by show w.heap.size ≤ v1.heap.size; omega) _
    have NRAG := eX4 ▸ RAG.out.move (Mv.set_ (p := ⟨v1.heap.size, 3, none⟩) H_x.out (by decide) (show B ≤ v1.heap.size by omega) (.slice mA s9.mem.length mc))
    have NRLG := eX4 ▸ RLG.out.move (Mv.set_ (p := ⟨v1.heap.size, 3, none⟩) H_x.out (by decide) (show B ≤ v1.heap.size by omega) (.slice mA s9.mem.length mc))
    have NOC := eX4 ▸ own_ofD OC.out fun g9 hg9 => Below.heap_setCell X3 ⟨v1.heap.size, 3, none⟩ (.slice mA s9.mem.length mc) g9 (by
      obtain ⟨cs9, hb9⟩ := own_blkD OC.out hg9
      exact hb9.ty_neD H_x.out (by decide))
    have NOM := eX4 ▸ own_ofD OM.out fun g9 hg9 => Below.heap_setCell X3 ⟨v1.heap.size, 3, none⟩ (.slice mA s9.mem.length mc) g9 (by
      obtain ⟨cs9, hb9⟩ := own_blkD OM.out hg9
      exact hb9.ty_neD H_x.out (by decide))
    have NOS := eX4 ▸ own_ofD OS.out fun g9 hg9 => Below.heap_setCell X3 ⟨v1.heap.size, 3, none⟩ (.slice mA s9.mem.length mc) g9 (by
      obtain ⟨cs9, hb9⟩ := own_blkD OS.out hg9
      exact hb9.ty_neD H_x.out (by decide))
    clear H_rd H_rs H_m H_x HB RAG RLG OC OM OS
    have H_rd := Lib.hid N_rd
    have H_rs := Lib.hid N_rs
    have H_m := Lib.hid N_m
    have H_x := Lib.hid N_x
    have HB := Lib.hid NB
    clear NB N_rd N_rs N_m N_x
    have RAG := Lib.hid NRAG
    clear NRAG
    have RLG := Lib.hid NRLG
    clear NRLG
    have OC := Lib.hid NOC
    clear NOC
    have OM := Lib.hid NOM
    clear NOM
    have OS := Lib.hid NOS
    clear NOS
    obtain ⟨X5, eX5⟩ : ∃ U, X4.setCell ⟨v1.heap.size, 4, none⟩ (.slice sA s9.stack.length sc) = U := ⟨_, rfl⟩
    have fX5 := H_x.out.frozen 4
    have cX5 := H_x.out.cell 4
    have N_rd : Blk X5 (w.heap.size + 1 + 1 + 1) 30 #[.slice none 0 0, .int .i64 0, .slice none 0 0] := eX5 ▸ H_rd.out.other (show v1.heap.size ≠ w.heap.size + 1 + 1 + 1 by omega) _
    have N_rs : Blk X5 (w.heap.size + 1 + 1 + 1 + 1) 39 #[.int .i64 0, .int .i64 0, .slice none 0 0, .slice none 0 0, .slice none 0 0, .slice none 0 0] := eX5 ▸ H_rs.out.other (show v1.heap.size ≠ w.heap.size + 1 + 1 + 1 + 1 by omega) _
    have N_m : Blk X5 (w1.heap.size) 59 #[.int .i64 (k : Int), .int .i64 p.code, .int .i64 p.mem, .int .i64 p.stack, .int .i64 p.val, .slice Q 13 f, .slice yA yn yc, .int .i64 (d9.i : Int), .slice yL d9.log.length yd, .int .i64 0] := eX5 ▸ H_m.out.other (show v1.heap.size ≠ w1.heap.size by omega) _
    have N_x : Blk X5 (v1.heap.size) 39 #[.int .i64 s9.pc.v, .int .i64 s9.pc.l, .slice cA s9.code.length cc, .slice mA s9.mem.length mc, .slice sA s9.stack.length sc, .slice none 0 0] := eX5 ▸ H_x.out.set_ 4 _
    have NB : Below w.heap.size w X5 := eX5 ▸ HB.out.setCell (p := ⟨v1.heap.size, 4, none⟩) (by show w.heap.size ≤ v1.heap.size; omega) _
    have NRAG := eX5 ▸ RAG.out.move (Mv.set_ (p := ⟨v1.heap.size, 4, none⟩) H_x.out (by decide) (show B ≤ v1.heap.size by omega) (.slice sA s9.stack.length sc))
    have NRLG := eX5 ▸ RLG.out.move (Mv.set_ (p := ⟨v1.heap.size, 4, none⟩) H_x.out (by decide) (show B ≤ v1.heap.size by omega) (.slice sA s9.stack.length sc))
    have NOC := eX5 ▸ own_ofD OC.out fun g9 hg9 => Below.heap_setCell X4 ⟨v1.heap.size, 4, none⟩ (.slice sA s9.stack.length sc) g9 (by
      obtain ⟨cs9, hb9⟩ := own_blkD OC.out hg9
      exact hb9.ty_neD H_x.out (by decide))
    have NOM := eX5 ▸ own_ofD OM.out fun g9 hg9 => Below.heap_setCell X4 ⟨v1.heap.size, 4, none⟩ (.slice sA s9.stack.length sc) g9 (by
      obtain ⟨cs9, hb9⟩ := own_blkD OM.out hg9
      exact hb9.ty_neD H_x.out (by decide))
    have NOS := eX5 ▸ own_ofD OS.out fun g9 hg9 => Below.heap_setCell X4 ⟨v1.heap.size, 4, none⟩ (.slice sA s9.stack.length sc) g9 (by
      obtain ⟨cs9, hb9⟩ := own_blkD OS.out hg9
      exact hb9.ty_neD H_x.out (by decide))
    clear H_rd H_rs H_m H_x HB RAG RLG OC OM OS
    have H_rd := Lib.hid N_rd
    have H_rs := Lib.hid N_rs
    have H_m := Lib.hid N_m
    have H_x := Lib.hid N_x
    have HB := Lib.hid NB
    clear NB N_rd N_rs N_m N_x
    have RAG := Lib.hid NRAG
    clear NRAG
    have RLG := Lib.hid NRLG
    clear NRLG
    have OC := Lib.hid NOC
    clear NOC
    have OM := Lib.hid NOM
    clear NOM
    have OS := Lib.hid NOS
    clear NOS
    obtain ⟨X6, eX6⟩ : ∃ U, X5.setCell ⟨v1.heap.size, 5, none⟩ (.slice none 0 0) = U := ⟨_, rfl⟩
    have fX6 := H_x.out.frozen 5
    have cX6 := H_x.out.cell 5
    have N_rd : Blk X6 (w.heap.size + 1 + 1 + 1) 30 #[.slice none 0 0, .int .i64 0, .slice none 0 0] := eX6 ▸ H_rd.out.other (show v1.heap.size ≠ w.heap.size + 1 + 1 + 1 by omega) _
    have N_rs : Blk X6 (w.heap.size + 1 + 1 + 1 + 1) 39 #[.int .i64 0, .int .i64 0, .slice none 0 0, .slice none 0 0, .slice none 0 0, .slice none 0 0] := eX6 ▸ H_rs.out.other (show v1.heap.size ≠ w.heap.size + 1 + 1 + 1 + 1 by omega) _
    have N_m : Blk X6 (w1.heap.size) 59 #[.int .i64 (k : Int), .int .i64 p.code, .int .i64 p.mem, .int .i64 p.stack, .int .i64 p.val, .slice Q 13 f, .slice yA yn yc, .int .i64 (d9.i : Int), .slice yL d9.log.length yd, .int .i64 0] := eX6 ▸ H_m.out.other (show v1.heap.size ≠ w1.heap.size by omega) _
    have N_x : Blk X6 (v1.heap.size) 39 #[.int .i64 s9.pc.v, .int .i64 s9.pc.l, .slice cA s9.code.length cc, .slice mA s9.mem.length mc, .slice sA s9.stack.length sc, .slice none 0 0] := eX6 ▸ H_x.out.set_ 5 _
    have NB : Below w.heap.size w X6 := eX6 ▸ HB.out.setCell (p := ⟨v1.heap.size, 5, none⟩) (by show w.heap.size ≤ v1.heap.size; omega) _
    have NRAG := eX6 ▸ RAG.out.move (Mv.set_ (p := ⟨v1.heap.size, 5, none⟩) H_x.out (by decide) (show B ≤ v1.heap.size by omega) (.slice none 0 0))
    have NRLG := eX6 ▸ RLG.out.move (Mv.set_ (p := ⟨v1.heap.size, 5, none⟩) H_x.out (by decide) (show B ≤ v1.heap.size by omega) (.slice none 0 0))
    have NOC := eX6 ▸ own_ofD OC.out fun g9 hg9 => Below.heap_setCell X5 ⟨v1.heap.size, 5, none⟩ (.slice none 0 0) g9 (by
      obtain ⟨cs9, hb9⟩ := own_blkD OC.out hg9
      exact hb9.ty_neD H_x.out (by decide))
    have NOM := eX6 ▸ own_ofD OM.out fun g9 hg9 => Below.heap_setCell X5 ⟨v1.heap.size, 5, none⟩ (.slice none 0 0) g9 (by
      obtain ⟨cs9, hb9⟩ := own_blkD OM.out hg9
      exact hb9.ty_neD H_x.out (by decide))
    have NOS := eX6 ▸ own_ofD OS.out fun g9 hg9 => Below.heap_setCell X5 ⟨v1.heap.size, 5, none⟩ (.slice none 0 0) g9 (by
      obtain ⟨cs9, hb9⟩ := own_blkD OS.out hg9
      exact hb9.ty_neD H_x.out (by decide))
    clear H_rd H_rs H_m H_x HB RAG RLG OC OM OS
    have H_rd := Lib.hid N_rd
    have H_rs := Lib.hid N_rs
    have H_m := Lib.hid N_m
    have H_x := Lib.hid N_x
    have HB := Lib.hid NB
    clear NB N_rd N_rs N_m N_x
    have RAG := Lib.hid NRAG
    clear NRAG
    have RLG := Lib.hid NRLG
    clear NRLG
    have OC := Lib.hid NOC
    clear NOC
    have OM := Lib.hid NOM
    clear NOM
    have OS := Lib.hid NOS
    clear NOS
    have m9 := H_m.out.cell 9
    have HS0 := Lib.hid (And.intro (H_m.out.cell 6) (And.intro (H_m.out.cell 7) (And.intro (H_m.out.cell 8) (And.intro (H_x.out.cell 0) (And.intro (H_x.out.cell 1) (And.intro (H_x.out.cell 2) (And.intro (H_x.out.cell 3) (And.intro (H_x.out.cell 4) (H_x.out.cell 5)))))))))
    go_wp2_with (fail)
    clear eX1 fX1 cX1 eX2 fX2 cX2 eX3 fX3 cX3 eX4 fX4 cX4 eX5 fX5 cX5 eX6 fX6 cX6 hv2 m9
    refine Free.region_seq [5, 6] [3, 4] 6 (fun W' => W'.cell? ⟨w1.heap.size, 6, none⟩ = some (.slice yA yn yc) ∧ W'.cell? ⟨w1.heap.size, 7, none⟩ = some (.int .i64 (d9.i : Int)) ∧ W'.cell? ⟨w1.heap.size, 8, none⟩ = some (.slice yL d9.log.length yd) ∧ W'.cell? ⟨v1.heap.size, 0, none⟩ = some (.int .i64 s9.pc.v) ∧ W'.cell? ⟨v1.heap.size, 1, none⟩ = some (.int .i64 s9.pc.l) ∧ W'.cell? ⟨v1.heap.size, 2, none⟩ = some (.slice cA s9.code.length cc) ∧ W'.cell? ⟨v1.heap.size, 3, none⟩ = some (.slice mA s9.mem.length mc) ∧ W'.cell? ⟨v1.heap.size, 4, none⟩ = some (.slice sA s9.stack.length sc) ∧ W'.cell? ⟨v1.heap.size, 5, none⟩ = some (.slice none 0 0)) (by kernel_rfl) (by kernel_rfl) (by kernel_rfl) (by kernel_rfl) (HS0.out) (fun ops hops => ?_)
    clear hops
    iterate 5
      refine Free.Seq.quiet (v := ?_) (a' := ?_) rfl rfl (fun W' hW' => ?_) ?_ ?_
      rotate_left 2
      · first | obtain ⟨s0, s1, s2, s3, s4, s5, s6, s7, s8⟩ := hW' rfl | skip
        go_simp
        try with_reducible rfl
      · simp only [Act.put, List.setIfInBounds_toArray, List.set_cons_zero, List.set_cons_succ]
        try with_reducible rfl
    have HDW := Lib.hid (show Below w.heap.size w X6.drew from HB.out.drew)
    clear HB
    have HB := HDW
    clear HDW
    have Z_rd : Blk X6.drew (w.heap.size + 1 + 1 + 1) 30 #[.slice none 0 0, .int .i64 0, .slice none 0 0] := H_rd.out.drew
    clear H_rd
    have H_rd := Lib.hid Z_rd
    clear Z_rd
    have Z_rs : Blk X6.drew (w.heap.size + 1 + 1 + 1 + 1) 39 #[.int .i64 0, .int .i64 0, .slice none 0 0, .slice none 0 0, .slice none 0 0, .slice none 0 0] := H_rs.out.drew
    clear H_rs
    have H_rs := Lib.hid Z_rs
    clear Z_rs
    have Z_m : Blk X6.drew (w1.heap.size) 59 #[.int .i64 (k : Int), .int .i64 p.code, .int .i64 p.mem, .int .i64 p.stack, .int .i64 p.val, .slice Q 13 f, .slice yA yn yc, .int .i64 (d9.i : Int), .slice yL d9.log.length yd, .int .i64 0] := H_m.out.drew
    clear H_m
    have H_m := Lib.hid Z_m
    clear Z_m
    have Z_x : Blk X6.drew (v1.heap.size) 39 #[.int .i64 s9.pc.v, .int .i64 s9.pc.l, .slice cA s9.code.length cc, .slice mA s9.mem.length mc, .slice sA s9.stack.length sc, .slice none 0 0] := H_x.out.drew
    clear H_x
    have H_x := Lib.hid Z_x
    clear Z_x
    have Z_RAG : RowX (X6.drew) B yA list := RAG.out
    clear RAG
    have RAG := Lib.hid Z_RAG
    clear Z_RAG
    have Z_RLG : RowX (X6.drew) B yL d9.log := RLG.out
    clear RLG
    have RLG := Lib.hid Z_RLG
    clear Z_RLG
    have Z_OC : World.ownsRow (X6.drew) w.heap.size 66 3 (.slice cA s9.code.length cc) s9.code.length (fcells ivs s9.code) := OC.out
    clear OC
    have OC := Lib.hid Z_OC
    clear Z_OC
    have Z_OM : World.ownsRow (X6.drew) w.heap.size 34 2 (.slice mA s9.mem.length mc) s9.mem.length (fcells avs s9.mem) := OM.out
    clear OM
    have OM := Lib.hid Z_OM
    clear Z_OM
    have Z_OS : World.ownsRow (X6.drew) w.heap.size 70 3 (.slice sA s9.stack.length sc) s9.stack.length (fcells svs s9.stack) := OS.out
    clear OS
    have OS := Lib.hid Z_OS
    clear Z_OS
    obtain ⟨X7, eX7⟩ : ∃ U, X6.drew.setCell ⟨w.heap.size + 1 + 1 + 1, 0, none⟩ (.slice yA yn yc) = U := ⟨_, rfl⟩
    have fX7 := H_rd.out.frozen 0
    have cX7 := H_rd.out.cell 0
    have N_rd : Blk X7 (w.heap.size + 1 + 1 + 1) 30 #[.slice yA yn yc, .int .i64 0, .slice none 0 0] := eX7 ▸ H_rd.out.set_ 0 _
    have N_rs : Blk X7 (w.heap.size + 1 + 1 + 1 + 1) 39 #[.int .i64 0, .int .i64 0, .slice none 0 0, .slice none 0 0, .slice none 0 0, .slice none 0 0] := eX7 ▸ H_rs.out.other (show w.heap.size + 1 + 1 + 1 ≠ w.heap.size + 1 + 1 + 1 + 1 by omega) _
    have N_m : Blk X7 (w1.heap.size) 59 #[.int .i64 (k : Int), .int .i64 p.code, .int .i64 p.mem, .int .i64 p.stack, .int .i64 p.val, .slice Q 13 f, .slice yA yn yc, .int .i64 (d9.i : Int), .slice yL d9.log.length yd, .int .i64 0] := eX7 ▸ H_m.out.other (show w.heap.size + 1 + 1 + 1 ≠ w1.heap.size by omega) _
    have N_x : Blk X7 (v1.heap.size) 39 #[.int .i64 s9.pc.v, .int .i64 s9.pc.l, .slice cA s9.code.length cc, .slice mA s9.mem.length mc, .slice sA s9.stack.length sc, .slice none 0 0] := eX7 ▸ H_x.out.other (show w.heap.size + 1 + 1 + 1 ≠ v1.heap.size by omega) _
    have NB : Below w.heap.size w X7 := eX7 ▸ HB.out.setCell (p := ⟨w.heap.size + 1 + 1 + 1, 0, none⟩) (by show w.heap.size ≤ w.heap.size + 1 + 1 + 1; omega) _
    have NRAG := eX7 ▸ RAG.out.move (Mv.set_ (p := ⟨w.heap.size + 1 + 1 + 1, 0, none⟩) H_rd.out (by decide) (show B ≤ w.heap.size + 1 + 1 + 1 by omega) (.slice yA yn yc))
    have NRLG := eX7 ▸ RLG.out.move (Mv.set_ (p := ⟨w.heap.size + 1 + 1 + 1, 0, none⟩) H_rd.out (by decide) (show B ≤ w.heap.size + 1 + 1 + 1 by omega) (.slice yA yn yc))
    have NOC := eX7 ▸ own_ofD OC.out fun g9 hg9 => Below.heap_setCell X6.drew ⟨w.heap.size + 1 + 1 + 1, 0, none⟩ (.slice yA yn yc) g9 (by
      obtain ⟨cs9, hb9⟩ := own_blkD OC.out hg9
      exact hb9.ty_neD H_rd.out (by decide))
    have NOM := eX7 ▸ own_ofD OM.out fun g9 hg9 => Below.heap_setCell X6.drew ⟨w.heap.size + 1 + 1 + 1, 0, none⟩ (.slice yA yn yc) g9 (by
      obtain ⟨cs9, hb9⟩ := own_blkD OM.out hg9
      exact hb9.ty_neD H_rd.out (by decide))
    have NOS := eX7 ▸ own_ofD OS.out fun g9 hg9 => Below.heap_setCell X6.drew ⟨w.heap.size + 1 + 1 + 1, 0, none⟩ (.slice yA yn yc) g9 (by
      obtain ⟨cs9, hb9⟩ := own_blkD OS.out hg9
      exact hb9.ty_neD H_rd.out (by decide))
    clear H_rd H_rs H_m H_x HB RAG RLG OC OM OS
    have H_rd := Lib.hid N_rd
    have H_rs := Lib.hid N_rs
    have H_m := Lib.hid N_m
    have H_x := Lib.hid N_x
    have HB := Lib.hid NB
    clear NB N_rd N_rs N_m N_x
    have RAG := Lib.hid NRAG
    clear NRAG
    have RLG := Lib.hid NRLG
    clear NRLG
    have OC := Lib.hid NOC
    clear NOC
    have OM := Lib.hid NOM
    clear NOM
    have OS := Lib.hid NOS
    clear NOS
    obtain ⟨X8, eX8⟩ : ∃ U, X7.setCell ⟨w.heap.size + 1 + 1 + 1, 1, none⟩ (.int .i64 (d9.i : Int)) = U := ⟨_, rfl⟩
    have fX8 := H_rd.out.frozen 1
    have cX8 := H_rd.out.cell 1
    have N_rd : Blk X8 (w.heap.size + 1 + 1 + 1) 30 #[.slice yA yn yc, .int .i64 (d9.i : Int), .slice none 0 0] := eX8 ▸ H_rd.out.set_ 1 _
    have N_rs : Blk X8 (w.heap.size + 1 + 1 + 1 + 1) 39 #[.int .i64 0, .int .i64 0, .slice none 0 0, .slice none 0 0, .slice none 0 0, .slice none 0 0] := eX8 ▸ H_rs.out.other (show w.heap.size + 1 + 1 + 1 ≠ w.heap.size + 1 + 1 + 1 + 1 by omega) _
    have N_m : Blk X8 (w1.heap.size) 59 #[.int .i64 (k : Int), .int .i64 p.code, .int .i64 p.mem, .int .i64 p.stack, .int .i64 p.val, .slice Q 13 f, .slice yA yn yc, .int .i64 (d9.i : Int), .slice yL d9.log.length yd, .int .i64 0] := eX8 ▸ H_m.out.other (show w.heap.size + 1 + 1 + 1 ≠ w1.heap.size by omega) _
    have N_x : Blk X8 (v1.heap.size) 39 #[.int .i64 s9.pc.v, .int .i64 s9.pc.l, .slice cA s9.code.length cc, .slice mA s9.mem.length mc, .slice sA s9.stack.length sc, .slice none 0 0] := eX8 ▸ H_x.out.other (show w.heap.size + 1 + 1 + 1 ≠ v1.heap.size by omega) _
    have NB : Below w.heap.size w X8 := eX8 ▸ HB.out.setCell (p := ⟨w.heap.size + 1 + 1 + 1, 1, none⟩) (by show w.heap.size ≤ w.heap.size + 1 + 1 + 1; omega) _
    have NRAG := eX8 ▸ RAG.out.move (Mv.set_ (p := ⟨w.heap.size + 1 + 1 + 1, 1, none⟩) H_rd.out (by decide) (show B ≤ w.heap.size + 1 + 1 + 1 by omega) (.int .i64 (d9.i : Int)))
    have NRLG := eX8 ▸ RLG.out.move (Mv.set_ (p := ⟨w.heap.size + 1 + 1 + 1, 1, none⟩) H_rd.out (by decide) (show B ≤ w.heap.size + 1 + 1 + 1 by omega) (.int .i64 (d9.i : Int)))
    have NOC := eX8 ▸ own_ofD OC.out fun g9 hg9 => Below.heap_setCell X7 ⟨w.heap.size + 1 + 1 + 1, 1, none⟩ (.int .i64 (d9.i : Int)) g9 (by
      obtain ⟨cs9, hb9⟩ := own_blkD OC.out hg9
      exact hb9.ty_neD H_rd.out (by decide))
    have NOM := eX8 ▸ own_ofD OM.out fun g9 hg9 => Below.heap_setCell X7 ⟨w.heap.size + 1 + 1 + 1, 1, none⟩ (.int .i64 (d9.i : Int)) g9 (by
      obtain ⟨cs9, hb9⟩ := own_blkD OM.out hg9
      exact hb9.ty_neD H_rd.out (by decide))
    have NOS := eX8 ▸ own_ofD OS.out fun g9 hg9 => Below.heap_setCell X7 ⟨w.heap.size + 1 + 1 + 1, 1, none⟩ (.int .i64 (d9.i : Int)) g9 (by
      obtain ⟨cs9, hb9⟩ := own_blkD OS.out hg9
      exact hb9.ty_neD H_rd.out (by decide))
    clear H_rd H_rs H_m H_x HB RAG RLG OC OM OS
    have H_rd := Lib.hid N_rd
    have H_rs := Lib.hid N_rs
    have H_m := Lib.hid N_m
    have H_x := Lib.hid N_x
    have HB := Lib.hid NB
    clear NB N_rd N_rs N_m N_x
    have RAG := Lib.hid NRAG
    clear NRAG
    have RLG := Lib.hid NRLG
    clear NRLG
    have OC := Lib.hid NOC
    clear NOC
    have OM := Lib.hid NOM
    clear NOM
    have OS := Lib.hid NOS
    clear NOS
    obtain ⟨X9, eX9⟩ : ∃ U, X8.setCell ⟨w.heap.size + 1 + 1 + 1, 2, none⟩ (.slice yL d9.log.length yd) = U := ⟨_, rfl⟩
    have fX9 := H_rd.out.frozen 2
    have cX9 := H_rd.out.cell 2
    have N_rd : Blk X9 (w.heap.size + 1 + 1 + 1) 30 #[.slice yA yn yc, .int .i64 (d9.i : Int), .slice yL d9.log.length yd] := eX9 ▸ H_rd.out.set_ 2 _
    have N_rs : Blk X9 (w.heap.size + 1 + 1 + 1 + 1) 39 #[.int .i64 0, .int .i64 0, .slice none 0 0, .slice none 0 0, .slice none 0 0, .slice none 0 0] := eX9 ▸ H_rs.out.other (show w.heap.size + 1 + 1 + 1 ≠ w.heap.size + 1 + 1 + 1 + 1 by omega) _
    have N_m : Blk X9 (w1.heap.size) 59 #[.int .i64 (k : Int), .int .i64 p.code, .int .i64 p.mem, .int .i64 p.stack, .int .i64 p.val, .slice Q 13 f, .slice yA yn yc, .int .i64 (d9.i : Int), .slice yL d9.log.length yd, .int .i64 0] := eX9 ▸ H_m.out.other (show w.heap.size + 1 + 1 + 1 ≠ w1.heap.size by omega) _
    have N_x : Blk X9 (v1.heap.size) 39 #[.int .i64 s9.pc.v, .int .i64 s9.pc.l, .slice cA s9.code.length cc, .slice mA s9.mem.length mc, .slice sA s9.stack.length sc, .slice none 0 0] := eX9 ▸ H_x.out.other (show w.heap.size + 1 + 1 + 1 ≠ v1.heap.size by omega) _
    have NB : Below w.heap.size w X9 := eX9 ▸ HB.out.setCell (p := ⟨w.heap.size + 1 + 1 + 1, 2, none⟩) (by show w.heap.size ≤ w.heap.size + 1 + 1 + 1; omega) _
    have NRAG := eX9 ▸ RAG.out.move (Mv.set_ (p := ⟨w.heap.size + 1 + 1 + 1, 2, none⟩) H_rd.out (by decide) (show B ≤ w.heap.size + 1 + 1 + 1 by omega) (.slice yL d9.log.length yd))
    have NRLG := eX9 ▸ RLG.out.move (Mv.set_ (p := ⟨w.heap.size + 1 + 1 + 1, 2, none⟩) H_rd.out (by decide) (show B ≤ w.heap.size + 1 + 1 + 1 by omega) (.slice yL d9.log.length yd))
    have NOC := eX9 ▸ own_ofD OC.out fun g9 hg9 => Below.heap_setCell X8 ⟨w.heap.size + 1 + 1 + 1, 2, none⟩ (.slice yL d9.log.length yd) g9 (by
      obtain ⟨cs9, hb9⟩ := own_blkD OC.out hg9
      exact hb9.ty_neD H_rd.out (by decide))
    have NOM := eX9 ▸ own_ofD OM.out fun g9 hg9 => Below.heap_setCell X8 ⟨w.heap.size + 1 + 1 + 1, 2, none⟩ (.slice yL d9.log.length yd) g9 (by
      obtain ⟨cs9, hb9⟩ := own_blkD OM.out hg9
      exact hb9.ty_neD H_rd.out (by decide))
    have NOS := eX9 ▸ own_ofD OS.out fun g9 hg9 => Below.heap_setCell X8 ⟨w.heap.size + 1 + 1 + 1, 2, none⟩ (.slice yL d9.log.length yd) g9 (by
      obtain ⟨cs9, hb9⟩ := own_blkD OS.out hg9
      exact hb9.ty_neD H_rd.out (by decide))
    clear H_rd H_rs H_m H_x HB RAG RLG OC OM OS
    have H_rd := Lib.hid N_rd
    have H_rs := Lib.hid N_rs
    have H_m := Lib.hid N_m
    have H_x := Lib.hid N_x
    have HB := Lib.hid NB
    clear NB N_rd N_rs N_m N_x
    have RAG := Lib.hid NRAG
    clear NRAG
    have RLG := Lib.hid NRLG
    clear NRLG
    have OC := Lib.hid NOC
    clear NOC
    have OM := Lib.hid NOM
    clear NOM
    have OS := Lib.hid NOS
    clear NOS
    have HS1 := Lib.hid (And.intro (H_m.out.cell 6) (And.intro (H_m.out.cell 7) (And.intro (H_m.out.cell 8) (And.intro (H_x.out.cell 0) (And.intro (H_x.out.cell 1) (And.intro (H_x.out.cell 2) (And.intro (H_x.out.cell 3) (And.intro (H_x.out.cell 4) (H_x.out.cell 5)))))))))
    refine Free.Seq.loud_ rfl (.inl rfl) (fun K hK => ?_)
    go_simp
    refine hK.out _ _ rfl (fun _ => HS1.out) ?_
    clear hK K eX7 fX7 cX7 eX8 fX8 cX8 eX9 fX9 cX9
    obtain ⟨X10, eX10⟩ : ∃ U, X9.setCell ⟨w.heap.size + 1 + 1 + 1 + 1, 0, none⟩ (.int .i64 s9.pc.v) = U := ⟨_, rfl⟩
    have fX10 := H_rs.out.frozen 0
    have cX10 := H_rs.out.cell 0
    have N_rd : Blk X10 (w.heap.size + 1 + 1 + 1) 30 #[.slice yA yn yc, .int .i64 (d9.i : Int), .slice yL d9.log.length yd] := eX10 ▸ H_rd.out.other (show w.heap.size + 1 + 1 + 1 + 1 ≠ w.heap.size + 1 + 1 + 1 by omega) _
    have N_rs : Blk X10 (w.heap.size + 1 + 1 + 1 + 1) 39 #[.int .i64 s9.pc.v, .int .i64 0, .slice none 0 0, .slice none 0 0, .slice none 0 0, .slice none 0 0] := eX10 ▸ H_rs.out.set_ 0 _
    have N_m : Blk X10 (w1.heap.size) 59 #[.int .i64 (k : Int), .int .i64 p.code, .int .i64 p.mem, .int .i64 p.stack, .int .i64 p.val, .slice Q 13 f, .slice yA yn yc, .int .i64 (d9.i : Int), .slice yL d9.log.length yd, .int .i64 0] := eX10 ▸ H_m.out.other (show w.heap.size + 1 + 1 + 1 + 1 ≠ w1.heap.size by omega) _
    have N_x : Blk X10 (v1.heap.size) 39 #[.int .i64 s9.pc.v, .int .i64 s9.pc.l, .slice cA s9.code.length cc, .slice mA s9.mem.length mc, .slice sA s9.stack.length sc, .slice none 0 0] := eX10 ▸ H_x.out.other (show w.heap.size + 1 + 1 + 1 + 1 ≠ v1.heap.size by omega) _
    have NB : Below w.heap.size w X10 := eX10 ▸ HB.out.setCell (p := ⟨w.heap.size + 1 + 1 + 1 + 1, 0, none⟩) (by show w.heap.size ≤ w.heap.size + 1 + 1 + 1 + 1; omega) _
    have NRAG := eX10 ▸ RAG.out.move (Mv.set_ (p := ⟨w.heap.size + 1 + 1 + 1 + 1, 0, none⟩) H_rs.out (by decide) (show B ≤ w.heap.size + 1 + 1 + 1 + 1 by omega) (.int .i64 s9.pc.v))
    have NRLG := eX10 ▸ RLG.out.move (Mv.set_ (p := ⟨w.heap.size + 1 + 1 + 1 + 1, 0, none⟩) H_rs.out (by decide) (show B ≤ w.heap.size + 1 + 1 + 1 + 1 by omega) (.int .i64 s9.pc.v))
    have NOC := eX10 ▸ own_ofD OC.out fun g9 hg9 => Below.heap_setCell X9 ⟨w.heap.size + 1 + 1 + 1 + 1, 0, none⟩ (.int .i64 s9.pc.v) g9 (by
      obtain ⟨cs9, hb9⟩ := own_blkD OC.out hg9
      exact hb9.ty_neD H_rs.out (by decide))
    have NOM := eX10 ▸ own_ofD OM.out fun g9 hg9 => Below.heap_setCell X9 ⟨w.heap.size + 1 + 1 + 1 + 1, 0, none⟩ (.int .i64 s9.pc.v) g9 (by
      obtain ⟨cs9, hb9⟩ := own_blkD OM.out hg9
      exact hb9.ty_neD H_rs.out (by decide))
    have NOS := eX10 ▸ own_ofD OS.out fun g9 hg9 => Below.heap_setCell X9 ⟨w.heap.size + 1 + 1 + 1 + 1, 0, none⟩ (.int .i64 s9.pc.v) g9 (by
      obtain ⟨cs9, hb9⟩ := own_blkD OS.out hg9
      exact hb9.ty_neD H_rs.out (by decide))
    clear H_rd H_rs H_m H_x HB RAG RLG OC OM OS
    have H_rd := Lib.hid N_rd
    have H_rs := Lib.hid N_rs
    have H_m := Lib.hid N_m
    have H_x := Lib.hid N_x
    have HB := Lib.hid NB
    clear NB N_rd N_rs N_m N_x
    have RAG := Lib.hid NRAG
    clear NRAG
    have RLG := Lib.hid NRLG
    clear NRLG
    have OC := Lib.hid NOC
    clear NOC
    have OM := Lib.hid NOM
    clear NOM
    have OS := Lib.hid NOS
    clear NOS
    obtain ⟨X11, eX11⟩ : ∃ U, X10.setCell ⟨w.heap.size + 1 + 1 + 1 + 1, 1, none⟩ (.int .i64 s9.pc.l) = U := ⟨_, rfl⟩
    have fX11 := H_rs.out.frozen 1
    have cX11 := H_rs.out.cell 1
    have N_rd : Blk X11 (w.heap.size + 1 + 1 + 1) 30 #[.slice yA yn yc, .int .i64 (d9.i : Int), .slice yL d9.log.length yd] := eX11 ▸ H_rd.out.other (show w.heap.size + 1 + 1 + 1 + 1 ≠ w.heap.size + 1 + 1 + 1 by omega) _
    have N_rs : Blk X11 (w.heap.size + 1 + 1 + 1 + 1) 39 #[.int .i64 s9.pc.v, .int .i64 s9.pc.l, .slice none 0 0, .slice none 0 0, .slice none 0 0, .slice none 0 0] := eX11 ▸ H_rs.out.set_ 1 _
    have N_m : Blk X11 (w1.heap.size) 59 #[.int .i64 (k : Int), .int .i64 p.code, .int .i64 p.mem, .int .i64 p.stack, .int .i64 p.val, .slice Q 13 f, .slice yA yn yc, .int .i64 (d9.i : Int), .slice yL d9.log.length yd, .int .i64 0] := eX11 ▸ H_m.out.other (show w.heap.size + 1 + 1 + 1 + 1 ≠ w1.heap.size by omega) _
    have N_x : Blk X11 (v1.heap.size) 39 #[.int .i64 s9.pc.v, .int .i64 s9.pc.l, .slice cA s9.code.length cc, .slice mA s9.mem.length mc, .slice sA s9.stack.length sc, .slice none 0 0] := eX11 ▸ H_x.out.other (show w.heap.size + 1 + 1 + 1 + 1 ≠ v1.heap.size by omega) _
    have NB : Below w.heap.size w X11 := eX11 ▸ HB.out.setCell (p := ⟨w.heap.size + 1 + 1 + 1 + 1, 1, none⟩) (by show w.heap.size ≤ w.heap.size + 1 + 1 + 1 + 1; omega) _
    have NRAG := eX11 ▸ RAG.out.move (Mv.set_ (p := ⟨w.heap.size + 1 + 1 + 1 + 1, 1, none⟩) H_rs.out (by decide) (show B ≤ w.heap.size + 1 + 1 + 1 + 1 by omega) (.int .i64 s9.pc.l))
    have NRLG := eX11 ▸ RLG.out.move (Mv.set_ (p := ⟨w.heap.size + 1 + 1 + 1 + 1, 1, none⟩) H_rs.out (by decide) (show B ≤ w.heap.size + 1 + 1 + 1 + 1 by omega) (.int .i64 s9.pc.l))
    have NOC := eX11 ▸ own_ofD OC.out fun g9 hg9 => Below.heap_setCell X10 ⟨w.heap.size + 1 + 1 + 1 + 1, 1, none⟩ (.int .i64 s9.pc.l) g9 (by
      obtain ⟨cs9, hb9⟩ := own_blkD OC.out hg9
      exact hb9.ty_neD H_rs.out (by decide))
    have NOM := eX11 ▸ own_ofD OM.out fun g9 hg9 => Below.heap_setCell X10 ⟨w.heap.size + 1 + 1 + 1 + 1, 1, none⟩ (.int .i64 s9.pc.l) g9 (by
      obtain ⟨cs9, hb9⟩ := own_blkD OM.out hg9
      exact hb9.ty_neD H_rs.out (by decide))
    have NOS := eX11 ▸ own_ofD OS.out fun g9 hg9 => Below.heap_setCell X10 ⟨w.heap.size + 1 + 1 + 1 + 1, 1, none⟩ (.int .i64 s9.pc.l) g9 (by
      obtain ⟨cs9, hb9⟩ := own_blkD OS.out hg9
      exact hb9.ty_neD H_rs.out (by decide))
    clear H_rd H_rs H_m H_x HB RAG RLG OC OM OS
    have H_rd := Lib.hid N_rd
    have H_rs := Lib.hid N_rs
    have H_m := Lib.hid N_m
    have H_x := Lib.hid N_x
    have HB := Lib.hid NB
    clear NB N_rd N_rs N_m N_x
    have RAG := Lib.hid NRAG
    clear NRAG
    have RLG := Lib.hid NRLG
    clear NRLG
    have OC := Lib.hid NOC
    clear NOC
    have OM := Lib.hid NOM
    clear NOM
    have OS := Lib.hid NOS
    clear NOS
    obtain ⟨X12, eX12⟩ : ∃ U, X11.setCell ⟨w.heap.size + 1 + 1 + 1 + 1, 2, none⟩ (.slice cA s9.code.length cc) = U := ⟨_, rfl⟩
    have fX12 := H_rs.out.frozen 2
    have cX12 := H_rs.out.cell 2
    have N_rd : Blk X12 (w.heap.size + 1 + 1 + 1) 30 #[.slice yA yn yc, .int .i64 (d9.i : Int), .slice yL d9.log.length yd] := eX12 ▸ H_rd.out.other (show w.heap.size + 1 + 1 + 1 + 1 ≠ w.heap.size + 1 + 1 + 1 by omega) _
    have N_rs : Blk X12 (w.heap.size + 1 + 1 + 1 + 1) 39 #[.int .i64 s9.pc.v, .int .i64 s9.pc.l, .slice cA s9.code.length cc, .slice none 0 0, .slice none 0 0, .slice none 0 0] := eX12 ▸ H_rs.out.set_ 2 _
    have N_m : Blk X12 (w1.heap.size) 59 #[.int .i64 (k : Int), .int .i64 p.code, .int .i64 p.mem, .int .i64 p.stack, .int .i64 p.val, .slice Q 13 f, .slice yA yn yc, .int .i64 (d9.i : Int), .slice yL d9.log.length yd, .int .i64 0] := eX12 ▸ H_m.out.other (show w.heap.size + 1 + 1 + 1 + 1 ≠ w1.heap.size by omega) _
    have N_x : Blk X12 (v1.heap.size) 39 #[.int .i64 s9.pc.v, .int .i64 s9.pc.l, .slice cA s9.code.length cc, .slice mA s9.mem.length mc, .slice sA s9.stack.length sc, .slice none 0 0] := eX12 ▸ H_x.out.other (show w.heap.size + 1 + 1 + 1 + 1 ≠ v1.heap.size by omega) _
    have NB : Below w.heap.size w X12 := eX12 ▸ HB.out.setCell (p := ⟨w.heap.size + 1 + 1 + 1 + 1, 2, none⟩) (by show w.heap.size ≤ w.heap.size + 1 + 1 + 1 + 1; omega) _
    have NRAG := eX12 ▸ RAG.out.move (Mv.set_ (p := ⟨w.heap.size + 1 + 1 + 1 + 1, 2, none⟩) H_rs.out (by decide) (show B ≤ w.heap.size + 1 + 1 + 1 + 1 by omega) (.slice cA s9.code.length cc))
    have NRLG := eX12 ▸ RLG.out.move (Mv.set_ (p := ⟨w.heap.size + 1 + 1 + 1 + 1, 2, none⟩) H_rs.out (by decide) (show B ≤ w.heap.size + 1 + 1 + 1 + 1 by omega) (.slice cA s9.code.length cc))
    have NOC := eX12 ▸ own_ofD OC.out fun g9 hg9 => Below.heap_setCell X11 ⟨w.heap.size + 1 + 1 + 1 + 1, 2, none⟩ (.slice cA s9.code.length cc) g9 (by
      obtain ⟨cs9, hb9⟩ := own_blkD OC.out hg9
      exact hb9.ty_neD H_rs.out (by decide))
    have NOM := eX12 ▸ own_ofD OM.out fun g9 hg9 => Below.heap_setCell X11 ⟨w.heap.size + 1 + 1 + 1 + 1, 2, none⟩ (.slice cA s9.code.length cc) g9 (by
      obtain ⟨cs9, hb9⟩ := own_blkD OM.out hg9
      exact hb9.ty_neD H_rs.out (by decide))
    have NOS := eX12 ▸ own_ofD OS.out fun g9 hg9 => Below.heap_setCell X11 ⟨w.heap.size + 1 + 1 + 1 + 1, 2, none⟩ (.slice cA s9.code.length cc) g9 (by
      obtain ⟨cs9, hb9⟩ := own_blkD OS.out hg9
      exact hb9.ty_neD H_rs.out (by decide))
    clear H_rd H_rs H_m H_x HB RAG RLG OC OM OS
    have H_rd := Lib.hid N_rd
    have H_rs := Lib.hid N_rs
    have H_m := Lib.hid N_m
    have H_x := Lib.hid N_x
    have HB := Lib.hid NB
    clear NB N_rd N_rs N_m N_x
    have RAG := Lib.hid NRAG
    clear NRAG
    have RLG := Lib.hid NRLG
    clear NRLG
    have OC := Lib.hid NOC
    clear NOC
    have OM := Lib.hid NOM
    clear NOM
    have OS := Lib.hid NOS
    clear NOS
    obtain ⟨X13, eX13⟩ : ∃ U, X12.setCell ⟨w.heap.size + 1 + 1 + 1 + 1, 3, none⟩ (.slice mA s9.mem.length mc) = U := ⟨_, rfl⟩
    have fX13 := H_rs.out.frozen 3
    have cX13 := H_rs.out.cell 3
    have N_rd : Blk X13 (w.heap.size + 1 + 1 + 1) 30 #[.slice yA yn yc, .int .i64 (d9.i : Int), .slice yL d9.log.length yd] := eX13 ▸ H_rd.out.other (show w.heap.size + 1 + 1 + 1 + 1 ≠ w.heap.size + 1 + 1 + 1 by omega) _
    have N_rs : Blk X13 (w.heap.size + 1 + 1 + 1 + 1) 39 #[.int .i64 s9.pc.v, .int .i64 s9.pc.l, .slice cA s9.code.length cc, .slice mA s9.mem.length mc, .slice none 0 0, .slice none 0 0] := eX13 ▸ H_rs.out.set_ 3 _
    have N_m : Blk X13 (w1.heap.size) 59 #[.int .i64 (k : Int), .int .i64 p.code, .int .i64 p.mem, .int .i64 p.stack, .int .i64 p.val, .slice Q 13 f, .slice yA yn yc, .int .i64 (d9.i : Int), .slice yL d9.log.length yd, .int .i64 0] := eX13 ▸ H_m.out.other (show w.heap.size + 1 + 1 + 1 + 1 ≠ w1.heap.size by omega) _
    have N_x : Blk X13 (v1.heap.size) 39 #[.int .i64 s9.pc.v, .int .i64 s9.pc.l, .slice cA s9.code.length cc, .slice mA s9.mem.length mc, .slice sA s9.stack.length sc, .slice none 0 0] := eX13 ▸ H_x.out.other (show w.heap.size + 1 + 1 + 1 + 1 ≠ v1.heap.size by omega) _
    have NB : Below w.heap.size w X13 := eX13 ▸ HB.out.setCell (p := ⟨w.heap.size + 1 + 1 + 1 + 1, 3, none⟩) (by show w.heap.size ≤ w.heap.size + 1 + 1 + 1 + 1; omega) _
    have NRAG := eX13 ▸ RAG.out.move (Mv.set_ (p := ⟨w.heap.size + 1 + 1 + 1 + 1, 3, none⟩) H_rs.out (by decide) (show B ≤ w.heap.size + 1 + 1 + 1 + 1 by omega) (.slice mA s9.mem.length mc))
    have NRLG := eX13 ▸ RLG.out.move (Mv.set_ (p := ⟨w.heap.size + 1 + 1 + 1 + 1, 3, none⟩) H_rs.out (by decide) (show B ≤ w.heap.size + 1 + 1 + 1 + 1 by omega) (.slice mA s9.mem.length mc))
    have NOC := eX13 ▸ own_ofD OC.out fun g9 hg9 => Below.heap_setCell X12 ⟨w.heap.size + 1 + 1 + 1 + 1, 3, none⟩ (.slice mA s9.mem.length mc) g9 (by
      obtain ⟨cs9, hb9⟩ := own_blkD OC.out hg9
      exact hb9.ty_neD H_rs.out (by decide))
    have NOM := eX13 ▸ own_ofD OM.out fun g9 hg9 => Below.heap_setCell X12 ⟨w.heap.size + 1 + 1 + 1 + 1, 3, none⟩ (.slice mA s9.mem.length mc) g9 (by
      obtain ⟨cs9, hb9⟩ := own_blkD OM.out hg9
      exact hb9.ty_neD H_rs.out (by decide))
    have NOS := eX13 ▸ own_ofD OS.out fun g9 hg9 => Below.heap_setCell X12 ⟨w.heap.size + 1 + 1 + 1 + 1, 3, none⟩ (.slice mA s9.mem.length mc) g9 (by
      obtain ⟨cs9, hb9⟩ := own_blkD OS.out hg9
      exact hb9.ty_neD H_rs.out (by decide))
    clear H_rd H_rs H_m H_x HB RAG RLG OC OM OS
    have H_rd := Lib.hid N_rd
    have H_rs := Lib.hid N_rs
    have H_m := Lib.hid N_m
    have H_x := Lib.hid N_x
    have HB := Lib.hid NB
    clear NB N_rd N_rs N_m N_x
    have RAG := Lib.hid NRAG
    clear NRAG
    have RLG := Lib.hid NRLG
    clear NRLG
    have OC := Lib.hid NOC
    clear NOC
    have OM := Lib.hid NOM
    clear NOM
    have OS := Lib.hid NOS
    clear NOS
    obtain ⟨X14, eX14⟩ : ∃ U, X13.setCell ⟨w.heap.size + 1 + 1 + 1 + 1, 4, none⟩ (.slice sA s9.stack.length sc) = U := ⟨_, rfl⟩
    have fX14 := H_rs.out.frozen 4
    have cX14 := H_rs.out.cell 4
    have N_rd : Blk X14 (w.heap.size + 1 + 1 + 1) 30 #[.slice yA yn yc, .int .i64 (d9.i : Int), .slice yL d9.log.length yd] := eX14 ▸ H_rd.out.other (show w.heap.size + 1 + 1 + 1 + 1 ≠ w.heap.size + 1 + 1 + 1 by omega) _
    have N_rs : Blk X14 (w.heap.size + 1 + 1 + 1 + 1) 39 #[.int .i64 s9.pc.v, .int .i64 s9.pc.l, .slice cA s9.code.length cc, .slice mA s9.mem.length mc, .slice sA s9.stack.length sc, .slice none 0 0] := eX14 ▸ H_rs.out.set_ 4 _
    have N_m : Blk X14 (w1.heap.size) 59 #[.int .i64 (k : Int), .int .i64 p.code, .int .i64 p.mem, .int .i64 p.stack, .int .i64 p.val, .slice Q 13 f, .slice yA yn yc, .int .i64 (d9.i : Int), .slice yL d9.log.length yd, .int .i64 0] := eX14 ▸ H_m.out.other (show w.heap.size + 1 + 1 + 1 + 1 ≠ w1.heap.size by omega) _
    have N_x : Blk X14 (v1.heap.size) 39 #[.int .i64 s9.pc.v, .int .i64 s9.pc.l, .slice cA s9.code.length cc, .slice mA s9.mem.length mc, .slice sA s9.stack.length sc, .slice none 0 0] := eX14 ▸ H_x.out.other (show w.heap.size + 1 + 1 + 1 + 1 ≠ v1.heap.size by omega) _
    have NB : Below w.heap.size w X14 := eX14 ▸ HB.out.setCell (p := ⟨w.heap.size + 1 + 1 + 1 + 1, 4, none⟩) (by show w.heap.size ≤ w.heap.size + 1 + 1 + 1 + 1; omega) _
    have NRAG := eX14 ▸ RAG.out.move (Mv.set_ (p := ⟨w.heap.size + 1 + 1 + 1 + 1, 4, none⟩) H_rs.out (by decide) (show B ≤ w.heap.size + 1 + 1 + 1 + 1 by omega) (.slice sA s9.stack.length sc))
    have NRLG := eX14 ▸ RLG.out.move (Mv.set_ (p := ⟨w.heap.size + 1 + 1 + 1 + 1, 4, none⟩) H_rs.out (by decide) (show B ≤ w.heap.size + 1 + 1 + 1 + 1 by omega) (.slice sA s9.stack.length sc))
    have NOC := eX14 ▸ own_ofD OC.out fun g9 hg9 => Below.heap_setCell X13 ⟨w.heap.size + 1 + 1 + 1 + 1, 4, none⟩ (.slice sA s9.stack.length sc) g9 (by
      obtain ⟨cs9, hb9⟩ := own_blkD OC.out hg9
      exact hb9.ty_neD H_rs.out (by decide))
    have NOM := eX14 ▸ own_ofD OM.out fun g9 hg9 => Below.heap_setCell X13 ⟨w.heap.size + 1 + 1 + 1 + 1, 4, none⟩ (.slice sA s9.stack.length sc) g9 (by
      obtain ⟨cs9, hb9⟩ := own_blkD OM.out hg9
      exact hb9.ty_neD H_rs.out (by decide))
    have NOS := eX14 ▸ own_ofD OS.out fun g9 hg9 => Below.heap_setCell X13 ⟨w.heap.size + 1 + 1 + 1 + 1, 4, none⟩ (.slice sA s9.stack.length sc) g9 (by
      obtain ⟨cs9, hb9⟩ := own_blkD OS.out hg9
      exact hb9.ty_neD H_rs.out (by decide))
    clear H_rd H_rs H_m H_x HB RAG RLG OC OM OS
    have H_rd := Lib.hid N_rd
    have H_rs := Lib.hid N_rs
    have H_m := Lib.hid N_m
    have H_x := Lib.hid N_x
    have HB := Lib.hid NB
    clear NB N_rd N_rs N_m N_x
    have RAG := Lib.hid NRAG
    clear NRAG
    have RLG := Lib.hid NRLG
    clear NRLG
    have OC := Lib.hid NOC
    clear NOC
    have OM := Lib.hid NOM
    clear NOM
    have OS := Lib.hid NOS
    clear NOS
    obtain ⟨X15, eX15⟩ : ∃ U, X14.setCell ⟨w.heap.size + 1 + 1 + 1 + 1, 5, none⟩ (.slice none 0 0) = U := ⟨_, rfl⟩
    have fX15 := H_rs.out.frozen 5
    have cX15 := H_rs.out.cell 5
    have N_rd : Blk X15 (w.heap.size + 1 + 1 + 1) 30 #[.slice yA yn yc, .int .i64 (d9.i : Int), .slice yL d9.log.length yd] := eX15 ▸ H_rd.out.other (show w.heap.size + 1 + 1 + 1 + 1 ≠ w.heap.size + 1 + 1 + 1 by omega) _
    have N_rs : Blk X15 (w.heap.size + 1 + 1 + 1 + 1) 39 #[.int .i64 s9.pc.v, .int .i64 s9.pc.l, .slice cA s9.code.length cc, .slice mA s9.mem.length mc, .slice sA s9.stack.length sc, .slice none 0 0] := eX15 ▸ H_rs.out.set_ 5 _
    have N_m : Blk X15 (w1.heap.size) 59 #[.int .i64 (k : Int), .int .i64 p.code, .int .i64 p.mem, .int .i64 p.stack, .int .i64 p.val, .slice Q 13 f, .slice yA yn yc, .int .i64 (d9.i : Int), .slice yL d9.log.length yd, .int .i64 0] := eX15 ▸ H_m.out.other (show w.heap.size + 1 + 1 + 1 + 1 ≠ w1.heap.size by omega) _
    have N_x : Blk X15 (v1.heap.size) 39 #[.int .i64 s9.pc.v, .int .i64 s9.pc.l, .slice cA s9.code.length cc, .slice mA s9.mem.length mc, .slice sA s9.stack.length sc, .slice none 0 0] := eX15 ▸ H_x.out.other (show w.heap.size + 1 + 1 + 1 + 1 ≠ v1.heap.size by omega) _
    have NB : Below w.heap.size w X15 := eX15 ▸ HB.out.setCell (p := ⟨w.heap.size + 1 + 1 + 1 + 1, 5, none⟩) (by show w.heap.size ≤ w.heap.size + 1 + 1 + 1 + 1; omega) _
    have NRAG := eX15 ▸ RAG.out.move (Mv.set_ (p := ⟨w.heap.size + 1 + 1 + 1 + 1, 5, none⟩) H_rs.out (by decide) (show B ≤ w.heap.size + 1 + 1 + 1 + 1 by omega) (.slice none 0 0))
    have NRLG := eX15 ▸ RLG.out.move (Mv.set_ (p := ⟨w.heap.size + 1 + 1 + 1 + 1, 5, none⟩) H_rs.out (by decide) (show B ≤ w.heap.size + 1 + 1 + 1 + 1 by omega) (.slice none 0 0))
    have NOC := eX15 ▸ own_ofD OC.out fun g9 hg9 => Below.heap_setCell X14 ⟨w.heap.size + 1 + 1 + 1 + 1, 5, none⟩ (.slice none 0 0) g9 (by
      obtain ⟨cs9, hb9⟩ := own_blkD OC.out hg9
      exact hb9.ty_neD H_rs.out (by decide))
    have NOM := eX15 ▸ own_ofD OM.out fun g9 hg9 => Below.heap_setCell X14 ⟨w.heap.size + 1 + 1 + 1 + 1, 5, none⟩ (.slice none 0 0) g9 (by
      obtain ⟨cs9, hb9⟩ := own_blkD OM.out hg9
      exact hb9.ty_neD H_rs.out (by decide))
    have NOS := eX15 ▸ own_ofD OS.out fun g9 hg9 => Below.heap_setCell X14 ⟨w.heap.size + 1 + 1 + 1 + 1, 5, none⟩ (.slice none 0 0) g9 (by
      obtain ⟨cs9, hb9⟩ := own_blkD OS.out hg9
      exact hb9.ty_neD H_rs.out (by decide))
    clear H_rd H_rs H_m H_x HB RAG RLG OC OM OS
    have H_rd := Lib.hid N_rd
    have H_rs := Lib.hid N_rs
    have H_m := Lib.hid N_m
    have H_x := Lib.hid N_x
    have HB := Lib.hid NB
    clear NB N_rd N_rs N_m N_x
    have RAG := Lib.hid NRAG
    clear NRAG
    have RLG := Lib.hid NRLG
    clear NRLG
    have OC := Lib.hid NOC
    clear NOC
    have OM := Lib.hid NOM
    clear NOM
    have OS := Lib.hid NOS
    clear NOS
    refine Free.Seq.loud_ rfl (.inl rfl) (fun K hK => ?_)
    go_simp
    refine hK.out _ _ rfl (fun h => absurd h (by decide)) ?_
    clear hK K eX10 fX10 cX10 eX11 fX11 cX11 eX12 fX12 cX12 eX13 fX13 cX13 eX14 fX14 cX14 eX15 fX15 cX15
    iterate 1
      refine Free.Seq.quiet (v := ?_) (a' := ?_) rfl rfl (fun W' hW' => ?_) ?_ ?_
      rotate_left 2
      · skip
        go_simp
        try with_reducible rfl
      · simp only [Act.put, List.setIfInBounds_toArray, List.set_cons_zero, List.set_cons_succ]
        try with_reducible rfl
    refine Free.Seq.nil_ ?_
    have r0 := H_rd.out.cell 0
    have r1 := H_rd.out.cell 1
    have r2 := H_rd.out.cell 2
    have t0 := H_rs.out.cell 0
    have t1 := H_rs.out.cell 1
    have t2 := H_rs.out.cell 2
    have t3 := H_rs.out.cell 3
    have t4 := H_rs.out.cell 4
    have t5 := H_rs.out.cell 5
    go_wp2
    exact bodyPost_ret (v := .tuple #[.agg #[.slice yA yn yc, .int .i64 (d9.i : Int), .slice yL d9.log.length yd], .agg #[.int .i64 s9.pc.v, .int .i64 s9.pc.l, .slice cA s9.code.length cc, .slice mA s9.mem.length mc, .slice sA s9.stack.length sc, .slice none 0 0], .int .i64 0]) (by simp [results, Try.results7, go_sem, r0, r1, r2, t0, t1, t2, t3, t4, t5]) rfl ⟨yA, yc, yL, yd, _, _, _, rfl, RAG.out, RLG.out, OC.out, OM.out, OS.out, HL9.out, HB.out⟩
end Go.Proofs.Ytmbgndcahlopdaa

/- Package gen's State: what it answers. -/
namespace Go.Proofs.Ytmbgndcahlopdaa
set_option maxRecDepth 100000
open Go.RowKit Go.Shelf
attribute [local go_sem] Oper.semAt_some

section
variable {v : Value} {names : List ByteArray} {up : List Nat} {A L Q : Option Addr} {list log : List Int} (n c m d f : Nat) (i : Int) (p : Gn.Sp) (w : World)
theorem gState_chk (h : IsLat w w.heap.size v names up) (hQ : Row w w.heap.size Q (ints p.ws)) (hl : p.ws.length ≤ 1000000) (hf : p.ws.length ≤ f) (hck : Gn.chkN names up p ≠ 0) :
    Calls Try.prog 7 #[v, spv p Q f, .agg #[.slice A n c, .int .i64 i, .slice L m d]] w (GErr w (Gn.chkN names up p)) := by
  have hc := fun W (hW : Below w.heap.size w W) => gCheck15_any p f W ((h.below hW).more hW.size) ((hQ.below hW).more hW.size) hl hf
  obtain ⟨⟨N, U, c1, c2, rfl, -, -⟩, -, -, -⟩ := h
  exact gState_no names.length up.length c1 c2 p.ws.length f p ⟨A, n, c, i, L, m, d, 0, 0⟩ w hck hc
theorem gState_good (h : IsLat w w.heap.size v names up) (hQ : Row w w.heap.size Q (ints p.ws)) (hl : p.ws.length ≤ 1000000) (hf : p.ws.length ≤ f) (hck : Gn.chkN names up p = 0) {B : Nat} (hB : B ≤ w.heap.size) (hQB : RowX w B Q p.ws) (hA : RowX w B A list) (hL : RowX w B L log) (hn : list.length = n) (hm : log.length = m) (j : Nat) (hi : j < 9223372036854775808) (hr : Dr.right n (j : Int) m = true) :
    Calls Try.prog 7 #[v, spv p Q f, .agg #[.slice A n c, .int .i64 (j : Int), .slice L m d]] w (GotG w B 8 n list (Gn.state list up.length p ⟨j, log⟩)) := by
  have hc := fun W (hW : Below w.heap.size w W) => gCheck15_any p f W ((h.below hW).more hW.size) ((hQ.below hW).more hW.size) hl hf
  obtain ⟨hz, hsp⟩ := Gn.chk_zero hck
  have hlen := len_of_checkN hz
  have hF := Gn.fits_of hlen.1 hsp
  rw [hck] at hc
  obtain ⟨⟨N, U, c1, c2, rfl, -, -⟩, -, -, -⟩ := h
  unfold spv at hc ⊢
  rw [hF.len] at hc ⊢
  unfold Dr.right at hr
  have hr := of_decide_eq_true hr
  subst hm hn
  refine gState_go (ans := Gn.state list up.length p ⟨j, log⟩) (n := list.length) (list := list) names.length up.length c1 c2 f p ⟨A, list.length, c, (j : Int), L, log.length, d, 0, 0⟩ w (er := 8) (B := B) (by decide) rfl hB hc fun W g hW hg hbox => ?_
  have hok : MOk ⟨g, up.length, p, Q, f, 8, list.length, list, B⟩ := ⟨rfl, by show list.length ≤ 500; omega, hF, by show up.length ≤ 1000; omega⟩
  have hmk : Mkr W ⟨g, up.length, p, Q, f, 8, list.length, list, B⟩ ⟨A, list.length, c, (j : Int), L, log.length, d, 0, 0⟩ (some ((0 : Int), (⟨j, log⟩ : Gn.D))) :=
    ⟨hbox, ⟨rfl, by show log.length ≤ 2000; omega, hi⟩, fun z d e => by
      injection e with e
      injection e with _ e
      subst e
      exact ⟨hA.move (Mv.below _ hW), hL.move (Mv.below _ hW)⟩, hQB.move (Mv.below _ hW), Nat.le_trans hB hg⟩
  have hst := mstate_any (c := ⟨g, up.length, p, Q, f, 8, list.length, list, B⟩) (y := ⟨A, list.length, c, (j : Int), L, log.length, d, 0, 0⟩) (q0 := Gn.run (Gn.tk list (p.code + 1)) (some ((0 : Int), (⟨j, log⟩ : Gn.D)))) W hbox hok (show (8 : Nat) ≠ 0 by decide) (.inr rfl) (fun W2 hW2 => ?_) (by
      have h := tk_gi list (b := p.code + 1) (by have := hF.c0; omega) (some ((0 : Int), (⟨j, log⟩ : Gn.D)))
      exact ⟨h.1, by show _ ≤ p.code; omega⟩)
  · unfold Gn.state
    rw [Gn.next_rep]
    exact hst
  · exact mbelow_any W2 (p.code + 1) (hmk.keep hW2) hok (show (8 : Nat) ≠ 0 by decide) (.inr rfl) (by have := hF.c0; omega) (by have := hF.c1; omega)
end
end Go.Proofs.Ytmbgndcahlopdaa

/- A region that draws its order, in which State is called and two boxes are laid: what is known where some operations are done. -/
namespace Go.Proofs.Ytmbgndcahlopdaa
set_option maxRecDepth 100000
open Go.RowKit Go.Shelf
attribute [local go_sem] Oper.semAt_some

def zD : Array Value := #[.slice none 0 0, .int .i64 0, .slice none 0 0]
def zS : Array Value := #[.int .i64 0, .int .i64 0, .slice none 0 0, .slice none 0 0, .slice none 0 0, .slice none 0 0]
/-- All below B stands, and all but boxes of draws and of states. -/
structure Kb (B : Nat) (W W' : World) : Prop where
  size : W.heap.size ≤ W'.heap.size
  low : ∀ k, k < B → k < W.heap.size → W'.heap[k]? = W.heap[k]?
  oth : ∀ k t cs, Blk W k t cs → t ≠ 30 → t ≠ 39 → Blk W' k t cs
section
variable {B : Nat} {W W' : World}
theorem Kb.below (B : Nat) (h : Below W.heap.size W W') : Kb B W W' := ⟨h.size, fun k _ hl => h.block k hl, fun _ _ _ hb _ _ => hb.below h hb.lt⟩
theorem Kb.setW {b : Nat} {t : TypeId} {cs : Array Value} (hb : Blk W b t cs) (ht : t = 30 ∨ t = 39) (hB : B ≤ b) (hs : W.heap.size ≤ W'.heap.size) (hk : ∀ k, k ≠ b → W'.heap[k]? = W.heap[k]?) : Kb B W W' :=
  ⟨hs, fun k hk2 _ => hk k (by omega), fun k t2 cs2 h2 n1 n2 => (hk k (by
    have := fun e => h2.ty_neD hb e
    rcases ht with rfl | rfl
    · exact this n1
    · exact this n2)).trans h2⟩
theorem Kb.mv (h : Kb B W W') : Mv B W W' := ⟨h.size, h.low, fun k cs hb => h.oth k _ cs hb (by decide) (by decide)⟩
theorem Kb.own {base sz n : Nat} {e : TypeId} {rv : Value} {xs : List Value} (h : Kb B W W') (ho : W.ownsRow base e sz rv n xs) (h1 : e ≠ 30) (h2 : e ≠ 39) : W'.ownsRow base e sz rv n xs :=
  own_ofD ho fun k hk => by
    obtain ⟨cs, hc⟩ := own_blkD ho hk
    exact (h.oth k _ cs hc h1 h2).trans hc.symm
end
/-- The draws that State answers, its state, its error. -/
def TupD (B n : Nat) (list : List Int) (r : Option (St.State × Gn.D)) (v : Value) (W : World) : Prop := match r with
  | none => v = .agg zD
  | some (_, d) => ∃ (A : Option Addr) (ca : Nat) (L : Option Addr) (dd : Nat), v = .agg #[.slice A n ca, .int .i64 (d.i : Int), .slice L d.log.length dd] ∧ RowX W B A list ∧ RowX W B L d.log ∧ d.log.length ≤ 2000
def TupS (B : Nat) (r : Option (St.State × Gn.D)) (v : Value) (W : World) : Prop := match r with
  | none => v = .agg zS
  | some (s, _) => ∃ cv mv sv : Value, v = .agg #[.int .i64 s.pc.v, .int .i64 s.pc.l, cv, mv, sv, .slice none 0 0] ∧ W.ownsRow B 66 3 cv s.code.length (fcells ivs s.code) ∧ W.ownsRow B 34 2 mv s.mem.length (fcells avs s.mem) ∧ W.ownsRow B 70 3 sv s.stack.length (fcells svs s.stack)
def errN (er : Nat) : Option (St.State × Gn.D) → Nat
  | none => er
  | some _ => 0
def TupV (B er n : Nat) (list : List Int) (r : Option (St.State × Gn.D)) (v : Value) (W : World) : Prop := ∃ dv sv, v = .tuple #[dv, sv, .int .i64 (errN er r : Nat)] ∧ TupD B n list r dv W ∧ TupS B r sv W
section
variable {B er n : Nat} {list : List Int} {r : Option (St.State × Gn.D)} {v : Value} {W W' : World}
theorem TupD.kb (h : TupD B n list r v W) (hk : Kb B W W') : TupD B n list r v W' := by
  cases r with
  | none => exact h
  | some p =>
    obtain ⟨A, ca, L, dd, e, h1, h2, h3⟩ := h
    exact ⟨A, ca, L, dd, e, h1.move hk.mv, h2.move hk.mv, h3⟩
theorem TupS.kb (h : TupS B r v W) (hk : Kb B W W') : TupS B r v W' := by
  cases r with
  | none => exact h
  | some p =>
    obtain ⟨cv, mv, sv, e, h1, h2, h3⟩ := h
    exact ⟨cv, mv, sv, e, hk.own h1 (by decide) (by decide), hk.own h2 (by decide) (by decide), hk.own h3 (by decide) (by decide)⟩
theorem TupV.kb (h : TupV B er n list r v W) (hk : Kb B W W') : TupV B er n list r v W' := by
  obtain ⟨dv, sv, e, h1, h2⟩ := h
  exact ⟨dv, sv, e, h1.kb hk, h2.kb hk⟩
theorem GotG.tup {w : World} {e : Ending} (h : GotG w B er n list r e W') (hB : B ≤ w.heap.size) : ∃ v, e = .returned v ∧ TupV B er n list r v W' ∧ Below w.heap.size w W' := by
  cases r with
  | none =>
    obtain ⟨he, hb⟩ := h
    exact ⟨_, he, ⟨_, _, rfl, rfl, rfl⟩, hb⟩
  | some p =>
    obtain ⟨s, d⟩ := p
    obtain ⟨A, ca, L, dd, cv, mv, sv, he, h1, h2, h3, h4, h5, h6, hb⟩ := h
    exact ⟨_, he, ⟨_, _, rfl, ⟨A, ca, L, dd, rfl, h1, h2, h6⟩, ⟨cv, mv, sv, rfl, ownT_mono h3 hB, ownT_mono h4 hB, ownT_mono h5 hB⟩⟩, hb⟩
theorem TupD.three (h : TupD B n list r v W) : ∃ (A : Option Addr) (n1 c1 : Nat) (i : Int) (L : Option Addr) (n2 c2 : Nat), v = .agg #[.slice A n1 c1, .int .i64 i, .slice L n2 c2] := by
  cases r with
  | none => exact ⟨_, _, _, _, _, _, _, h⟩
  | some p =>
    obtain ⟨A, ca, L, dd, e, -⟩ := h
    exact ⟨_, _, _, _, _, _, _, e⟩
theorem TupS.six (h : TupS B r v W) : ∃ (i j : Int) (A1 : Option Addr) (n1 c1 : Nat) (A2 : Option Addr) (n2 c2 : Nat) (A3 : Option Addr) (n3 c3 : Nat), v = .agg #[.int .i64 i, .int .i64 j, .slice A1 n1 c1, .slice A2 n2 c2, .slice A3 n3 c3, .slice none 0 0] := by
  cases r with
  | none => exact ⟨_, _, _, _, _, _, _, _, _, _, _, h⟩
  | some p =>
    obtain ⟨cv, mv, sv, e, h1, h2, h3⟩ := h
    obtain ⟨A1, c1, rfl⟩ := ownT_slice h1
    obtain ⟨A2, c2, rfl⟩ := ownT_slice h2
    obtain ⟨A3, c3, rfl⟩ := ownT_slice h3
    exact ⟨_, _, _, _, _, _, _, _, _, _, _, e⟩
end
/-- What is known where some operations are done: ka and kb lay the boxes, sa and sb store into them what vd and vs are. -/
structure FB (af : Nat → Value → World → Prop) (w0 : World) (ka kb sa sb vd vs : Nat) (done : Nat → Bool) (r : Nat → Value) (W : World) : Prop where
  below : Below w0.heap.size w0 W
  f : ∀ k, done k = true → af k (r k) W
  a : done ka = true → ∃ b, r ka = .pointer (some ⟨b, 0, none⟩) ∧ w0.heap.size ≤ b ∧ (done sa = false → Blk W b 30 zD) ∧ (done sa = true → ∃ cs, r vd = .agg cs ∧ Blk W b 30 cs)
  b : done kb = true → ∃ b, r kb = .pointer (some ⟨b, 0, none⟩) ∧ w0.heap.size ≤ b ∧ (done sb = false → Blk W b 39 zS) ∧ (done sb = true → ∃ cs, r vs = .agg cs ∧ Blk W b 39 cs)
section
variable {af : Nat → Value → World → Prop} {w0 : World} {B ka kb sa sb vd vs : Nat} {done : Nat → Bool} {r : Nat → Value} {W W' : World}
theorem upd_ne {done : Nat → Bool} {j k : Nat} (h : j ≠ k) : Free.upd done k j = done j := by unfold Free.upd; rw [if_neg h]
theorem updR_ne {r : Nat → Value} {j k : Nat} {v : Value} (h : j ≠ k) : Free.updR r k v j = r j := by unfold Free.updR; rw [if_neg h]
theorem upd_eq {done : Nat → Bool} {k : Nat} : Free.upd done k k = true := by unfold Free.upd; rw [if_pos rfl]
theorem updR_eq {r : Nat → Value} {k : Nat} {v : Value} : Free.updR r k v k = v := by unfold Free.updR; rw [if_pos rfl]
theorem FB.start (r : Nat → Value) : FB af w0 ka kb sa sb vd vs (fun _ => false) r w0.drew := ⟨(Below.refl _ _).drew, fun _ h => (by cases h), fun h => (by cases h), fun h => (by cases h)⟩
theorem FB.facts (h : FB af w0 ka kb sa sb vd vs done r W) (haf : ∀ k v W W', af k v W → Kb B W W' → af k v W') {k : Nat} {v : Value} (hk : Kb B W W') (ha : af k v W') : ∀ j, Free.upd done k j = true → af j (Free.updR r k v j) W' := fun j hj => by
  by_cases e : j = k
  · subst e; rw [updR_eq]; exact ha
  · rw [upd_ne e] at hj; rw [updR_ne e]; exact haf _ _ _ _ (h.f j hj) hk
theorem FB.made (haf : ∀ k v W W', af k v W → Kb B W W' → af k v W') (h : FB af w0 ka kb sa sb vd vs done r W) {k : Nat} {v : Value} (hka : ka ≠ k) (hkb : kb ≠ k) (hsa : sa ≠ k) (hsb : sb ≠ k) (hvd : k = vd → done sa = false) (hvs : k = vs → done sb = false) (hb : Below W.heap.size W W') (ha : af k v W') :
    FB af w0 ka kb sa sb vd vs (Free.upd done k) (Free.updR r k v) W' := by
  refine ⟨h.below.trans (hb.mono h.below.size), h.facts haf (Kb.below B hb) ha, fun hd => ?_, fun hd => ?_⟩
  · rw [upd_ne hka] at hd
    obtain ⟨b, e, hl, h1, h2⟩ := h.a hd
    refine ⟨b, by rw [updR_ne hka]; exact e, hl, fun hs => ?_, fun hs => ?_⟩
    · rw [upd_ne hsa] at hs; have := h1 hs; exact this.below hb this.lt
    · rw [upd_ne hsa] at hs
      obtain ⟨cs, e2, hc⟩ := h2 hs
      have hv : vd ≠ k := fun e => by rw [hvd e.symm] at hs; cases hs
      exact ⟨cs, by rw [updR_ne hv]; exact e2, hc.below hb hc.lt⟩
  · rw [upd_ne hkb] at hd
    obtain ⟨b, e, hl, h1, h2⟩ := h.b hd
    refine ⟨b, by rw [updR_ne hkb]; exact e, hl, fun hs => ?_, fun hs => ?_⟩
    · rw [upd_ne hsb] at hs; have := h1 hs; exact this.below hb this.lt
    · rw [upd_ne hsb] at hs
      obtain ⟨cs, e2, hc⟩ := h2 hs
      have hv : vs ≠ k := fun e => by rw [hvs e.symm] at hs; cases hs
      exact ⟨cs, by rw [updR_ne hv]; exact e2, hc.below hb hc.lt⟩
theorem FB.boxA (haf : ∀ k v W W', af k v W → Kb B W W' → af k v W') (h : FB af w0 ka kb sa sb vd vs done r W) (hd : done sa = false) (n1 : kb ≠ ka) (n2 : sa ≠ ka) (n3 : sb ≠ ka) (n5 : vs ≠ ka) (ha : ∀ v W, af ka v W) :
    FB af w0 ka kb sa sb vd vs (Free.upd done ka) (Free.updR r ka (.pointer (some ⟨W.heap.size, 0, none⟩))) (W.alloc (.cells zD 30)) := by
  have hb := (Below.refl W.heap.size W).alloc (Nat.le_refl _) (.cells zD 30)
  refine ⟨h.below.trans (hb.mono h.below.size), h.facts haf (Kb.below B hb) (ha _ _), fun _ => ?_, fun hdb => ?_⟩
  · refine ⟨W.heap.size, updR_eq, h.below.size, fun _ => Blk.new _ _ _, fun hs => ?_⟩
    rw [upd_ne n2, hd] at hs
    cases hs
  · rw [upd_ne n1] at hdb
    obtain ⟨b, e, hl, h1, h2⟩ := h.b hdb
    refine ⟨b, by rw [updR_ne n1]; exact e, hl, fun hs => ?_, fun hs => ?_⟩
    · rw [upd_ne n3] at hs; exact (h1 hs).alloc _
    · rw [upd_ne n3] at hs
      obtain ⟨cs, e2, hc⟩ := h2 hs
      exact ⟨cs, by rw [updR_ne n5]; exact e2, hc.alloc _⟩
theorem FB.boxB (haf : ∀ k v W W', af k v W → Kb B W W' → af k v W') (h : FB af w0 ka kb sa sb vd vs done r W) (hd : done sb = false) (n1 : ka ≠ kb) (n2 : sa ≠ kb) (n3 : sb ≠ kb) (n5 : vd ≠ kb) (ha : ∀ v W, af kb v W) :
    FB af w0 ka kb sa sb vd vs (Free.upd done kb) (Free.updR r kb (.pointer (some ⟨W.heap.size, 0, none⟩))) (W.alloc (.cells zS 39)) := by
  have hb := (Below.refl W.heap.size W).alloc (Nat.le_refl _) (.cells zS 39)
  refine ⟨h.below.trans (hb.mono h.below.size), h.facts haf (Kb.below B hb) (ha _ _), fun hda => ?_, fun _ => ?_⟩
  · rw [upd_ne n1] at hda
    obtain ⟨b, e, hl, h1, h2⟩ := h.a hda
    refine ⟨b, by rw [updR_ne n1]; exact e, hl, fun hs => ?_, fun hs => ?_⟩
    · rw [upd_ne n2] at hs; exact (h1 hs).alloc _
    · rw [upd_ne n2] at hs
      obtain ⟨cs, e2, hc⟩ := h2 hs
      exact ⟨cs, by rw [updR_ne n5]; exact e2, hc.alloc _⟩
  · refine ⟨W.heap.size, updR_eq, h.below.size, fun _ => Blk.new _ _ _, fun hs => ?_⟩
    rw [upd_ne n3, hd] at hs
    cases hs
theorem FB.setA (haf : ∀ k v W W', af k v W → Kb B W W' → af k v W') (hB : B ≤ w0.heap.size) (h : FB af w0 ka kb sa sb vd vs done r W) (hka : done ka = true) (hd : done sa = false) (n1 : ka ≠ sa) (n2 : kb ≠ sa) (n3 : sb ≠ sa) (n4 : vd ≠ sa) (n5 : vs ≠ sa) (ha : ∀ v W, af sa v W) :
    ∃ b, r ka = .pointer (some ⟨b, 0, none⟩) ∧ Blk W b 30 zD ∧ ∀ cs W', r vd = .agg cs → Blk W' b 30 cs → (∀ k, k ≠ b → W'.heap[k]? = W.heap[k]?) → (∀ B V, B ≤ b → Below B V W → Below B V W') → FB af w0 ka kb sa sb vd vs (Free.upd done sa) (Free.updR r sa undef) W' := by
  obtain ⟨b, e, hl, h1, -⟩ := h.a hka
  have hz := h1 hd
  refine ⟨b, e, hz, fun cs W' ev hc hk hbl => ?_⟩
  have hb := hbl w0.heap.size w0 hl h.below
  have hkb := Kb.setW (W' := W') hz (.inl rfl) (Nat.le_trans hB hl) (hbl _ W (Nat.zero_le _) (Below.refl 0 W)).size hk
  refine ⟨hb, h.facts haf hkb (ha _ _), fun _ => ⟨b, by rw [updR_ne n1]; exact e, hl, fun hs => ?_, fun _ => ⟨cs, by rw [updR_ne n4]; exact ev, hc⟩⟩, fun hdb => ?_⟩
  · rw [upd_eq] at hs; cases hs
  · rw [upd_ne n2] at hdb
    obtain ⟨b2, e2, hl2, h3, h4⟩ := h.b hdb
    refine ⟨b2, by rw [updR_ne n2]; exact e2, hl2, fun hs => ?_, fun hs => ?_⟩
    · rw [upd_ne n3] at hs
      have h5 := h3 hs
      exact (hk b2 (h5.ty_neD hz (by decide))).trans h5
    · rw [upd_ne n3] at hs
      obtain ⟨cs2, e3, hc2⟩ := h4 hs
      exact ⟨cs2, by rw [updR_ne n5]; exact e3, (hk b2 (hc2.ty_neD hz (by decide))).trans hc2⟩
theorem FB.setB (haf : ∀ k v W W', af k v W → Kb B W W' → af k v W') (hB : B ≤ w0.heap.size) (h : FB af w0 ka kb sa sb vd vs done r W) (hkb : done kb = true) (hd : done sb = false) (n1 : ka ≠ sb) (n2 : kb ≠ sb) (n3 : sa ≠ sb) (n4 : vd ≠ sb) (n5 : vs ≠ sb) (ha : ∀ v W, af sb v W) :
    ∃ b, r kb = .pointer (some ⟨b, 0, none⟩) ∧ Blk W b 39 zS ∧ ∀ cs W', r vs = .agg cs → Blk W' b 39 cs → (∀ k, k ≠ b → W'.heap[k]? = W.heap[k]?) → (∀ B V, B ≤ b → Below B V W → Below B V W') → FB af w0 ka kb sa sb vd vs (Free.upd done sb) (Free.updR r sb undef) W' := by
  obtain ⟨b, e, hl, h1, -⟩ := h.b hkb
  have hz := h1 hd
  refine ⟨b, e, hz, fun cs W' ev hc hk hbl => ?_⟩
  have hb := hbl w0.heap.size w0 hl h.below
  have hkb := Kb.setW (W' := W') hz (.inr rfl) (Nat.le_trans hB hl) (hbl _ W (Nat.zero_le _) (Below.refl 0 W)).size hk
  refine ⟨hb, h.facts haf hkb (ha _ _), fun hda => ?_, fun _ => ⟨b, by rw [updR_ne n2]; exact e, hl, fun hs => ?_, fun _ => ⟨cs, by rw [updR_ne n5]; exact ev, hc⟩⟩⟩
  · rw [upd_ne n1] at hda
    obtain ⟨b2, e2, hl2, h3, h4⟩ := h.a hda
    refine ⟨b2, by rw [updR_ne n1]; exact e2, hl2, fun hs => ?_, fun hs => ?_⟩
    · rw [upd_ne n3] at hs
      have h5 := h3 hs
      exact (hk b2 (h5.ty_neD hz (by decide))).trans h5
    · rw [upd_ne n3] at hs
      obtain ⟨cs2, e3, hc2⟩ := h4 hs
      exact ⟨cs2, by rw [updR_ne n4]; exact e3, (hk b2 (hc2.ty_neD hz (by decide))).trans hc2⟩
  · rw [upd_eq] at hs; cases hs
end
end Go.Proofs.Ytmbgndcahlopdaa

/- law15's alive (by gen_gml.py). -/
namespace Go.Proofs.Ytmbgndcahlopdaa
set_option maxRecDepth 100000
open Go.RowKit Go.Shelf
attribute [local go_sem] Oper.semAt_some

def NwAt (B n : Nat) (list : List Int) (v : Value) (W : World) : Prop := ∃ A c, v = .agg #[.slice A n c, .int .i64 0, .slice none 0 0] ∧ RowX W B A list
theorem NwAt.kb {B n : Nat} {list : List Int} {v : Value} {W W' : World} (h : NwAt B n list v W) (hk : Kb B W W') : NwAt B n list v W' := by
  obtain ⟨A, c, e, h⟩ := h
  exact ⟨A, c, e, h.move hk.mv⟩
def l4 : List Int := [1, 1, 3, 1]
def sp15 : Gn.Sp := ⟨2, 0, 0, 5, ones15⟩
def r15 : Option (St.State × Gn.D) := Gn.state l4 2 sp15 ⟨0, []⟩
theorem r15_eq : r15 = some (⟨⟨0, 0⟩, [⟨1, 2, 1⟩], [], [], []⟩, ⟨4, [1, 1, 3, 1, 0, 0, 0, 0]⟩) := by kernel_rfl
def af15 (B : Nat) (k : Nat) (v : Value) (W : World) : Prop := match k with
  | 1 => ∃ b, v = .slice (some ⟨b, 0, none⟩) 13 13 ∧ B ≤ b ∧ Blk W b 3 (ints ones15).toArray
  | 2 => ∃ b, v = .agg #[.int .i64 2, .int .i64 0, .int .i64 0, .int .i64 5, .slice (some ⟨b, 0, none⟩) 13 13] ∧ B ≤ b ∧ Blk W b 3 (ints ones15).toArray
  | 3 => ∃ b, v = .slice (some ⟨b, 0, none⟩) 4 4 ∧ Blk W b 3 (ints l4).toArray
  | 4 => NwAt B 4 l4 v W
  | 5 => TupV B 8 4 l4 r15 v W
  | 6 => TupV B 8 4 l4 r15 v W
  | 7 => TupD B 4 l4 r15 v W
  | 8 => TupS B r15 v W
  | _ => True
theorem af15.kb {B : Nat} (k : Nat) (v : Value) (W W' : World) (h : af15 B k v W) (hk : Kb B W W') : af15 B k v W' := by
  unfold af15 at h ⊢
  split
  · obtain ⟨b, e, h1, h2⟩ := h; exact ⟨b, e, h1, hk.oth _ _ _ h2 (by decide) (by decide)⟩
  · obtain ⟨b, e, h1, h2⟩ := h; exact ⟨b, e, h1, hk.oth _ _ _ h2 (by decide) (by decide)⟩
  · obtain ⟨b, e, h2⟩ := h; exact ⟨b, e, hk.oth _ _ _ h2 (by decide) (by decide)⟩
  · exact NwAt.kb h hk
  · exact TupV.kb h hk
  · exact TupV.kb h hk
  · exact TupD.kb h hk
  · exact TupS.kb h hk
  · trivial
theorem blk_rowx {W : World} {B b : Nat} {l : List Int} (h : Blk W b 3 (ints l).toArray) : RowX W B (some ⟨b, 0, none⟩) l := fun hn => by
  obtain ⟨ad, e, h1, h3⟩ := h.row (by intro e; exact hn (List.map_eq_nil_iff.1 e))
  injection e with e
  subst e
  exact ⟨_, rfl, h.lt, .inr ⟨_, h⟩, h3⟩
def bNames15 : List ByteArray := [⟨#[97]⟩, ⟨#[98]⟩]
def bUp15 : List Nat := [3, 2]
theorem alive15_lat (w : World) : IsLat (((w.alloc (.cells #[.string ⟨#[97]⟩, .string ⟨#[98]⟩] 9)).alloc (.cells #[.int .u32 3, .int .u32 2] 63)).alloc (.cells #[.slice (some ⟨w.heap.size, 0, none⟩) 2 2, .slice (some ⟨w.heap.size + 1, 0, none⟩) 2 2] 25)) (w.heap.size + 3)
    (.agg #[.slice (some ⟨w.heap.size, 0, none⟩) 2 2, .slice (some ⟨w.heap.size + 1, 0, none⟩) 2 2]) bNames15 bUp15 := by
  have h0 := ((Blk.new w 9 (strs bNames15).toArray).alloc (.cells #[.int .u32 3, .int .u32 2] 63)).alloc (.cells #[.slice (some ⟨w.heap.size, 0, none⟩) 2 2, .slice (some ⟨w.heap.size + 1, 0, none⟩) 2 2] 25)
  have h1 := (Blk.new' (w.alloc (.cells (strs bNames15).toArray 9)) 63 (u32s bUp15).toArray (w.heap.size + 1) (by simp)).alloc (.cells #[.slice (some ⟨w.heap.size, 0, none⟩) 2 2, .slice (some ⟨w.heap.size + 1, 0, none⟩) 2 2] 25)
  refine ⟨⟨some ⟨w.heap.size, 0, none⟩, some ⟨w.heap.size + 1, 0, none⟩, 2, 2, rfl, h0.row.more (by omega), h1.row.more (by omega), ?_⟩, ?_, by decide, ?_⟩
  · intro k x hx
    unfold bUp15 at hx
    have := List.mem_of_getElem? hx
    simp at this
    omega
  · intro s hs
    unfold bNames15 at hs
    simp at hs
    unfold maxLen
    rcases hs with rfl | rfl <;> decide
  · intro A1 n1 c1 A2 n2 c2 he
    injection he with he
    injection he with he
    injection he with e1 he
    injection he with e2 he
    injection e1 with _ e11 e12
    injection e2 with _ e21 e22
    omega

set_option maxHeartbeats 16000000 in
theorem alive15_any (w : World) : Calls Try.prog 10 #[] w (Tells w true) := by
  have hlat := alive15_lat w
  obtain ⟨Wa, hWa⟩ : ∃ Wa : World, ((w.alloc (.cells #[.string ⟨#[97]⟩, .string ⟨#[98]⟩] 9)).alloc (.cells #[.int .u32 3, .int .u32 2] 63)).alloc (.cells #[.slice (some ⟨w.heap.size, 0, none⟩) 2 2, .slice (some ⟨w.heap.size + 1, 0, none⟩) 2 2] 25) = Wa := ⟨_, rfl⟩
  have hBa : Below w.heap.size w Wa := by rw [← hWa]; exact (((Below.refl _ w).alloc (Nat.le_refl _) _).alloc (by simp) _).alloc (by simp; omega) _
  have hsa : Wa.heap.size = w.heap.size + 3 := by rw [← hWa]; simp
  have hla : Blk Wa (w.heap.size + 1 + 1) 25 #[.slice (some ⟨w.heap.size, 0, none⟩) 2 2, .slice (some ⟨w.heap.size + 1, 0, none⟩) 2 2] := by rw [← hWa]; exact Blk.new' _ _ _ _ (by simp)
  rw [hWa, ← hsa] at hlat
  have hst : ∀ (A : Option Addr) (c b : Nat) (W : World), Below Wa.heap.size Wa W → RowX W Wa.heap.size A l4 → Blk W b 3 (ints ones15).toArray → Calls Try.prog 7 #[.agg #[.slice (some ⟨w.heap.size, 0, none⟩) 2 2, .slice (some ⟨w.heap.size + 1, 0, none⟩) 2 2], .agg #[.int .i64 2, .int .i64 0, .int .i64 0, .int .i64 5, .slice (some ⟨b, 0, none⟩) 13 13], .agg #[.slice A 4 c, .int .i64 0, .slice none 0 0]] W (GotG W Wa.heap.size 8 4 l4 r15) := fun A c b W hW hA hb => by
    have hq := blk_rowx (B := Wa.heap.size) hb
    exact gState_good (list := l4) (log := []) 4 c 0 0 13 sp15 W ((hlat.below hW).more hW.size) hq.row (by decide) (by decide) (by decide +kernel) hW.size hq hA (fun h => absurd rfl h) rfl rfl 0 (by decide) (by decide)
  have HST := Lib.hid hst
  have HB := Lib.hid hBa
  have HL := Lib.hid hla
  have HWT := Lib.hid (fun W => weights15_any W)
  have HBS := Lib.hid (Nat.le_refl Wa.heap.size)
  clear hlat hBa hsa hla hst
  go_enter Try.func10, Try.ntmps10
  go_wp2_with (fail)
  refine Free.region_each (by kernel_rfl) (by kernel_rfl)
    (fun k => ([some (.agg #[.slice (some ⟨w.heap.size, 0, none⟩) 2 2, .slice (some ⟨w.heap.size + 1, 0, none⟩) 2 2]), none, none, none, none, none, none, none, none, some (.int .i64 (errN 8 r15 : Nat)), none, none, none, none, some (.int .i64 (errN 8 r15 : Nat))] : List (Option Value)).getD k none)
    (FB (af15 Wa.heap.size) Wa 10 11 12 13 7 8) (fun _ => undef) ?_ ?_ ?_
  · exact FB.start _
  · refine ⟨?_, ?_, ?_, ?_, ?_, ?_, ?_, ?_, ?_, ?_, ?_, ?_, ?_, ?_, ?_, trivial⟩
    · refine Free.step_val _ rfl rfl fun done r W ρ hρ hcst hfun hJ hV hC hd hdeps => ?_
      have e0 : ρ (.tmp 1) = .pointer (some ⟨w.heap.size + 1 + 1, 0, none⟩) := by rw [hρ]; rfl
      have c0 : W.cell? ⟨w.heap.size + 1 + 1, 0, none⟩ = some (.slice (some ⟨w.heap.size, 0, none⟩) 2 2) := (HL.out.below hJ.below HL.out.lt).cell 0
      have c1 : W.cell? ⟨w.heap.size + 1 + 1, 1, none⟩ = some (.slice (some ⟨w.heap.size + 1, 0, none⟩) 2 2) := (HL.out.below hJ.below HL.out.lt).cell 1
      clear hρ
      refine ⟨?_, hJ.made af15.kb (by decide) (by decide) (by decide) (by decide) (fun h => absurd h (by decide)) (fun h => absurd h (by decide)) (Below.refl _ _) trivial⟩
      go_simp
    · refine Free.step_any rfl rfl fun done r W ρ hρ hcst hfun hJ hV hC hd hdeps => ?_
      clear hρ
      go_simp
      exact (HWT.out W).mono fun e w' ⟨he, hk, hb⟩ => ⟨_, he, hJ.made af15.kb (by decide) (by decide) (by decide) (by decide) (fun h => absurd h (by decide)) (fun h => absurd h (by decide)) hb ⟨_, rfl, hJ.below.size, hk⟩⟩
    · refine Free.step_any rfl rfl fun done r W ρ hρ hcst hfun hJ hV hC hd hdeps => ?_
      have e0 : ρ (.tmp 10) = r 1 := by rw [hρ]; rfl
      obtain ⟨b, h1, h2, h3⟩ := hJ.f 1 (hdeps 1 (by decide))
      rw [h1] at e0
      have hf := hJ.made af15.kb (k := 2) (v := .agg #[.int .i64 2, .int .i64 0, .int .i64 0, .int .i64 5, .slice (some ⟨b, 0, none⟩) 13 13]) (by decide) (by decide) (by decide) (by decide) (fun h => absurd h (by decide)) (fun h => absurd h (by decide)) (Below.refl _ _) ⟨b, rfl, h2, h3⟩
      clear hρ h1 h2 h3
      go_simp
      exact hf
    · refine Free.step_any rfl rfl fun done r W ρ hρ hcst hfun hJ hV hC hd hdeps => ?_
      clear hρ
      have hf := hJ.made af15.kb (k := 3) (v := .slice (some ⟨W.heap.size, 0, none⟩) 4 4) (by decide) (by decide) (by decide) (by decide) (fun h => absurd h (by decide)) (fun h => absurd h (by decide)) ((Below.refl _ W).alloc (Nat.le_refl _) (.cells (ints l4).toArray 3)) ⟨_, rfl, Blk.new _ _ _⟩
      go_simp
      exact hf
    · refine Free.step_any rfl rfl fun done r W ρ hρ hcst hfun hJ hV hC hd hdeps => ?_
      have e0 : ρ (.tmp 12) = r 3 := by rw [hρ]; rfl
      obtain ⟨b, h1, h2⟩ := hJ.f 3 (hdeps 3 (by decide))
      rw [h1] at e0
      have hc := new13_any 4 l4 W (A := some ⟨b, 0, none⟩) ((h2.row (cs := ints l4)).more h2.lt) (by decide)
      clear hρ h1 h2
      go_simp
      exact hc.mono fun e w' ⟨A, c, he, ho, hb⟩ => ⟨_, he, hJ.made af15.kb (by decide) (by decide) (by decide) (by decide) (fun h => absurd h (by decide)) (fun h => absurd h (by decide)) hb ⟨A, c, rfl, RowX.of_own ho⟩⟩
    · refine Free.step_any rfl rfl fun done r W ρ hρ hcst hfun hJ hV hC hd hdeps => ?_
      have e0 : ρ (.tmp 9) = .agg #[.slice (some ⟨w.heap.size, 0, none⟩) 2 2, .slice (some ⟨w.heap.size + 1, 0, none⟩) 2 2] := by rw [hρ]; exact hV 0 _ (hdeps 0 (by decide)) rfl
      have e1 : ρ (.tmp 11) = r 2 := by rw [hρ]; rfl
      have ed : ρ (.tmp 13) = r 4 := by rw [hρ]; rfl
      obtain ⟨b, h1, -, h3⟩ := hJ.f 2 (hdeps 2 (by decide))
      obtain ⟨A, c, h4, hrow⟩ := hJ.f 4 (hdeps 4 (by decide))
      rw [h1] at e1
      rw [h4] at ed
      have hc := HST.out A c b W hJ.below hrow h3
      clear hρ h1 h3 h4 hrow
      go_simp
      exact hc.mono fun e w' h => by
        obtain ⟨v, he, ht, hb⟩ := h.tup (Nat.le_trans HBS.out hJ.below.size)
        exact ⟨v, he, hJ.made af15.kb (by decide) (by decide) (by decide) (by decide) (fun h => absurd h (by decide)) (fun h => absurd h (by decide)) hb ht⟩
    · refine Free.step_any rfl rfl fun done r W ρ hρ hcst hfun hJ hV hC hd hdeps => ?_
      have e0 : ρ (.tmp 14) = r 5 := by rw [hρ]; rfl
      have hx := hJ.f 5 (hdeps 5 (by decide))
      have hf := hJ.made af15.kb (k := 6) (v := r 5) (by decide) (by decide) (by decide) (by decide) (fun h => absurd h (by decide)) (fun h => absurd h (by decide)) (Below.refl _ _) hx
      clear hρ hx
      go_simp
      exact hf
    · refine Free.step_any rfl rfl fun done r W ρ hρ hcst hfun hJ hV hC hd hdeps => ?_
      have e0 : ρ (.tmp 8) = r 6 := by rw [hρ]; rfl
      obtain ⟨dv, sv, h1, hD, hS⟩ := hJ.f 6 (hdeps 6 (by decide))
      rw [h1] at e0
      have hf := hJ.made af15.kb (k := 7) (v := dv) (by decide) (by decide) (by decide) (by decide) (fun _ => Free.not_done hC 12 7 rfl (by decide) hd) (fun h => absurd h (by decide)) (Below.refl _ _) hD
      clear hρ h1 hD hS
      go_simp
      exact hf
    · refine Free.step_any rfl rfl fun done r W ρ hρ hcst hfun hJ hV hC hd hdeps => ?_
      have e0 : ρ (.tmp 8) = r 6 := by rw [hρ]; rfl
      obtain ⟨dv, sv, h1, hD, hS⟩ := hJ.f 6 (hdeps 6 (by decide))
      rw [h1] at e0
      have hf := hJ.made af15.kb (k := 8) (v := sv) (by decide) (by decide) (by decide) (by decide) (fun h => absurd h (by decide)) (fun _ => Free.not_done hC 13 8 rfl (by decide) hd) (Below.refl _ _) hS
      clear hρ h1 hD hS
      go_simp
      exact hf
    · refine Free.step_val _ rfl rfl fun done r W ρ hρ hcst hfun hJ hV hC hd hdeps => ?_
      have e0 : ρ (.tmp 8) = r 6 := by rw [hρ]; rfl
      obtain ⟨dv, sv, h1, hD, hS⟩ := hJ.f 6 (hdeps 6 (by decide))
      rw [h1] at e0
      clear hρ h1
      refine ⟨?_, hJ.made af15.kb (by decide) (by decide) (by decide) (by decide) (fun h => absurd h (by decide)) (fun h => absurd h (by decide)) (Below.refl _ _) trivial⟩
      go_simp
    · refine Free.step_any rfl rfl fun done r W ρ hρ hcst hfun hJ hV hC hd hdeps => ?_
      have hf := hJ.boxA af15.kb (Free.not_done hC 12 10 rfl (by decide) hd) (by decide) (by decide) (by decide) (by decide) (fun _ _ => trivial)
      clear hρ
      simp only [zD] at hf
      go_simp
      exact hf
    · refine Free.step_any rfl rfl fun done r W ρ hρ hcst hfun hJ hV hC hd hdeps => ?_
      have hf := hJ.boxB af15.kb (Free.not_done hC 13 11 rfl (by decide) hd) (by decide) (by decide) (by decide) (by decide) (fun _ _ => trivial)
      clear hρ
      simp only [zS] at hf
      go_simp
      exact hf
    · refine Free.step_any rfl rfl fun done r W ρ hρ hcst hfun hJ hV hC hd hdeps => ?_
      obtain ⟨b, h1, hz, hset⟩ := hJ.setA af15.kb HBS.out (hdeps 10 (by decide)) hd (by decide) (by decide) (by decide) (by decide) (by decide) (fun _ _ => trivial)
      have hv : TupD Wa.heap.size 4 l4 r15 (r 7) W := hJ.f 7 (hdeps 7 (by decide))
      obtain ⟨A, n1, c1, i, L, n2, c2, h2⟩ := hv.three
      have ep : ρ (.tmp 2) = r 10 := by rw [hρ]; rfl
      have eq : ρ (.tmp 15) = r 7 := by rw [hρ]; rfl
      rw [h1] at ep
      rw [h2] at eq
      obtain ⟨X0, X1, X2, e0, e1, e2, f0, f1, f2, g0, g1, g2, -, -, -, HZ, HH, HBL⟩ := n3_steps hz (.slice A n1 c1) (.int .i64 i) (.slice L n2 c2)
      have hf := hset #[.slice A n1 c1, .int .i64 i, .slice L n2 c2] X2 h2 HZ.out HH.out HBL.out
      clear hρ h1 h2 hset hz hv
      go_simp
      exact hf
    · refine Free.step_any rfl rfl fun done r W ρ hρ hcst hfun hJ hV hC hd hdeps => ?_
      obtain ⟨b, h1, hz, hset⟩ := hJ.setB af15.kb HBS.out (hdeps 11 (by decide)) hd (by decide) (by decide) (by decide) (by decide) (by decide) (fun _ _ => trivial)
      have hv : TupS Wa.heap.size r15 (r 8) W := hJ.f 8 (hdeps 8 (by decide))
      obtain ⟨i, j, A1, n1, c1, A2, n2, c2, A3, n3, c3, h2⟩ := hv.six
      have ep : ρ (.tmp 3) = r 11 := by rw [hρ]; rfl
      have eq : ρ (.tmp 16) = r 8 := by rw [hρ]; rfl
      rw [h1] at ep
      rw [h2] at eq
      obtain ⟨X0, X1, X2, X3, X4, X5, e0, e1, e2, e3, e4, e5, f0, f1, f2, f3, f4, f5, g0, g1, g2, g3, g4, g5, -, -, -, -, -, -, HZ, HH, HBL⟩ := n6_steps13 hz (.int .i64 i) (.int .i64 j) (.slice A1 n1 c1) (.slice A2 n2 c2) (.slice A3 n3 c3) (.slice none 0 0)
      have hf := hset #[.int .i64 i, .int .i64 j, .slice A1 n1 c1, .slice A2 n2 c2, .slice A3 n3 c3, .slice none 0 0] X5 h2 HZ.out HH.out HBL.out
      clear hρ h1 h2 hset hz hv
      go_simp
      exact hf
    · refine Free.step_val _ rfl rfl fun done r W ρ hρ hcst hfun hJ hV hC hd hdeps => ?_
      have e0 : ρ (.tmp 17) = .int .i64 (errN 8 r15 : Nat) := by rw [hρ]; exact hV 9 _ (hdeps 9 (by decide)) rfl
      clear hρ
      refine ⟨?_, hJ.made af15.kb (by decide) (by decide) (by decide) (by decide) (fun h => absurd h (by decide)) (fun h => absurd h (by decide)) (Below.refl _ _) trivial⟩
      go_simp
  · intro done r W  hall hJ hV
    obtain ⟨ba, ea, hla, -, ha⟩ := hJ.a (hall 10 (by decide))
    obtain ⟨bb, eb, hlb, -, hb⟩ := hJ.b (hall 11 (by decide))
    obtain ⟨ca, ev, hca⟩ := ha (hall 12 (by decide))
    obtain ⟨cb, ew, hcb⟩ := hb (hall 13 (by decide))
    have hD : TupD Wa.heap.size 4 l4 r15 (r 7) _ := hJ.f 7 (hall 7 (by decide))
    have hS : TupS Wa.heap.size r15 (r 8) _ := hJ.f 8 (hall 8 (by decide))
    have hbe := hJ.below
    simp only [Free.putAll, Nat.zero_add, ea, eb, hV 0 _ (hall 0 (by decide)) rfl, hV 9 _ (hall 9 (by decide)) rfl, hV 14 _ (hall 14 (by decide)) rfl]
    rw [ev] at hD
    rw [ew] at hS
    clear hJ hV hall ha hb ea eb ev ew
    generalize r 1 = z1
    generalize r 2 = z2
    generalize r 3 = z3
    generalize r 4 = z4
    generalize r 5 = z5
    generalize r 6 = z6
    generalize r 7 = z7
    generalize r 8 = z8
    generalize r 12 = z12
    generalize r 13 = z13
    try clear r done
    have hr := r15_eq
    rw [hr] at hS ⊢
    rw [show errN 8 (some ((⟨⟨0, 0⟩, [⟨1, 2, 1⟩], [], [], []⟩ : St.State), (⟨4, [1, 1, 3, 1, 0, 0, 0, 0]⟩ : Gn.D))) = 0 from rfl]
    obtain ⟨cv, mv, sv, e1, h1, -, -⟩ := hS
    obtain ⟨cA, cc, rfl⟩ := ownT_slice h1
    injection e1 with e1
    subst e1
    have h2 : hcb = hcb := rfl
    have k2 := hcb.cell 2
    have hrow := (ownT_row h1).1
    obtain ⟨ad, hA, -, hc⟩ := hrow (by decide)
    subst hA
    have s0 : W.cell? ad = some (.int .i64 1) := hc 0 _ rfl
    have s1 : W.cell? ⟨ad.block, ad.off + 1, none⟩ = some (.int .i64 2) := hc 1 _ rfl
    have s2 : W.cell? ⟨ad.block, ad.off + 2, none⟩ = some (.int .i64 1) := hc 2 _ rfl
    have HBE := Lib.hid (HB.out.trans (hbe.mono HB.out.size))
    clear hD hca hc hrow h1 h2 hbe hr
    go_wp2
    go_ret
    exact ⟨rfl, HBE.out⟩
end Go.Proofs.Ytmbgndcahlopdaa

/- The law GenStays (by gen_gms.py). -/
namespace Go.Proofs.Ytmbgndcahlopdaa
set_option maxRecDepth 100000
open Go.RowKit Go.Shelf
attribute [local go_sem] Oper.semAt_some

def afA (B n er : Nat) (list : List Int) (r : Option (St.State × Gn.D)) (k : Nat) (v : Value) (W : World) : Prop := match k with
  | 3 => NwAt B n list v W
  | 4 => TupV B er n list r v W
  | 5 => TupV B er n list r v W
  | 6 => TupD B n list r v W
  | 7 => TupS B r v W
  | _ => True
theorem afA.kb {B n er : Nat} {list : List Int} {r : Option (St.State × Gn.D)} (k : Nat) (v : Value) (W W' : World) (h : afA B n er list r k v W) (hk : Kb B W W') : afA B n er list r k v W' := by
  unfold afA at h ⊢
  split
  · exact NwAt.kb h hk
  · exact TupV.kb h hk
  · exact TupV.kb h hk
  · exact TupD.kb h hk
  · exact TupS.kb h hk
  · trivial
def afB (B n er : Nat) (list : List Int) (r : Option (St.State × Gn.D)) (k : Nat) (v : Value) (W : World) : Prop := match k with
  | 4 => NwAt B n list v W
  | 5 => TupV B er n list r v W
  | 6 => TupV B er n list r v W
  | 7 => TupD B n list r v W
  | 8 => TupS B r v W
  | _ => True
theorem afB.kb {B n er : Nat} {list : List Int} {r : Option (St.State × Gn.D)} (k : Nat) (v : Value) (W W' : World) (h : afB B n er list r k v W) (hk : Kb B W W') : afB B n er list r k v W' := by
  unfold afB at h ⊢
  split
  · exact NwAt.kb h hk
  · exact TupV.kb h hk
  · exact TupV.kb h hk
  · exact TupD.kb h hk
  · exact TupS.kb h hk
  · trivial
def afC (B n er : Nat) (list : List Int) (r : Option (St.State × Gn.D)) (k : Nat) (v : Value) (W : World) : Prop := match k with
  | 2 => NwAt B n list v W
  | 3 => TupV B er n list r v W
  | 4 => TupV B er n list r v W
  | 5 => TupD B n list r v W
  | 6 => TupS B r v W
  | _ => True
theorem afC.kb {B n er : Nat} {list : List Int} {r : Option (St.State × Gn.D)} (k : Nat) (v : Value) (W W' : World) (h : afC B n er list r k v W) (hk : Kb B W W') : afC B n er list r k v W' := by
  unfold afC at h ⊢
  split
  · exact NwAt.kb h hk
  · exact TupV.kb h hk
  · exact TupV.kb h hk
  · exact TupD.kb h hk
  · exact TupS.kb h hk
  · trivial
theorem IsLat.form_of {w : World} {B : Nat} {v : Value} {names : List ByteArray} {up : List Nat} (h : IsLat w B v names up) : ∃ (A A' : Option Addr) (c c' : Nat), v = .agg #[.slice A names.length c, .slice A' up.length c'] := by
  obtain ⟨⟨A, A', c, c', e, -, -⟩, -, -, -⟩ := h
  exact ⟨A, A', c, c', e⟩
theorem new13_n {A : Option Addr} {n c : Nat} {l : List Int} {W : World} (hn : l.length = n) (h : Calls Try.prog 14 #[.slice A l.length c] W (New13 W l)) :
    Calls Try.prog 14 #[.slice A n c] W (fun e w' => ∃ A c, e = .returned (.agg #[.slice A n c, .int .i64 0, .slice none 0 0]) ∧ w'.ownsRow W.heap.size 3 1 (.slice A n c) n (ints l) ∧ Below W.heap.size W w') := by
  subst hn
  exact h
/-- A state that is owned. -/
theorem isSt_own {W : World} {B : Nat} {s : St.State} {cv mv sv : Value} (ho : s.out = []) (h1 : W.ownsRow B 66 3 cv s.code.length (fcells ivs s.code)) (h2 : W.ownsRow B 34 2 mv s.mem.length (fcells avs s.mem)) (h3 : W.ownsRow B 70 3 sv s.stack.length (fcells svs s.stack)) :
    IsSt W W.heap.size (.agg #[.int .i64 s.pc.v, .int .i64 s.pc.l, cv, mv, sv, .slice none 0 0]) s := by
  obtain ⟨A1, c1, rfl⟩ := ownT_slice h1
  obtain ⟨A2, c2, rfl⟩ := ownT_slice h2
  obtain ⟨A3, c3, rfl⟩ := ownT_slice h3
  refine ⟨_, _, _, .slice none 0 0, rfl, ⟨A1, c1, rfl, (ownT_row h1).1, (ownT_row h1).2⟩, ⟨A2, c2, rfl, (ownT_row h2).1, (ownT_row h2).2⟩, ⟨A3, c3, rfl, (ownT_row h3).1, (ownT_row h3).2⟩, ?_⟩
  rw [ho]
  exact ⟨none, 0, rfl, Row.nil, Nat.le_refl _⟩
/-- How many there are of each, where a state may be. -/
theorem small_of {k : Nat} {p : Gn.Sp} {s : St.State} (hF : Gn.Fits k p) (h : Gn.hasB k p s = true) : SmallS s ∧ s.out = [] := by
  unfold Gn.hasB at h
  simp only [Bool.and_eq_true, decide_eq_true_eq] at h
  obtain ⟨⟨-, h1, h2, h3, h4⟩, -⟩ := h
  have a1 := hF.c1
  have a2 := hF.m1
  have a3 := hF.s1
  exact ⟨⟨by omega, by omega, by omega, by omega⟩, List.length_eq_zero_iff.1 h4⟩
set_option maxHeartbeats 32000000 in
theorem genStays_any {A B Q LA : Option Addr} {names : List ByteArray} {up : List Nat} {list : List Int} (c e f lc : Nat) (p : Gn.Sp) (w : World) (hN : Row w w.heap.size A (strs names)) (hU : Ups w w.heap.size B up) (hc : names.length ≤ c) (he : up.length ≤ e) (hm : c ≤ maxLen) (hm2 : e ≤ maxLen) (hsz : ∀ s ∈ names, s.size ≤ maxLen)
    (hQ : Row w w.heap.size Q (ints p.ws)) (hf : p.ws.length ≤ f) (hLA : Row w w.heap.size LA (ints list)) (hlc : list.length ≤ lc) :
    Calls Try.prog 4 #[.agg #[.slice A names.length c, .slice B up.length e], spv p Q f, .slice LA list.length lc] w (Tells w true) := by
  obtain ⟨code, mem, stack, val, ws⟩ := p
  unfold spv
  dsimp only at hQ hf ⊢
  obtain ⟨n0, hn0⟩ : ∃ n, list.length = n := ⟨_, rfl⟩
  obtain ⟨m0, hm0⟩ : ∃ m, ws.length = m := ⟨_, rfl⟩
  obtain ⟨n, hmin⟩ : ∃ n : Nat, min (n0 : Int) 500 = (n : Int) := ⟨min n0 500, by omega⟩
  obtain ⟨m, hmin2⟩ : ∃ m : Nat, min (m0 : Int) 16 = (m : Int) := ⟨min m0 16, by omega⟩
  obtain ⟨lst, hlst⟩ : ∃ l, list.take n = l := ⟨_, rfl⟩
  obtain ⟨wss, hwss⟩ : ∃ l, ws.take m = l := ⟨_, rfl⟩
  have hln : lst.length = n := by rw [← hlst, List.length_take]; omega
  have hwn : wss.length = m := by rw [← hwss, List.length_take]; omega
  have hL2 : Row w w.heap.size LA (ints lst) := by have h := hLA.take n; rw [← hlst]; simpa [ints, List.map_take] using h
  have hQ2 : Row w w.heap.size Q (ints wss) := by have h := hQ.take m; rw [← hwss]; simpa [ints, List.map_take] using h
  rw [hn0, hm0]
  have hnlc : n ≤ lc := by omega
  have hmf : m ≤ f := by omega
  have hn5 : n ≤ 500 := by omega
  have hm16 : m ≤ 16 := by omega
  obtain ⟨W0, hW0⟩ : ∃ W0, (w.alloc (.cells #[.slice A names.length c, .slice B up.length e] 25)).alloc (.cells #[.int .i64 code, .int .i64 mem, .int .i64 stack, .int .i64 val, .slice Q m0 f] 28) = W0 := ⟨_, rfl⟩
  have hb : Below w.heap.size w W0 := hW0 ▸ ((Below.refl _ w).alloc (Nat.le_refl _) _).alloc (by simp) _
  have hp0 : Blk W0 w.heap.size 25 #[.slice A names.length c, .slice B up.length e] := hW0 ▸ (Blk.new w 25 #[.slice A names.length c, .slice B up.length e]).alloc _
  have hp1 : Blk W0 (w.heap.size + 1) 28 #[.int .i64 code, .int .i64 mem, .int .i64 stack, .int .i64 val, .slice Q m0 f] := by
    have h1 := Blk.new (w.alloc (.cells #[.slice A names.length c, .slice B up.length e] 25)) 28 #[.int .i64 code, .int .i64 mem, .int .i64 stack, .int .i64 val, .slice Q m0 f]
    rw [World.size_alloc] at h1
    rw [← hW0]; exact h1
  have hz0 : W0.heap.size = w.heap.size + 2 := by rw [← hW0]; simp
  have hfew := few_any w.heap.size c e W0.drew (by show w.heap.size ≤ W0.heap.size; omega) (hN.below hb.drew) ⟨hU.1.below hb.drew, hU.2⟩ hc he hm hm2 hsz
  have a0 := hp0.cell 0
  have a1 := hp0.cell 1
  have q4 := hp1.cell 4
  have HP0 := Lib.hid hp0
  have HP1 := Lib.hid hp1
  have HB := Lib.hid hb
  have HFEW := Lib.hid hfew
  have HL2 := Lib.hid hL2
  have HQ2 := Lib.hid hQ2
  have HLN := Lib.hid hln
  have HWN := Lib.hid hwn
  have HZ0 := Lib.hid hz0
  have HN5 := Lib.hid (And.intro hn5 hm16)
  have HNEW := Lib.hid fun (W : World) (hW : Below w.heap.size w W) => new13_n hln (new13_any lc lst W (A := LA) ((hL2.below hW).more hW.size) (by omega))
  have HNEW3 := Lib.hid fun (W : World) => new13_any (A := none) 0 [] W Row.nil (by decide)
  have HALIVE := Lib.hid fun (W : World) => alive15_any W
  clear hfew hp0 hp1 hb hN hU hQ hLA hlc hc he hm hm2 hsz hL2 hQ2 hln hwn hlst hwss hn0 hm0 hf hz0 hn5 hm16
  go_enter Try.func4, Try.ntmps4
  go_wp2_with (fail)
  refine Free.region_seq [0, 1, 14, 17] [8, 10] 17 (fun W' => W'.cell? ⟨w.heap.size + 1, 4, none⟩ = some (.slice Q m0 f)) (by kernel_rfl) (by kernel_rfl) (by kernel_rfl) (by kernel_rfl) (q4) (fun ops hops => ?_)
  clear hops
  refine Free.Seq.loud_ rfl (.inl rfl) (fun K hK => ?_)
  go_simp
  refine hK.out _ _ rfl (fun _ => q4) ?_
  clear hK K
  refine Free.Seq.loud_ rfl (.inl rfl) (fun K hK => ?_)
  go_simp
  refine HFEW.out.mono ?_
  rintro e9 w1 ⟨v, nm, u, rfl, hlat, hb1⟩
  have hb1 : Below W0.heap.size W0 w1 := (Below.refl _ W0).drew.trans hb1
  have hp0 := HP0.out.below hb1 HP0.out.lt
  have hp1 := HP1.out.below hb1 HP1.out.lt
  have hz1 := hb1.size
  obtain ⟨NA, UA, c1, c2, hv⟩ := (hlat w1 ⟨Nat.le_refl _, fun _ _ _ => rfl⟩).form_of
  subst hv
  have S2 := hp1.cell 4
  have HS3 := Lib.hid S2
  clear S2 HFEW
  refine hK.out _ _ rfl (fun _ => HS3.out) ?_
  clear hK K
  iterate 12
    refine Free.Seq.quiet (v := ?_) (a' := ?_) rfl rfl (fun W' hW' => ?_) ?_ ?_
    rotate_left 2
    · first | obtain s0 := hW' rfl | skip
      go_simp
      try with_reducible rfl
    · simp only [Act.put, List.setIfInBounds_toArray, List.set_cons_zero, List.set_cons_succ]
      try with_reducible rfl
  obtain ⟨Y1, eY1⟩ : ∃ U, w1.setCell ⟨w.heap.size, 0, none⟩ (.slice NA nm.length c1) = U := ⟨_, rfl⟩
  obtain ⟨Y2, eY2⟩ : ∃ U, Y1.setCell ⟨w.heap.size, 1, none⟩ (.slice UA u.length c2) = U := ⟨_, rfl⟩
  have fY1 := hp0.frozen 0
  have gY1 := hp0.cell 0
  have kY1 : Blk Y1 w.heap.size 25 #[.slice NA nm.length c1, .slice B up.length e] := eY1 ▸ hp0.set_ 0 _
  have fY2 := kY1.frozen 1
  have gY2 := kY1.cell 1
  have kY2 : Blk Y2 w.heap.size 25 #[.slice NA nm.length c1, .slice UA u.length c2] := eY2 ▸ kY1.set_ 1 _
  have kP1 : Blk Y2 (w.heap.size + 1) 28 #[.int .i64 code, .int .i64 mem, .int .i64 stack, .int .i64 val, .slice Q m0 f] := eY2 ▸ (show Blk Y1 _ _ _ from eY1 ▸ hp1.other (show w.heap.size ≠ w.heap.size + 1 by omega) _).other (show w.heap.size ≠ w.heap.size + 1 by omega) _
  have HS4 := Lib.hid (kP1.cell 4)
  refine Free.Seq.loud_ rfl (.inl rfl) (fun K hK => ?_)
  go_simp
  refine hK.out _ _ rfl (fun _ => HS4.out) ?_
  clear hK K
  iterate 2
    refine Free.Seq.quiet (v := ?_) (a' := ?_) rfl rfl (fun W' hW' => ?_) ?_ ?_
    rotate_left 2
    · first | obtain s0 := hW' rfl | skip
      go_simp
      try with_reducible rfl
    · simp only [Act.put, List.setIfInBounds_toArray, List.set_cons_zero, List.set_cons_succ]
      try with_reducible rfl
  obtain ⟨X, eX⟩ : ∃ U, Y2.setCell ⟨w.heap.size + 1, 4, none⟩ (.slice Q m f) = U := ⟨_, rfl⟩
  have fX := kP1.frozen 4
  have gX := kP1.cell 4
  have hx0 : Blk X w.heap.size 25 #[.slice NA nm.length c1, .slice UA u.length c2] := eX ▸ kY2.other (show w.heap.size + 1 ≠ w.heap.size by omega) _
  have hx1 : Blk X (w.heap.size + 1) 28 #[.int .i64 code, .int .i64 mem, .int .i64 stack, .int .i64 val, .slice Q m f] := eX ▸ kP1.set_ 4 _
  have hbX : Below w.heap.size w X := by
    rw [← eX, ← eY2, ← eY1]
    exact (((HB.out.trans (hb1.mono HB.out.size)).setCell (p := ⟨w.heap.size, 0, none⟩) (Nat.le_refl _) _).setCell (p := ⟨w.heap.size, 1, none⟩) (Nat.le_refl _) _).setCell (p := ⟨w.heap.size + 1, 4, none⟩) (by show w.heap.size ≤ w.heap.size + 1; omega) _
  have hlx : ∀ W, Below X.heap.size X W → IsLat W W.heap.size (.agg #[.slice NA nm.length c1, .slice UA u.length c2]) nm u := fun W hW => by
    have hsz : X.heap.size = w1.heap.size := by rw [← eX, ← eY2, ← eY1]; simp [World.setCell]
    refine hlat W ⟨by rw [← hsz]; exact hW.size, fun q hq hq2 => ?_⟩
    have e1 : W.cell? q = X.cell? q := hW.cell (by omega)
    have hne : q.block ≠ w.heap.size ∧ q.block ≠ w.heap.size + 1 := by
      have h0 := HZ0.out
      have hd : W0.drew.heap.size = W0.heap.size := rfl
      rcases hq2 with h | h
      · omega
      · omega
    rw [e1]
    refine World.cell?_of_block ?_
    rw [← eX, ← eY2, ← eY1]
    exact ((Below.heap_setCell _ _ _ _ hne.2).trans (Below.heap_setCell _ _ _ _ hne.1)).trans (Below.heap_setCell _ _ _ _ hne.1)
  have HX0 := Lib.hid hx0
  have HX1 := Lib.hid hx1
  have HBX := Lib.hid hbX
  have HLX := Lib.hid hlx
  clear hlat hp0 hp1 kY1 kY2 kP1 hx0 hx1 hbX hlx hb1 hz1
  refine Free.Seq.loud_ rfl (.inl rfl) (fun K hK => ?_)
  go_simp
  refine hK.out _ _ rfl (fun h => absurd h (by decide)) ?_
  clear hK K
  refine Free.Seq.nil_ ?_
  clear eX eY1 eY2 fX gX fY1 gY1 fY2 gY2 a0 a1 q4 hmin hmin2 hW0
  obtain ⟨ck, hck⟩ : ∃ ck, Gn.chkN nm u ⟨code, mem, stack, val, wss⟩ = ck := ⟨_, rfl⟩
  have hst : ∀ (lst : List Int) (n : Nat), lst.length = n → n ≤ 500 → ∃ er r, er ≠ 0 ∧ (∀ (A : Option Addr) (c : Nat) (W : World), Below X.heap.size X W → RowX W w.heap.size A lst → Calls Try.prog 7 #[.agg #[.slice NA nm.length c1, .slice UA u.length c2], .agg #[.int .i64 code, .int .i64 mem, .int .i64 stack, .int .i64 val, .slice Q m f], .agg #[.slice A n c, .int .i64 0, .slice none 0 0]] W (GotG W w.heap.size er n lst r)) ∧ ((ck ≠ 0 ∧ r = none) ∨ (ck = 0 ∧ r = Gn.state lst u.length ⟨code, mem, stack, val, wss⟩ ⟨0, []⟩)) := fun lst n hl hn => by
    have hq : ∀ W, Below X.heap.size X W → Row W w.heap.size Q (ints wss) := fun W hW => (HQ2.out.below HBX.out).below (hW.mono HBX.out.size)
    by_cases hz : ck = 0
    · refine ⟨8, _, by decide, fun A c W hW hA => ?_, .inr ⟨hz, rfl⟩⟩
      have hB : w.heap.size ≤ W.heap.size := Nat.le_trans HBX.out.size hW.size
      have h := gState_good (names := nm) (up := u) (Q := Q) (list := lst) (log := []) (L := none) n c 0 0 f ⟨code, mem, stack, val, wss⟩ W (HLX.out W hW) ((hq W hW).more hB) (by show wss.length ≤ 1000000; have := HWN.out; have := HN5.out.2; omega) (by show wss.length ≤ f; have := HWN.out; omega) (hck.trans hz) hB (RowX.of_low (hq W hW) (Nat.le_refl _) hB) hA (fun h => absurd rfl h) hl rfl 0 (by decide) (by unfold Dr.right; exact decide_eq_true ⟨hn, by decide, by decide⟩)
      unfold spv at h
      rw [show (⟨code, mem, stack, val, wss⟩ : Gn.Sp).ws.length = m from HWN.out] at h
      exact h
    · refine ⟨ck, none, hz, fun A c W hW hA => ?_, .inl ⟨hz, rfl⟩⟩
      have hB : w.heap.size ≤ W.heap.size := Nat.le_trans HBX.out.size hW.size
      have h := gState_chk (names := nm) (up := u) (Q := Q) (A := A) (L := none) n c 0 0 f 0 ⟨code, mem, stack, val, wss⟩ W (HLX.out W hW) ((hq W hW).more hB) (by show wss.length ≤ 1000000; have := HWN.out; have := HN5.out.2; omega) (by show wss.length ≤ f; have := HWN.out; omega) (by rw [hck]; exact hz)
      unfold spv at h
      rw [show (⟨code, mem, stack, val, wss⟩ : Gn.Sp).ws.length = m from HWN.out, hck] at h
      exact h
  have HST := Lib.hid hst
  have HCK := Lib.hid hck
  clear hst hck
  obtain ⟨er, rr, her, hst1, hr1⟩ := HST.out lst n HLN.out HN5.out.1
  have HER := Lib.hid her
  have HST1 := Lib.hid hst1
  have HR1 := Lib.hid hr1
  have HBS := Lib.hid HBX.out.size
  clear her hst1 hr1
  go_wp2_with (fail)
  refine Free.region_each (by kernel_rfl) (by kernel_rfl)
    (fun k => ([some (.agg #[.slice NA nm.length c1, .slice UA u.length c2]), some (.agg #[.int .i64 code, .int .i64 mem, .int .i64 stack, .int .i64 val, .slice Q m f]), some (.slice LA n lc), none, none, none, none, none, some (.int .i64 (errN er rr : Nat)), none, none, none, none, some (.int .i64 (errN er rr : Nat))] : List (Option Value)).getD k none)
    (FB (afA w.heap.size n er lst rr) X 9 10 11 12 6 7) (fun _ => undef) ?_ ?_ ?_
  · exact FB.start _
  · refine ⟨?_, ?_, ?_, ?_, ?_, ?_, ?_, ?_, ?_, ?_, ?_, ?_, ?_, ?_, trivial⟩
    · refine Free.step_val _ rfl rfl fun done r W ρ hρ hcst hfun hJ hV hC hd hdeps => ?_
      have e0 : ρ (.tmp 3) = .pointer (some ⟨w.heap.size, 0, none⟩) := by rw [hρ]; rfl
      have c0 : W.cell? ⟨w.heap.size, 0, none⟩ = some (.slice NA nm.length c1) := (HX0.out.below (hJ.below) HX0.out.lt).cell 0
      have c1 : W.cell? ⟨w.heap.size, 1, none⟩ = some (.slice UA u.length c2) := (HX0.out.below (hJ.below) HX0.out.lt).cell 1
      clear hρ
      refine ⟨?_, hJ.made afA.kb (by decide) (by decide) (by decide) (by decide) (fun h => absurd h (by decide)) (fun h => absurd h (by decide)) (Below.refl _ _) trivial⟩
      go_simp
    · refine Free.step_val _ rfl rfl fun done r W ρ hρ hcst hfun hJ hV hC hd hdeps => ?_
      have e0 : ρ (.tmp 4) = .pointer (some ⟨w.heap.size + 1, 0, none⟩) := by rw [hρ]; rfl
      have c0 : W.cell? ⟨w.heap.size + 1, 0, none⟩ = some (.int .i64 code) := (HX1.out.below (hJ.below) HX1.out.lt).cell 0
      have c1 : W.cell? ⟨w.heap.size + 1, 1, none⟩ = some (.int .i64 mem) := (HX1.out.below (hJ.below) HX1.out.lt).cell 1
      have c2 : W.cell? ⟨w.heap.size + 1, 2, none⟩ = some (.int .i64 stack) := (HX1.out.below (hJ.below) HX1.out.lt).cell 2
      have c3 : W.cell? ⟨w.heap.size + 1, 3, none⟩ = some (.int .i64 val) := (HX1.out.below (hJ.below) HX1.out.lt).cell 3
      have c4 : W.cell? ⟨w.heap.size + 1, 4, none⟩ = some (.slice Q m f) := (HX1.out.below (hJ.below) HX1.out.lt).cell 4
      clear hρ
      refine ⟨?_, hJ.made afA.kb (by decide) (by decide) (by decide) (by decide) (fun h => absurd h (by decide)) (fun h => absurd h (by decide)) (Below.refl _ _) trivial⟩
      go_simp
    · refine Free.step_val _ rfl rfl fun done r W ρ hρ hcst hfun hJ hV hC hd hdeps => ?_
      have e0 : ρ (.tmp 2) = .slice LA n lc := by rw [hρ]; rfl
      clear hρ
      refine ⟨?_, hJ.made afA.kb (by decide) (by decide) (by decide) (by decide) (fun h => absurd h (by decide)) (fun h => absurd h (by decide)) (Below.refl _ _) trivial⟩
      go_simp
    · refine Free.step_any rfl rfl fun done r W ρ hρ hcst hfun hJ hV hC hd hdeps => ?_
      have e0 : ρ (.tmp 36) = .slice LA n lc := by rw [hρ]; exact hV 2 _ (hdeps 2 (by decide)) rfl
      clear hρ
      go_simp
      exact (HNEW.out W (HBX.out.trans (hJ.below.mono HBX.out.size))).mono fun e w' ⟨A, c, he, ho, hb⟩ => ⟨_, he, hJ.made afA.kb (by decide) (by decide) (by decide) (by decide) (fun h => absurd h (by decide)) (fun h => absurd h (by decide)) hb ⟨A, c, rfl, RowX.of_own ho⟩⟩
    · refine Free.step_any rfl rfl fun done r W ρ hρ hcst hfun hJ hV hC hd hdeps => ?_
      have e0 : ρ (.tmp 34) = .agg #[.slice NA nm.length c1, .slice UA u.length c2] := by rw [hρ]; exact hV 0 _ (hdeps 0 (by decide)) rfl
      have e1 : ρ (.tmp 35) = .agg #[.int .i64 code, .int .i64 mem, .int .i64 stack, .int .i64 val, .slice Q m f] := by rw [hρ]; exact hV 1 _ (hdeps 1 (by decide)) rfl
      have ed : ρ (.tmp 37) = r 3 := by rw [hρ]; rfl
      obtain ⟨A, c, h1, hrow⟩ := hJ.f 3 (hdeps 3 (by decide))
      rw [h1] at ed
      have hc := HST1.out A c W hJ.below hrow
      clear hρ h1 hrow
      go_simp
      exact hc.mono fun e w' h => by
        obtain ⟨v, he, ht, hb⟩ := h.tup (Nat.le_trans HBS.out hJ.below.size)
        exact ⟨v, he, hJ.made afA.kb (by decide) (by decide) (by decide) (by decide) (fun h => absurd h (by decide)) (fun h => absurd h (by decide)) hb ht⟩
    · refine Free.step_any rfl rfl fun done r W ρ hρ hcst hfun hJ hV hC hd hdeps => ?_
      have e0 : ρ (.tmp 38) = r 4 := by rw [hρ]; rfl
      have hx := hJ.f 4 (hdeps 4 (by decide))
      have hf := hJ.made afA.kb (k := 5) (v := r 4) (by decide) (by decide) (by decide) (by decide) (fun h => absurd h (by decide)) (fun h => absurd h (by decide)) (Below.refl _ _) hx
      clear hρ hx
      go_simp
      exact hf
    · refine Free.step_any rfl rfl fun done r W ρ hρ hcst hfun hJ hV hC hd hdeps => ?_
      have e0 : ρ (.tmp 33) = r 5 := by rw [hρ]; rfl
      obtain ⟨dv, sv, h1, hD, hS⟩ := hJ.f 5 (hdeps 5 (by decide))
      rw [h1] at e0
      have hf := hJ.made afA.kb (k := 6) (v := dv) (by decide) (by decide) (by decide) (by decide) (fun _ => Free.not_done hC 11 6 rfl (by decide) hd) (fun h => absurd h (by decide)) (Below.refl _ _) hD
      clear hρ h1 hD hS
      go_simp
      exact hf
    · refine Free.step_any rfl rfl fun done r W ρ hρ hcst hfun hJ hV hC hd hdeps => ?_
      have e0 : ρ (.tmp 33) = r 5 := by rw [hρ]; rfl
      obtain ⟨dv, sv, h1, hD, hS⟩ := hJ.f 5 (hdeps 5 (by decide))
      rw [h1] at e0
      have hf := hJ.made afA.kb (k := 7) (v := sv) (by decide) (by decide) (by decide) (by decide) (fun h => absurd h (by decide)) (fun _ => Free.not_done hC 12 7 rfl (by decide) hd) (Below.refl _ _) hS
      clear hρ h1 hD hS
      go_simp
      exact hf
    · refine Free.step_val _ rfl rfl fun done r W ρ hρ hcst hfun hJ hV hC hd hdeps => ?_
      have e0 : ρ (.tmp 33) = r 5 := by rw [hρ]; rfl
      obtain ⟨dv, sv, h1, hD, hS⟩ := hJ.f 5 (hdeps 5 (by decide))
      rw [h1] at e0
      clear hρ h1
      refine ⟨?_, hJ.made afA.kb (by decide) (by decide) (by decide) (by decide) (fun h => absurd h (by decide)) (fun h => absurd h (by decide)) (Below.refl _ _) trivial⟩
      go_simp
    · refine Free.step_any rfl rfl fun done r W ρ hρ hcst hfun hJ hV hC hd hdeps => ?_
      have hf := hJ.boxA afA.kb (Free.not_done hC 11 9 rfl (by decide) hd) (by decide) (by decide) (by decide) (by decide) (fun _ _ => trivial)
      clear hρ
      simp only [zD] at hf
      go_simp
      exact hf
    · refine Free.step_any rfl rfl fun done r W ρ hρ hcst hfun hJ hV hC hd hdeps => ?_
      have hf := hJ.boxB afA.kb (Free.not_done hC 12 10 rfl (by decide) hd) (by decide) (by decide) (by decide) (by decide) (fun _ _ => trivial)
      clear hρ
      simp only [zS] at hf
      go_simp
      exact hf
    · refine Free.step_any rfl rfl fun done r W ρ hρ hcst hfun hJ hV hC hd hdeps => ?_
      obtain ⟨b, h1, hz, hset⟩ := hJ.setA afA.kb HBS.out (hdeps 9 (by decide)) hd (by decide) (by decide) (by decide) (by decide) (by decide) (fun _ _ => trivial)
      have hv : TupD w.heap.size n lst rr (r 6) W := hJ.f 6 (hdeps 6 (by decide))
      obtain ⟨A, n1, c1, i, L, n2, c2, h2⟩ := hv.three
      have ep : ρ (.tmp 7) = r 9 := by rw [hρ]; rfl
      have eq : ρ (.tmp 39) = r 6 := by rw [hρ]; rfl
      rw [h1] at ep
      rw [h2] at eq
      obtain ⟨X0, X1, X2, e0, e1, e2, f0, f1, f2, g0, g1, g2, -, -, -, HZ, HH, HBL⟩ := n3_steps hz (.slice A n1 c1) (.int .i64 i) (.slice L n2 c2)
      have hf := hset #[.slice A n1 c1, .int .i64 i, .slice L n2 c2] X2 h2 HZ.out HH.out HBL.out
      clear hρ h1 h2 hset hz hv
      go_simp
      exact hf
    · refine Free.step_any rfl rfl fun done r W ρ hρ hcst hfun hJ hV hC hd hdeps => ?_
      obtain ⟨b, h1, hz, hset⟩ := hJ.setB afA.kb HBS.out (hdeps 10 (by decide)) hd (by decide) (by decide) (by decide) (by decide) (by decide) (fun _ _ => trivial)
      have hv : TupS w.heap.size rr (r 7) W := hJ.f 7 (hdeps 7 (by decide))
      obtain ⟨i, j, A1, n1, c1, A2, n2, c2, A3, n3, c3, h2⟩ := hv.six
      have ep : ρ (.tmp 8) = r 10 := by rw [hρ]; rfl
      have eq : ρ (.tmp 40) = r 7 := by rw [hρ]; rfl
      rw [h1] at ep
      rw [h2] at eq
      obtain ⟨X0, X1, X2, X3, X4, X5, e0, e1, e2, e3, e4, e5, f0, f1, f2, f3, f4, f5, g0, g1, g2, g3, g4, g5, -, -, -, -, -, -, HZ, HH, HBL⟩ := n6_steps13 hz (.int .i64 i) (.int .i64 j) (.slice A1 n1 c1) (.slice A2 n2 c2) (.slice A3 n3 c3) (.slice none 0 0)
      have hf := hset #[.int .i64 i, .int .i64 j, .slice A1 n1 c1, .slice A2 n2 c2, .slice A3 n3 c3, .slice none 0 0] X5 h2 HZ.out HH.out HBL.out
      clear hρ h1 h2 hset hz hv
      go_simp
      exact hf
    · refine Free.step_val _ rfl rfl fun done r W ρ hρ hcst hfun hJ hV hC hd hdeps => ?_
      have e0 : ρ (.tmp 41) = .int .i64 (errN er rr : Nat) := by rw [hρ]; exact hV 8 _ (hdeps 8 (by decide)) rfl
      clear hρ
      refine ⟨?_, hJ.made afA.kb (by decide) (by decide) (by decide) (by decide) (fun h => absurd h (by decide)) (fun h => absurd h (by decide)) (Below.refl _ _) trivial⟩
      go_simp
  · intro done r W hall hJ hV
    obtain ⟨ba, ea, hla, -, ha⟩ := hJ.a (hall 9 (by decide))
    obtain ⟨bb, eb, hlb, -, hb⟩ := hJ.b (hall 10 (by decide))
    obtain ⟨ca, ev, hca⟩ := ha (hall 11 (by decide))
    obtain ⟨cb, ew, hcb⟩ := hb (hall 12 (by decide))
    have hD : TupD w.heap.size n lst rr (r 6) _ := hJ.f 6 (hall 6 (by decide))
    have hS : TupS w.heap.size rr (r 7) _ := hJ.f 7 (hall 7 (by decide))
    have hbe := hJ.below
    simp only [Free.putAll, Nat.zero_add, ea, eb, hV 0 _ (hall 0 (by decide)) rfl, hV 1 _ (hall 1 (by decide)) rfl, hV 2 _ (hall 2 (by decide)) rfl, hV 8 _ (hall 8 (by decide)) rfl, hV 13 _ (hall 13 (by decide)) rfl]
    rw [ev] at hD
    rw [ew] at hS
    clear hJ hV hall ha hb ea eb ev ew
    generalize r 3 = z3
    generalize r 4 = z4
    generalize r 5 = z5
    generalize r 6 = z6
    generalize r 7 = z7
    generalize r 11 = z11
    generalize r 12 = z12
    try clear r done
    clear HNEW HST1
    have HB2 := Lib.hid hbe
    have HCA := Lib.hid hca
    have HCB := Lib.hid hcb
    clear hca hcb hbe
    cases rr with
    | none =>
      have hD : Value.agg ca = .agg zD := hD
      injection hD with hD
      subst hD
      have d2 : W.cell? ⟨ba, 2, none⟩ = some (.slice none 0 0) := HCA.out.cell 2
      have hz : ((er : Int) != 0) = true := by rw [bne_iff_ne]; have := HER.out; omega
      have hz2 : ¬ er = 0 := HER.out
      have HD2 := Lib.hid d2
      have HLT := Lib.hid HCA.out.lt
      rw [show errN er none = er from rfl]
      clear hS HR1 d2
      go_wp2_with (fail)
      refine (HALIVE.out _).mono ?_
      rintro e9 w3 ⟨rfl, hb3⟩
      have d2 : w3.cell? ⟨ba, 2, none⟩ = some (.slice none 0 0) := (hb3.cell (p := ⟨ba, 2, none⟩) HLT.out).trans HD2.out
      have HB3 := Lib.hid (HBX.out.trans ((HB2.out.trans (hb3.mono HB2.out.size)).mono HBX.out.size))
      clear hb3
      go_wp2
      go_ret
      exact ⟨rfl, HB3.out⟩
    | some sd =>
      obtain ⟨s, d⟩ := sd
      obtain ⟨hck, hr⟩ : ck = 0 ∧ some (s, d) = Gn.state lst u.length ⟨code, mem, stack, val, wss⟩ ⟨0, []⟩ := HR1.out.resolve_left (fun h => by cases h.2)
      subst hck
      obtain ⟨hc0, hsp⟩ := Gn.chk_zero HCK.out
      have hF := Gn.fits_of (len_of_checkN hc0).1 hsp
      have hin := Gn.state_in lst hF _ _ _ hr.symm
      have hag := Gn.state_again hF hr.symm
      have hlen := Gn.Len.state lst hF _ _ _ hr.symm
      have hl9 : d.log.length ≤ 500 := by
        have h : d.log.length ≤ ([] : List Int).length + 89 := hlen
        simp at h
        omega
      obtain ⟨hsm, hout⟩ := small_of hF hin
      obtain ⟨A1, k1, L1, k2, e1, -, hrl, -⟩ := hD
      obtain ⟨cv, mv, sv, e2, o1, o2, o3⟩ := hS
      injection e1 with e1
      injection e2 with e2
      subst e1 e2
      have hIS := isSt_own hout o1 o2 o3
      obtain ⟨cA, cc, rfl⟩ := ownT_slice o1
      obtain ⟨mA, mc, rfl⟩ := ownT_slice o2
      obtain ⟨sA, sc, rfl⟩ := ownT_slice o3
      obtain ⟨er2, r2, -, hst2, hr2⟩ := HST.out d.log d.log.length rfl hl9
      have hr2 : r2 = some (s, ⟨d.log.length, d.log⟩) := by
        rcases hr2 with ⟨h, -⟩ | ⟨-, h⟩
        · exact absurd rfl h
        · rw [h]; exact hag
      subst hr2
      obtain ⟨d3, hno⟩ := Gn.state_none u.length ⟨code, mem, stack, val, wss⟩
      obtain ⟨er3, r3, -, hst3, hr3⟩ := HST.out [] 0 rfl (by decide)
      have hr3 : r3 = some (⟨⟨0, 0⟩, [], [], [], []⟩, d3) := by
        rcases hr3 with ⟨h, -⟩ | ⟨-, h⟩
        · exact absurd rfl h
        · rw [h]; exact hno
      subst hr3
      have HST2 := Lib.hid hst2
      have HST3 := Lib.hid hst3
      have HIN := Lib.hid hin
      have HSM := Lib.hid hsm
      have HIS := Lib.hid hIS
      have HRL := Lib.hid hrl
      have HL9 := Lib.hid hl9
      rw [show errN er (some (s, d)) = 0 from rfl]
      have HHAS := Lib.hid fun (W' : World) (hW : Below W.heap.size W W') => gHas_any (names := nm) (up := u) (Q := Q) ⟨code, mem, stack, val, wss⟩ f W' (HLX.out W' (HB2.out.trans (hW.mono HB2.out.size))) (((HQ2.out.below HBX.out).below ((HB2.out.trans (hW.mono HB2.out.size)).mono HBX.out.size)).more (Nat.le_trans HBX.out.size (Nat.le_trans HB2.out.size hW.size))) (by show wss.length ≤ 1000000; have := HWN.out; have := HN5.out.2; omega) (by show wss.length ≤ f; have := HWN.out; omega) ((hIS.below hW).more hW.size) hsm
      have hhas := HHAS.out W (Below.refl _ _)
      unfold HasP spv at hhas
      rw [HCK.out, HIN.out, show (⟨code, mem, stack, val, wss⟩ : Gn.Sp).ws.length = m from HWN.out] at hhas
      rw [show (decide ((0 : Nat) = 0) && true) = true from rfl] at hhas
      have HH := Lib.hid hhas
      have l0 := (HX0.out.below HB2.out HX0.out.lt).cell 0
      have l1 := (HX0.out.below HB2.out HX0.out.lt).cell 1
      have x0 := (HX1.out.below HB2.out HX1.out.lt).cell 0
      have x1 := (HX1.out.below HB2.out HX1.out.lt).cell 1
      have x2 := (HX1.out.below HB2.out HX1.out.lt).cell 2
      have x3 := (HX1.out.below HB2.out HX1.out.lt).cell 3
      have x4 := (HX1.out.below HB2.out HX1.out.lt).cell 4
      have y0 := HCB.out.cell 0
      have y1 := HCB.out.cell 1
      have y2 := HCB.out.cell 2
      have y3 := HCB.out.cell 3
      have y4 := HCB.out.cell 4
      have y5 := HCB.out.cell 5
      have HER2 := Lib.hid (show errN er2 (some (s, (⟨d.log.length, d.log⟩ : Gn.D))) = 0 from rfl)
      have HER3 := Lib.hid (show errN er3 (some ((⟨⟨0, 0⟩, [], [], [], []⟩ : St.State), d3)) = 0 from rfl)
      obtain ⟨ra, hra⟩ : ∃ r, some (s, (⟨d.log.length, d.log⟩ : Gn.D)) = r := ⟨_, rfl⟩
      obtain ⟨rb, hrb⟩ : ∃ r, some ((⟨⟨0, 0⟩, [], [], [], []⟩ : St.State), d3) = r := ⟨_, rfl⟩
      rw [hra] at HST2 HER2
      rw [hrb] at HST3 HER3
      have HRA := Lib.hid hra
      have HRB := Lib.hid hrb
      clear hrl hhas hst2 hst3 hin hsm hIS hl9 hlen hag hr hno hF hsp hc0 o1 o2 o3 hra hrb HR1 hout HHAS
      go_wp2_with (fail)
      refine HH.out.mono ?_
      rintro e9 w3 ⟨rfl, hb3⟩
      have hx3 : Below X.heap.size X w3 := HB2.out.trans (hb3.mono HB2.out.size)
      have HX3 := Lib.hid hx3
      have HB3 := Lib.hid hb3
      have HCA3 := Lib.hid (HCA.out.below hb3 HCA.out.lt)
      have HNEW2 := Lib.hid fun (W' : World) (hW : Below w3.heap.size w3 W') => new13_any k2 d.log W' (A := L1) ((HRL.out.move ((Mv.below _ hb3).trans (Mv.below _ hW))).row) (by have := HL9.out; omega)
      have HBS3 := Lib.hid (Nat.le_trans HBX.out.size hx3.size)
      have p2 := HCA3.out.cell 2
      clear hb3 hx3 l0 l1 x0 x1 x2 x3 x4 y0 y1 y2 y3 y4 y5 HH p2
      go_wp2_with (fail)
      refine Free.region_each (by kernel_rfl) (by kernel_rfl)
        (fun k => ([some (.agg #[.slice NA nm.length c1, .slice UA u.length c2]), some (.agg #[.int .i64 code, .int .i64 mem, .int .i64 stack, .int .i64 val, .slice Q m f]), some (.pointer (some ⟨ba, 2, none⟩)), some (.slice L1 d.log.length k2), none, none, none, none, none, some (.int .i64 (errN er2 ra : Nat)), none, none, none, none, some (.int .i64 (errN er2 ra : Nat))] : List (Option Value)).getD k none)
        (FB (afB w.heap.size d.log.length er2 d.log ra) w3 10 11 12 13 7 8) (fun _ => undef) ?_ ?_ ?_
      · exact FB.start _
      · refine ⟨?_, ?_, ?_, ?_, ?_, ?_, ?_, ?_, ?_, ?_, ?_, ?_, ?_, ?_, ?_, trivial⟩
        · refine Free.step_val _ rfl rfl fun done r W ρ hρ hcst hfun hJ hV hC hd hdeps => ?_
          have e0 : ρ (.tmp 3) = .pointer (some ⟨w.heap.size, 0, none⟩) := by rw [hρ]; rfl
          have c0 : W.cell? ⟨w.heap.size, 0, none⟩ = some (.slice NA nm.length c1) := (HX0.out.below (HX3.out.trans (hJ.below.mono HX3.out.size)) HX0.out.lt).cell 0
          have c1 : W.cell? ⟨w.heap.size, 1, none⟩ = some (.slice UA u.length c2) := (HX0.out.below (HX3.out.trans (hJ.below.mono HX3.out.size)) HX0.out.lt).cell 1
          clear hρ
          refine ⟨?_, hJ.made afB.kb (by decide) (by decide) (by decide) (by decide) (fun h => absurd h (by decide)) (fun h => absurd h (by decide)) (Below.refl _ _) trivial⟩
          go_simp
        · refine Free.step_val _ rfl rfl fun done r W ρ hρ hcst hfun hJ hV hC hd hdeps => ?_
          have e0 : ρ (.tmp 4) = .pointer (some ⟨w.heap.size + 1, 0, none⟩) := by rw [hρ]; rfl
          have c0 : W.cell? ⟨w.heap.size + 1, 0, none⟩ = some (.int .i64 code) := (HX1.out.below (HX3.out.trans (hJ.below.mono HX3.out.size)) HX1.out.lt).cell 0
          have c1 : W.cell? ⟨w.heap.size + 1, 1, none⟩ = some (.int .i64 mem) := (HX1.out.below (HX3.out.trans (hJ.below.mono HX3.out.size)) HX1.out.lt).cell 1
          have c2 : W.cell? ⟨w.heap.size + 1, 2, none⟩ = some (.int .i64 stack) := (HX1.out.below (HX3.out.trans (hJ.below.mono HX3.out.size)) HX1.out.lt).cell 2
          have c3 : W.cell? ⟨w.heap.size + 1, 3, none⟩ = some (.int .i64 val) := (HX1.out.below (HX3.out.trans (hJ.below.mono HX3.out.size)) HX1.out.lt).cell 3
          have c4 : W.cell? ⟨w.heap.size + 1, 4, none⟩ = some (.slice Q m f) := (HX1.out.below (HX3.out.trans (hJ.below.mono HX3.out.size)) HX1.out.lt).cell 4
          clear hρ
          refine ⟨?_, hJ.made afB.kb (by decide) (by decide) (by decide) (by decide) (fun h => absurd h (by decide)) (fun h => absurd h (by decide)) (Below.refl _ _) trivial⟩
          go_simp
        · refine Free.step_val _ rfl rfl fun done r W ρ hρ hcst hfun hJ hV hC hd hdeps => ?_
          have e0 : ρ (.tmp 7) = .pointer (some ⟨ba, 0, none⟩) := by rw [hρ]; rfl
          clear hρ
          refine ⟨?_, hJ.made afB.kb (by decide) (by decide) (by decide) (by decide) (fun h => absurd h (by decide)) (fun h => absurd h (by decide)) (Below.refl _ _) trivial⟩
          go_simp
        · refine Free.step_val _ rfl rfl fun done r W ρ hρ hcst hfun hJ hV hC hd hdeps => ?_
          have e0 : ρ (.tmp 61) = .pointer (some ⟨ba, 2, none⟩) := by rw [hρ]; exact hV 2 _ (hdeps 2 (by decide)) rfl
          have c0 : W.cell? ⟨ba, 2, none⟩ = some (.slice L1 d.log.length k2) := (HCA3.out.below hJ.below HCA3.out.lt).cell 2
          clear hρ
          refine ⟨?_, hJ.made afB.kb (by decide) (by decide) (by decide) (by decide) (fun h => absurd h (by decide)) (fun h => absurd h (by decide)) (Below.refl _ _) trivial⟩
          go_simp
        · refine Free.step_any rfl rfl fun done r W ρ hρ hcst hfun hJ hV hC hd hdeps => ?_
          have e0 : ρ (.tmp 62) = .slice L1 d.log.length k2 := by rw [hρ]; exact hV 3 _ (hdeps 3 (by decide)) rfl
          clear hρ
          go_simp
          exact (HNEW2.out W hJ.below).mono fun e w' ⟨A, c, he, ho, hb⟩ => ⟨_, he, hJ.made afB.kb (by decide) (by decide) (by decide) (by decide) (fun h => absurd h (by decide)) (fun h => absurd h (by decide)) hb ⟨A, c, rfl, RowX.of_own ho⟩⟩
        · refine Free.step_any rfl rfl fun done r W ρ hρ hcst hfun hJ hV hC hd hdeps => ?_
          have e0 : ρ (.tmp 59) = .agg #[.slice NA nm.length c1, .slice UA u.length c2] := by rw [hρ]; exact hV 0 _ (hdeps 0 (by decide)) rfl
          have e1 : ρ (.tmp 60) = .agg #[.int .i64 code, .int .i64 mem, .int .i64 stack, .int .i64 val, .slice Q m f] := by rw [hρ]; exact hV 1 _ (hdeps 1 (by decide)) rfl
          have ed : ρ (.tmp 63) = r 4 := by rw [hρ]; rfl
          obtain ⟨A, c, h1, hrow⟩ := hJ.f 4 (hdeps 4 (by decide))
          rw [h1] at ed
          have hc := HST2.out A c W (HX3.out.trans (hJ.below.mono HX3.out.size)) hrow
          clear hρ h1 hrow
          go_simp
          exact hc.mono fun e w' h => by
            obtain ⟨v, he, ht, hb⟩ := h.tup (Nat.le_trans HBS3.out hJ.below.size)
            exact ⟨v, he, hJ.made afB.kb (by decide) (by decide) (by decide) (by decide) (fun h => absurd h (by decide)) (fun h => absurd h (by decide)) hb ht⟩
        · refine Free.step_any rfl rfl fun done r W ρ hρ hcst hfun hJ hV hC hd hdeps => ?_
          have e0 : ρ (.tmp 64) = r 5 := by rw [hρ]; rfl
          have hx := hJ.f 5 (hdeps 5 (by decide))
          have hf := hJ.made afB.kb (k := 6) (v := r 5) (by decide) (by decide) (by decide) (by decide) (fun h => absurd h (by decide)) (fun h => absurd h (by decide)) (Below.refl _ _) hx
          clear hρ hx
          go_simp
          exact hf
        · refine Free.step_any rfl rfl fun done r W ρ hρ hcst hfun hJ hV hC hd hdeps => ?_
          have e0 : ρ (.tmp 58) = r 6 := by rw [hρ]; rfl
          obtain ⟨dv, sv, h1, hD, hS⟩ := hJ.f 6 (hdeps 6 (by decide))
          rw [h1] at e0
          have hf := hJ.made afB.kb (k := 7) (v := dv) (by decide) (by decide) (by decide) (by decide) (fun _ => Free.not_done hC 12 7 rfl (by decide) hd) (fun h => absurd h (by decide)) (Below.refl _ _) hD
          clear hρ h1 hD hS
          go_simp
          exact hf
        · refine Free.step_any rfl rfl fun done r W ρ hρ hcst hfun hJ hV hC hd hdeps => ?_
          have e0 : ρ (.tmp 58) = r 6 := by rw [hρ]; rfl
          obtain ⟨dv, sv, h1, hD, hS⟩ := hJ.f 6 (hdeps 6 (by decide))
          rw [h1] at e0
          have hf := hJ.made afB.kb (k := 8) (v := sv) (by decide) (by decide) (by decide) (by decide) (fun h => absurd h (by decide)) (fun _ => Free.not_done hC 13 8 rfl (by decide) hd) (Below.refl _ _) hS
          clear hρ h1 hD hS
          go_simp
          exact hf
        · refine Free.step_val _ rfl rfl fun done r W ρ hρ hcst hfun hJ hV hC hd hdeps => ?_
          have e0 : ρ (.tmp 58) = r 6 := by rw [hρ]; rfl
          obtain ⟨dv, sv, h1, hD, hS⟩ := hJ.f 6 (hdeps 6 (by decide))
          rw [h1] at e0
          clear hρ h1
          refine ⟨?_, hJ.made afB.kb (by decide) (by decide) (by decide) (by decide) (fun h => absurd h (by decide)) (fun h => absurd h (by decide)) (Below.refl _ _) trivial⟩
          go_simp
        · refine Free.step_any rfl rfl fun done r W ρ hρ hcst hfun hJ hV hC hd hdeps => ?_
          have hf := hJ.boxA afB.kb (Free.not_done hC 12 10 rfl (by decide) hd) (by decide) (by decide) (by decide) (by decide) (fun _ _ => trivial)
          clear hρ
          simp only [zD] at hf
          go_simp
          exact hf
        · refine Free.step_any rfl rfl fun done r W ρ hρ hcst hfun hJ hV hC hd hdeps => ?_
          have hf := hJ.boxB afB.kb (Free.not_done hC 13 11 rfl (by decide) hd) (by decide) (by decide) (by decide) (by decide) (fun _ _ => trivial)
          clear hρ
          simp only [zS] at hf
          go_simp
          exact hf
        · refine Free.step_any rfl rfl fun done r W ρ hρ hcst hfun hJ hV hC hd hdeps => ?_
          obtain ⟨b, h1, hz, hset⟩ := hJ.setA afB.kb HBS3.out (hdeps 10 (by decide)) hd (by decide) (by decide) (by decide) (by decide) (by decide) (fun _ _ => trivial)
          have hv : TupD w.heap.size d.log.length d.log ra (r 7) W := hJ.f 7 (hdeps 7 (by decide))
          obtain ⟨A, n1, c1, i, L, n2, c2, h2⟩ := hv.three
          have ep : ρ (.tmp 12) = r 10 := by rw [hρ]; rfl
          have eq : ρ (.tmp 65) = r 7 := by rw [hρ]; rfl
          rw [h1] at ep
          rw [h2] at eq
          obtain ⟨X0, X1, X2, e0, e1, e2, f0, f1, f2, g0, g1, g2, -, -, -, HZ, HH, HBL⟩ := n3_steps hz (.slice A n1 c1) (.int .i64 i) (.slice L n2 c2)
          have hf := hset #[.slice A n1 c1, .int .i64 i, .slice L n2 c2] X2 h2 HZ.out HH.out HBL.out
          clear hρ h1 h2 hset hz hv
          go_simp
          exact hf
        · refine Free.step_any rfl rfl fun done r W ρ hρ hcst hfun hJ hV hC hd hdeps => ?_
          obtain ⟨b, h1, hz, hset⟩ := hJ.setB afB.kb HBS3.out (hdeps 11 (by decide)) hd (by decide) (by decide) (by decide) (by decide) (by decide) (fun _ _ => trivial)
          have hv : TupS w.heap.size ra (r 8) W := hJ.f 8 (hdeps 8 (by decide))
          obtain ⟨i, j, A1, n1, c1, A2, n2, c2, A3, n3, c3, h2⟩ := hv.six
          have ep : ρ (.tmp 13) = r 11 := by rw [hρ]; rfl
          have eq : ρ (.tmp 66) = r 8 := by rw [hρ]; rfl
          rw [h1] at ep
          rw [h2] at eq
          obtain ⟨X0, X1, X2, X3, X4, X5, e0, e1, e2, e3, e4, e5, f0, f1, f2, f3, f4, f5, g0, g1, g2, g3, g4, g5, -, -, -, -, -, -, HZ, HH, HBL⟩ := n6_steps13 hz (.int .i64 i) (.int .i64 j) (.slice A1 n1 c1) (.slice A2 n2 c2) (.slice A3 n3 c3) (.slice none 0 0)
          have hf := hset #[.int .i64 i, .int .i64 j, .slice A1 n1 c1, .slice A2 n2 c2, .slice A3 n3 c3, .slice none 0 0] X5 h2 HZ.out HH.out HBL.out
          clear hρ h1 h2 hset hz hv
          go_simp
          exact hf
        · refine Free.step_val _ rfl rfl fun done r W ρ hρ hcst hfun hJ hV hC hd hdeps => ?_
          have e0 : ρ (.tmp 67) = .int .i64 (errN er2 ra : Nat) := by rw [hρ]; exact hV 9 _ (hdeps 9 (by decide)) rfl
          clear hρ
          refine ⟨?_, hJ.made afB.kb (by decide) (by decide) (by decide) (by decide) (fun h => absurd h (by decide)) (fun h => absurd h (by decide)) (Below.refl _ _) trivial⟩
          go_simp
      · intro done r W4 hall hJ hV
        obtain ⟨ba2, ea, hla2, -, ha⟩ := hJ.a (hall 10 (by decide))
        obtain ⟨bb2, eb, hlb2, -, hb⟩ := hJ.b (hall 11 (by decide))
        obtain ⟨ca2, ev, hca⟩ := ha (hall 12 (by decide))
        obtain ⟨cb2, ew, hcb⟩ := hb (hall 13 (by decide))
        have hD : TupD w.heap.size d.log.length d.log ra (r 7) _ := hJ.f 7 (hall 7 (by decide))
        have hS : TupS w.heap.size ra (r 8) _ := hJ.f 8 (hall 8 (by decide))
        have hbe := hJ.below
        simp only [Free.putAll, Nat.zero_add, ea, eb, hV 0 _ (hall 0 (by decide)) rfl, hV 1 _ (hall 1 (by decide)) rfl, hV 2 _ (hall 2 (by decide)) rfl, hV 3 _ (hall 3 (by decide)) rfl, hV 9 _ (hall 9 (by decide)) rfl, hV 14 _ (hall 14 (by decide)) rfl]
        rw [ev] at hD
        rw [ew] at hS
        clear hJ hV hall ha hb ea eb ev ew
        generalize r 4 = z4
        generalize r 5 = z5
        generalize r 6 = z6
        generalize r 7 = z7
        generalize r 8 = z8
        generalize r 12 = z12
        generalize r 13 = z13
        try clear r done
        have HX4 := Lib.hid (HX3.out.trans (hbe.mono HX3.out.size))
        have HB4 := Lib.hid (HB3.out.trans (hbe.mono HB3.out.size))
        have HBS4 := Lib.hid (Nat.le_trans HBX.out.size HX4.out.size)
        have HCA4 := Lib.hid (HCA3.out.below hbe HCA3.out.lt)
        have HCB4 := Lib.hid (HCB.out.below HB4.out HCB.out.lt)
        have HDA := Lib.hid hca
        have HDB := Lib.hid hcb
        rw [HER2.out]
        rw [← HRA.out] at hD hS
        obtain ⟨A3, k3, L3, k4, e1, -, hrl3, -⟩ := hD
        obtain ⟨cv3, mv3, sv3, e2, o1, o2, o3⟩ := hS
        injection e1 with e1
        injection e2 with e2
        subst e1 e2
        have hIS3 := isSt_own (small_of (Gn.fits_of (len_of_checkN (Gn.chk_zero HCK.out).1).1 (Gn.chk_zero HCK.out).2) HIN.out).2 o1 o2 o3
        obtain ⟨cA3, cc3, rfl⟩ := ownT_slice o1
        obtain ⟨mA3, mc3, rfl⟩ := ownT_slice o2
        obtain ⟨sA3, sc3, rfl⟩ := ownT_slice o3
        have HIS3 := Lib.hid hIS3
        have HRL3 := Lib.hid hrl3
        clear hIS3 hrl3 o1 o2 o3 hca hcb hbe HX3 HB3 HBS3 HCA3 HST2 HNEW2 HER2
        go_wp2_with (fail)
        refine Free.region_each (by kernel_rfl) (by kernel_rfl)
          (fun k => ([some (.agg #[.slice NA nm.length c1, .slice UA u.length c2]), some (.agg #[.int .i64 code, .int .i64 mem, .int .i64 stack, .int .i64 val, .slice Q m f]), none, none, none, none, none, some (.int .i64 (errN er3 rb : Nat)), none, none, none, none, some (.int .i64 (errN er3 rb : Nat))] : List (Option Value)).getD k none)
          (FB (afC w.heap.size 0 er3 [] rb) W4 8 9 10 11 5 6) (fun _ => undef) ?_ ?_ ?_
        · exact FB.start _
        · refine ⟨?_, ?_, ?_, ?_, ?_, ?_, ?_, ?_, ?_, ?_, ?_, ?_, ?_, trivial⟩
          · refine Free.step_val _ rfl rfl fun done r W ρ hρ hcst hfun hJ hV hC hd hdeps => ?_
            have e0 : ρ (.tmp 3) = .pointer (some ⟨w.heap.size, 0, none⟩) := by rw [hρ]; rfl
            have c0 : W.cell? ⟨w.heap.size, 0, none⟩ = some (.slice NA nm.length c1) := (HX0.out.below (HX4.out.trans (hJ.below.mono HX4.out.size)) HX0.out.lt).cell 0
            have c1 : W.cell? ⟨w.heap.size, 1, none⟩ = some (.slice UA u.length c2) := (HX0.out.below (HX4.out.trans (hJ.below.mono HX4.out.size)) HX0.out.lt).cell 1
            clear hρ
            refine ⟨?_, hJ.made afC.kb (by decide) (by decide) (by decide) (by decide) (fun h => absurd h (by decide)) (fun h => absurd h (by decide)) (Below.refl _ _) trivial⟩
            go_simp
          · refine Free.step_val _ rfl rfl fun done r W ρ hρ hcst hfun hJ hV hC hd hdeps => ?_
            have e0 : ρ (.tmp 4) = .pointer (some ⟨w.heap.size + 1, 0, none⟩) := by rw [hρ]; rfl
            have c0 : W.cell? ⟨w.heap.size + 1, 0, none⟩ = some (.int .i64 code) := (HX1.out.below (HX4.out.trans (hJ.below.mono HX4.out.size)) HX1.out.lt).cell 0
            have c1 : W.cell? ⟨w.heap.size + 1, 1, none⟩ = some (.int .i64 mem) := (HX1.out.below (HX4.out.trans (hJ.below.mono HX4.out.size)) HX1.out.lt).cell 1
            have c2 : W.cell? ⟨w.heap.size + 1, 2, none⟩ = some (.int .i64 stack) := (HX1.out.below (HX4.out.trans (hJ.below.mono HX4.out.size)) HX1.out.lt).cell 2
            have c3 : W.cell? ⟨w.heap.size + 1, 3, none⟩ = some (.int .i64 val) := (HX1.out.below (HX4.out.trans (hJ.below.mono HX4.out.size)) HX1.out.lt).cell 3
            have c4 : W.cell? ⟨w.heap.size + 1, 4, none⟩ = some (.slice Q m f) := (HX1.out.below (HX4.out.trans (hJ.below.mono HX4.out.size)) HX1.out.lt).cell 4
            clear hρ
            refine ⟨?_, hJ.made afC.kb (by decide) (by decide) (by decide) (by decide) (fun h => absurd h (by decide)) (fun h => absurd h (by decide)) (Below.refl _ _) trivial⟩
            go_simp
          · refine Free.step_any rfl rfl fun done r W ρ hρ hcst hfun hJ hV hC hd hdeps => ?_
            clear hρ
            go_simp
            exact (HNEW3.out W).mono fun e w' ⟨A, c, he, ho, hb⟩ => ⟨_, he, hJ.made afC.kb (by decide) (by decide) (by decide) (by decide) (fun h => absurd h (by decide)) (fun h => absurd h (by decide)) hb ⟨A, c, rfl, RowX.of_own ho⟩⟩
          · refine Free.step_any rfl rfl fun done r W ρ hρ hcst hfun hJ hV hC hd hdeps => ?_
            have e0 : ρ (.tmp 69) = .agg #[.slice NA nm.length c1, .slice UA u.length c2] := by rw [hρ]; exact hV 0 _ (hdeps 0 (by decide)) rfl
            have e1 : ρ (.tmp 70) = .agg #[.int .i64 code, .int .i64 mem, .int .i64 stack, .int .i64 val, .slice Q m f] := by rw [hρ]; exact hV 1 _ (hdeps 1 (by decide)) rfl
            have ed : ρ (.tmp 71) = r 2 := by rw [hρ]; rfl
            obtain ⟨A, c, h1, hrow⟩ := hJ.f 2 (hdeps 2 (by decide))
            rw [h1] at ed
            have hc := HST3.out A c W (HX4.out.trans (hJ.below.mono HX4.out.size)) hrow
            clear hρ h1 hrow
            go_simp
            exact hc.mono fun e w' h => by
              obtain ⟨v, he, ht, hb⟩ := h.tup (Nat.le_trans HBS4.out hJ.below.size)
              exact ⟨v, he, hJ.made afC.kb (by decide) (by decide) (by decide) (by decide) (fun h => absurd h (by decide)) (fun h => absurd h (by decide)) hb ht⟩
          · refine Free.step_any rfl rfl fun done r W ρ hρ hcst hfun hJ hV hC hd hdeps => ?_
            have e0 : ρ (.tmp 72) = r 3 := by rw [hρ]; rfl
            have hx := hJ.f 3 (hdeps 3 (by decide))
            have hf := hJ.made afC.kb (k := 4) (v := r 3) (by decide) (by decide) (by decide) (by decide) (fun h => absurd h (by decide)) (fun h => absurd h (by decide)) (Below.refl _ _) hx
            clear hρ hx
            go_simp
            exact hf
          · refine Free.step_any rfl rfl fun done r W ρ hρ hcst hfun hJ hV hC hd hdeps => ?_
            have e0 : ρ (.tmp 68) = r 4 := by rw [hρ]; rfl
            obtain ⟨dv, sv, h1, hD, hS⟩ := hJ.f 4 (hdeps 4 (by decide))
            rw [h1] at e0
            have hf := hJ.made afC.kb (k := 5) (v := dv) (by decide) (by decide) (by decide) (by decide) (fun _ => Free.not_done hC 10 5 rfl (by decide) hd) (fun h => absurd h (by decide)) (Below.refl _ _) hD
            clear hρ h1 hD hS
            go_simp
            exact hf
          · refine Free.step_any rfl rfl fun done r W ρ hρ hcst hfun hJ hV hC hd hdeps => ?_
            have e0 : ρ (.tmp 68) = r 4 := by rw [hρ]; rfl
            obtain ⟨dv, sv, h1, hD, hS⟩ := hJ.f 4 (hdeps 4 (by decide))
            rw [h1] at e0
            have hf := hJ.made afC.kb (k := 6) (v := sv) (by decide) (by decide) (by decide) (by decide) (fun h => absurd h (by decide)) (fun _ => Free.not_done hC 11 6 rfl (by decide) hd) (Below.refl _ _) hS
            clear hρ h1 hD hS
            go_simp
            exact hf
          · refine Free.step_val _ rfl rfl fun done r W ρ hρ hcst hfun hJ hV hC hd hdeps => ?_
            have e0 : ρ (.tmp 68) = r 4 := by rw [hρ]; rfl
            obtain ⟨dv, sv, h1, hD, hS⟩ := hJ.f 4 (hdeps 4 (by decide))
            rw [h1] at e0
            clear hρ h1
            refine ⟨?_, hJ.made afC.kb (by decide) (by decide) (by decide) (by decide) (fun h => absurd h (by decide)) (fun h => absurd h (by decide)) (Below.refl _ _) trivial⟩
            go_simp
          · refine Free.step_any rfl rfl fun done r W ρ hρ hcst hfun hJ hV hC hd hdeps => ?_
            have hf := hJ.boxA afC.kb (Free.not_done hC 10 8 rfl (by decide) hd) (by decide) (by decide) (by decide) (by decide) (fun _ _ => trivial)
            clear hρ
            simp only [zD] at hf
            go_simp
            exact hf
          · refine Free.step_any rfl rfl fun done r W ρ hρ hcst hfun hJ hV hC hd hdeps => ?_
            have hf := hJ.boxB afC.kb (Free.not_done hC 11 9 rfl (by decide) hd) (by decide) (by decide) (by decide) (by decide) (fun _ _ => trivial)
            clear hρ
            simp only [zS] at hf
            go_simp
            exact hf
          · refine Free.step_any rfl rfl fun done r W ρ hρ hcst hfun hJ hV hC hd hdeps => ?_
            obtain ⟨b, h1, hz, hset⟩ := hJ.setA afC.kb HBS4.out (hdeps 8 (by decide)) hd (by decide) (by decide) (by decide) (by decide) (by decide) (fun _ _ => trivial)
            have hv : TupD w.heap.size 0 [] rb (r 5) W := hJ.f 5 (hdeps 5 (by decide))
            obtain ⟨A, n1, c1, i, L, n2, c2, h2⟩ := hv.three
            have ep : ρ (.tmp 15) = r 8 := by rw [hρ]; rfl
            have eq : ρ (.tmp 73) = r 5 := by rw [hρ]; rfl
            rw [h1] at ep
            rw [h2] at eq
            obtain ⟨X0, X1, X2, e0, e1, e2, f0, f1, f2, g0, g1, g2, -, -, -, HZ, HH, HBL⟩ := n3_steps hz (.slice A n1 c1) (.int .i64 i) (.slice L n2 c2)
            have hf := hset #[.slice A n1 c1, .int .i64 i, .slice L n2 c2] X2 h2 HZ.out HH.out HBL.out
            clear hρ h1 h2 hset hz hv
            go_simp
            exact hf
          · refine Free.step_any rfl rfl fun done r W ρ hρ hcst hfun hJ hV hC hd hdeps => ?_
            obtain ⟨b, h1, hz, hset⟩ := hJ.setB afC.kb HBS4.out (hdeps 9 (by decide)) hd (by decide) (by decide) (by decide) (by decide) (by decide) (fun _ _ => trivial)
            have hv : TupS w.heap.size rb (r 6) W := hJ.f 6 (hdeps 6 (by decide))
            obtain ⟨i, j, A1, n1, c1, A2, n2, c2, A3, n3, c3, h2⟩ := hv.six
            have ep : ρ (.tmp 16) = r 9 := by rw [hρ]; rfl
            have eq : ρ (.tmp 74) = r 6 := by rw [hρ]; rfl
            rw [h1] at ep
            rw [h2] at eq
            obtain ⟨X0, X1, X2, X3, X4, X5, e0, e1, e2, e3, e4, e5, f0, f1, f2, f3, f4, f5, g0, g1, g2, g3, g4, g5, -, -, -, -, -, -, HZ, HH, HBL⟩ := n6_steps13 hz (.int .i64 i) (.int .i64 j) (.slice A1 n1 c1) (.slice A2 n2 c2) (.slice A3 n3 c3) (.slice none 0 0)
            have hf := hset #[.int .i64 i, .int .i64 j, .slice A1 n1 c1, .slice A2 n2 c2, .slice A3 n3 c3, .slice none 0 0] X5 h2 HZ.out HH.out HBL.out
            clear hρ h1 h2 hset hz hv
            go_simp
            exact hf
          · refine Free.step_val _ rfl rfl fun done r W ρ hρ hcst hfun hJ hV hC hd hdeps => ?_
            have e0 : ρ (.tmp 75) = .int .i64 (errN er3 rb : Nat) := by rw [hρ]; exact hV 7 _ (hdeps 7 (by decide)) rfl
            clear hρ
            refine ⟨?_, hJ.made afC.kb (by decide) (by decide) (by decide) (by decide) (fun h => absurd h (by decide)) (fun h => absurd h (by decide)) (Below.refl _ _) trivial⟩
            go_simp
        · intro done r W5 hall hJ hV
          obtain ⟨ba3, ea, hla3, -, ha⟩ := hJ.a (hall 8 (by decide))
          obtain ⟨bb3, eb, hlb3, -, hb⟩ := hJ.b (hall 9 (by decide))
          obtain ⟨ca3, ev, hca⟩ := ha (hall 10 (by decide))
          obtain ⟨cb3, ew, hcb⟩ := hb (hall 11 (by decide))
          have hD : TupD w.heap.size 0 [] rb (r 5) _ := hJ.f 5 (hall 5 (by decide))
          have hS : TupS w.heap.size rb (r 6) _ := hJ.f 6 (hall 6 (by decide))
          have hbe := hJ.below
          simp only [Free.putAll, Nat.zero_add, ea, eb, hV 0 _ (hall 0 (by decide)) rfl, hV 1 _ (hall 1 (by decide)) rfl, hV 7 _ (hall 7 (by decide)) rfl, hV 12 _ (hall 12 (by decide)) rfl]
          rw [ev] at hD
          rw [ew] at hS
          clear hJ hV hall ha hb ea eb ev ew
          generalize r 2 = z2
          generalize r 3 = z3
          generalize r 4 = z4
          generalize r 5 = z5
          generalize r 6 = z6
          generalize r 10 = z10
          generalize r 11 = z11
          try clear r done
          have HX5 := Lib.hid (HX4.out.trans (hbe.mono HX4.out.size))
          have HB5 := Lib.hid (HB4.out.trans (hbe.mono HB4.out.size))
          have HCA5 := Lib.hid (HCA4.out.below hbe HCA4.out.lt)
          have HCB5 := Lib.hid (HCB4.out.below hbe HCB4.out.lt)
          have HDA5 := Lib.hid (HDA.out.below hbe HDA.out.lt)
          have HDB5 := Lib.hid (HDB.out.below hbe HDB.out.lt)
          have HEB := Lib.hid hcb
          rw [HER3.out]
          rw [← HRB.out] at hS
          obtain ⟨cv4, mv4, sv4, e2, o1, o2, o3⟩ := hS
          injection e2 with e2
          subst e2
          have hIS4 := isSt_own rfl o1 o2 o3
          obtain ⟨cA4, cc4, rfl⟩ := ownT_slice o1
          obtain ⟨mA4, mc4, rfl⟩ := ownT_slice o2
          obtain ⟨sA4, sc4, rfl⟩ := ownT_slice o3
          have HSAME := Lib.hid fun (W' : World) (hW : Below W5.heap.size W5 W') => rSame9_any W' (((HIS3.out.below (hbe.trans (hW.mono hbe.size)))).more (Nat.le_trans hbe.size hW.size)) ((HIS.out.below (HB5.out.trans (hW.mono HB5.out.size))).more (Nat.le_trans HB5.out.size hW.size)) HSM.out HSM.out
          have HINTS := Lib.hid fun (W' : World) (hW : Below W5.heap.size W5 W') => rInts13_any (A := L3) (B := L1) (a := d.log) (b := d.log) k4 k2 W' ((HRL3.out.move (Mv.below _ (hbe.trans (hW.mono hbe.size)))).row) ((HRL.out.move (Mv.below _ (HB5.out.trans (hW.mono HB5.out.size)))).row) (by have := HL9.out; omega) (by have := HL9.out; omega)
          have HNONE := Lib.hid fun (W' : World) (hW : Below W5.heap.size W5 W') => rSame9_any (tv := .agg #[.int .i64 0, .int .i64 0, .slice none 0 0, .slice none 0 0, .slice none 0 0, .slice none 0 0]) (t := ⟨⟨0, 0⟩, [], [], [], []⟩) W' ((hIS4.below hW).more hW.size) ⟨_, _, _, _, rfl, ⟨none, 0, rfl, Row.nil, Nat.le_refl _⟩, ⟨none, 0, rfl, Row.nil, Nat.le_refl _⟩, ⟨none, 0, rfl, Row.nil, Nat.le_refl _⟩, ⟨none, 0, rfl, Row.nil, Nat.le_refl _⟩⟩ ⟨by decide, by decide, by decide, by decide⟩ ⟨by decide, by decide, by decide, by decide⟩
          rw [show decide (d.log = d.log) = true from decide_eq_true rfl] at HINTS
          rw [sameB_iff.2 (rfl : s = s)] at HSAME
          rw [sameB_iff.2 (rfl : (⟨⟨0, 0⟩, [], [], [], []⟩ : St.State) = ⟨⟨0, 0⟩, [], [], [], []⟩)] at HNONE
          clear hIS4 hD o1 o2 o3 hca hcb hbe HX4 HB4 HBS4 HCA4 HCB4 HST3 HNEW3 HER3 HDA HDB HST HLX HIN
          go_wp2_with (fail)
          refine (HALIVE.out _).mono ?_
          rintro e9 w6 ⟨rfl, hb6⟩
          have HB6 := Lib.hid hb6
          have u0 := (HDB5.out.below hb6 HDB5.out.lt).cell 0
          have u1 := (HDB5.out.below hb6 HDB5.out.lt).cell 1
          have u2 := (HDB5.out.below hb6 HDB5.out.lt).cell 2
          have u3 := (HDB5.out.below hb6 HDB5.out.lt).cell 3
          have u4 := (HDB5.out.below hb6 HDB5.out.lt).cell 4
          have u5 := (HDB5.out.below hb6 HDB5.out.lt).cell 5
          have y0 := (HCB5.out.below hb6 HCB5.out.lt).cell 0
          have y1 := (HCB5.out.below hb6 HCB5.out.lt).cell 1
          have y2 := (HCB5.out.below hb6 HCB5.out.lt).cell 2
          have y3 := (HCB5.out.below hb6 HCB5.out.lt).cell 3
          have y4 := (HCB5.out.below hb6 HCB5.out.lt).cell 4
          have y5 := (HCB5.out.below hb6 HCB5.out.lt).cell 5
          clear hb6
          go_wp2_with (fail)
          refine (HSAME.out _ HB6.out).mono ?_
          rintro e9 w7 ⟨rfl, hb7⟩
          have hb7 := HB6.out.trans (hb7.mono HB6.out.size)
          have HB7 := Lib.hid hb7
          have d2 := (HDA5.out.below hb7 HDA5.out.lt).cell 2
          have p2 := (HCA5.out.below hb7 HCA5.out.lt).cell 2
          clear hb7 u0 u1 u2 u3 u4 u5 y0 y1 y2 y3 y4 y5
          go_wp2_with (fail)
          refine (HINTS.out _ HB7.out).mono ?_
          rintro e9 w8 ⟨rfl, hb8⟩
          have hb8 := HB7.out.trans (hb8.mono HB7.out.size)
          have HB8 := Lib.hid hb8
          have v0 := (HEB.out.below hb8 HEB.out.lt).cell 0
          have v1 := (HEB.out.below hb8 HEB.out.lt).cell 1
          have v2 := (HEB.out.below hb8 HEB.out.lt).cell 2
          have v3 := (HEB.out.below hb8 HEB.out.lt).cell 3
          have v4 := (HEB.out.below hb8 HEB.out.lt).cell 4
          have v5 := (HEB.out.below hb8 HEB.out.lt).cell 5
          clear hb8 d2 p2
          go_wp2_with (fail)
          refine (HNONE.out _ HB8.out).mono ?_
          rintro e9 w9 ⟨rfl, hb9⟩
          have HB9 := Lib.hid (HBX.out.trans ((HX5.out.trans ((HB8.out.trans (hb9.mono HB8.out.size)).mono HX5.out.size)).mono HBX.out.size))
          clear hb9 v0 v1 v2 v3 v4 v5
          go_wp2
          go_ret
          exact ⟨rfl, HB9.out⟩
end Go.Proofs.Ytmbgndcahlopdaa
