/- Package gen's State (by gen_gmi.py). -/
import Derived.Test.YtmbgndcahlopdaaGGnA
import Derived.Test.YtmbgndcahlopdaaGDrwC
namespace Go.Proofs.Ytmbgndcahlopdaa
set_option maxRecDepth 100000
open Go.RowKit Go.Shelf
attribute [local go_sem] Oper.semAt_some

/-- What State answers where it makes none. -/
def GErr (w : World) (er : Nat) (e : Ending) (w' : World) : Prop := e = .returned (.tuple #[.agg #[.slice none 0 0, .int .i64 0, .slice none 0 0], .agg #[.int .i64 0, .int .i64 0, .slice none 0 0, .slice none 0 0, .slice none 0 0, .slice none 0 0], .int .i64 (er : Int)]) ∧ Below w.heap.size w w'
/-- What it answers where it makes one. -/
def GYes (w : World) (B n : Nat) (list : List Int) (s : St.State) (d : Gn.D) (e : Ending) (w' : World) : Prop := ∃ (A : Option Addr) (ca : Nat) (L : Option Addr) (dd : Nat) (cv mv sv : Value),
  e = .returned (.tuple #[.agg #[.slice A n ca, .int .i64 (d.i : Int), .slice L d.log.length dd], .agg #[.int .i64 s.pc.v, .int .i64 s.pc.l, cv, mv, sv, .slice none 0 0], .int .i64 0]) ∧
  RowX w' B A list ∧ RowX w' B L d.log ∧ w'.ownsRow w.heap.size 66 3 cv s.code.length (fcells ivs s.code) ∧ w'.ownsRow w.heap.size 34 2 mv s.mem.length (fcells avs s.mem) ∧ w'.ownsRow w.heap.size 70 3 sv s.stack.length (fcells svs s.stack) ∧ d.log.length ≤ 2000 ∧ Below w.heap.size w w'
def GotG (w : World) (B er n : Nat) (list : List Int) (r : Option (St.State × Gn.D)) (e : Ending) (w' : World) : Prop := match r with
  | none => GErr w er e w'
  | some (s, d) => GYes w B n list s d e w'
set_option maxHeartbeats 8000000 in
theorem gState_no {N U Q : Option Addr} {er : Nat} (n1 k c1 c2 n3 f : Nat) (p : Gn.Sp) (y : MM) (w : World) (her : er ≠ 0) (hck : ∀ W, Below w.heap.size w W → Calls Try.prog 17 #[.agg #[.slice N n1 c1, .slice U k c2], .agg #[.int .i64 p.code, .int .i64 p.mem, .int .i64 p.stack, .int .i64 p.val, .slice Q n3 f]] W (TellsN W er)) :
    Calls Try.prog 7 #[.agg #[.slice N n1 c1, .slice U k c2], .agg #[.int .i64 p.code, .int .i64 p.mem, .int .i64 p.stack, .int .i64 p.val, .slice Q n3 f], y.dv] w (GErr w er) := by
  unfold MM.dv
  have hb := (((((Below.refl w.heap.size w).alloc (Nat.le_refl _) (.cells #[.slice N n1 c1, .slice U k c2] 25)).alloc (by simp) (.cells #[.int .i64 p.code, .int .i64 p.mem, .int .i64 p.stack, .int .i64 p.val, .slice Q n3 f] 28)).alloc (by simp; omega) (.cells #[.slice y.A y.n y.c, .int .i64 y.i, .slice y.L y.m y.d] 30)).alloc (by simp; omega) (.cells #[.slice none 0 0, .int .i64 0, .slice none 0 0] 30)).alloc (by simp; omega) (.cells #[.int .i64 0, .int .i64 0, .slice none 0 0, .slice none 0 0, .slice none 0 0, .slice none 0 0] 39)
  obtain ⟨V1, hV1⟩ : ∃ V, w.alloc (.cells #[.slice N n1 c1, .slice U k c2] 25) = V := ⟨_, rfl⟩
  have z1 : V1.heap.size = w.heap.size + 1 := by rw [← hV1]; simp
  have p0 : Blk V1 w.heap.size 25 #[.slice N n1 c1, .slice U k c2] := hV1 ▸ Blk.new _ _ _
  obtain ⟨V2, hV2⟩ : ∃ V, V1.alloc (.cells #[.int .i64 p.code, .int .i64 p.mem, .int .i64 p.stack, .int .i64 p.val, .slice Q n3 f] 28) = V := ⟨_, rfl⟩
  have z2 : V2.heap.size = w.heap.size + 1 + 1 := by rw [← hV2]; simp [z1]
  have p1 : Blk V2 (w.heap.size + 1) 28 #[.int .i64 p.code, .int .i64 p.mem, .int .i64 p.stack, .int .i64 p.val, .slice Q n3 f] := z1 ▸ hV2 ▸ Blk.new V1 28 #[.int .i64 p.code, .int .i64 p.mem, .int .i64 p.stack, .int .i64 p.val, .slice Q n3 f]
  obtain ⟨V3, hV3⟩ : ∃ V, V2.alloc (.cells #[.slice y.A y.n y.c, .int .i64 y.i, .slice y.L y.m y.d] 30) = V := ⟨_, rfl⟩
  have z3 : V3.heap.size = w.heap.size + 1 + 1 + 1 := by rw [← hV3]; simp [z2]
  have p2 : Blk V3 (w.heap.size + 1 + 1) 30 #[.slice y.A y.n y.c, .int .i64 y.i, .slice y.L y.m y.d] := z2 ▸ hV3 ▸ Blk.new V2 30 #[.slice y.A y.n y.c, .int .i64 y.i, .slice y.L y.m y.d]
  obtain ⟨V4, hV4⟩ : ∃ V, V3.alloc (.cells #[.slice none 0 0, .int .i64 0, .slice none 0 0] 30) = V := ⟨_, rfl⟩
  have z4 : V4.heap.size = w.heap.size + 1 + 1 + 1 + 1 := by rw [← hV4]; simp [z3]
  have p3 : Blk V4 (w.heap.size + 1 + 1 + 1) 30 #[.slice none 0 0, .int .i64 0, .slice none 0 0] := z3 ▸ hV4 ▸ Blk.new V3 30 #[.slice none 0 0, .int .i64 0, .slice none 0 0]
  obtain ⟨V5, hV5⟩ : ∃ V, V4.alloc (.cells #[.int .i64 0, .int .i64 0, .slice none 0 0, .slice none 0 0, .slice none 0 0, .slice none 0 0] 39) = V := ⟨_, rfl⟩
  have z5 : V5.heap.size = w.heap.size + 1 + 1 + 1 + 1 + 1 := by rw [← hV5]; simp [z4]
  have p4 : Blk V5 (w.heap.size + 1 + 1 + 1 + 1) 39 #[.int .i64 0, .int .i64 0, .slice none 0 0, .slice none 0 0, .slice none 0 0, .slice none 0 0] := z4 ▸ hV5 ▸ Blk.new V4 39 #[.int .i64 0, .int .i64 0, .slice none 0 0, .slice none 0 0, .slice none 0 0, .slice none 0 0]
  have p0 : Blk V5 w.heap.size 25 #[.slice N n1 c1, .slice U k c2] := hV5 ▸ (hV4 ▸ (hV3 ▸ (hV2 ▸ p0.alloc _ : Blk V2 _ _ _).alloc _ : Blk V3 _ _ _).alloc _ : Blk V4 _ _ _).alloc _
  have p1 : Blk V5 (w.heap.size + 1) 28 #[.int .i64 p.code, .int .i64 p.mem, .int .i64 p.stack, .int .i64 p.val, .slice Q n3 f] := hV5 ▸ (hV4 ▸ (hV3 ▸ p1.alloc _ : Blk V3 _ _ _).alloc _ : Blk V4 _ _ _).alloc _
  have p2 : Blk V5 (w.heap.size + 1 + 1) 30 #[.slice y.A y.n y.c, .int .i64 y.i, .slice y.L y.m y.d] := hV5 ▸ (hV4 ▸ p2.alloc _ : Blk V4 _ _ _).alloc _
  have p3 : Blk V5 (w.heap.size + 1 + 1 + 1) 30 #[.slice none 0 0, .int .i64 0, .slice none 0 0] := hV5 ▸ p3.alloc _
  rw [hV1, hV2, hV3, hV4, hV5] at hb
  have HB := Lib.hid hb
  have HP0 := Lib.hid p0
  have HP1 := Lib.hid p1
  have HP2 := Lib.hid p2
  have HP3 := Lib.hid p3
  have HP4 := Lib.hid p4
  have HZ5 := Lib.hid z5
  have HC := Lib.hid (hck V5 hb)
  have hz : ((er : Int) != 0) = true := by rw [bne_iff_ne]; omega
  have l0 := HP0.out.cell 0
  have l1 := HP0.out.cell 1
  have s0 := HP1.out.cell 0
  have s1 := HP1.out.cell 1
  have s2 := HP1.out.cell 2
  have s3 := HP1.out.cell 3
  have s4 := HP1.out.cell 4
  clear hb p0 p1 p2 p3 p4 z5 hck
  go_enter Try.func7, Try.ntmps7
  go_wp2_with (fail)
  refine HC.out.mono ?_
  rintro e w1 ⟨rfl, hb1⟩
  have H_rd := Lib.hid (HP3.out.below hb1 HP3.out.lt)
  have H_rs := Lib.hid (HP4.out.below hb1 HP4.out.lt)
  have HB := Lib.hid (HB.out.trans (hb1.mono HB.out.size))
  clear l0 l1 s0 s1 s2 s3 s4 hb1 HC HP0 HP1 HP2 HP3 HP4
  obtain ⟨X1, eX1⟩ : ∃ U, w1.setCell ⟨w.heap.size + 1 + 1 + 1, 0, none⟩ (.slice none 0 0) = U := ⟨_, rfl⟩
  have fX1 := H_rd.out.frozen 0
  have cX1 := H_rd.out.cell 0
  have N_rd : Blk X1 (w.heap.size + 1 + 1 + 1) 30 #[.slice none 0 0, .int .i64 0, .slice none 0 0] := eX1 ▸ H_rd.out.set_ 0 _
  have N_rs : Blk X1 (w.heap.size + 1 + 1 + 1 + 1) 39 #[.int .i64 0, .int .i64 0, .slice none 0 0, .slice none 0 0, .slice none 0 0, .slice none 0 0] := eX1 ▸ H_rs.out.other (show w.heap.size + 1 + 1 + 1 ≠ w.heap.size + 1 + 1 + 1 + 1 by omega) _
  have NB : Below w.heap.size w X1 := eX1 ▸ HB.out.setCell (p := ⟨w.heap.size + 1 + 1 + 1, 0, none⟩) (by show w.heap.size ≤ w.heap.size + 1 + 1 + 1; omega) _
  clear H_rd H_rs HB
  have H_rd := Lib.hid N_rd
  have H_rs := Lib.hid N_rs
  have HB := Lib.hid NB
  clear NB N_rd N_rs
  obtain ⟨X2, eX2⟩ : ∃ U, X1.setCell ⟨w.heap.size + 1 + 1 + 1, 1, none⟩ (.int .i64 0) = U := ⟨_, rfl⟩
  have fX2 := H_rd.out.frozen 1
  have cX2 := H_rd.out.cell 1
  have N_rd : Blk X2 (w.heap.size + 1 + 1 + 1) 30 #[.slice none 0 0, .int .i64 0, .slice none 0 0] := eX2 ▸ H_rd.out.set_ 1 _
  have N_rs : Blk X2 (w.heap.size + 1 + 1 + 1 + 1) 39 #[.int .i64 0, .int .i64 0, .slice none 0 0, .slice none 0 0, .slice none 0 0, .slice none 0 0] := eX2 ▸ H_rs.out.other (show w.heap.size + 1 + 1 + 1 ≠ w.heap.size + 1 + 1 + 1 + 1 by omega) _
  have NB : Below w.heap.size w X2 := eX2 ▸ HB.out.setCell (p := ⟨w.heap.size + 1 + 1 + 1, 1, none⟩) (by show w.heap.size ≤ w.heap.size + 1 + 1 + 1; omega) _
  clear H_rd H_rs HB
  have H_rd := Lib.hid N_rd
  have H_rs := Lib.hid N_rs
  have HB := Lib.hid NB
  clear NB N_rd N_rs
  obtain ⟨X3, eX3⟩ : ∃ U, X2.setCell ⟨w.heap.size + 1 + 1 + 1, 2, none⟩ (.slice none 0 0) = U := ⟨_, rfl⟩
  have fX3 := H_rd.out.frozen 2
  have cX3 := H_rd.out.cell 2
  have N_rd : Blk X3 (w.heap.size + 1 + 1 + 1) 30 #[.slice none 0 0, .int .i64 0, .slice none 0 0] := eX3 ▸ H_rd.out.set_ 2 _
  have N_rs : Blk X3 (w.heap.size + 1 + 1 + 1 + 1) 39 #[.int .i64 0, .int .i64 0, .slice none 0 0, .slice none 0 0, .slice none 0 0, .slice none 0 0] := eX3 ▸ H_rs.out.other (show w.heap.size + 1 + 1 + 1 ≠ w.heap.size + 1 + 1 + 1 + 1 by omega) _
  have NB : Below w.heap.size w X3 := eX3 ▸ HB.out.setCell (p := ⟨w.heap.size + 1 + 1 + 1, 2, none⟩) (by show w.heap.size ≤ w.heap.size + 1 + 1 + 1; omega) _
  clear H_rd H_rs HB
  have H_rd := Lib.hid N_rd
  have H_rs := Lib.hid N_rs
  have HB := Lib.hid NB
  clear NB N_rd N_rs
  obtain ⟨X4, eX4⟩ : ∃ U, X3.setCell ⟨w.heap.size + 1 + 1 + 1 + 1, 0, none⟩ (.int .i64 0) = U := ⟨_, rfl⟩
  have fX4 := H_rs.out.frozen 0
  have cX4 := H_rs.out.cell 0
  have N_rd : Blk X4 (w.heap.size + 1 + 1 + 1) 30 #[.slice none 0 0, .int .i64 0, .slice none 0 0] := eX4 ▸ H_rd.out.other (show w.heap.size + 1 + 1 + 1 + 1 ≠ w.heap.size + 1 + 1 + 1 by omega) _
  have N_rs : Blk X4 (w.heap.size + 1 + 1 + 1 + 1) 39 #[.int .i64 0, .int .i64 0, .slice none 0 0, .slice none 0 0, .slice none 0 0, .slice none 0 0] := eX4 ▸ H_rs.out.set_ 0 _
  have NB : Below w.heap.size w X4 := eX4 ▸ HB.out.setCell (p := ⟨w.heap.size + 1 + 1 + 1 + 1, 0, none⟩) (by show w.heap.size ≤ w.heap.size + 1 + 1 + 1 + 1; omega) _
  clear H_rd H_rs HB
  have H_rd := Lib.hid N_rd
  have H_rs := Lib.hid N_rs
  have HB := Lib.hid NB
  clear NB N_rd N_rs
  obtain ⟨X5, eX5⟩ : ∃ U, X4.setCell ⟨w.heap.size + 1 + 1 + 1 + 1, 1, none⟩ (.int .i64 0) = U := ⟨_, rfl⟩
  have fX5 := H_rs.out.frozen 1
  have cX5 := H_rs.out.cell 1
  have N_rd : Blk X5 (w.heap.size + 1 + 1 + 1) 30 #[.slice none 0 0, .int .i64 0, .slice none 0 0] := eX5 ▸ H_rd.out.other (show w.heap.size + 1 + 1 + 1 + 1 ≠ w.heap.size + 1 + 1 + 1 by omega) _
  have N_rs : Blk X5 (w.heap.size + 1 + 1 + 1 + 1) 39 #[.int .i64 0, .int .i64 0, .slice none 0 0, .slice none 0 0, .slice none 0 0, .slice none 0 0] := eX5 ▸ H_rs.out.set_ 1 _
  have NB : Below w.heap.size w X5 := eX5 ▸ HB.out.setCell (p := ⟨w.heap.size + 1 + 1 + 1 + 1, 1, none⟩) (by show w.heap.size ≤ w.heap.size + 1 + 1 + 1 + 1; omega) _
  clear H_rd H_rs HB
  have H_rd := Lib.hid N_rd
  have H_rs := Lib.hid N_rs
  have HB := Lib.hid NB
  clear NB N_rd N_rs
  obtain ⟨X6, eX6⟩ : ∃ U, X5.setCell ⟨w.heap.size + 1 + 1 + 1 + 1, 2, none⟩ (.slice none 0 0) = U := ⟨_, rfl⟩
  have fX6 := H_rs.out.frozen 2
  have cX6 := H_rs.out.cell 2
  have N_rd : Blk X6 (w.heap.size + 1 + 1 + 1) 30 #[.slice none 0 0, .int .i64 0, .slice none 0 0] := eX6 ▸ H_rd.out.other (show w.heap.size + 1 + 1 + 1 + 1 ≠ w.heap.size + 1 + 1 + 1 by omega) _
  have N_rs : Blk X6 (w.heap.size + 1 + 1 + 1 + 1) 39 #[.int .i64 0, .int .i64 0, .slice none 0 0, .slice none 0 0, .slice none 0 0, .slice none 0 0] := eX6 ▸ H_rs.out.set_ 2 _
  have NB : Below w.heap.size w X6 := eX6 ▸ HB.out.setCell (p := ⟨w.heap.size + 1 + 1 + 1 + 1, 2, none⟩) (by show w.heap.size ≤ w.heap.size + 1 + 1 + 1 + 1; omega) _
  clear H_rd H_rs HB
  have H_rd := Lib.hid N_rd
  have H_rs := Lib.hid N_rs
  have HB := Lib.hid NB
  clear NB N_rd N_rs
  obtain ⟨X7, eX7⟩ : ∃ U, X6.setCell ⟨w.heap.size + 1 + 1 + 1 + 1, 3, none⟩ (.slice none 0 0) = U := ⟨_, rfl⟩
  have fX7 := H_rs.out.frozen 3
  have cX7 := H_rs.out.cell 3
  have N_rd : Blk X7 (w.heap.size + 1 + 1 + 1) 30 #[.slice none 0 0, .int .i64 0, .slice none 0 0] := eX7 ▸ H_rd.out.other (show w.heap.size + 1 + 1 + 1 + 1 ≠ w.heap.size + 1 + 1 + 1 by omega) _
  have N_rs : Blk X7 (w.heap.size + 1 + 1 + 1 + 1) 39 #[.int .i64 0, .int .i64 0, .slice none 0 0, .slice none 0 0, .slice none 0 0, .slice none 0 0] := eX7 ▸ H_rs.out.set_ 3 _
  have NB : Below w.heap.size w X7 := eX7 ▸ HB.out.setCell (p := ⟨w.heap.size + 1 + 1 + 1 + 1, 3, none⟩) (by show w.heap.size ≤ w.heap.size + 1 + 1 + 1 + 1; omega) _
  clear H_rd H_rs HB
  have H_rd := Lib.hid N_rd
  have H_rs := Lib.hid N_rs
  have HB := Lib.hid NB
  clear NB N_rd N_rs
  obtain ⟨X8, eX8⟩ : ∃ U, X7.setCell ⟨w.heap.size + 1 + 1 + 1 + 1, 4, none⟩ (.slice none 0 0) = U := ⟨_, rfl⟩
  have fX8 := H_rs.out.frozen 4
  have cX8 := H_rs.out.cell 4
  have N_rd : Blk X8 (w.heap.size + 1 + 1 + 1) 30 #[.slice none 0 0, .int .i64 0, .slice none 0 0] := eX8 ▸ H_rd.out.other (show w.heap.size + 1 + 1 + 1 + 1 ≠ w.heap.size + 1 + 1 + 1 by omega) _
  have N_rs : Blk X8 (w.heap.size + 1 + 1 + 1 + 1) 39 #[.int .i64 0, .int .i64 0, .slice none 0 0, .slice none 0 0, .slice none 0 0, .slice none 0 0] := eX8 ▸ H_rs.out.set_ 4 _
  have NB : Below w.heap.size w X8 := eX8 ▸ HB.out.setCell (p := ⟨w.heap.size + 1 + 1 + 1 + 1, 4, none⟩) (by show w.heap.size ≤ w.heap.size + 1 + 1 + 1 + 1; omega) _
  clear H_rd H_rs HB
  have H_rd := Lib.hid N_rd
  have H_rs := Lib.hid N_rs
  have HB := Lib.hid NB
  clear NB N_rd N_rs
  obtain ⟨X9, eX9⟩ : ∃ U, X8.setCell ⟨w.heap.size + 1 + 1 + 1 + 1, 5, none⟩ (.slice none 0 0) = U := ⟨_, rfl⟩
  have fX9 := H_rs.out.frozen 5
  have cX9 := H_rs.out.cell 5
  have N_rd : Blk X9 (w.heap.size + 1 + 1 + 1) 30 #[.slice none 0 0, .int .i64 0, .slice none 0 0] := eX9 ▸ H_rd.out.other (show w.heap.size + 1 + 1 + 1 + 1 ≠ w.heap.size + 1 + 1 + 1 by omega) _
  have N_rs : Blk X9 (w.heap.size + 1 + 1 + 1 + 1) 39 #[.int .i64 0, .int .i64 0, .slice none 0 0, .slice none 0 0, .slice none 0 0, .slice none 0 0] := eX9 ▸ H_rs.out.set_ 5 _
  have NB : Below w.heap.size w X9 := eX9 ▸ HB.out.setCell (p := ⟨w.heap.size + 1 + 1 + 1 + 1, 5, none⟩) (by show w.heap.size ≤ w.heap.size + 1 + 1 + 1 + 1; omega) _
  clear H_rd H_rs HB
  have H_rd := Lib.hid N_rd
  have H_rs := Lib.hid N_rs
  have HB := Lib.hid NB
  clear NB N_rd N_rs
  have r0 := H_rd.out.cell 0
  have r1 := H_rd.out.cell 1
  have r2 := H_rd.out.cell 2
  have t0 := H_rs.out.cell 0
  have t1 := H_rs.out.cell 1
  have t2 := H_rs.out.cell 2
  have t3 := H_rs.out.cell 3
  have t4 := H_rs.out.cell 4
  have t5 := H_rs.out.cell 5
  go_wp2
  exact bodyPost_ret (v := .tuple #[.agg #[.slice none 0 0, .int .i64 0, .slice none 0 0], .agg #[.int .i64 0, .int .i64 0, .slice none 0 0, .slice none 0 0, .slice none 0 0, .slice none 0 0], .int .i64 (er : Int)]) (by simp [results, Try.results7, go_sem, r0, r1, r2, t0, t1, t2, t3, t4, t5]) rfl ⟨rfl, HB.out⟩
set_option maxHeartbeats 16000000 in
theorem gState_go {N U Q : Option Addr} {er n B : Nat} {list : List Int} {ans : Option (St.State × Gn.D)} (n1 k c1 c2 f : Nat) (p : Gn.Sp) (y : MM) (w : World) (her : er ≠ 0) (hme : y.me = 0) (hBw : B ≤ w.heap.size) (hck : ∀ W, Below w.heap.size w W → Calls Try.prog 17 #[.agg #[.slice N n1 c1, .slice U k c2], .agg #[.int .i64 p.code, .int .i64 p.mem, .int .i64 p.stack, .int .i64 p.val, .slice Q 13 f]] W (TellsN W 0))
    (hS : ∀ W g, Below w.heap.size w W → w.heap.size ≤ g → Blk W g 59 (MC.cells ⟨g, k, p, Q, f, er, n, list, B⟩ y) → Calls Try.prog 18 #[.pointer (some ⟨g, 0, none⟩)] W (StP W ⟨g, k, p, Q, f, er, n, list, B⟩ ans)) :
    Calls Try.prog 7 #[.agg #[.slice N n1 c1, .slice U k c2], .agg #[.int .i64 p.code, .int .i64 p.mem, .int .i64 p.stack, .int .i64 p.val, .slice Q 13 f], y.dv] w (GotG w B er n list ans) := by
  unfold MM.dv MC.cells at *
  dsimp only at hS ⊢
  simp only [hme] at hS
  clear hme
  have hb := (((((Below.refl w.heap.size w).alloc (Nat.le_refl _) (.cells #[.slice N n1 c1, .slice U k c2] 25)).alloc (by simp) (.cells #[.int .i64 p.code, .int .i64 p.mem, .int .i64 p.stack, .int .i64 p.val, .slice Q 13 f] 28)).alloc (by simp; omega) (.cells #[.slice y.A y.n y.c, .int .i64 y.i, .slice y.L y.m y.d] 30)).alloc (by simp; omega) (.cells #[.slice none 0 0, .int .i64 0, .slice none 0 0] 30)).alloc (by simp; omega) (.cells #[.int .i64 0, .int .i64 0, .slice none 0 0, .slice none 0 0, .slice none 0 0, .slice none 0 0] 39)
  obtain ⟨V1, hV1⟩ : ∃ V, w.alloc (.cells #[.slice N n1 c1, .slice U k c2] 25) = V := ⟨_, rfl⟩
  have z1 : V1.heap.size = w.heap.size + 1 := by rw [← hV1]; simp
  have p0 : Blk V1 w.heap.size 25 #[.slice N n1 c1, .slice U k c2] := hV1 ▸ Blk.new _ _ _
  obtain ⟨V2, hV2⟩ : ∃ V, V1.alloc (.cells #[.int .i64 p.code, .int .i64 p.mem, .int .i64 p.stack, .int .i64 p.val, .slice Q 13 f] 28) = V := ⟨_, rfl⟩
  have z2 : V2.heap.size = w.heap.size + 1 + 1 := by rw [← hV2]; simp [z1]
  have p1 : Blk V2 (w.heap.size + 1) 28 #[.int .i64 p.code, .int .i64 p.mem, .int .i64 p.stack, .int .i64 p.val, .slice Q 13 f] := z1 ▸ hV2 ▸ Blk.new V1 28 #[.int .i64 p.code, .int .i64 p.mem, .int .i64 p.stack, .int .i64 p.val, .slice Q 13 f]
  obtain ⟨V3, hV3⟩ : ∃ V, V2.alloc (.cells #[.slice y.A y.n y.c, .int .i64 y.i, .slice y.L y.m y.d] 30) = V := ⟨_, rfl⟩
  have z3 : V3.heap.size = w.heap.size + 1 + 1 + 1 := by rw [← hV3]; simp [z2]
  have p2 : Blk V3 (w.heap.size + 1 + 1) 30 #[.slice y.A y.n y.c, .int .i64 y.i, .slice y.L y.m y.d] := z2 ▸ hV3 ▸ Blk.new V2 30 #[.slice y.A y.n y.c, .int .i64 y.i, .slice y.L y.m y.d]
  obtain ⟨V4, hV4⟩ : ∃ V, V3.alloc (.cells #[.slice none 0 0, .int .i64 0, .slice none 0 0] 30) = V := ⟨_, rfl⟩
  have z4 : V4.heap.size = w.heap.size + 1 + 1 + 1 + 1 := by rw [← hV4]; simp [z3]
  have p3 : Blk V4 (w.heap.size + 1 + 1 + 1) 30 #[.slice none 0 0, .int .i64 0, .slice none 0 0] := z3 ▸ hV4 ▸ Blk.new V3 30 #[.slice none 0 0, .int .i64 0, .slice none 0 0]
  obtain ⟨V5, hV5⟩ : ∃ V, V4.alloc (.cells #[.int .i64 0, .int .i64 0, .slice none 0 0, .slice none 0 0, .slice none 0 0, .slice none 0 0] 39) = V := ⟨_, rfl⟩
  have z5 : V5.heap.size = w.heap.size + 1 + 1 + 1 + 1 + 1 := by rw [← hV5]; simp [z4]
  have p4 : Blk V5 (w.heap.size + 1 + 1 + 1 + 1) 39 #[.int .i64 0, .int .i64 0, .slice none 0 0, .slice none 0 0, .slice none 0 0, .slice none 0 0] := z4 ▸ hV5 ▸ Blk.new V4 39 #[.int .i64 0, .int .i64 0, .slice none 0 0, .slice none 0 0, .slice none 0 0, .slice none 0 0]
  have p0 : Blk V5 w.heap.size 25 #[.slice N n1 c1, .slice U k c2] := hV5 ▸ (hV4 ▸ (hV3 ▸ (hV2 ▸ p0.alloc _ : Blk V2 _ _ _).alloc _ : Blk V3 _ _ _).alloc _ : Blk V4 _ _ _).alloc _
  have p1 : Blk V5 (w.heap.size + 1) 28 #[.int .i64 p.code, .int .i64 p.mem, .int .i64 p.stack, .int .i64 p.val, .slice Q 13 f] := hV5 ▸ (hV4 ▸ (hV3 ▸ p1.alloc _ : Blk V3 _ _ _).alloc _ : Blk V4 _ _ _).alloc _
  have p2 : Blk V5 (w.heap.size + 1 + 1) 30 #[.slice y.A y.n y.c, .int .i64 y.i, .slice y.L y.m y.d] := hV5 ▸ (hV4 ▸ p2.alloc _ : Blk V4 _ _ _).alloc _
  have p3 : Blk V5 (w.heap.size + 1 + 1 + 1) 30 #[.slice none 0 0, .int .i64 0, .slice none 0 0] := hV5 ▸ p3.alloc _
  rw [hV1, hV2, hV3, hV4, hV5] at hb
  have HB := Lib.hid hb
  have HP0 := Lib.hid p0
  have HP1 := Lib.hid p1
  have HP2 := Lib.hid p2
  have HP3 := Lib.hid p3
  have HP4 := Lib.hid p4
  have HZ5 := Lib.hid z5
  have HC := Lib.hid (hck V5 hb)
  have l0 := HP0.out.cell 0
  have l1 := HP0.out.cell 1
  have s0 := HP1.out.cell 0
  have s1 := HP1.out.cell 1
  have s2 := HP1.out.cell 2
  have s3 := HP1.out.cell 3
  have s4 := HP1.out.cell 4
  clear hb p0 p1 p2 p3 p4 z5 hck
  have HS := Lib.hid hS
  have hz : ((er : Int) != 0) = true := by rw [bne_iff_ne]; omega
  clear hS
  have ga : ∃ a, GotG w B er n list ans = a := ⟨_, rfl⟩
  obtain ⟨post, hpost⟩ := ga
  rw [hpost]
  have HPOST := Lib.hid hpost
  clear hpost
  go_enter Try.func7, Try.ntmps7
  go_wp2_with (fail)
  refine HC.out.mono ?_
  rintro e w1 ⟨rfl, hb1⟩
  have hp0 := HP0.out.below hb1 HP0.out.lt
  have hp1 := HP1.out.below hb1 HP1.out.lt
  have hp2 := HP2.out.below hb1 HP2.out.lt
  have H_rd := Lib.hid (HP3.out.below hb1 HP3.out.lt)
  have H_rs := Lib.hid (HP4.out.below hb1 HP4.out.lt)
  have hbw := HB.out.trans (hb1.mono HB.out.size)
  have hs1 : w.heap.size + 1 + 1 + 1 + 1 + 1 ≤ w1.heap.size := by rw [← HZ5.out]; exact hb1.size
  clear l0 l1 s0 s1 s2 s3 s4 hb1 HC HP0 HP1 HP2 HP3 HP4 HB
  have l1 := hp0.cell 1
  have s0 := hp1.cell 0
  have s1 := hp1.cell 1
  have s2 := hp1.cell 2
  have s3 := hp1.cell 3
  have s4 := hp1.cell 4
  have d0 := hp2.cell 0
  have d1 := hp2.cell 1
  have d2 := hp2.cell 2
  obtain ⟨W2, hW2⟩ : ∃ V, w1.alloc (.cells #[.int .i64 (k : Int), .int .i64 p.code, .int .i64 p.mem, .int .i64 p.stack, .int .i64 p.val, .slice Q 13 f, .slice y.A y.n y.c, .int .i64 y.i, .slice y.L y.m y.d, .int .i64 0] 59) = V := ⟨_, rfl⟩
  have hg : Blk W2 w1.heap.size 59 #[.int .i64 (k : Int), .int .i64 p.code, .int .i64 p.mem, .int .i64 p.stack, .int .i64 p.val, .slice Q 13 f, .slice y.A y.n y.c, .int .i64 y.i, .slice y.L y.m y.d, .int .i64 0] := hW2 ▸ Blk.new _ _ _
  have hb2 : Below w.heap.size w W2 := hW2 ▸ hbw.alloc hbw.size _
  have hgl := hg.lt
  have H_rd2 := Lib.hid (show Blk W2 (w.heap.size + 1 + 1 + 1) 30 #[.slice none 0 0, .int .i64 0, .slice none 0 0] from hW2 ▸ H_rd.out.alloc _)
  have H_rs2 := Lib.hid (show Blk W2 (w.heap.size + 1 + 1 + 1 + 1) 39 #[.int .i64 0, .int .i64 0, .slice none 0 0, .slice none 0 0, .slice none 0 0, .slice none 0 0] from hW2 ▸ H_rs.out.alloc _)
  have HG := Lib.hid hg
  have HB2 := Lib.hid hb2
  clear hp0 hp1 hp2 H_rd H_rs hbw hb2
  go_wp2_with (fail)
  refine (HS.out W2 w1.heap.size HB2.out (by omega) HG.out).mono ?_
  rintro e v1 ⟨ym, cv, mv, sv, s, rfl, hm, hk, hoc, hom, hos, hval⟩
  clear hW2 l1 s0 s1 s2 s3 s4 d0 d1 d2
  obtain ⟨cA, cc, rfl⟩ := ownT_slice hoc
  obtain ⟨mA, mc, rfl⟩ := ownT_slice hom
  obtain ⟨sA, sc, rfl⟩ := ownT_slice hos
  have H_rd := Lib.hid (H_rd2.out.kpg hk (by show w.heap.size + 1 + 1 + 1 ≠ w1.heap.size; omega))
  have H_rs := Lib.hid (H_rs2.out.kpg hk (by show w.heap.size + 1 + 1 + 1 + 1 ≠ w1.heap.size; omega))
  have HB := Lib.hid (HB2.out.trans (hk.low (B := w.heap.size) (by show w.heap.size ≤ w1.heap.size; omega) HB2.out.size))
  have hv1 : W2.heap.size ≤ v1.heap.size := hk.size
  have H_m : Hid (Blk v1 w1.heap.size 59 #[.int .i64 (k : Int), .int .i64 p.code, .int .i64 p.mem, .int .i64 p.stack, .int .i64 p.val, .slice Q 13 f, .slice ym.A ym.n ym.c, .int .i64 ym.i, .slice ym.L ym.m ym.d, .int .i64 ym.me]) := Lib.hid hm.box
  clear H_rd2 H_rs2 HB2 HG hk HS
  have HSV := Lib.hid hval
  obtain ⟨v2, hv2⟩ : ∃ V, v1.alloc (.cells #[.int .i64 0, .int .i64 0, .slice none 0 0, .slice none 0 0, .slice none 0 0, .slice none 0 0] 39) = V := ⟨_, rfl⟩
  have hx : Blk v2 v1.heap.size 39 #[.int .i64 0, .int .i64 0, .slice none 0 0, .slice none 0 0, .slice none 0 0, .slice none 0 0] := hv2 ▸ Blk.new _ _ _
  have hvz : v1.heap.size < v2.heap.size := hx.lt
  have n_rd : Blk v2 (w.heap.size + 1 + 1 + 1) 30 #[.slice none 0 0, .int .i64 0, .slice none 0 0] := hv2 ▸ H_rd.out.alloc _
  have n_rs : Blk v2 (w.heap.size + 1 + 1 + 1 + 1) 39 #[.int .i64 0, .int .i64 0, .slice none 0 0, .slice none 0 0, .slice none 0 0, .slice none 0 0] := hv2 ▸ H_rs.out.alloc _
  have n_m : Blk v2 w1.heap.size 59 #[.int .i64 (k : Int), .int .i64 p.code, .int .i64 p.mem, .int .i64 p.stack, .int .i64 p.val, .slice Q 13 f, .slice ym.A ym.n ym.c, .int .i64 ym.i, .slice ym.L ym.m ym.d, .int .i64 ym.me] := hv2 ▸ H_m.out.alloc _
  have n_B : Below w.heap.size w v2 := hv2 ▸ HB.out.alloc HB.out.size _
  have hkm := hm.alloc (.cells #[.int .i64 0, .int .i64 0, .slice none 0 0, .slice none 0 0, .slice none 0 0, .slice none 0 0] 39)
  rw [hv2] at hkm
  have hz8 : w.heap.size ≤ W2.heap.size := by omega
  have HWZ := Lib.hid hz8
  have oc : v2.ownsRow w.heap.size 66 3 (.slice cA s.code.length cc) s.code.length (fcells ivs s.code) := hv2 ▸ (ownT_mono hoc hz8).alloc _
  have om : v2.ownsRow w.heap.size 34 2 (.slice mA s.mem.length mc) s.mem.length (fcells avs s.mem) := hv2 ▸ (ownT_mono hom hz8).alloc _
  have os : v2.ownsRow w.heap.size 70 3 (.slice sA s.stack.length sc) s.stack.length (fcells svs s.stack) := hv2 ▸ (ownT_mono hos hz8).alloc _
  clear H_rd H_rs H_m HB hm hoc hom hos hval
  have H_rd := Lib.hid n_rd
  have H_rs := Lib.hid n_rs
  have H_m := Lib.hid n_m
  have H_x := Lib.hid hx
  have HB := Lib.hid n_B
  have OC := Lib.hid oc
  have OM := Lib.hid om
  have OS := Lib.hid os
  have RW := Lib.hid hkm.rows
  have RSH := Lib.hid hkm.sh
  clear n_rd n_rs n_m hx n_B oc om os hkm hz8
  have hsm : w1.heap.size < v1.heap.size := Nat.lt_of_lt_of_le hgl hv1
  cases ans with
  | none =>
    obtain rfl : GErr w er = post := HPOST.out
    have hy : ym = ⟨none, 0, 0, 0, none, 0, 0, 0, (er : Int)⟩ := RSH.out
    subst hy
    clear RW RSH OC OM OS HSV
    dsimp only at H_m
    obtain ⟨X1, eX1⟩ : ∃ U, v2.setCell ⟨v1.heap.size, 0, none⟩ (.int .i64 s.pc.v) = U := ⟨_, rfl⟩
    have fX1 := H_x.out.frozen 0
    have cX1 := H_x.out.cell 0
    have N_rd : Blk X1 (w.heap.size + 1 + 1 + 1) 30 #[.slice none 0 0, .int .i64 0, .slice none 0 0] := eX1 ▸ H_rd.out.other (show v1.heap.size ≠ w.heap.size + 1 + 1 + 1 by omega) _
    have N_rs : Blk X1 (w.heap.size + 1 + 1 + 1 + 1) 39 #[.int .i64 0, .int .i64 0, .slice none 0 0, .slice none 0 0, .slice none 0 0, .slice none 0 0] := eX1 ▸ H_rs.out.other (show v1.heap.size ≠ w.heap.size + 1 + 1 + 1 + 1 by omega) _
    have N_m : Blk X1 (w1.heap.size) 59 #[.int .i64 (k : Int), .int .i64 p.code, .int .i64 p.mem, .int .i64 p.stack, .int .i64 p.val, .slice Q 13 f, .slice none 0 0, .int .i64 0, .slice none 0 0, .int .i64 (er : Int)] := eX1 ▸ H_m.out.other (show v1.heap.size ≠ w1.heap.size by omega) _
    have N_x : Blk X1 (v1.heap.size) 39 #[.int .i64 s.pc.v, .int .i64 0, .slice none 0 0, .slice none 0 0, .slice none 0 0, .slice none 0 0] := eX1 ▸ H_x.out.set_ 0 _
    have NB : Below w.heap.size w X1 := eX1 ▸ HB.out.setCell (p := ⟨v1.heap.size, 0, none⟩) (by show w.heap.size ≤ v1.heap.size; omega) _
    clear H_rd H_rs H_m H_x HB
    have H_rd := Lib.hid N_rd
    have H_rs := Lib.hid N_rs
    have H_m := Lib.hid N_m
    have H_x := Lib.hid N_x
    have HB := Lib.hid NB
    clear NB N_rd N_rs N_m N_x
    obtain ⟨X2, eX2⟩ : ∃ U, X1.setCell ⟨v1.heap.size, 1, none⟩ (.int .i64 s.pc.l) = U := ⟨_, rfl⟩
    have fX2 := H_x.out.frozen 1
    have cX2 := H_x.out.cell 1
    have N_rd : Blk X2 (w.heap.size + 1 + 1 + 1) 30 #[.slice none 0 0, .int .i64 0, .slice none 0 0] := eX2 ▸ H_rd.out.other (show v1.heap.size ≠ w.heap.size + 1 + 1 + 1 by omega) _
    have N_rs : Blk X2 (w.heap.size + 1 + 1 + 1 + 1) 39 #[.int .i64 0, .int .i64 0, .slice none 0 0, .slice none 0 0, .slice none 0 0, .slice none 0 0] := eX2 ▸ H_rs.out.other (show v1.heap.size ≠ w.heap.size + 1 + 1 + 1 + 1 by omega) _
    have N_m : Blk X2 (w1.heap.size) 59 #[.int .i64 (k : Int), .int .i64 p.code, .int .i64 p.mem, .int .i64 p.stack, .int .i64 p.val, .slice Q 13 f, .slice none 0 0, .int .i64 0, .slice none 0 0, .int .i64 (er : Int)] := eX2 ▸ H_m.out.other (show v1.heap.size ≠ w1.heap.size by omega) _
    have N_x : Blk X2 (v1.heap.size) 39 #[.int .i64 s.pc.v, .int .i64 s.pc.l, .slice none 0 0, .slice none 0 0, .slice none 0 0, .slice none 0 0] := eX2 ▸ H_x.out.set_ 1 _
    have NB : Below w.heap.size w X2 := eX2 ▸ HB.out.setCell (p := ⟨v1.heap.size, 1, none⟩) (by show w.heap.size ≤ v1.heap.size; omega) _
    clear H_rd H_rs H_m H_x HB
    have H_rd := Lib.hid N_rd
    have H_rs := Lib.hid N_rs
    have H_m := Lib.hid N_m
    have H_x := Lib.hid N_x
    have HB := Lib.hid NB
    clear NB N_rd N_rs N_m N_x
    obtain ⟨X3, eX3⟩ : ∃ U, X2.setCell ⟨v1.heap.size, 2, none⟩ (.slice cA s.code.length cc) = U := ⟨_, rfl⟩
    have fX3 := H_x.out.frozen 2
    have cX3 := H_x.out.cell 2
    have N_rd : Blk X3 (w.heap.size + 1 + 1 + 1) 30 #[.slice none 0 0, .int .i64 0, .slice none 0 0] := eX3 ▸ H_rd.out.other (show v1.heap.size ≠ w.heap.size + 1 + 1 + 1 by omega) _
    have N_rs : Blk X3 (w.heap.size + 1 + 1 + 1 + 1) 39 #[.int .i64 0, .int .i64 0, .slice none 0 0, .slice none 0 0, .slice none 0 0, .slice none 0 0] := eX3 ▸ H_rs.out.other (show v1.heap.size ≠ w.heap.size + 1 + 1 + 1 + 1 by omega) _
    have N_m : Blk X3 (w1.heap.size) 59 #[.int .i64 (k : Int), .int .i64 p.code, .int .i64 p.mem, .int .i64 p.stack, .int .i64 p.val, .slice Q 13 f, .slice none 0 0, .int .i64 0, .slice none 0 0, .int .i64 (er : Int)] := eX3 ▸ H_m.out.other (show v1.heap.size ≠ w1.heap.size by omega) _
    have N_x : Blk X3 (v1.heap.size) 39 #[.int .i64 s.pc.v, .int .i64 s.pc.l, .slice cA s.code.length cc, .slice none 0 0, .slice none 0 0, .slice none 0 0] := eX3 ▸ H_x.out.set_ 2 _
    have NB : Below w.heap.size w X3 := eX3 ▸ HB.out.setCell (p := ⟨v1.heap.size, 2, none⟩) (by show w.heap.size ≤ v1.heap.size; omega) _
    clear H_rd H_rs H_m H_x HB
    have H_rd := Lib.hid N_rd
    have H_rs := Lib.hid N_rs
    have H_m := Lib.hid N_m
    have H_x := Lib.hid N_x
    have HB := Lib.hid NB
    clear NB N_rd N_rs N_m N_x
    obtain ⟨X4, eX4⟩ : ∃ U, X3.setCell ⟨v1.heap.size, 3, none⟩ (.slice mA s.mem.length mc) = U := ⟨_, rfl⟩
    have fX4 := H_x.out.frozen 3
    have cX4 := H_x.out.cell 3
    have N_rd : Blk X4 (w.heap.size + 1 + 1 + 1) 30 #[.slice none 0 0, .int .i64 0, .slice none 0 0] := eX4 ▸ H_rd.out.other (show v1.heap.size ≠ w.heap.size + 1 + 1 + 1 by omega) _
    have N_rs : Blk X4 (w.heap.size + 1 + 1 + 1 + 1) 39 #[.int .i64 0, .int .i64 0, .slice none 0 0, .slice none 0 0, .slice none 0 0, .slice none 0 0] := eX4 ▸ H_rs.out.other (show v1.heap.size ≠ w.heap.size + 1 + 1 + 1 + 1 by omega) _
    have N_m : Blk X4 (w1.heap.size) 59 #[.int .i64 (k : Int), .int .i64 p.code, .int .i64 p.mem, .int .i64 p.stack, .int .i64 p.val, .slice Q 13 f, .slice none 0 0, .int .i64 0, .slice none 0 0, .int .i64 (er : Int)] := eX4 ▸ H_m.out.other (show v1.heap.size ≠ w1.heap.size by omega) _
    have N_x : Blk X4 (v1.heap.size) 39 #[.int .i64 s.pc.v, .int .i64 s.pc.l, .slice cA s.code.length cc, .slice mA s.mem.length mc, .slice none 0 0, .slice none 0 0] := eX4 ▸ H_x.out.set_ 3 _
    have NB : Below w.heap.size w X4 := eX4 ▸ HB.out.setCell (p := ⟨v1.heap.size, 3, none⟩) (by show w.heap.size ≤ v1.heap.size; omega) _
    clear H_rd H_rs H_m H_x HB
    have H_rd := Lib.hid N_rd
    have H_rs := Lib.hid N_rs
    have H_m := Lib.hid N_m
    have H_x := Lib.hid N_x
    have HB := Lib.hid NB
    clear NB N_rd N_rs N_m N_x
    obtain ⟨X5, eX5⟩ : ∃ U, X4.setCell ⟨v1.heap.size, 4, none⟩ (.slice sA s.stack.length sc) = U := ⟨_, rfl⟩
    have fX5 := H_x.out.frozen 4
    have cX5 := H_x.out.cell 4
    have N_rd : Blk X5 (w.heap.size + 1 + 1 + 1) 30 #[.slice none 0 0, .int .i64 0, .slice none 0 0] := eX5 ▸ H_rd.out.other (show v1.heap.size ≠ w.heap.size + 1 + 1 + 1 by omega) _
    have N_rs : Blk X5 (w.heap.size + 1 + 1 + 1 + 1) 39 #[.int .i64 0, .int .i64 0, .slice none 0 0, .slice none 0 0, .slice none 0 0, .slice none 0 0] := eX5 ▸ H_rs.out.other (show v1.heap.size ≠ w.heap.size + 1 + 1 + 1 + 1 by omega) _
    have N_m : Blk X5 (w1.heap.size) 59 #[.int .i64 (k : Int), .int .i64 p.code, .int .i64 p.mem, .int .i64 p.stack, .int .i64 p.val, .slice Q 13 f, .slice none 0 0, .int .i64 0, .slice none 0 0, .int .i64 (er : Int)] := eX5 ▸ H_m.out.other (show v1.heap.size ≠ w1.heap.size by omega) _
    have N_x : Blk X5 (v1.heap.size) 39 #[.int .i64 s.pc.v, .int .i64 s.pc.l, .slice cA s.code.length cc, .slice mA s.mem.length mc, .slice sA s.stack.length sc, .slice none 0 0] := eX5 ▸ H_x.out.set_ 4 _
    have NB : Below w.heap.size w X5 := eX5 ▸ HB.out.setCell (p := ⟨v1.heap.size, 4, none⟩) (by show w.heap.size ≤ v1.heap.size; omega) _
    clear H_rd H_rs H_m H_x HB
    have H_rd := Lib.hid N_rd
    have H_rs := Lib.hid N_rs
    have H_m := Lib.hid N_m
    have H_x := Lib.hid N_x
    have HB := Lib.hid NB
    clear NB N_rd N_rs N_m N_x
    obtain ⟨X6, eX6⟩ : ∃ U, X5.setCell ⟨v1.heap.size, 5, none⟩ (.slice none 0 0) = U := ⟨_, rfl⟩
    have fX6 := H_x.out.frozen 5
    have cX6 := H_x.out.cell 5
    have N_rd : Blk X6 (w.heap.size + 1 + 1 + 1) 30 #[.slice none 0 0, .int .i64 0, .slice none 0 0] := eX6 ▸ H_rd.out.other (show v1.heap.size ≠ w.heap.size + 1 + 1 + 1 by omega) _
    have N_rs : Blk X6 (w.heap.size + 1 + 1 + 1 + 1) 39 #[.int .i64 0, .int .i64 0, .slice none 0 0, .slice none 0 0, .slice none 0 0, .slice none 0 0] := eX6 ▸ H_rs.out.other (show v1.heap.size ≠ w.heap.size + 1 + 1 + 1 + 1 by omega) _
    have N_m : Blk X6 (w1.heap.size) 59 #[.int .i64 (k : Int), .int .i64 p.code, .int .i64 p.mem, .int .i64 p.stack, .int .i64 p.val, .slice Q 13 f, .slice none 0 0, .int .i64 0, .slice none 0 0, .int .i64 (er : Int)] := eX6 ▸ H_m.out.other (show v1.heap.size ≠ w1.heap.size by omega) _
    have N_x : Blk X6 (v1.heap.size) 39 #[.int .i64 s.pc.v, .int .i64 s.pc.l, .slice cA s.code.length cc, .slice mA s.mem.length mc, .slice sA s.stack.length sc, .slice none 0 0] := eX6 ▸ H_x.out.set_ 5 _
    have NB : Below w.heap.size w X6 := eX6 ▸ HB.out.setCell (p := ⟨v1.heap.size, 5, none⟩) (by show w.heap.size ≤ v1.heap.size; omega) _
    clear H_rd H_rs H_m H_x HB
    have H_rd := Lib.hid N_rd
    have H_rs := Lib.hid N_rs
    have H_m := Lib.hid N_m
    have H_x := Lib.hid N_x
    have HB := Lib.hid NB
    clear NB N_rd N_rs N_m N_x
    have m9 := H_m.out.cell 9
    have M9 := Lib.hid m9
    go_wp2_with (fail)
    clear eX1 fX1 cX1 eX2 fX2 cX2 eX3 fX3 cX3 eX4 fX4 cX4 eX5 fX5 cX5 eX6 fX6 cX6 hv2 m9
    refine Free.region_seq [6, 7] [5] 9 (fun W' => W'.cell? ⟨w1.heap.size, 9, none⟩ = some (.int .i64 (er : Int))) (by kernel_rfl) (by kernel_rfl) (by kernel_rfl) (by kernel_rfl) (M9.out) (fun ops hops => ?_)
    clear hops
    iterate 6
      refine Free.Seq.quiet (v := ?_) (a' := ?_) rfl rfl (fun W' hW' => ?_) ?_ ?_
      rotate_left 2
      · first | obtain s0 := hW' rfl | skip
        go_simp
        try with_reducible rfl
      · simp only [Act.put, List.setIfInBounds_toArray, List.set_cons_zero, List.set_cons_succ]
        try with_reducible rfl
    have HDW := Lib.hid (show Below w.heap.size w X6.drew from HB.out.drew)
    clear HB
    have HB := HDW
    clear HDW
    have Z_rd : Blk X6.drew (w.heap.size + 1 + 1 + 1) 30 #[.slice none 0 0, .int .i64 0, .slice none 0 0] := H_rd.out.drew
    clear H_rd
    have H_rd := Lib.hid Z_rd
    clear Z_rd
    have Z_rs : Blk X6.drew (w.heap.size + 1 + 1 + 1 + 1) 39 #[.int .i64 0, .int .i64 0, .slice none 0 0, .slice none 0 0, .slice none 0 0, .slice none 0 0] := H_rs.out.drew
    clear H_rs
    have H_rs := Lib.hid Z_rs
    clear Z_rs
    have Z_m : Blk X6.drew (w1.heap.size) 59 #[.int .i64 (k : Int), .int .i64 p.code, .int .i64 p.mem, .int .i64 p.stack, .int .i64 p.val, .slice Q 13 f, .slice none 0 0, .int .i64 0, .slice none 0 0, .int .i64 (er : Int)] := H_m.out.drew
    clear H_m
    have H_m := Lib.hid Z_m
    clear Z_m
    have Z_x : Blk X6.drew (v1.heap.size) 39 #[.int .i64 s.pc.v, .int .i64 s.pc.l, .slice cA s.code.length cc, .slice mA s.mem.length mc, .slice sA s.stack.length sc, .slice none 0 0] := H_x.out.drew
    clear H_x
    have H_x := Lib.hid Z_x
    clear Z_x
    obtain ⟨X7, eX7⟩ : ∃ U, X6.drew.setCell ⟨w.heap.size + 1 + 1 + 1, 0, none⟩ (.slice none 0 0) = U := ⟨_, rfl⟩
    have fX7 := H_rd.out.frozen 0
    have cX7 := H_rd.out.cell 0
    have N_rd : Blk X7 (w.heap.size + 1 + 1 + 1) 30 #[.slice none 0 0, .int .i64 0, .slice none 0 0] := eX7 ▸ H_rd.out.set_ 0 _
    have N_rs : Blk X7 (w.heap.size + 1 + 1 + 1 + 1) 39 #[.int .i64 0, .int .i64 0, .slice none 0 0, .slice none 0 0, .slice none 0 0, .slice none 0 0] := eX7 ▸ H_rs.out.other (show w.heap.size + 1 + 1 + 1 ≠ w.heap.size + 1 + 1 + 1 + 1 by omega) _
    have N_m : Blk X7 (w1.heap.size) 59 #[.int .i64 (k : Int), .int .i64 p.code, .int .i64 p.mem, .int .i64 p.stack, .int .i64 p.val, .slice Q 13 f, .slice none 0 0, .int .i64 0, .slice none 0 0, .int .i64 (er : Int)] := eX7 ▸ H_m.out.other (show w.heap.size + 1 + 1 + 1 ≠ w1.heap.size by omega) _
    have N_x : Blk X7 (v1.heap.size) 39 #[.int .i64 s.pc.v, .int .i64 s.pc.l, .slice cA s.code.length cc, .slice mA s.mem.length mc, .slice sA s.stack.length sc, .slice none 0 0] := eX7 ▸ H_x.out.other (show w.heap.size + 1 + 1 + 1 ≠ v1.heap.size by omega) _
    have NB : Below w.heap.size w X7 := eX7 ▸ HB.out.setCell (p := ⟨w.heap.size + 1 + 1 + 1, 0, none⟩) (by show w.heap.size ≤ w.heap.size + 1 + 1 + 1; omega) _
    clear H_rd H_rs H_m H_x HB
    have H_rd := Lib.hid N_rd
    have H_rs := Lib.hid N_rs
    have H_m := Lib.hid N_m
    have H_x := Lib.hid N_x
    have HB := Lib.hid NB
    clear NB N_rd N_rs N_m N_x
    obtain ⟨X8, eX8⟩ : ∃ U, X7.setCell ⟨w.heap.size + 1 + 1 + 1, 1, none⟩ (.int .i64 0) = U := ⟨_, rfl⟩
    have fX8 := H_rd.out.frozen 1
    have cX8 := H_rd.out.cell 1
    have N_rd : Blk X8 (w.heap.size + 1 + 1 + 1) 30 #[.slice none 0 0, .int .i64 0, .slice none 0 0] := eX8 ▸ H_rd.out.set_ 1 _
    have N_rs : Blk X8 (w.heap.size + 1 + 1 + 1 + 1) 39 #[.int .i64 0, .int .i64 0, .slice none 0 0, .slice none 0 0, .slice none 0 0, .slice none 0 0] := eX8 ▸ H_rs.out.other (show w.heap.size + 1 + 1 + 1 ≠ w.heap.size + 1 + 1 + 1 + 1 by omega) _
    have N_m : Blk X8 (w1.heap.size) 59 #[.int .i64 (k : Int), .int .i64 p.code, .int .i64 p.mem, .int .i64 p.stack, .int .i64 p.val, .slice Q 13 f, .slice none 0 0, .int .i64 0, .slice none 0 0, .int .i64 (er : Int)] := eX8 ▸ H_m.out.other (show w.heap.size + 1 + 1 + 1 ≠ w1.heap.size by omega) _
    have N_x : Blk X8 (v1.heap.size) 39 #[.int .i64 s.pc.v, .int .i64 s.pc.l, .slice cA s.code.length cc, .slice mA s.mem.length mc, .slice sA s.stack.length sc, .slice none 0 0] := eX8 ▸ H_x.out.other (show w.heap.size + 1 + 1 + 1 ≠ v1.heap.size by omega) _
    have NB : Below w.heap.size w X8 := eX8 ▸ HB.out.setCell (p := ⟨w.heap.size + 1 + 1 + 1, 1, none⟩) (by show w.heap.size ≤ w.heap.size + 1 + 1 + 1; omega) _
    clear H_rd H_rs H_m H_x HB
    have H_rd := Lib.hid N_rd
    have H_rs := Lib.hid N_rs
    have H_m := Lib.hid N_m
    have H_x := Lib.hid N_x
    have HB := Lib.hid NB
    clear NB N_rd N_rs N_m N_x
    obtain ⟨X9, eX9⟩ : ∃ U, X8.setCell ⟨w.heap.size + 1 + 1 + 1, 2, none⟩ (.slice none 0 0) = U := ⟨_, rfl⟩
    have fX9 := H_rd.out.frozen 2
    have cX9 := H_rd.out.cell 2
    have N_rd : Blk X9 (w.heap.size + 1 + 1 + 1) 30 #[.slice none 0 0, .int .i64 0, .slice none 0 0] := eX9 ▸ H_rd.out.set_ 2 _
    have N_rs : Blk X9 (w.heap.size + 1 + 1 + 1 + 1) 39 #[.int .i64 0, .int .i64 0, .slice none 0 0, .slice none 0 0, .slice none 0 0, .slice none 0 0] := eX9 ▸ H_rs.out.other (show w.heap.size + 1 + 1 + 1 ≠ w.heap.size + 1 + 1 + 1 + 1 by omega) _
    have N_m : Blk X9 (w1.heap.size) 59 #[.int .i64 (k : Int), .int .i64 p.code, .int .i64 p.mem, .int .i64 p.stack, .int .i64 p.val, .slice Q 13 f, .slice none 0 0, .int .i64 0, .slice none 0 0, .int .i64 (er : Int)] := eX9 ▸ H_m.out.other (show w.heap.size + 1 + 1 + 1 ≠ w1.heap.size by omega) _
    have N_x : Blk X9 (v1.heap.size) 39 #[.int .i64 s.pc.v, .int .i64 s.pc.l, .slice cA s.code.length cc, .slice mA s.mem.length mc, .slice sA s.stack.length sc, .slice none 0 0] := eX9 ▸ H_x.out.other (show w.heap.size + 1 + 1 + 1 ≠ v1.heap.size by omega) _
    have NB : Below w.heap.size w X9 := eX9 ▸ HB.out.setCell (p := ⟨w.heap.size + 1 + 1 + 1, 2, none⟩) (by show w.heap.size ≤ w.heap.size + 1 + 1 + 1; omega) _
    clear H_rd H_rs H_m H_x HB
    have H_rd := Lib.hid N_rd
    have H_rs := Lib.hid N_rs
    have H_m := Lib.hid N_m
    have H_x := Lib.hid N_x
    have HB := Lib.hid NB
    clear NB N_rd N_rs N_m N_x
    have M91 := Lib.hid (H_m.out.cell 9)
    refine Free.Seq.loud_ rfl (.inl rfl) (fun K hK => ?_)
    go_simp
    refine hK.out _ _ rfl (fun _ => M91.out) ?_
    clear hK K eX7 fX7 cX7 eX8 fX8 cX8 eX9 fX9 cX9
    obtain ⟨X10, eX10⟩ : ∃ U, X9.setCell ⟨w.heap.size + 1 + 1 + 1 + 1, 0, none⟩ (.int .i64 0) = U := ⟨_, rfl⟩
    have fX10 := H_rs.out.frozen 0
    have cX10 := H_rs.out.cell 0
    have N_rd : Blk X10 (w.heap.size + 1 + 1 + 1) 30 #[.slice none 0 0, .int .i64 0, .slice none 0 0] := eX10 ▸ H_rd.out.other (show w.heap.size + 1 + 1 + 1 + 1 ≠ w.heap.size + 1 + 1 + 1 by omega) _
    have N_rs : Blk X10 (w.heap.size + 1 + 1 + 1 + 1) 39 #[.int .i64 0, .int .i64 0, .slice none 0 0, .slice none 0 0, .slice none 0 0, .slice none 0 0] := eX10 ▸ H_rs.out.set_ 0 _
    have N_m : Blk X10 (w1.heap.size) 59 #[.int .i64 (k : Int), .int .i64 p.code, .int .i64 p.mem, .int .i64 p.stack, .int .i64 p.val, .slice Q 13 f, .slice none 0 0, .int .i64 0, .slice none 0 0, .int .i64 (er : Int)] := eX10 ▸ H_m.out.other (show w.heap.size + 1 + 1 + 1 + 1 ≠ w1.heap.size by omega) _
    have N_x : Blk X10 (v1.heap.size) 39 #[.int .i64 s.pc.v, .int .i64 s.pc.l, .slice cA s.code.length cc, .slice mA s.mem.length mc, .slice sA s.stack.length sc, .slice none 0 0] := eX10 ▸ H_x.out.other (show w.heap.size + 1 + 1 + 1 + 1 ≠ v1.heap.size by omega) _
    have NB : Below w.heap.size w X10 := eX10 ▸ HB.out.setCell (p := ⟨w.heap.size + 1 + 1 + 1 + 1, 0, none⟩) (by show w.heap.size ≤ w.heap.size + 1 + 1 + 1 + 1; omega) _
    clear H_rd H_rs H_m H_x HB
    have H_rd := Lib.hid N_rd
    have H_rs := Lib.hid N_rs
    have H_m := Lib.hid N_m
    have H_x := Lib.hid N_x
    have HB := Lib.hid NB
    clear NB N_rd N_rs N_m N_x
    obtain ⟨X11, eX11⟩ : ∃ U, X10.setCell ⟨w.heap.size + 1 + 1 + 1 + 1, 1, none⟩ (.int .i64 0) = U := ⟨_, rfl⟩
    have fX11 := H_rs.out.frozen 1
    have cX11 := H_rs.out.cell 1
    have N_rd : Blk X11 (w.heap.size + 1 + 1 + 1) 30 #[.slice none 0 0, .int .i64 0, .slice none 0 0] := eX11 ▸ H_rd.out.other (show w.heap.size + 1 + 1 + 1 + 1 ≠ w.heap.size + 1 + 1 + 1 by omega) _
    have N_rs : Blk X11 (w.heap.size + 1 + 1 + 1 + 1) 39 #[.int .i64 0, .int .i64 0, .slice none 0 0, .slice none 0 0, .slice none 0 0, .slice none 0 0] := eX11 ▸ H_rs.out.set_ 1 _
    have N_m : Blk X11 (w1.heap.size) 59 #[.int .i64 (k : Int), .int .i64 p.code, .int .i64 p.mem, .int .i64 p.stack, .int .i64 p.val, .slice Q 13 f, .slice none 0 0, .int .i64 0, .slice none 0 0, .int .i64 (er : Int)] := eX11 ▸ H_m.out.other (show w.heap.size + 1 + 1 + 1 + 1 ≠ w1.heap.size by omega) _
    have N_x : Blk X11 (v1.heap.size) 39 #[.int .i64 s.pc.v, .int .i64 s.pc.l, .slice cA s.code.length cc, .slice mA s.mem.length mc, .slice sA s.stack.length sc, .slice none 0 0] := eX11 ▸ H_x.out.other (show w.heap.size + 1 + 1 + 1 + 1 ≠ v1.heap.size by omega) _
    have NB : Below w.heap.size w X11 := eX11 ▸ HB.out.setCell (p := ⟨w.heap.size + 1 + 1 + 1 + 1, 1, none⟩) (by show w.heap.size ≤ w.heap.size + 1 + 1 + 1 + 1; omega) _
    clear H_rd H_rs H_m H_x HB
    have H_rd := Lib.hid N_rd
    have H_rs := Lib.hid N_rs
    have H_m := Lib.hid N_m
    have H_x := Lib.hid N_x
    have HB := Lib.hid NB
    clear NB N_rd N_rs N_m N_x
    obtain ⟨X12, eX12⟩ : ∃ U, X11.setCell ⟨w.heap.size + 1 + 1 + 1 + 1, 2, none⟩ (.slice none 0 0) = U := ⟨_, rfl⟩
    have fX12 := H_rs.out.frozen 2
    have cX12 := H_rs.out.cell 2
    have N_rd : Blk X12 (w.heap.size + 1 + 1 + 1) 30 #[.slice none 0 0, .int .i64 0, .slice none 0 0] := eX12 ▸ H_rd.out.other (show w.heap.size + 1 + 1 + 1 + 1 ≠ w.heap.size + 1 + 1 + 1 by omega) _
    have N_rs : Blk X12 (w.heap.size + 1 + 1 + 1 + 1) 39 #[.int .i64 0, .int .i64 0, .slice none 0 0, .slice none 0 0, .slice none 0 0, .slice none 0 0] := eX12 ▸ H_rs.out.set_ 2 _
    have N_m : Blk X12 (w1.heap.size) 59 #[.int .i64 (k : Int), .int .i64 p.code, .int .i64 p.mem, .int .i64 p.stack, .int .i64 p.val, .slice Q 13 f, .slice none 0 0, .int .i64 0, .slice none 0 0, .int .i64 (er : Int)] := eX12 ▸ H_m.out.other (show w.heap.size + 1 + 1 + 1 + 1 ≠ w1.heap.size by omega) _
    have N_x : Blk X12 (v1.heap.size) 39 #[.int .i64 s.pc.v, .int .i64 s.pc.l, .slice cA s.code.length cc, .slice mA s.mem.length mc, .slice sA s.stack.length sc, .slice none 0 0] := eX12 ▸ H_x.out.other (show w.heap.size + 1 + 1 + 1 + 1 ≠ v1.heap.size by omega) _
    have NB : Below w.heap.size w X12 := eX12 ▸ HB.out.setCell (p := ⟨w.heap.size + 1 + 1 + 1 + 1, 2, none⟩) (by show w.heap.size ≤ w.heap.size + 1 + 1 + 1 + 1; omega) _
    clear H_rd H_rs H_m H_x HB
    have H_rd := Lib.hid N_rd
    have H_rs := Lib.hid N_rs
    have H_m := Lib.hid N_m
    have H_x := Lib.hid N_x
    have HB := Lib.hid NB
    clear NB N_rd N_rs N_m N_x
    obtain ⟨X13, eX13⟩ : ∃ U, X12.setCell ⟨w.heap.size + 1 + 1 + 1 + 1, 3, none⟩ (.slice none 0 0) = U := ⟨_, rfl⟩
    have fX13 := H_rs.out.frozen 3
    have cX13 := H_rs.out.cell 3
    have N_rd : Blk X13 (w.heap.size + 1 + 1 + 1) 30 #[.slice none 0 0, .int .i64 0, .slice none 0 0] := eX13 ▸ H_rd.out.other (show w.heap.size + 1 + 1 + 1 + 1 ≠ w.heap.size + 1 + 1 + 1 by omega) _
    have N_rs : Blk X13 (w.heap.size + 1 + 1 + 1 + 1) 39 #[.int .i64 0, .int .i64 0, .slice none 0 0, .slice none 0 0, .slice none 0 0, .slice none 0 0] := eX13 ▸ H_rs.out.set_ 3 _
    have N_m : Blk X13 (w1.heap.size) 59 #[.int .i64 (k : Int), .int .i64 p.code, .int .i64 p.mem, .int .i64 p.stack, .int .i64 p.val, .slice Q 13 f, .slice none 0 0, .int .i64 0, .slice none 0 0, .int .i64 (er : Int)] := eX13 ▸ H_m.out.other (show w.heap.size + 1 + 1 + 1 + 1 ≠ w1.heap.size by omega) _
    have N_x : Blk X13 (v1.heap.size) 39 #[.int .i64 s.pc.v, .int .i64 s.pc.l, .slice cA s.code.length cc, .slice mA s.mem.length mc, .slice sA s.stack.length sc, .slice none 0 0] := eX13 ▸ H_x.out.other (show w.heap.size + 1 + 1 + 1 + 1 ≠ v1.heap.size by omega) _
    have NB : Below w.heap.size w X13 := eX13 ▸ HB.out.setCell (p := ⟨w.heap.size + 1 + 1 + 1 + 1, 3, none⟩) (by show w.heap.size ≤ w.heap.size + 1 + 1 + 1 + 1; omega) _
    clear H_rd H_rs H_m H_x HB
    have H_rd := Lib.hid N_rd
    have H_rs := Lib.hid N_rs
    have H_m := Lib.hid N_m
    have H_x := Lib.hid N_x
    have HB := Lib.hid NB
    clear NB N_rd N_rs N_m N_x
    obtain ⟨X14, eX14⟩ : ∃ U, X13.setCell ⟨w.heap.size + 1 + 1 + 1 + 1, 4, none⟩ (.slice none 0 0) = U := ⟨_, rfl⟩
    have fX14 := H_rs.out.frozen 4
    have cX14 := H_rs.out.cell 4
    have N_rd : Blk X14 (w.heap.size + 1 + 1 + 1) 30 #[.slice none 0 0, .int .i64 0, .slice none 0 0] := eX14 ▸ H_rd.out.other (show w.heap.size + 1 + 1 + 1 + 1 ≠ w.heap.size + 1 + 1 + 1 by omega) _
    have N_rs : Blk X14 (w.heap.size + 1 + 1 + 1 + 1) 39 #[.int .i64 0, .int .i64 0, .slice none 0 0, .slice none 0 0, .slice none 0 0, .slice none 0 0] := eX14 ▸ H_rs.out.set_ 4 _
    have N_m : Blk X14 (w1.heap.size) 59 #[.int .i64 (k : Int), .int .i64 p.code, .int .i64 p.mem, .int .i64 p.stack, .int .i64 p.val, .slice Q 13 f, .slice none 0 0, .int .i64 0, .slice none 0 0, .int .i64 (er : Int)] := eX14 ▸ H_m.out.other (show w.heap.size + 1 + 1 + 1 + 1 ≠ w1.heap.size by omega) _
    have N_x : Blk X14 (v1.heap.size) 39 #[.int .i64 s.pc.v, .int .i64 s.pc.l, .slice cA s.code.length cc, .slice mA s.mem.length mc, .slice sA s.stack.length sc, .slice none 0 0] := eX14 ▸ H_x.out.other (show w.heap.size + 1 + 1 + 1 + 1 ≠ v1.heap.size by omega) _
    have NB : Below w.heap.size w X14 := eX14 ▸ HB.out.setCell (p := ⟨w.heap.size + 1 + 1 + 1 + 1, 4, none⟩) (by show w.heap.size ≤ w.heap.size + 1 + 1 + 1 + 1; omega) _
    clear H_rd H_rs H_m H_x HB
    have H_rd := Lib.hid N_rd
    have H_rs := Lib.hid N_rs
    have H_m := Lib.hid N_m
    have H_x := Lib.hid N_x
    have HB := Lib.hid NB
    clear NB N_rd N_rs N_m N_x
    obtain ⟨X15, eX15⟩ : ∃ U, X14.setCell ⟨w.heap.size + 1 + 1 + 1 + 1, 5, none⟩ (.slice none 0 0) = U := ⟨_, rfl⟩
    have fX15 := H_rs.out.frozen 5
    have cX15 := H_rs.out.cell 5
    have N_rd : Blk X15 (w.heap.size + 1 + 1 + 1) 30 #[.slice none 0 0, .int .i64 0, .slice none 0 0] := eX15 ▸ H_rd.out.other (show w.heap.size + 1 + 1 + 1 + 1 ≠ w.heap.size + 1 + 1 + 1 by omega) _
    have N_rs : Blk X15 (w.heap.size + 1 + 1 + 1 + 1) 39 #[.int .i64 0, .int .i64 0, .slice none 0 0, .slice none 0 0, .slice none 0 0, .slice none 0 0] := eX15 ▸ H_rs.out.set_ 5 _
    have N_m : Blk X15 (w1.heap.size) 59 #[.int .i64 (k : Int), .int .i64 p.code, .int .i64 p.mem, .int .i64 p.stack, .int .i64 p.val, .slice Q 13 f, .slice none 0 0, .int .i64 0, .slice none 0 0, .int .i64 (er : Int)] := eX15 ▸ H_m.out.other (show w.heap.size + 1 + 1 + 1 + 1 ≠ w1.heap.size by omega) _
    have N_x : Blk X15 (v1.heap.size) 39 #[.int .i64 s.pc.v, .int .i64 s.pc.l, .slice cA s.code.length cc, .slice mA s.mem.length mc, .slice sA s.stack.length sc, .slice none 0 0] := eX15 ▸ H_x.out.other (show w.heap.size + 1 + 1 + 1 + 1 ≠ v1.heap.size by omega) _
    have NB : Below w.heap.size w X15 := eX15 ▸ HB.out.setCell (p := ⟨w.heap.size + 1 + 1 + 1 + 1, 5, none⟩) (by show w.heap.size ≤ w.heap.size + 1 + 1 + 1 + 1; omega) _
    clear H_rd H_rs H_m H_x HB
    have H_rd := Lib.hid N_rd
    have H_rs := Lib.hid N_rs
    have H_m := Lib.hid N_m
    have H_x := Lib.hid N_x
    have HB := Lib.hid NB
    clear NB N_rd N_rs N_m N_x
    have M92 := Lib.hid (H_m.out.cell 9)
    refine Free.Seq.loud_ rfl (.inl rfl) (fun K hK => ?_)
    go_simp
    refine hK.out _ _ rfl (fun _ => M92.out) ?_
    clear hK K eX10 fX10 cX10 eX11 fX11 cX11 eX12 fX12 cX12 eX13 fX13 cX13 eX14 fX14 cX14 eX15 fX15 cX15
    iterate 1
      refine Free.Seq.quiet (v := ?_) (a' := ?_) rfl rfl (fun W' hW' => ?_) ?_ ?_
      rotate_left 2
      · first | obtain s0 := hW' rfl | skip
        go_simp
        try with_reducible rfl
      · simp only [Act.put, List.setIfInBounds_toArray, List.set_cons_zero, List.set_cons_succ]
        try with_reducible rfl
    refine Free.Seq.nil_ ?_
    have r0 := H_rd.out.cell 0
    have r1 := H_rd.out.cell 1
    have r2 := H_rd.out.cell 2
    have t0 := H_rs.out.cell 0
    have t1 := H_rs.out.cell 1
    have t2 := H_rs.out.cell 2
    have t3 := H_rs.out.cell 3
    have t4 := H_rs.out.cell 4
    have t5 := H_rs.out.cell 5
    go_wp2
    exact bodyPost_ret (v := .tuple #[.agg #[.slice none 0 0, .int .i64 0, .slice none 0 0], .agg #[.int .i64 0, .int .i64 0, .slice none 0 0, .slice none 0 0, .slice none 0 0, .slice none 0 0], .int .i64 (er : Int)]) (by simp [results, Try.results7, go_sem, r0, r1, r2, t0, t1, t2, t3, t4, t5]) rfl ⟨rfl, HB.out⟩
  | some r9 =>
    obtain ⟨s9, d9⟩ := r9
    obtain rfl := HSV.out s9 d9 rfl
    obtain rfl : GYes w B n list s9 d9 = post := HPOST.out
    obtain ⟨hy, hl9, -⟩ := RSH.out
    have RAG := Lib.hid (RW.out s9 d9 rfl).1
    have RLG := Lib.hid (RW.out s9 d9 rfl).2
    have HL9 := Lib.hid hl9
    obtain ⟨yA, yn, yc, yi, yL, ymm, yd, yx, ye⟩ := ym
    injection hy with e1 e2 e3 e4 e5 e6 e7 e8 e9
    try dsimp only at e2 e4 e6 e8 e9
    subst e2 e4 e6 e8 e9
    clear e1 e3 e5 e7 RW RSH HSV hl9 hz
    dsimp only at H_m RAG RLG
    obtain ⟨X1, eX1⟩ : ∃ U, v2.setCell ⟨v1.heap.size, 0, none⟩ (.int .i64 s9.pc.v) = U := ⟨_, rfl⟩
    have fX1 := H_x.out.frozen 0
    have cX1 := H_x.out.cell 0
    have N_rd : Blk X1 (w.heap.size + 1 + 1 + 1) 30 #[.slice none 0 0, .int .i64 0, .slice none 0 0] := eX1 ▸ H_rd.out.other (show v1.heap.size ≠ w.heap.size + 1 + 1 + 1 by omega) _
    have N_rs : Blk X1 (w.heap.size + 1 + 1 + 1 + 1) 39 #[.int .i64 0, .int .i64 0, .slice none 0 0, .slice none 0 0, .slice none 0 0, .slice none 0 0] := eX1 ▸ H_rs.out.other (show v1.heap.size ≠ w.heap.size + 1 + 1 + 1 + 1 by omega) _
    have N_m : Blk X1 (w1.heap.size) 59 #[.int .i64 (k : Int), .int .i64 p.code, .int .i64 p.mem, .int .i64 p.stack, .int .i64 p.val, .slice Q 13 f, .slice yA yn yc, .int .i64 (d9.i : Int), .slice yL d9.log.length yd, .int .i64 0] := eX1 ▸ H_m.out.other (show v1.heap.size ≠ w1.heap.size by omega) _
    have N_x : Blk X1 (v1.heap.size) 39 #[.int .i64 s9.pc.v, .int .i64 0, .slice none 0 0, .slice none 0 0, .slice none 0 0, .slice none 0 0] := eX1 ▸ H_x.out.set_ 0 _
    have NB : Below w.heap.size w X1 := eX1 ▸ HB.out.setCell (p := ⟨v1.heap.size, 0, none⟩) (by show w.heap.size ≤ v1.heap.size; omega) _
    have NRAG := eX1 ▸ RAG.out.move (Mv.set_ (p := ⟨v1.heap.size, 0, none⟩) H_x.out (by decide) (show B ≤ v1.heap.size by omega) (.int .i64 s9.pc.v))
    have NRLG := eX1 ▸ RLG.out.move (Mv.set_ (p := ⟨v1.heap.size, 0, none⟩) H_x.out (by decide) (show B ≤ v1.heap.size by omega) (.int .i64 s9.pc.v))
    have NOC := eX1 ▸ own_ofD OC.out fun g9 hg9 => Below.heap_setCell v2 ⟨v1.heap.size, 0, none⟩ (.int .i64 s9.pc.v) g9 (by
      obtain ⟨cs9, hb9⟩ := own_blkD OC.out hg9
      exact hb9.ty_neD H_x.out (by decide))
    have NOM := eX1 ▸ own_ofD OM.out fun g9 hg9 => Below.heap_setCell v2 ⟨v1.heap.size, 0, none⟩ (.int .i64 s9.pc.v) g9 (by
      obtain ⟨cs9, hb9⟩ := own_blkD OM.out hg9
      exact hb9.ty_neD H_x.out (by decide))
    have NOS := eX1 ▸ own_ofD OS.out fun g9 hg9 => Below.heap_setCell v2 ⟨v1.heap.size, 0, none⟩ (.int .i64 s9.pc.v) g9 (by
      obtain ⟨cs9, hb9⟩ := own_blkD OS.out hg9
      exact hb9.ty_neD H_x.out (by decide))
    clear H_rd H_rs H_m H_x HB RAG RLG OC OM OS
    have H_rd := Lib.hid N_rd
    have H_rs := Lib.hid N_rs
    have H_m := Lib.hid N_m
    have H_x := Lib.hid N_x
    have HB := Lib.hid NB
    clear NB N_rd N_rs N_m N_x
    have RAG := Lib.hid NRAG
    clear NRAG
    have RLG := Lib.hid NRLG
    clear NRLG
    have OC := Lib.hid NOC
    clear NOC
    have OM := Lib.hid NOM
    clear NOM
    have OS := Lib.hid NOS
    clear NOS
    obtain ⟨X2, eX2⟩ : ∃ U, X1.setCell ⟨v1.heap.size, 1, none⟩ (.int .i64 s9.pc.l) = U := ⟨_, rfl⟩
    have fX2 := H_x.out.frozen 1
    have cX2 := H_x.out.cell 1
    have N_rd : Blk X2 (w.heap.size + 1 + 1 + 1) 30 #[.slice none 0 0, .int .i64 0, .slice none 0 0] := eX2 ▸ H_rd.out.other (show v1.heap.size ≠ w.heap.size + 1 + 1 + 1 by omega) _
    have N_rs : Blk X2 (w.heap.size + 1 + 1 + 1 + 1) 39 #[.int .i64 0, .int .i64 0, .slice none 0 0, .slice none 0 0, .slice none 0 0, .slice none 0 0] := eX2 ▸ H_rs.out.other (show v1.heap.size ≠ w.heap.size + 1 + 1 + 1 + 1 by omega) _
    have N_m : Blk X2 (w1.heap.size) 59 #[.int .i64 (k : Int), .int .i64 p.code, .int .i64 p.mem, .int .i64 p.stack, .int .i64 p.val, .slice Q 13 f, .slice yA yn yc, .int .i64 (d9.i : Int), .slice yL d9.log.length yd, .int .i64 0] := eX2 ▸ H_m.out.other (show v1.heap.size ≠ w1.heap.size by omega) _
    have N_x : Blk X2 (v1.heap.size) 39 #[.int .i64 s9.pc.v, .int .i64 s9.pc.l, .slice none 0 0, .slice none 0 0, .slice none 0 0, .slice none 0 0] := eX2 ▸ H_x.out.set_ 1 _
    have NB : Below w.heap.size w X2 := eX2 ▸ HB.out.setCell (p := ⟨v1.heap.size, 1, none⟩) (by show w.heap.size ≤ v1.heap.size; omega) _
    have NRAG := eX2 ▸ RAG.out.move (Mv.set_ (p := ⟨v1.heap.size, 1, none⟩) H_x.out (by decide) (show B ≤ v1.heap.size by omega) (.int .i64 s9.pc.l))
    have NRLG := eX2 ▸ RLG.out.move (Mv.set_ (p := ⟨v1.heap.size, 1, none⟩) H_x.out (by decide) (show B ≤ v1.heap.size by omega) (.int .i64 s9.pc.l))
    have NOC := eX2 ▸ own_ofD OC.out fun g9 hg9 => Below.heap_setCell X1 ⟨v1.heap.size, 1, none⟩ (.int .i64 s9.pc.l) g9 (by
      obtain ⟨cs9, hb9⟩ := own_blkD OC.out hg9
      exact hb9.ty_neD H_x.out (by decide))
    have NOM := eX2 ▸ own_ofD OM.out fun g9 hg9 => Below.heap_setCell X1 ⟨v1.heap.size, 1, none⟩ (.int .i64 s9.pc.l) g9 (by
      obtain ⟨cs9, hb9⟩ := own_blkD OM.out hg9
      exact hb9.ty_neD H_x.out (by decide))
    have NOS := eX2 ▸ own_ofD OS.out fun g9 hg9 => Below.heap_setCell X1 ⟨v1.heap.size, 1, none⟩ (.int .i64 s9.pc.l) g9 (by
      obtain ⟨cs9, hb9⟩ := own_blkD OS.out hg9
      exact hb9.ty_neD H_x.out (by decide))
    clear H_rd H_rs H_m H_x HB RAG RLG OC OM OS
    have H_rd := Lib.hid N_rd
    have H_rs := Lib.hid N_rs
    have H_m := Lib.hid N_m
    have H_x := Lib.hid N_x
    have HB := Lib.hid NB
    clear NB N_rd N_rs N_m N_x
    have RAG := Lib.hid NRAG
    clear NRAG
    have RLG := Lib.hid NRLG
    clear NRLG
    have OC := Lib.hid NOC
    clear NOC
    have OM := Lib.hid NOM
    clear NOM
    have OS := Lib.hid NOS
    clear NOS
    obtain ⟨X3, eX3⟩ : ∃ U, X2.setCell ⟨v1.heap.size, 2, none⟩ (.slice cA s9.code.length cc) = U := ⟨_, rfl⟩
    have fX3 := H_x.out.frozen 2
    have cX3 := H_x.out.cell 2
    have N_rd : Blk X3 (w.heap.size + 1 + 1 + 1) 30 #[.slice none 0 0, .int .i64 0, .slice none 0 0] := eX3 ▸ H_rd.out.other (show v1.heap.size ≠ w.heap.size + 1 + 1 + 1 by omega) _
    have N_rs : Blk X3 (w.heap.size + 1 + 1 + 1 + 1) 39 #[.int .i64 0, .int .i64 0, .slice none 0 0, .slice none 0 0, .slice none 0 0, .slice none 0 0] := eX3 ▸ H_rs.out.other (show v1.heap.size ≠ w.heap.size + 1 + 1 + 1 + 1 by omega) _
    have N_m : Blk X3 (w1.heap.size) 59 #[.int .i64 (k : Int), .int .i64 p.code, .int .i64 p.mem, .int .i64 p.stack, .int .i64 p.val, .slice Q 13 f, .slice yA yn yc, .int .i64 (d9.i : Int), .slice yL d9.log.length yd, .int .i64 0] := eX3 ▸ H_m.out.other (show v1.heap.size ≠ w1.heap.size by omega) _
    have N_x : Blk X3 (v1.heap.size) 39 #[.int .i64 s9.pc.v, .int .i64 s9.pc.l, .slice cA s9.code.length cc, .slice none 0 0, .slice none 0 0, .slice none 0 0] := eX3 ▸ H_x.out.set_ 2 _
    have NB : Below w.heap.size w X3 := eX3 ▸ HB.out.setCell (p := ⟨v1.heap.size, 2, none⟩) (by show w.heap.size ≤ v1.heap.size; omega) _
    have NRAG := eX3 ▸ RAG.out.move (Mv.set_ (p := ⟨v1.heap.size, 2, none⟩) H_x.out (by decide) (show B ≤ v1.heap.size by omega) (.slice cA s9.code.length cc))
    have NRLG := eX3 ▸ RLG.out.move (Mv.set_ (p := ⟨v1.heap.size, 2, none⟩) H_x.out (by decide) (show B ≤ v1.heap.size by omega) (.slice cA s9.code.length cc))
    have NOC := eX3 ▸ own_ofD OC.out fun g9 hg9 => Below.heap_setCell X2 ⟨v1.heap.size, 2, none⟩ (.slice cA s9.code.length cc) g9 (by
      obtain ⟨cs9, hb9⟩ := own_blkD OC.out hg9
      exact hb9.ty_neD H_x.out (by decide))
    have NOM := eX3 ▸ own_ofD OM.out fun g9 hg9 => Below.heap_setCell X2 ⟨v1.heap.size, 2, none⟩ (.slice cA s9.code.length cc) g9 (by
      obtain ⟨cs9, hb9⟩ := own_blkD OM.out hg9
      exact hb9.ty_neD H_x.out (by decide))
    have NOS := eX3 ▸ own_ofD OS.out fun g9 hg9 => Below.heap_setCell X2 ⟨v1.heap.size, 2, none⟩ (.slice cA s9.code.length cc) g9 (by
      obtain ⟨cs9, hb9⟩ := own_blkD OS.out hg9
      exact hb9.ty_neD H_x.out (by decide))
    clear H_rd H_rs H_m H_x HB RAG RLG OC OM OS
    have H_rd := Lib.hid N_rd
    have H_rs := Lib.hid N_rs
    have H_m := Lib.hid N_m
    have H_x := Lib.hid N_x
    have HB := Lib.hid NB
    clear NB N_rd N_rs N_m N_x
    have RAG := Lib.hid NRAG
    clear NRAG
    have RLG := Lib.hid NRLG
    clear NRLG
    have OC := Lib.hid NOC
    clear NOC
    have OM := Lib.hid NOM
    clear NOM
    have OS := Lib.hid NOS
    clear NOS
    obtain ⟨X4, eX4⟩ : ∃ U, X3.setCell ⟨v1.heap.size, 3, none⟩ (.slice mA s9.mem.length mc) = U := ⟨_, rfl⟩
    have fX4 := H_x.out.frozen 3
    have cX4 := H_x.out.cell 3
    have N_rd : Blk X4 (w.heap.size + 1 + 1 + 1) 30 #[.slice none 0 0, .int .i64 0, .slice none 0 0] := eX4 ▸ H_rd.out.other (show v1.heap.size ≠ w.heap.size + 1 + 1 + 1 by omega) _
    have N_rs : Blk X4 (w.heap.size + 1 + 1 + 1 + 1) 39 #[.int .i64 0, .int .i64 0, .slice none 0 0, .slice none 0 0, .slice none 0 0, .slice none 0 0] := eX4 ▸ H_rs.out.other (show v1.heap.size ≠ w.heap.size + 1 + 1 + 1 + 1 by omega) _
    have N_m : Blk X4 (w1.heap.size) 59 #[.int .i64 (k : Int), .int .i64 p.code, .int .i64 p.mem, .int .i64 p.stack, .int .i64 p.val, .slice Q 13 f, .slice yA yn yc, .int .i64 (d9.i : Int), .slice yL d9.log.length yd, .int .i64 0] := eX4 ▸ H_m.out.other (show v1.heap.size ≠ w1.heap.size by omega) _
    have N_x : Blk X4 (v1.heap.size) 39 #[.int .i64 s9.pc.v, .int .i64 s9.pc.l, .slice cA s9.code.length cc, .slice mA s9.mem.length mc, .slice none 0 0, .slice none 0 0] := eX4 ▸ H_x.out.set_ 3 _
    have NB : Below w.heap.size w X4 := eX4 ▸ HB.out.setCell (p := ⟨v1.heap.size, 3, none⟩) (by show w.heap.size ≤ v1.heap.size; omega) _
    have NRAG := eX4 ▸ RAG.out.move (Mv.set_ (p := ⟨v1.heap.size, 3, none⟩) H_x.out (by decide) (show B ≤ v1.heap.size by omega) (.slice mA s9.mem.length mc))
    have NRLG := eX4 ▸ RLG.out.move (Mv.set_ (p := ⟨v1.heap.size, 3, none⟩) H_x.out (by decide) (show B ≤ v1.heap.size by omega) (.slice mA s9.mem.length mc))
    have NOC := eX4 ▸ own_ofD OC.out fun g9 hg9 => Below.heap_setCell X3 ⟨v1.heap.size, 3, none⟩ (.slice mA s9.mem.length mc) g9 (by
      obtain ⟨cs9, hb9⟩ := own_blkD OC.out hg9
      exact hb9.ty_neD H_x.out (by decide))
    have NOM := eX4 ▸ own_ofD OM.out fun g9 hg9 => Below.heap_setCell X3 ⟨v1.heap.size, 3, none⟩ (.slice mA s9.mem.length mc) g9 (by
      obtain ⟨cs9, hb9⟩ := own_blkD OM.out hg9
      exact hb9.ty_neD H_x.out (by decide))
    have NOS := eX4 ▸ own_ofD OS.out fun g9 hg9 => Below.heap_setCell X3 ⟨v1.heap.size, 3, none⟩ (.slice mA s9.mem.length mc) g9 (by
      obtain ⟨cs9, hb9⟩ := own_blkD OS.out hg9
      exact hb9.ty_neD H_x.out (by decide))
    clear H_rd H_rs H_m H_x HB RAG RLG OC OM OS
    have H_rd := Lib.hid N_rd
    have H_rs := Lib.hid N_rs
    have H_m := Lib.hid N_m
    have H_x := Lib.hid N_x
    have HB := Lib.hid NB
    clear NB N_rd N_rs N_m N_x
    have RAG := Lib.hid NRAG
    clear NRAG
    have RLG := Lib.hid NRLG
    clear NRLG
    have OC := Lib.hid NOC
    clear NOC
    have OM := Lib.hid NOM
    clear NOM
    have OS := Lib.hid NOS
    clear NOS
    obtain ⟨X5, eX5⟩ : ∃ U, X4.setCell ⟨v1.heap.size, 4, none⟩ (.slice sA s9.stack.length sc) = U := ⟨_, rfl⟩
    have fX5 := H_x.out.frozen 4
    have cX5 := H_x.out.cell 4
    have N_rd : Blk X5 (w.heap.size + 1 + 1 + 1) 30 #[.slice none 0 0, .int .i64 0, .slice none 0 0] := eX5 ▸ H_rd.out.other (show v1.heap.size ≠ w.heap.size + 1 + 1 + 1 by omega) _
    have N_rs : Blk X5 (w.heap.size + 1 + 1 + 1 + 1) 39 #[.int .i64 0, .int .i64 0, .slice none 0 0, .slice none 0 0, .slice none 0 0, .slice none 0 0] := eX5 ▸ H_rs.out.other (show v1.heap.size ≠ w.heap.size + 1 + 1 + 1 + 1 by omega) _
    have N_m : Blk X5 (w1.heap.size) 59 #[.int .i64 (k : Int), .int .i64 p.code, .int .i64 p.mem, .int .i64 p.stack, .int .i64 p.val, .slice Q 13 f, .slice yA yn yc, .int .i64 (d9.i : Int), .slice yL d9.log.length yd, .int .i64 0] := eX5 ▸ H_m.out.other (show v1.heap.size ≠ w1.heap.size by omega) _
    have N_x : Blk X5 (v1.heap.size) 39 #[.int .i64 s9.pc.v, .int .i64 s9.pc.l, .slice cA s9.code.length cc, .slice mA s9.mem.length mc, .slice sA s9.stack.length sc, .slice none 0 0] := eX5 ▸ H_x.out.set_ 4 _
    have NB : Below w.heap.size w X5 := eX5 ▸ HB.out.setCell (p := ⟨v1.heap.size, 4, none⟩) (by show w.heap.size ≤ v1.heap.size; omega) _
    have NRAG := eX5 ▸ RAG.out.move (Mv.set_ (p := ⟨v1.heap.size, 4, none⟩) H_x.out (by decide) (show B ≤ v1.heap.size by omega) (.slice sA s9.stack.length sc))
    have NRLG := eX5 ▸ RLG.out.move (Mv.set_ (p := ⟨v1.heap.size, 4, none⟩) H_x.out (by decide) (show B ≤ v1.heap.size by omega) (.slice sA s9.stack.length sc))
    have NOC := eX5 ▸ own_ofD OC.out fun g9 hg9 => Below.heap_setCell X4 ⟨v1.heap.size, 4, none⟩ (.slice sA s9.stack.length sc) g9 (by
      obtain ⟨cs9, hb9⟩ := own_blkD OC.out hg9
      exact hb9.ty_neD H_x.out (by decide))
    have NOM := eX5 ▸ own_ofD OM.out fun g9 hg9 => Below.heap_setCell X4 ⟨v1.heap.size, 4, none⟩ (.slice sA s9.stack.length sc) g9 (by
      obtain ⟨cs9, hb9⟩ := own_blkD OM.out hg9
      exact hb9.ty_neD H_x.out (by decide))
    have NOS := eX5 ▸ own_ofD OS.out fun g9 hg9 => Below.heap_setCell X4 ⟨v1.heap.size, 4, none⟩ (.slice sA s9.stack.length sc) g9 (by
      obtain ⟨cs9, hb9⟩ := own_blkD OS.out hg9
      exact hb9.ty_neD H_x.out (by decide))
    clear H_rd H_rs H_m H_x HB RAG RLG OC OM OS
    have H_rd := Lib.hid N_rd
    have H_rs := Lib.hid N_rs
    have H_m := Lib.hid N_m
    have H_x := Lib.hid N_x
    have HB := Lib.hid NB
    clear NB N_rd N_rs N_m N_x
    have RAG := Lib.hid NRAG
    clear NRAG
    have RLG := Lib.hid NRLG
    clear NRLG
    have OC := Lib.hid NOC
    clear NOC
    have OM := Lib.hid NOM
    clear NOM
    have OS := Lib.hid NOS
    clear NOS
    obtain ⟨X6, eX6⟩ : ∃ U, X5.setCell ⟨v1.heap.size, 5, none⟩ (.slice none 0 0) = U := ⟨_, rfl⟩
    have fX6 := H_x.out.frozen 5
    have cX6 := H_x.out.cell 5
    have N_rd : Blk X6 (w.heap.size + 1 + 1 + 1) 30 #[.slice none 0 0, .int .i64 0, .slice none 0 0] := eX6 ▸ H_rd.out.other (show v1.heap.size ≠ w.heap.size + 1 + 1 + 1 by omega) _
    have N_rs : Blk X6 (w.heap.size + 1 + 1 + 1 + 1) 39 #[.int .i64 0, .int .i64 0, .slice none 0 0, .slice none 0 0, .slice none 0 0, .slice none 0 0] := eX6 ▸ H_rs.out.other (show v1.heap.size ≠ w.heap.size + 1 + 1 + 1 + 1 by omega) _
    have N_m : Blk X6 (w1.heap.size) 59 #[.int .i64 (k : Int), .int .i64 p.code, .int .i64 p.mem, .int .i64 p.stack, .int .i64 p.val, .slice Q 13 f, .slice yA yn yc, .int .i64 (d9.i : Int), .slice yL d9.log.length yd, .int .i64 0] := eX6 ▸ H_m.out.other (show v1.heap.size ≠ w1.heap.size by omega) _
    have N_x : Blk X6 (v1.heap.size) 39 #[.int .i64 s9.pc.v, .int .i64 s9.pc.l, .slice cA s9.code.length cc, .slice mA s9.mem.length mc, .slice sA s9.stack.length sc, .slice none 0 0] := eX6 ▸ H_x.out.set_ 5 _
    have NB : Below w.heap.size w X6 := eX6 ▸ HB.out.setCell (p := ⟨v1.heap.size, 5, none⟩) (by show w.heap.size ≤ v1.heap.size; omega) _
    have NRAG := eX6 ▸ RAG.out.move (Mv.set_ (p := ⟨v1.heap.size, 5, none⟩) H_x.out (by decide) (show B ≤ v1.heap.size by omega) (.slice none 0 0))
    have NRLG := eX6 ▸ RLG.out.move (Mv.set_ (p := ⟨v1.heap.size, 5, none⟩) H_x.out (by decide) (show B ≤ v1.heap.size by omega) (.slice none 0 0))
    have NOC := eX6 ▸ own_ofD OC.out fun g9 hg9 => Below.heap_setCell X5 ⟨v1.heap.size, 5, none⟩ (.slice none 0 0) g9 (by
      obtain ⟨cs9, hb9⟩ := own_blkD OC.out hg9
      exact hb9.ty_neD H_x.out (by decide))
    have NOM := eX6 ▸ own_ofD OM.out fun g9 hg9 => Below.heap_setCell X5 ⟨v1.heap.size, 5, none⟩ (.slice none 0 0) g9 (by
      obtain ⟨cs9, hb9⟩ := own_blkD OM.out hg9
      exact hb9.ty_neD H_x.out (by decide))
    have NOS := eX6 ▸ own_ofD OS.out fun g9 hg9 => Below.heap_setCell X5 ⟨v1.heap.size, 5, none⟩ (.slice none 0 0) g9 (by
      obtain ⟨cs9, hb9⟩ := own_blkD OS.out hg9
      exact hb9.ty_neD H_x.out (by decide))
    clear H_rd H_rs H_m H_x HB RAG RLG OC OM OS
    have H_rd := Lib.hid N_rd
    have H_rs := Lib.hid N_rs
    have H_m := Lib.hid N_m
    have H_x := Lib.hid N_x
    have HB := Lib.hid NB
    clear NB N_rd N_rs N_m N_x
    have RAG := Lib.hid NRAG
    clear NRAG
    have RLG := Lib.hid NRLG
    clear NRLG
    have OC := Lib.hid NOC
    clear NOC
    have OM := Lib.hid NOM
    clear NOM
    have OS := Lib.hid NOS
    clear NOS
    have m9 := H_m.out.cell 9
    have HS0 := Lib.hid (And.intro (H_m.out.cell 6) (And.intro (H_m.out.cell 7) (And.intro (H_m.out.cell 8) (And.intro (H_x.out.cell 0) (And.intro (H_x.out.cell 1) (And.intro (H_x.out.cell 2) (And.intro (H_x.out.cell 3) (And.intro (H_x.out.cell 4) (H_x.out.cell 5)))))))))
    go_wp2_with (fail)
    clear eX1 fX1 cX1 eX2 fX2 cX2 eX3 fX3 cX3 eX4 fX4 cX4 eX5 fX5 cX5 eX6 fX6 cX6 hv2 m9
    refine Free.region_seq [5, 6] [3, 4] 6 (fun W' => W'.cell? ⟨w1.heap.size, 6, none⟩ = some (.slice yA yn yc) ∧ W'.cell? ⟨w1.heap.size, 7, none⟩ = some (.int .i64 (d9.i : Int)) ∧ W'.cell? ⟨w1.heap.size, 8, none⟩ = some (.slice yL d9.log.length yd) ∧ W'.cell? ⟨v1.heap.size, 0, none⟩ = some (.int .i64 s9.pc.v) ∧ W'.cell? ⟨v1.heap.size, 1, none⟩ = some (.int .i64 s9.pc.l) ∧ W'.cell? ⟨v1.heap.size, 2, none⟩ = some (.slice cA s9.code.length cc) ∧ W'.cell? ⟨v1.heap.size, 3, none⟩ = some (.slice mA s9.mem.length mc) ∧ W'.cell? ⟨v1.heap.size, 4, none⟩ = some (.slice sA s9.stack.length sc) ∧ W'.cell? ⟨v1.heap.size, 5, none⟩ = some (.slice none 0 0)) (by kernel_rfl) (by kernel_rfl) (by kernel_rfl) (by kernel_rfl) (HS0.out) (fun ops hops => ?_)
    clear hops
    iterate 5
      refine Free.Seq.quiet (v := ?_) (a' := ?_) rfl rfl (fun W' hW' => ?_) ?_ ?_
      rotate_left 2
      · first | obtain ⟨s0, s1, s2, s3, s4, s5, s6, s7, s8⟩ := hW' rfl | skip
        go_simp
        try with_reducible rfl
      · simp only [Act.put, List.setIfInBounds_toArray, List.set_cons_zero, List.set_cons_succ]
        try with_reducible rfl
    have HDW := Lib.hid (show Below w.heap.size w X6.drew from HB.out.drew)
    clear HB
    have HB := HDW
    clear HDW
    have Z_rd : Blk X6.drew (w.heap.size + 1 + 1 + 1) 30 #[.slice none 0 0, .int .i64 0, .slice none 0 0] := H_rd.out.drew
    clear H_rd
    have H_rd := Lib.hid Z_rd
    clear Z_rd
    have Z_rs : Blk X6.drew (w.heap.size + 1 + 1 + 1 + 1) 39 #[.int .i64 0, .int .i64 0, .slice none 0 0, .slice none 0 0, .slice none 0 0, .slice none 0 0] := H_rs.out.drew
    clear H_rs
    have H_rs := Lib.hid Z_rs
    clear Z_rs
    have Z_m : Blk X6.drew (w1.heap.size) 59 #[.int .i64 (k : Int), .int .i64 p.code, .int .i64 p.mem, .int .i64 p.stack, .int .i64 p.val, .slice Q 13 f, .slice yA yn yc, .int .i64 (d9.i : Int), .slice yL d9.log.length yd, .int .i64 0] := H_m.out.drew
    clear H_m
    have H_m := Lib.hid Z_m
    clear Z_m
    have Z_x : Blk X6.drew (v1.heap.size) 39 #[.int .i64 s9.pc.v, .int .i64 s9.pc.l, .slice cA s9.code.length cc, .slice mA s9.mem.length mc, .slice sA s9.stack.length sc, .slice none 0 0] := H_x.out.drew
    clear H_x
    have H_x := Lib.hid Z_x
    clear Z_x
    have Z_RAG : RowX (X6.drew) B yA list := RAG.out
    clear RAG
    have RAG := Lib.hid Z_RAG
    clear Z_RAG
    have Z_RLG : RowX (X6.drew) B yL d9.log := RLG.out
    clear RLG
    have RLG := Lib.hid Z_RLG
    clear Z_RLG
    have Z_OC : World.ownsRow (X6.drew) w.heap.size 66 3 (.slice cA s9.code.length cc) s9.code.length (fcells ivs s9.code) := OC.out
    clear OC
    have OC := Lib.hid Z_OC
    clear Z_OC
    have Z_OM : World.ownsRow (X6.drew) w.heap.size 34 2 (.slice mA s9.mem.length mc) s9.mem.length (fcells avs s9.mem) := OM.out
    clear OM
    have OM := Lib.hid Z_OM
    clear Z_OM
    have Z_OS : World.ownsRow (X6.drew) w.heap.size 70 3 (.slice sA s9.stack.length sc) s9.stack.length (fcells svs s9.stack) := OS.out
    clear OS
    have OS := Lib.hid Z_OS
    clear Z_OS
    obtain ⟨X7, eX7⟩ : ∃ U, X6.drew.setCell ⟨w.heap.size + 1 + 1 + 1, 0, none⟩ (.slice yA yn yc) = U := ⟨_, rfl⟩
    have fX7 := H_rd.out.frozen 0
    have cX7 := H_rd.out.cell 0
    have N_rd : Blk X7 (w.heap.size + 1 + 1 + 1) 30 #[.slice yA yn yc, .int .i64 0, .slice none 0 0] := eX7 ▸ H_rd.out.set_ 0 _
    have N_rs : Blk X7 (w.heap.size + 1 + 1 + 1 + 1) 39 #[.int .i64 0, .int .i64 0, .slice none 0 0, .slice none 0 0, .slice none 0 0, .slice none 0 0] := eX7 ▸ H_rs.out.other (show w.heap.size + 1 + 1 + 1 ≠ w.heap.size + 1 + 1 + 1 + 1 by omega) _
    have N_m : Blk X7 (w1.heap.size) 59 #[.int .i64 (k : Int), .int .i64 p.code, .int .i64 p.mem, .int .i64 p.stack, .int .i64 p.val, .slice Q 13 f, .slice yA yn yc, .int .i64 (d9.i : Int), .slice yL d9.log.length yd, .int .i64 0] := eX7 ▸ H_m.out.other (show w.heap.size + 1 + 1 + 1 ≠ w1.heap.size by omega) _
    have N_x : Blk X7 (v1.heap.size) 39 #[.int .i64 s9.pc.v, .int .i64 s9.pc.l, .slice cA s9.code.length cc, .slice mA s9.mem.length mc, .slice sA s9.stack.length sc, .slice none 0 0] := eX7 ▸ H_x.out.other (show w.heap.size + 1 + 1 + 1 ≠ v1.heap.size by omega) _
    have NB : Below w.heap.size w X7 := eX7 ▸ HB.out.setCell (p := ⟨w.heap.size + 1 + 1 + 1, 0, none⟩) (by show w.heap.size ≤ w.heap.size + 1 + 1 + 1; omega) _
    have NRAG := eX7 ▸ RAG.out.move (Mv.set_ (p := ⟨w.heap.size + 1 + 1 + 1, 0, none⟩) H_rd.out (by decide) (show B ≤ w.heap.size + 1 + 1 + 1 by omega) (.slice yA yn yc))
    have NRLG := eX7 ▸ RLG.out.move (Mv.set_ (p := ⟨w.heap.size + 1 + 1 + 1, 0, none⟩) H_rd.out (by decide) (show B ≤ w.heap.size + 1 + 1 + 1 by omega) (.slice yA yn yc))
    have NOC := eX7 ▸ own_ofD OC.out fun g9 hg9 => Below.heap_setCell X6.drew ⟨w.heap.size + 1 + 1 + 1, 0, none⟩ (.slice yA yn yc) g9 (by
      obtain ⟨cs9, hb9⟩ := own_blkD OC.out hg9
      exact hb9.ty_neD H_rd.out (by decide))
    have NOM := eX7 ▸ own_ofD OM.out fun g9 hg9 => Below.heap_setCell X6.drew ⟨w.heap.size + 1 + 1 + 1, 0, none⟩ (.slice yA yn yc) g9 (by
      obtain ⟨cs9, hb9⟩ := own_blkD OM.out hg9
      exact hb9.ty_neD H_rd.out (by decide))
    have NOS := eX7 ▸ own_ofD OS.out fun g9 hg9 => Below.heap_setCell X6.drew ⟨w.heap.size + 1 + 1 + 1, 0, none⟩ (.slice yA yn yc) g9 (by
      obtain ⟨cs9, hb9⟩ := own_blkD OS.out hg9
      exact hb9.ty_neD H_rd.out (by decide))
    clear H_rd H_rs H_m H_x HB RAG RLG OC OM OS
    have H_rd := Lib.hid N_rd
    have H_rs := Lib.hid N_rs
    have H_m := Lib.hid N_m
    have H_x := Lib.hid N_x
    have HB := Lib.hid NB
    clear NB N_rd N_rs N_m N_x
    have RAG := Lib.hid NRAG
    clear NRAG
    have RLG := Lib.hid NRLG
    clear NRLG
    have OC := Lib.hid NOC
    clear NOC
    have OM := Lib.hid NOM
    clear NOM
    have OS := Lib.hid NOS
    clear NOS
    obtain ⟨X8, eX8⟩ : ∃ U, X7.setCell ⟨w.heap.size + 1 + 1 + 1, 1, none⟩ (.int .i64 (d9.i : Int)) = U := ⟨_, rfl⟩
    have fX8 := H_rd.out.frozen 1
    have cX8 := H_rd.out.cell 1
    have N_rd : Blk X8 (w.heap.size + 1 + 1 + 1) 30 #[.slice yA yn yc, .int .i64 (d9.i : Int), .slice none 0 0] := eX8 ▸ H_rd.out.set_ 1 _
    have N_rs : Blk X8 (w.heap.size + 1 + 1 + 1 + 1) 39 #[.int .i64 0, .int .i64 0, .slice none 0 0, .slice none 0 0, .slice none 0 0, .slice none 0 0] := eX8 ▸ H_rs.out.other (show w.heap.size + 1 + 1 + 1 ≠ w.heap.size + 1 + 1 + 1 + 1 by omega) _
    have N_m : Blk X8 (w1.heap.size) 59 #[.int .i64 (k : Int), .int .i64 p.code, .int .i64 p.mem, .int .i64 p.stack, .int .i64 p.val, .slice Q 13 f, .slice yA yn yc, .int .i64 (d9.i : Int), .slice yL d9.log.length yd, .int .i64 0] := eX8 ▸ H_m.out.other (show w.heap.size + 1 + 1 + 1 ≠ w1.heap.size by omega) _
    have N_x : Blk X8 (v1.heap.size) 39 #[.int .i64 s9.pc.v, .int .i64 s9.pc.l, .slice cA s9.code.length cc, .slice mA s9.mem.length mc, .slice sA s9.stack.length sc, .slice none 0 0] := eX8 ▸ H_x.out.other (show w.heap.size + 1 + 1 + 1 ≠ v1.heap.size by omega) _
    have NB : Below w.heap.size w X8 := eX8 ▸ HB.out.setCell (p := ⟨w.heap.size + 1 + 1 + 1, 1, none⟩) (by show w.heap.size ≤ w.heap.size + 1 + 1 + 1; omega) _
    have NRAG := eX8 ▸ RAG.out.move (Mv.set_ (p := ⟨w.heap.size + 1 + 1 + 1, 1, none⟩) H_rd.out (by decide) (show B ≤ w.heap.size + 1 + 1 + 1 by omega) (.int .i64 (d9.i : Int)))
    have NRLG := eX8 ▸ RLG.out.move (Mv.set_ (p := ⟨w.heap.size + 1 + 1 + 1, 1, none⟩) H_rd.out (by decide) (show B ≤ w.heap.size + 1 + 1 + 1 by omega) (.int .i64 (d9.i : Int)))
    have NOC := eX8 ▸ own_ofD OC.out fun g9 hg9 => Below.heap_setCell X7 ⟨w.heap.size + 1 + 1 + 1, 1, none⟩ (.int .i64 (d9.i : Int)) g9 (by
      obtain ⟨cs9, hb9⟩ := own_blkD OC.out hg9
      exact hb9.ty_neD H_rd.out (by decide))
    have NOM := eX8 ▸ own_ofD OM.out fun g9 hg9 => Below.heap_setCell X7 ⟨w.heap.size + 1 + 1 + 1, 1, none⟩ (.int .i64 (d9.i : Int)) g9 (by
      obtain ⟨cs9, hb9⟩ := own_blkD OM.out hg9
      exact hb9.ty_neD H_rd.out (by decide))
    have NOS := eX8 ▸ own_ofD OS.out fun g9 hg9 => Below.heap_setCell X7 ⟨w.heap.size + 1 + 1 + 1, 1, none⟩ (.int .i64 (d9.i : Int)) g9 (by
      obtain ⟨cs9, hb9⟩ := own_blkD OS.out hg9
      exact hb9.ty_neD H_rd.out (by decide))
    clear H_rd H_rs H_m H_x HB RAG RLG OC OM OS
    have H_rd := Lib.hid N_rd
    have H_rs := Lib.hid N_rs
    have H_m := Lib.hid N_m
    have H_x := Lib.hid N_x
    have HB := Lib.hid NB
    clear NB N_rd N_rs N_m N_x
    have RAG := Lib.hid NRAG
    clear NRAG
    have RLG := Lib.hid NRLG
    clear NRLG
    have OC := Lib.hid NOC
    clear NOC
    have OM := Lib.hid NOM
    clear NOM
    have OS := Lib.hid NOS
    clear NOS
    obtain ⟨X9, eX9⟩ : ∃ U, X8.setCell ⟨w.heap.size + 1 + 1 + 1, 2, none⟩ (.slice yL d9.log.length yd) = U := ⟨_, rfl⟩
    have fX9 := H_rd.out.frozen 2
    have cX9 := H_rd.out.cell 2
    have N_rd : Blk X9 (w.heap.size + 1 + 1 + 1) 30 #[.slice yA yn yc, .int .i64 (d9.i : Int), .slice yL d9.log.length yd] := eX9 ▸ H_rd.out.set_ 2 _
    have N_rs : Blk X9 (w.heap.size + 1 + 1 + 1 + 1) 39 #[.int .i64 0, .int .i64 0, .slice none 0 0, .slice none 0 0, .slice none 0 0, .slice none 0 0] := eX9 ▸ H_rs.out.other (show w.heap.size + 1 + 1 + 1 ≠ w.heap.size + 1 + 1 + 1 + 1 by omega) _
    have N_m : Blk X9 (w1.heap.size) 59 #[.int .i64 (k : Int), .int .i64 p.code, .int .i64 p.mem, .int .i64 p.stack, .int .i64 p.val, .slice Q 13 f, .slice yA yn yc, .int .i64 (d9.i : Int), .slice yL d9.log.length yd, .int .i64 0] := eX9 ▸ H_m.out.other (show w.heap.size + 1 + 1 + 1 ≠ w1.heap.size by omega) _
    have N_x : Blk X9 (v1.heap.size) 39 #[.int .i64 s9.pc.v, .int .i64 s9.pc.l, .slice cA s9.code.length cc, .slice mA s9.mem.length mc, .slice sA s9.stack.length sc, .slice none 0 0] := eX9 ▸ H_x.out.other (show w.heap.size + 1 + 1 + 1 ≠ v1.heap.size by omega) _
    have NB : Below w.heap.size w X9 := eX9 ▸ HB.out.setCell (p := ⟨w.heap.size + 1 + 1 + 1, 2, none⟩) (by show w.heap.size ≤ w.heap.size + 1 + 1 + 1; omega) _
    have NRAG := eX9 ▸ RAG.out.move (Mv.set_ (p := ⟨w.heap.size + 1 + 1 + 1, 2, none⟩) H_rd.out (by decide) (show B ≤ w.heap.size + 1 + 1 + 1 by omega) (.slice yL d9.log.length yd))
    have NRLG := eX9 ▸ RLG.out.move (Mv.set_ (p := ⟨w.heap.size + 1 + 1 + 1, 2, none⟩) H_rd.out (by decide) (show B ≤ w.heap.size + 1 + 1 + 1 by omega) (.slice yL d9.log.length yd))
    have NOC := eX9 ▸ own_ofD OC.out fun g9 hg9 => Below.heap_setCell X8 ⟨w.heap.size + 1 + 1 + 1, 2, none⟩ (.slice yL d9.log.length yd) g9 (by
      obtain ⟨cs9, hb9⟩ := own_blkD OC.out hg9
      exact hb9.ty_neD H_rd.out (by decide))
    have NOM := eX9 ▸ own_ofD OM.out fun g9 hg9 => Below.heap_setCell X8 ⟨w.heap.size + 1 + 1 + 1, 2, none⟩ (.slice yL d9.log.length yd) g9 (by
      obtain ⟨cs9, hb9⟩ := own_blkD OM.out hg9
      exact hb9.ty_neD H_rd.out (by decide))
    have NOS := eX9 ▸ own_ofD OS.out fun g9 hg9 => Below.heap_setCell X8 ⟨w.heap.size + 1 + 1 + 1, 2, none⟩ (.slice yL d9.log.length yd) g9 (by
      obtain ⟨cs9, hb9⟩ := own_blkD OS.out hg9
      exact hb9.ty_neD H_rd.out (by decide))
    clear H_rd H_rs H_m H_x HB RAG RLG OC OM OS
    have H_rd := Lib.hid N_rd
    have H_rs := Lib.hid N_rs
    have H_m := Lib.hid N_m
    have H_x := Lib.hid N_x
    have HB := Lib.hid NB
    clear NB N_rd N_rs N_m N_x
    have RAG := Lib.hid NRAG
    clear NRAG
    have RLG := Lib.hid NRLG
    clear NRLG
    have OC := Lib.hid NOC
    clear NOC
    have OM := Lib.hid NOM
    clear NOM
    have OS := Lib.hid NOS
    clear NOS
    have HS1 := Lib.hid (And.intro (H_m.out.cell 6) (And.intro (H_m.out.cell 7) (And.intro (H_m.out.cell 8) (And.intro (H_x.out.cell 0) (And.intro (H_x.out.cell 1) (And.intro (H_x.out.cell 2) (And.intro (H_x.out.cell 3) (And.intro (H_x.out.cell 4) (H_x.out.cell 5)))))))))
    refine Free.Seq.loud_ rfl (.inl rfl) (fun K hK => ?_)
    go_simp
    refine hK.out _ _ rfl (fun _ => HS1.out) ?_
    clear hK K eX7 fX7 cX7 eX8 fX8 cX8 eX9 fX9 cX9
    obtain ⟨X10, eX10⟩ : ∃ U, X9.setCell ⟨w.heap.size + 1 + 1 + 1 + 1, 0, none⟩ (.int .i64 s9.pc.v) = U := ⟨_, rfl⟩
    have fX10 := H_rs.out.frozen 0
    have cX10 := H_rs.out.cell 0
    have N_rd : Blk X10 (w.heap.size + 1 + 1 + 1) 30 #[.slice yA yn yc, .int .i64 (d9.i : Int), .slice yL d9.log.length yd] := eX10 ▸ H_rd.out.other (show w.heap.size + 1 + 1 + 1 + 1 ≠ w.heap.size + 1 + 1 + 1 by omega) _
    have N_rs : Blk X10 (w.heap.size + 1 + 1 + 1 + 1) 39 #[.int .i64 s9.pc.v, .int .i64 0, .slice none 0 0, .slice none 0 0, .slice none 0 0, .slice none 0 0] := eX10 ▸ H_rs.out.set_ 0 _
    have N_m : Blk X10 (w1.heap.size) 59 #[.int .i64 (k : Int), .int .i64 p.code, .int .i64 p.mem, .int .i64 p.stack, .int .i64 p.val, .slice Q 13 f, .slice yA yn yc, .int .i64 (d9.i : Int), .slice yL d9.log.length yd, .int .i64 0] := eX10 ▸ H_m.out.other (show w.heap.size + 1 + 1 + 1 + 1 ≠ w1.heap.size by omega) _
    have N_x : Blk X10 (v1.heap.size) 39 #[.int .i64 s9.pc.v, .int .i64 s9.pc.l, .slice cA s9.code.length cc, .slice mA s9.mem.length mc, .slice sA s9.stack.length sc, .slice none 0 0] := eX10 ▸ H_x.out.other (show w.heap.size + 1 + 1 + 1 + 1 ≠ v1.heap.size by omega) _
    have NB : Below w.heap.size w X10 := eX10 ▸ HB.out.setCell (p := ⟨w.heap.size + 1 + 1 + 1 + 1, 0, none⟩) (by show w.heap.size ≤ w.heap.size + 1 + 1 + 1 + 1; omega) _
    have NRAG := eX10 ▸ RAG.out.move (Mv.set_ (p := ⟨w.heap.size + 1 + 1 + 1 + 1, 0, none⟩) H_rs.out (by decide) (show B ≤ w.heap.size + 1 + 1 + 1 + 1 by omega) (.int .i64 s9.pc.v))
    have NRLG := eX10 ▸ RLG.out.move (Mv.set_ (p := ⟨w.heap.size + 1 + 1 + 1 + 1, 0, none⟩) H_rs.out (by decide) (show B ≤ w.heap.size + 1 + 1 + 1 + 1 by omega) (.int .i64 s9.pc.v))
    have NOC := eX10 ▸ own_ofD OC.out fun g9 hg9 => Below.heap_setCell X9 ⟨w.heap.size + 1 + 1 + 1 + 1, 0, none⟩ (.int .i64 s9.pc.v) g9 (by
      obtain ⟨cs9, hb9⟩ := own_blkD OC.out hg9
      exact hb9.ty_neD H_rs.out (by decide))
    have NOM := eX10 ▸ own_ofD OM.out fun g9 hg9 => Below.heap_setCell X9 ⟨w.heap.size + 1 + 1 + 1 + 1, 0, none⟩ (.int .i64 s9.pc.v) g9 (by
      obtain ⟨cs9, hb9⟩ := own_blkD OM.out hg9
      exact hb9.ty_neD H_rs.out (by decide))
    have NOS := eX10 ▸ own_ofD OS.out fun g9 hg9 => Below.heap_setCell X9 ⟨w.heap.size + 1 + 1 + 1 + 1, 0, none⟩ (.int .i64 s9.pc.v) g9 (by
      obtain ⟨cs9, hb9⟩ := own_blkD OS.out hg9
      exact hb9.ty_neD H_rs.out (by decide))
    clear H_rd H_rs H_m H_x HB RAG RLG OC OM OS
    have H_rd := Lib.hid N_rd
    have H_rs := Lib.hid N_rs
    have H_m := Lib.hid N_m
    have H_x := Lib.hid N_x
    have HB := Lib.hid NB
    clear NB N_rd N_rs N_m N_x
    have RAG := Lib.hid NRAG
    clear NRAG
    have RLG := Lib.hid NRLG
    clear NRLG
    have OC := Lib.hid NOC
    clear NOC
    have OM := Lib.hid NOM
    clear NOM
    have OS := Lib.hid NOS
    clear NOS
    obtain ⟨X11, eX11⟩ : ∃ U, X10.setCell ⟨w.heap.size + 1 + 1 + 1 + 1, 1, none⟩ (.int .i64 s9.pc.l) = U := ⟨_, rfl⟩
    have fX11 := H_rs.out.frozen 1
    have cX11 := H_rs.out.cell 1
    have N_rd : Blk X11 (w.heap.size + 1 + 1 + 1) 30 #[.slice yA yn yc, .int .i64 (d9.i : Int), .slice yL d9.log.length yd] := eX11 ▸ H_rd.out.other (show w.heap.size + 1 + 1 + 1 + 1 ≠ w.heap.size + 1 + 1 + 1 by omega) _
    have N_rs : Blk X11 (w.heap.size + 1 + 1 + 1 + 1) 39 #[.int .i64 s9.pc.v, .int .i64 s9.pc.l, .slice none 0 0, .slice none 0 0, .slice none 0 0, .slice none 0 0] := eX11 ▸ H_rs.out.set_ 1 _
    have N_m : Blk X11 (w1.heap.size) 59 #[.int .i64 (k : Int), .int .i64 p.code, .int .i64 p.mem, .int .i64 p.stack, .int .i64 p.val, .slice Q 13 f, .slice yA yn yc, .int .i64 (d9.i : Int), .slice yL d9.log.length yd, .int .i64 0] := eX11 ▸ H_m.out.other (show w.heap.size + 1 + 1 + 1 + 1 ≠ w1.heap.size by omega) _
    have N_x : Blk X11 (v1.heap.size) 39 #[.int .i64 s9.pc.v, .int .i64 s9.pc.l, .slice cA s9.code.length cc, .slice mA s9.mem.length mc, .slice sA s9.stack.length sc, .slice none 0 0] := eX11 ▸ H_x.out.other (show w.heap.size + 1 + 1 + 1 + 1 ≠ v1.heap.size by omega) _
    have NB : Below w.heap.size w X11 := eX11 ▸ HB.out.setCell (p := ⟨w.heap.size + 1 + 1 + 1 + 1, 1, none⟩) (by show w.heap.size ≤ w.heap.size + 1 + 1 + 1 + 1; omega) _
    have NRAG := eX11 ▸ RAG.out.move (Mv.set_ (p := ⟨w.heap.size + 1 + 1 + 1 + 1, 1, none⟩) H_rs.out (by decide) (show B ≤ w.heap.size + 1 + 1 + 1 + 1 by omega) (.int .i64 s9.pc.l))
    have NRLG := eX11 ▸ RLG.out.move (Mv.set_ (p := ⟨w.heap.size + 1 + 1 + 1 + 1, 1, none⟩) H_rs.out (by decide) (show B ≤ w.heap.size + 1 + 1 + 1 + 1 by omega) (.int .i64 s9.pc.l))
    have NOC := eX11 ▸ own_ofD OC.out fun g9 hg9 => Below.heap_setCell X10 ⟨w.heap.size + 1 + 1 + 1 + 1, 1, none⟩ (.int .i64 s9.pc.l) g9 (by
      obtain ⟨cs9, hb9⟩ := own_blkD OC.out hg9
      exact hb9.ty_neD H_rs.out (by decide))
    have NOM := eX11 ▸ own_ofD OM.out fun g9 hg9 => Below.heap_setCell X10 ⟨w.heap.size + 1 + 1 + 1 + 1, 1, none⟩ (.int .i64 s9.pc.l) g9 (by
      obtain ⟨cs9, hb9⟩ := own_blkD OM.out hg9
      exact hb9.ty_neD H_rs.out (by decide))
    have NOS := eX11 ▸ own_ofD OS.out fun g9 hg9 => Below.heap_setCell X10 ⟨w.heap.size + 1 + 1 + 1 + 1, 1, none⟩ (.int .i64 s9.pc.l) g9 (by
      obtain ⟨cs9, hb9⟩ := own_blkD OS.out hg9
      exact hb9.ty_neD H_rs.out (by decide))
    clear H_rd H_rs H_m H_x HB RAG RLG OC OM OS
    have H_rd := Lib.hid N_rd
    have H_rs := Lib.hid N_rs
    have H_m := Lib.hid N_m
    have H_x := Lib.hid N_x
    have HB := Lib.hid NB
    clear NB N_rd N_rs N_m N_x
    have RAG := Lib.hid NRAG
    clear NRAG
    have RLG := Lib.hid NRLG
    clear NRLG
    have OC := Lib.hid NOC
    clear NOC
    have OM := Lib.hid NOM
    clear NOM
    have OS := Lib.hid NOS
    clear NOS
    obtain ⟨X12, eX12⟩ : ∃ U, X11.setCell ⟨w.heap.size + 1 + 1 + 1 + 1, 2, none⟩ (.slice cA s9.code.length cc) = U := ⟨_, rfl⟩
    have fX12 := H_rs.out.frozen 2
    have cX12 := H_rs.out.cell 2
    have N_rd : Blk X12 (w.heap.size + 1 + 1 + 1) 30 #[.slice yA yn yc, .int .i64 (d9.i : Int), .slice yL d9.log.length yd] := eX12 ▸ H_rd.out.other (show w.heap.size + 1 + 1 + 1 + 1 ≠ w.heap.size + 1 + 1 + 1 by omega) _
    have N_rs : Blk X12 (w.heap.size + 1 + 1 + 1 + 1) 39 #[.int .i64 s9.pc.v, .int .i64 s9.pc.l, .slice cA s9.code.length cc, .slice none 0 0, .slice none 0 0, .slice none 0 0] := eX12 ▸ H_rs.out.set_ 2 _
    have N_m : Blk X12 (w1.heap.size) 59 #[.int .i64 (k : Int), .int .i64 p.code, .int .i64 p.mem, .int .i64 p.stack, .int .i64 p.val, .slice Q 13 f, .slice yA yn yc, .int .i64 (d9.i : Int), .slice yL d9.log.length yd, .int .i64 0] := eX12 ▸ H_m.out.other (show w.heap.size + 1 + 1 + 1 + 1 ≠ w1.heap.size by omega) _
    have N_x : Blk X12 (v1.heap.size) 39 #[.int .i64 s9.pc.v, .int .i64 s9.pc.l, .slice cA s9.code.length cc, .slice mA s9.mem.length mc, .slice sA s9.stack.length sc, .slice none 0 0] := eX12 ▸ H_x.out.other (show w.heap.size + 1 + 1 + 1 + 1 ≠ v1.heap.size by omega) _
    have NB : Below w.heap.size w X12 := eX12 ▸ HB.out.setCell (p := ⟨w.heap.size + 1 + 1 + 1 + 1, 2, none⟩) (by show w.heap.size ≤ w.heap.size + 1 + 1 + 1 + 1; omega) _
    have NRAG := eX12 ▸ RAG.out.move (Mv.set_ (p := ⟨w.heap.size + 1 + 1 + 1 + 1, 2, none⟩) H_rs.out (by decide) (show B ≤ w.heap.size + 1 + 1 + 1 + 1 by omega) (.slice cA s9.code.length cc))
    have NRLG := eX12 ▸ RLG.out.move (Mv.set_ (p := ⟨w.heap.size + 1 + 1 + 1 + 1, 2, none⟩) H_rs.out (by decide) (show B ≤ w.heap.size + 1 + 1 + 1 + 1 by omega) (.slice cA s9.code.length cc))
    have NOC := eX12 ▸ own_ofD OC.out fun g9 hg9 => Below.heap_setCell X11 ⟨w.heap.size + 1 + 1 + 1 + 1, 2, none⟩ (.slice cA s9.code.length cc) g9 (by
      obtain ⟨cs9, hb9⟩ := own_blkD OC.out hg9
      exact hb9.ty_neD H_rs.out (by decide))
    have NOM := eX12 ▸ own_ofD OM.out fun g9 hg9 => Below.heap_setCell X11 ⟨w.heap.size + 1 + 1 + 1 + 1, 2, none⟩ (.slice cA s9.code.length cc) g9 (by
      obtain ⟨cs9, hb9⟩ := own_blkD OM.out hg9
      exact hb9.ty_neD H_rs.out (by decide))
    have NOS := eX12 ▸ own_ofD OS.out fun g9 hg9 => Below.heap_setCell X11 ⟨w.heap.size + 1 + 1 + 1 + 1, 2, none⟩ (.slice cA s9.code.length cc) g9 (by
      obtain ⟨cs9, hb9⟩ := own_blkD OS.out hg9
      exact hb9.ty_neD H_rs.out (by decide))
    clear H_rd H_rs H_m H_x HB RAG RLG OC OM OS
    have H_rd := Lib.hid N_rd
    have H_rs := Lib.hid N_rs
    have H_m := Lib.hid N_m
    have H_x := Lib.hid N_x
    have HB := Lib.hid NB
    clear NB N_rd N_rs N_m N_x
    have RAG := Lib.hid NRAG
    clear NRAG
    have RLG := Lib.hid NRLG
    clear NRLG
    have OC := Lib.hid NOC
    clear NOC
    have OM := Lib.hid NOM
    clear NOM
    have OS := Lib.hid NOS
    clear NOS
    obtain ⟨X13, eX13⟩ : ∃ U, X12.setCell ⟨w.heap.size + 1 + 1 + 1 + 1, 3, none⟩ (.slice mA s9.mem.length mc) = U := ⟨_, rfl⟩
    have fX13 := H_rs.out.frozen 3
    have cX13 := H_rs.out.cell 3
    have N_rd : Blk X13 (w.heap.size + 1 + 1 + 1) 30 #[.slice yA yn yc, .int .i64 (d9.i : Int), .slice yL d9.log.length yd] := eX13 ▸ H_rd.out.other (show w.heap.size + 1 + 1 + 1 + 1 ≠ w.heap.size + 1 + 1 + 1 by omega) _
    have N_rs : Blk X13 (w.heap.size + 1 + 1 + 1 + 1) 39 #[.int .i64 s9.pc.v, .int .i64 s9.pc.l, .slice cA s9.code.length cc, .slice mA s9.mem.length mc, .slice none 0 0, .slice none 0 0] := eX13 ▸ H_rs.out.set_ 3 _
    have N_m : Blk X13 (w1.heap.size) 59 #[.int .i64 (k : Int), .int .i64 p.code, .int .i64 p.mem, .int .i64 p.stack, .int .i64 p.val, .slice Q 13 f, .slice yA yn yc, .int .i64 (d9.i : Int), .slice yL d9.log.length yd, .int .i64 0] := eX13 ▸ H_m.out.other (show w.heap.size + 1 + 1 + 1 + 1 ≠ w1.heap.size by omega) _
    have N_x : Blk X13 (v1.heap.size) 39 #[.int .i64 s9.pc.v, .int .i64 s9.pc.l, .slice cA s9.code.length cc, .slice mA s9.mem.length mc, .slice sA s9.stack.length sc, .slice none 0 0] := eX13 ▸ H_x.out.other (show w.heap.size + 1 + 1 + 1 + 1 ≠ v1.heap.size by omega) _
    have NB : Below w.heap.size w X13 := eX13 ▸ HB.out.setCell (p := ⟨w.heap.size + 1 + 1 + 1 + 1, 3, none⟩) (by show w.heap.size ≤ w.heap.size + 1 + 1 + 1 + 1; omega) _
    have NRAG := eX13 ▸ RAG.out.move (Mv.set_ (p := ⟨w.heap.size + 1 + 1 + 1 + 1, 3, none⟩) H_rs.out (by decide) (show B ≤ w.heap.size + 1 + 1 + 1 + 1 by omega) (.slice mA s9.mem.length mc))
    have NRLG := eX13 ▸ RLG.out.move (Mv.set_ (p := ⟨w.heap.size + 1 + 1 + 1 + 1, 3, none⟩) H_rs.out (by decide) (show B ≤ w.heap.size + 1 + 1 + 1 + 1 by omega) (.slice mA s9.mem.length mc))
    have NOC := eX13 ▸ own_ofD OC.out fun g9 hg9 => Below.heap_setCell X12 ⟨w.heap.size + 1 + 1 + 1 + 1, 3, none⟩ (.slice mA s9.mem.length mc) g9 (by
      obtain ⟨cs9, hb9⟩ := own_blkD OC.out hg9
      exact hb9.ty_neD H_rs.out (by decide))
    have NOM := eX13 ▸ own_ofD OM.out fun g9 hg9 => Below.heap_setCell X12 ⟨w.heap.size + 1 + 1 + 1 + 1, 3, none⟩ (.slice mA s9.mem.length mc) g9 (by
      obtain ⟨cs9, hb9⟩ := own_blkD OM.out hg9
      exact hb9.ty_neD H_rs.out (by decide))
    have NOS := eX13 ▸ own_ofD OS.out fun g9 hg9 => Below.heap_setCell X12 ⟨w.heap.size + 1 + 1 + 1 + 1, 3, none⟩ (.slice mA s9.mem.length mc) g9 (by
      obtain ⟨cs9, hb9⟩ := own_blkD OS.out hg9
      exact hb9.ty_neD H_rs.out (by decide))
    clear H_rd H_rs H_m H_x HB RAG RLG OC OM OS
    have H_rd := Lib.hid N_rd
    have H_rs := Lib.hid N_rs
    have H_m := Lib.hid N_m
    have H_x := Lib.hid N_x
    have HB := Lib.hid NB
    clear NB N_rd N_rs N_m N_x
    have RAG := Lib.hid NRAG
    clear NRAG
    have RLG := Lib.hid NRLG
    clear NRLG
    have OC := Lib.hid NOC
    clear NOC
    have OM := Lib.hid NOM
    clear NOM
    have OS := Lib.hid NOS
    clear NOS
    obtain ⟨X14, eX14⟩ : ∃ U, X13.setCell ⟨w.heap.size + 1 + 1 + 1 + 1, 4, none⟩ (.slice sA s9.stack.length sc) = U := ⟨_, rfl⟩
    have fX14 := H_rs.out.frozen 4
    have cX14 := H_rs.out.cell 4
    have N_rd : Blk X14 (w.heap.size + 1 + 1 + 1) 30 #[.slice yA yn yc, .int .i64 (d9.i : Int), .slice yL d9.log.length yd] := eX14 ▸ H_rd.out.other (show w.heap.size + 1 + 1 + 1 + 1 ≠ w.heap.size + 1 + 1 + 1 by omega) _
    have N_rs : Blk X14 (w.heap.size + 1 + 1 + 1 + 1) 39 #[.int .i64 s9.pc.v, .int .i64 s9.pc.l, .slice cA s9.code.length cc, .slice mA s9.mem.length mc, .slice sA s9.stack.length sc, .slice none 0 0] := eX14 ▸ H_rs.out.set_ 4 _
    have N_m : Blk X14 (w1.heap.size) 59 #[.int .i64 (k : Int), .int .i64 p.code, .int .i64 p.mem, .int .i64 p.stack, .int .i64 p.val, .slice Q 13 f, .slice yA yn yc, .int .i64 (d9.i : Int), .slice yL d9.log.length yd, .int .i64 0] := eX14 ▸ H_m.out.other (show w.heap.size + 1 + 1 + 1 + 1 ≠ w1.heap.size by omega) _
    have N_x : Blk X14 (v1.heap.size) 39 #[.int .i64 s9.pc.v, .int .i64 s9.pc.l, .slice cA s9.code.length cc, .slice mA s9.mem.length mc, .slice sA s9.stack.length sc, .slice none 0 0] := eX14 ▸ H_x.out.other (show w.heap.size + 1 + 1 + 1 + 1 ≠ v1.heap.size by omega) _
    have NB : Below w.heap.size w X14 := eX14 ▸ HB.out.setCell (p := ⟨w.heap.size + 1 + 1 + 1 + 1, 4, none⟩) (by show w.heap.size ≤ w.heap.size + 1 + 1 + 1 + 1; omega) _
    have NRAG := eX14 ▸ RAG.out.move (Mv.set_ (p := ⟨w.heap.size + 1 + 1 + 1 + 1, 4, none⟩) H_rs.out (by decide) (show B ≤ w.heap.size + 1 + 1 + 1 + 1 by omega) (.slice sA s9.stack.length sc))
    have NRLG := eX14 ▸ RLG.out.move (Mv.set_ (p := ⟨w.heap.size + 1 + 1 + 1 + 1, 4, none⟩) H_rs.out (by decide) (show B ≤ w.heap.size + 1 + 1 + 1 + 1 by omega) (.slice sA s9.stack.length sc))
    have NOC := eX14 ▸ own_ofD OC.out fun g9 hg9 => Below.heap_setCell X13 ⟨w.heap.size + 1 + 1 + 1 + 1, 4, none⟩ (.slice sA s9.stack.length sc) g9 (by
      obtain ⟨cs9, hb9⟩ := own_blkD OC.out hg9
      exact hb9.ty_neD H_rs.out (by decide))
    have NOM := eX14 ▸ own_ofD OM.out fun g9 hg9 => Below.heap_setCell X13 ⟨w.heap.size + 1 + 1 + 1 + 1, 4, none⟩ (.slice sA s9.stack.length sc) g9 (by
      obtain ⟨cs9, hb9⟩ := own_blkD OM.out hg9
      exact hb9.ty_neD H_rs.out (by decide))
    have NOS := eX14 ▸ own_ofD OS.out fun g9 hg9 => Below.heap_setCell X13 ⟨w.heap.size + 1 + 1 + 1 + 1, 4, none⟩ (.slice sA s9.stack.length sc) g9 (by
      obtain ⟨cs9, hb9⟩ := own_blkD OS.out hg9
      exact hb9.ty_neD H_rs.out (by decide))
    clear H_rd H_rs H_m H_x HB RAG RLG OC OM OS
    have H_rd := Lib.hid N_rd
    have H_rs := Lib.hid N_rs
    have H_m := Lib.hid N_m
    have H_x := Lib.hid N_x
    have HB := Lib.hid NB
    clear NB N_rd N_rs N_m N_x
    have RAG := Lib.hid NRAG
    clear NRAG
    have RLG := Lib.hid NRLG
    clear NRLG
    have OC := Lib.hid NOC
    clear NOC
    have OM := Lib.hid NOM
    clear NOM
    have OS := Lib.hid NOS
    clear NOS
    obtain ⟨X15, eX15⟩ : ∃ U, X14.setCell ⟨w.heap.size + 1 + 1 + 1 + 1, 5, none⟩ (.slice none 0 0) = U := ⟨_, rfl⟩
    have fX15 := H_rs.out.frozen 5
    have cX15 := H_rs.out.cell 5
    have N_rd : Blk X15 (w.heap.size + 1 + 1 + 1) 30 #[.slice yA yn yc, .int .i64 (d9.i : Int), .slice yL d9.log.length yd] := eX15 ▸ H_rd.out.other (show w.heap.size + 1 + 1 + 1 + 1 ≠ w.heap.size + 1 + 1 + 1 by omega) _
    have N_rs : Blk X15 (w.heap.size + 1 + 1 + 1 + 1) 39 #[.int .i64 s9.pc.v, .int .i64 s9.pc.l, .slice cA s9.code.length cc, .slice mA s9.mem.length mc, .slice sA s9.stack.length sc, .slice none 0 0] := eX15 ▸ H_rs.out.set_ 5 _
    have N_m : Blk X15 (w1.heap.size) 59 #[.int .i64 (k : Int), .int .i64 p.code, .int .i64 p.mem, .int .i64 p.stack, .int .i64 p.val, .slice Q 13 f, .slice yA yn yc, .int .i64 (d9.i : Int), .slice yL d9.log.length yd, .int .i64 0] := eX15 ▸ H_m.out.other (show w.heap.size + 1 + 1 + 1 + 1 ≠ w1.heap.size by omega) _
    have N_x : Blk X15 (v1.heap.size) 39 #[.int .i64 s9.pc.v, .int .i64 s9.pc.l, .slice cA s9.code.length cc, .slice mA s9.mem.length mc, .slice sA s9.stack.length sc, .slice none 0 0] := eX15 ▸ H_x.out.other (show w.heap.size + 1 + 1 + 1 + 1 ≠ v1.heap.size by omega) _
    have NB : Below w.heap.size w X15 := eX15 ▸ HB.out.setCell (p := ⟨w.heap.size + 1 + 1 + 1 + 1, 5, none⟩) (by show w.heap.size ≤ w.heap.size + 1 + 1 + 1 + 1; omega) _
    have NRAG := eX15 ▸ RAG.out.move (Mv.set_ (p := ⟨w.heap.size + 1 + 1 + 1 + 1, 5, none⟩) H_rs.out (by decide) (show B ≤ w.heap.size + 1 + 1 + 1 + 1 by omega) (.slice none 0 0))
    have NRLG := eX15 ▸ RLG.out.move (Mv.set_ (p := ⟨w.heap.size + 1 + 1 + 1 + 1, 5, none⟩) H_rs.out (by decide) (show B ≤ w.heap.size + 1 + 1 + 1 + 1 by omega) (.slice none 0 0))
    have NOC := eX15 ▸ own_ofD OC.out fun g9 hg9 => Below.heap_setCell X14 ⟨w.heap.size + 1 + 1 + 1 + 1, 5, none⟩ (.slice none 0 0) g9 (by
      obtain ⟨cs9, hb9⟩ := own_blkD OC.out hg9
      exact hb9.ty_neD H_rs.out (by decide))
    have NOM := eX15 ▸ own_ofD OM.out fun g9 hg9 => Below.heap_setCell X14 ⟨w.heap.size + 1 + 1 + 1 + 1, 5, none⟩ (.slice none 0 0) g9 (by
      obtain ⟨cs9, hb9⟩ := own_blkD OM.out hg9
      exact hb9.ty_neD H_rs.out (by decide))
    have NOS := eX15 ▸ own_ofD OS.out fun g9 hg9 => Below.heap_setCell X14 ⟨w.heap.size + 1 + 1 + 1 + 1, 5, none⟩ (.slice none 0 0) g9 (by
      obtain ⟨cs9, hb9⟩ := own_blkD OS.out hg9
      exact hb9.ty_neD H_rs.out (by decide))
    clear H_rd H_rs H_m H_x HB RAG RLG OC OM OS
    have H_rd := Lib.hid N_rd
    have H_rs := Lib.hid N_rs
    have H_m := Lib.hid N_m
    have H_x := Lib.hid N_x
    have HB := Lib.hid NB
    clear NB N_rd N_rs N_m N_x
    have RAG := Lib.hid NRAG
    clear NRAG
    have RLG := Lib.hid NRLG
    clear NRLG
    have OC := Lib.hid NOC
    clear NOC
    have OM := Lib.hid NOM
    clear NOM
    have OS := Lib.hid NOS
    clear NOS
    refine Free.Seq.loud_ rfl (.inl rfl) (fun K hK => ?_)
    go_simp
    refine hK.out _ _ rfl (fun h => absurd h (by decide)) ?_
    clear hK K eX10 fX10 cX10 eX11 fX11 cX11 eX12 fX12 cX12 eX13 fX13 cX13 eX14 fX14 cX14 eX15 fX15 cX15
    iterate 1
      refine Free.Seq.quiet (v := ?_) (a' := ?_) rfl rfl (fun W' hW' => ?_) ?_ ?_
      rotate_left 2
      · skip
        go_simp
        try with_reducible rfl
      · simp only [Act.put, List.setIfInBounds_toArray, List.set_cons_zero, List.set_cons_succ]
        try with_reducible rfl
    refine Free.Seq.nil_ ?_
    have r0 := H_rd.out.cell 0
    have r1 := H_rd.out.cell 1
    have r2 := H_rd.out.cell 2
    have t0 := H_rs.out.cell 0
    have t1 := H_rs.out.cell 1
    have t2 := H_rs.out.cell 2
    have t3 := H_rs.out.cell 3
    have t4 := H_rs.out.cell 4
    have t5 := H_rs.out.cell 5
    go_wp2
    exact bodyPost_ret (v := .tuple #[.agg #[.slice yA yn yc, .int .i64 (d9.i : Int), .slice yL d9.log.length yd], .agg #[.int .i64 s9.pc.v, .int .i64 s9.pc.l, .slice cA s9.code.length cc, .slice mA s9.mem.length mc, .slice sA s9.stack.length sc, .slice none 0 0], .int .i64 0]) (by simp [results, Try.results7, go_sem, r0, r1, r2, t0, t1, t2, t3, t4, t5]) rfl ⟨yA, yc, yL, yd, _, _, _, rfl, RAG.out, RLG.out, OC.out, OM.out, OS.out, HL9.out, HB.out⟩
end Go.Proofs.Ytmbgndcahlopdaa

/- Package gen's State: what it answers. -/
namespace Go.Proofs.Ytmbgndcahlopdaa
set_option maxRecDepth 100000
open Go.RowKit Go.Shelf
attribute [local go_sem] Oper.semAt_some

section
variable {v : Value} {names : List ByteArray} {up : List Nat} {A L Q : Option Addr} {list log : List Int} (n c m d f : Nat) (i : Int) (p : Gn.Sp) (w : World)
theorem gState_chk (h : IsLat w w.heap.size v names up) (hQ : Row w w.heap.size Q (ints p.ws)) (hl : p.ws.length ≤ 1000000) (hf : p.ws.length ≤ f) (hck : Gn.chkN names up p ≠ 0) :
    Calls Try.prog 7 #[v, spv p Q f, .agg #[.slice A n c, .int .i64 i, .slice L m d]] w (GErr w (Gn.chkN names up p)) := by
  have hc := fun W (hW : Below w.heap.size w W) => gCheck15_any p f W ((h.below hW).more hW.size) ((hQ.below hW).more hW.size) hl hf
  obtain ⟨⟨N, U, c1, c2, rfl, -, -⟩, -, -, -⟩ := h
  exact gState_no names.length up.length c1 c2 p.ws.length f p ⟨A, n, c, i, L, m, d, 0, 0⟩ w hck hc
theorem gState_bad (h : IsLat w w.heap.size v names up) (hQ : Row w w.heap.size Q (ints p.ws)) (hl : p.ws.length ≤ 1000000) (hf : p.ws.length ≤ f) (hck : Gn.chkN names up p = 0) (hA : Row w w.heap.size A (ints list)) (hL : Row w w.heap.size L (ints log)) (hn : list.length = n) (hm : log.length = m) (hi : i < 9223372036854775808) (hr : ¬ Dr.right n i m = true) :
    Calls Try.prog 7 #[v, spv p Q f, .agg #[.slice A n c, .int .i64 i, .slice L m d]] w (GErr w 1) := by
  have hc := fun W (hW : Below w.heap.size w W) => gCheck15_any p f W ((h.below hW).more hW.size) ((hQ.below hW).more hW.size) hl hf
  obtain ⟨hz, hsp⟩ := Gn.chk_zero hck
  have hlen := len_of_checkN hz
  have hF := Gn.fits_of hlen.1 hsp
  rw [hck] at hc
  obtain ⟨⟨N, U, c1, c2, rfl, -, -⟩, -, -, -⟩ := h
  unfold spv at hc ⊢
  rw [hF.len] at hc ⊢
  refine gState_go (ans := none) (n := 0) (list := []) names.length up.length c1 c2 f p ⟨A, n, c, i, L, m, d, 0, 0⟩ w (er := 1) (B := w.heap.size) (by decide) rfl (Nat.le_refl _) hc fun W g hW hg hbox => ?_
  have hst := mstate_any (c := ⟨g, up.length, p, Q, f, 1, 0, [], w.heap.size⟩) (y := ⟨A, n, c, i, L, m, d, 0, 0⟩) (q0 := none) W hbox ⟨rfl, Nat.zero_le _, hF, by show up.length ≤ 1000; omega⟩ (show (1 : Nat) ≠ 0 by decide) (.inl rfl) (fun W2 hW2 => ?_) ⟨Int.le_refl 0, hF.c0⟩
  · exact hst
  · have hW3 := hW.trans (hW2.mono hW.size)
    refine below_go (c := ⟨g, up.length, p, Q, f, 1, 0, [], w.heap.size⟩) (y := ⟨A, n, c, i, L, m, d, 0, 0⟩) (r := none) (p.code + 1) W2 (hbox.below hW2 hbox.lt) rfl (RowX.of_low ((hQ.below hW3)) (Nat.le_refl _) hW3.size) hg fun W4 hW4 => ?_
    have hW5 := hW3.trans (hW4.mono hW3.size)
    have h := dTake14_no n c m d i (p.code + 1) W4 ((hA.below hW5).more hW5.size) ((hL.below hW5).more hW5.size) hn hm (by have := hF.c0; omega) (by have := hF.c1; omega) hi fun h => hr h.1
    rw [if_neg hr] at h
    exact h.mono fun e w' h => ByO.no (c := ⟨g, up.length, p, Q, f, 1, 0, [], w.heap.size⟩) h
theorem gState_good (h : IsLat w w.heap.size v names up) (hQ : Row w w.heap.size Q (ints p.ws)) (hl : p.ws.length ≤ 1000000) (hf : p.ws.length ≤ f) (hck : Gn.chkN names up p = 0) {B : Nat} (hB : B ≤ w.heap.size) (hQB : RowX w B Q p.ws) (hA : RowX w B A list) (hL : RowX w B L log) (hn : list.length = n) (hm : log.length = m) (j : Nat) (hi : j < 9223372036854775808) (hr : Dr.right n (j : Int) m = true) :
    Calls Try.prog 7 #[v, spv p Q f, .agg #[.slice A n c, .int .i64 (j : Int), .slice L m d]] w (GotG w B 8 n list (Gn.state list up.length p ⟨j, log⟩)) := by
  have hc := fun W (hW : Below w.heap.size w W) => gCheck15_any p f W ((h.below hW).more hW.size) ((hQ.below hW).more hW.size) hl hf
  obtain ⟨hz, hsp⟩ := Gn.chk_zero hck
  have hlen := len_of_checkN hz
  have hF := Gn.fits_of hlen.1 hsp
  rw [hck] at hc
  obtain ⟨⟨N, U, c1, c2, rfl, -, -⟩, -, -, -⟩ := h
  unfold spv at hc ⊢
  rw [hF.len] at hc ⊢
  unfold Dr.right at hr
  have hr := of_decide_eq_true hr
  subst hm hn
  refine gState_go (ans := Gn.state list up.length p ⟨j, log⟩) (n := list.length) (list := list) names.length up.length c1 c2 f p ⟨A, list.length, c, (j : Int), L, log.length, d, 0, 0⟩ w (er := 8) (B := B) (by decide) rfl hB hc fun W g hW hg hbox => ?_
  have hok : MOk ⟨g, up.length, p, Q, f, 8, list.length, list, B⟩ := ⟨rfl, by show list.length ≤ 500; omega, hF, by show up.length ≤ 1000; omega⟩
  have hmk : Mkr W ⟨g, up.length, p, Q, f, 8, list.length, list, B⟩ ⟨A, list.length, c, (j : Int), L, log.length, d, 0, 0⟩ (some ((0 : Int), (⟨j, log⟩ : Gn.D))) :=
    ⟨hbox, ⟨rfl, by show log.length ≤ 2000; omega, hi⟩, fun z d e => by
      injection e with e
      injection e with _ e
      subst e
      exact ⟨hA.move (Mv.below _ hW), hL.move (Mv.below _ hW)⟩, hQB.move (Mv.below _ hW), Nat.le_trans hB hg⟩
  have hst := mstate_any (c := ⟨g, up.length, p, Q, f, 8, list.length, list, B⟩) (y := ⟨A, list.length, c, (j : Int), L, log.length, d, 0, 0⟩) (q0 := Gn.run (Gn.tk list (p.code + 1)) (some ((0 : Int), (⟨j, log⟩ : Gn.D)))) W hbox hok (show (8 : Nat) ≠ 0 by decide) (.inr rfl) (fun W2 hW2 => ?_) (by
      have h := tk_gi list (b := p.code + 1) (by have := hF.c0; omega) (some ((0 : Int), (⟨j, log⟩ : Gn.D)))
      exact ⟨h.1, by show _ ≤ p.code; omega⟩)
  · unfold Gn.state
    rw [Gn.next_rep]
    exact hst
  · exact mbelow_any W2 (p.code + 1) (hmk.keep hW2) hok (show (8 : Nat) ≠ 0 by decide) (.inr rfl) (by have := hF.c0; omega) (by have := hF.c1; omega)
end
end Go.Proofs.Ytmbgndcahlopdaa

/- A region that draws its order, in which State is called and two boxes are laid: what is known where some operations are done. -/
namespace Go.Proofs.Ytmbgndcahlopdaa
set_option maxRecDepth 100000
open Go.RowKit Go.Shelf
attribute [local go_sem] Oper.semAt_some

def zD : Array Value := #[.slice none 0 0, .int .i64 0, .slice none 0 0]
def zS : Array Value := #[.int .i64 0, .int .i64 0, .slice none 0 0, .slice none 0 0, .slice none 0 0, .slice none 0 0]
/-- All below B stands, and all but boxes of draws and of states. -/
structure Kb (B : Nat) (W W' : World) : Prop where
  size : W.heap.size ≤ W'.heap.size
  low : ∀ k, k < B → k < W.heap.size → W'.heap[k]? = W.heap[k]?
  oth : ∀ k t cs, Blk W k t cs → t ≠ 30 → t ≠ 39 → Blk W' k t cs
section
variable {B : Nat} {W W' : World}
theorem Kb.below (B : Nat) (h : Below W.heap.size W W') : Kb B W W' := ⟨h.size, fun k _ hl => h.block k hl, fun _ _ _ hb _ _ => hb.below h hb.lt⟩
theorem Kb.setW {b : Nat} {t : TypeId} {cs : Array Value} (hb : Blk W b t cs) (ht : t = 30 ∨ t = 39) (hB : B ≤ b) (hs : W.heap.size ≤ W'.heap.size) (hk : ∀ k, k ≠ b → W'.heap[k]? = W.heap[k]?) : Kb B W W' :=
  ⟨hs, fun k hk2 _ => hk k (by omega), fun k t2 cs2 h2 n1 n2 => (hk k (by
    have := fun e => h2.ty_neD hb e
    rcases ht with rfl | rfl
    · exact this n1
    · exact this n2)).trans h2⟩
theorem Kb.mv (h : Kb B W W') : Mv B W W' := ⟨h.size, h.low, fun k cs hb => h.oth k _ cs hb (by decide) (by decide)⟩
theorem Kb.own {base sz n : Nat} {e : TypeId} {rv : Value} {xs : List Value} (h : Kb B W W') (ho : W.ownsRow base e sz rv n xs) (h1 : e ≠ 30) (h2 : e ≠ 39) : W'.ownsRow base e sz rv n xs :=
  own_ofD ho fun k hk => by
    obtain ⟨cs, hc⟩ := own_blkD ho hk
    exact (h.oth k _ cs hc h1 h2).trans hc.symm
end
/-- The draws that State answers, its state, its error. -/
def TupD (B n : Nat) (list : List Int) (r : Option (St.State × Gn.D)) (v : Value) (W : World) : Prop := match r with
  | none => v = .agg zD
  | some (_, d) => ∃ (A : Option Addr) (ca : Nat) (L : Option Addr) (dd : Nat), v = .agg #[.slice A n ca, .int .i64 (d.i : Int), .slice L d.log.length dd] ∧ RowX W B A list ∧ RowX W B L d.log ∧ d.log.length ≤ 2000
def TupS (B : Nat) (r : Option (St.State × Gn.D)) (v : Value) (W : World) : Prop := match r with
  | none => v = .agg zS
  | some (s, _) => ∃ cv mv sv : Value, v = .agg #[.int .i64 s.pc.v, .int .i64 s.pc.l, cv, mv, sv, .slice none 0 0] ∧ W.ownsRow B 66 3 cv s.code.length (fcells ivs s.code) ∧ W.ownsRow B 34 2 mv s.mem.length (fcells avs s.mem) ∧ W.ownsRow B 70 3 sv s.stack.length (fcells svs s.stack)
def errN (er : Nat) : Option (St.State × Gn.D) → Nat
  | none => er
  | some _ => 0
def TupV (B er n : Nat) (list : List Int) (r : Option (St.State × Gn.D)) (v : Value) (W : World) : Prop := ∃ dv sv, v = .tuple #[dv, sv, .int .i64 (errN er r : Nat)] ∧ TupD B n list r dv W ∧ TupS B r sv W
section
variable {B er n : Nat} {list : List Int} {r : Option (St.State × Gn.D)} {v : Value} {W W' : World}
theorem TupD.kb (h : TupD B n list r v W) (hk : Kb B W W') : TupD B n list r v W' := by
  cases r with
  | none => exact h
  | some p =>
    obtain ⟨A, ca, L, dd, e, h1, h2, h3⟩ := h
    exact ⟨A, ca, L, dd, e, h1.move hk.mv, h2.move hk.mv, h3⟩
theorem TupS.kb (h : TupS B r v W) (hk : Kb B W W') : TupS B r v W' := by
  cases r with
  | none => exact h
  | some p =>
    obtain ⟨cv, mv, sv, e, h1, h2, h3⟩ := h
    exact ⟨cv, mv, sv, e, hk.own h1 (by decide) (by decide), hk.own h2 (by decide) (by decide), hk.own h3 (by decide) (by decide)⟩
theorem TupV.kb (h : TupV B er n list r v W) (hk : Kb B W W') : TupV B er n list r v W' := by
  obtain ⟨dv, sv, e, h1, h2⟩ := h
  exact ⟨dv, sv, e, h1.kb hk, h2.kb hk⟩
theorem GotG.tup {w : World} {e : Ending} (h : GotG w B er n list r e W') (hB : B ≤ w.heap.size) : ∃ v, e = .returned v ∧ TupV B er n list r v W' ∧ Below w.heap.size w W' := by
  cases r with
  | none =>
    obtain ⟨he, hb⟩ := h
    exact ⟨_, he, ⟨_, _, rfl, rfl, rfl⟩, hb⟩
  | some p =>
    obtain ⟨s, d⟩ := p
    obtain ⟨A, ca, L, dd, cv, mv, sv, he, h1, h2, h3, h4, h5, h6, hb⟩ := h
    exact ⟨_, he, ⟨_, _, rfl, ⟨A, ca, L, dd, rfl, h1, h2, h6⟩, ⟨cv, mv, sv, rfl, ownT_mono h3 hB, ownT_mono h4 hB, ownT_mono h5 hB⟩⟩, hb⟩
theorem TupD.three (h : TupD B n list r v W) : ∃ (A : Option Addr) (n1 c1 : Nat) (i : Int) (L : Option Addr) (n2 c2 : Nat), v = .agg #[.slice A n1 c1, .int .i64 i, .slice L n2 c2] := by
  cases r with
  | none => exact ⟨_, _, _, _, _, _, _, h⟩
  | some p =>
    obtain ⟨A, ca, L, dd, e, -⟩ := h
    exact ⟨_, _, _, _, _, _, _, e⟩
theorem TupS.six (h : TupS B r v W) : ∃ (i j : Int) (A1 : Option Addr) (n1 c1 : Nat) (A2 : Option Addr) (n2 c2 : Nat) (A3 : Option Addr) (n3 c3 : Nat), v = .agg #[.int .i64 i, .int .i64 j, .slice A1 n1 c1, .slice A2 n2 c2, .slice A3 n3 c3, .slice none 0 0] := by
  cases r with
  | none => exact ⟨_, _, _, _, _, _, _, _, _, _, _, h⟩
  | some p =>
    obtain ⟨cv, mv, sv, e, h1, h2, h3⟩ := h
    obtain ⟨A1, c1, rfl⟩ := ownT_slice h1
    obtain ⟨A2, c2, rfl⟩ := ownT_slice h2
    obtain ⟨A3, c3, rfl⟩ := ownT_slice h3
    exact ⟨_, _, _, _, _, _, _, _, _, _, _, e⟩
end
/-- What is known where some operations are done: ka and kb lay the boxes, sa and sb store into them what vd and vs are. -/
structure FB (af : Nat → Value → World → Prop) (w0 : World) (ka kb sa sb vd vs : Nat) (done : Nat → Bool) (r : Nat → Value) (W : World) : Prop where
  below : Below w0.heap.size w0 W
  f : ∀ k, done k = true → af k (r k) W
  a : done ka = true → ∃ b, r ka = .pointer (some ⟨b, 0, none⟩) ∧ w0.heap.size ≤ b ∧ (done sa = false → Blk W b 30 zD) ∧ (done sa = true → ∃ cs, r vd = .agg cs ∧ Blk W b 30 cs)
  b : done kb = true → ∃ b, r kb = .pointer (some ⟨b, 0, none⟩) ∧ w0.heap.size ≤ b ∧ (done sb = false → Blk W b 39 zS) ∧ (done sb = true → ∃ cs, r vs = .agg cs ∧ Blk W b 39 cs)
section
variable {af : Nat → Value → World → Prop} {w0 : World} {B ka kb sa sb vd vs : Nat} {done : Nat → Bool} {r : Nat → Value} {W W' : World}
theorem upd_ne {done : Nat → Bool} {j k : Nat} (h : j ≠ k) : Free.upd done k j = done j := by unfold Free.upd; rw [if_neg h]
theorem updR_ne {r : Nat → Value} {j k : Nat} {v : Value} (h : j ≠ k) : Free.updR r k v j = r j := by unfold Free.updR; rw [if_neg h]
theorem upd_eq {done : Nat → Bool} {k : Nat} : Free.upd done k k = true := by unfold Free.upd; rw [if_pos rfl]
theorem updR_eq {r : Nat → Value} {k : Nat} {v : Value} : Free.updR r k v k = v := by unfold Free.updR; rw [if_pos rfl]
theorem FB.start (r : Nat → Value) : FB af w0 ka kb sa sb vd vs (fun _ => false) r w0.drew := ⟨(Below.refl _ _).drew, fun _ h => (by cases h), fun h => (by cases h), fun h => (by cases h)⟩
theorem FB.facts (h : FB af w0 ka kb sa sb vd vs done r W) (haf : ∀ k v W W', af k v W → Kb B W W' → af k v W') {k : Nat} {v : Value} (hk : Kb B W W') (ha : af k v W') : ∀ j, Free.upd done k j = true → af j (Free.updR r k v j) W' := fun j hj => by
  by_cases e : j = k
  · subst e; rw [updR_eq]; exact ha
  · rw [upd_ne e] at hj; rw [updR_ne e]; exact haf _ _ _ _ (h.f j hj) hk
theorem FB.made (haf : ∀ k v W W', af k v W → Kb B W W' → af k v W') (h : FB af w0 ka kb sa sb vd vs done r W) {k : Nat} {v : Value} (hka : ka ≠ k) (hkb : kb ≠ k) (hsa : sa ≠ k) (hsb : sb ≠ k) (hvd : k = vd → done sa = false) (hvs : k = vs → done sb = false) (hb : Below W.heap.size W W') (ha : af k v W') :
    FB af w0 ka kb sa sb vd vs (Free.upd done k) (Free.updR r k v) W' := by
  refine ⟨h.below.trans (hb.mono h.below.size), h.facts haf (Kb.below B hb) ha, fun hd => ?_, fun hd => ?_⟩
  · rw [upd_ne hka] at hd
    obtain ⟨b, e, hl, h1, h2⟩ := h.a hd
    refine ⟨b, by rw [updR_ne hka]; exact e, hl, fun hs => ?_, fun hs => ?_⟩
    · rw [upd_ne hsa] at hs; have := h1 hs; exact this.below hb this.lt
    · rw [upd_ne hsa] at hs
      obtain ⟨cs, e2, hc⟩ := h2 hs
      have hv : vd ≠ k := fun e => by rw [hvd e.symm] at hs; cases hs
      exact ⟨cs, by rw [updR_ne hv]; exact e2, hc.below hb hc.lt⟩
  · rw [upd_ne hkb] at hd
    obtain ⟨b, e, hl, h1, h2⟩ := h.b hd
    refine ⟨b, by rw [updR_ne hkb]; exact e, hl, fun hs => ?_, fun hs => ?_⟩
    · rw [upd_ne hsb] at hs; have := h1 hs; exact this.below hb this.lt
    · rw [upd_ne hsb] at hs
      obtain ⟨cs, e2, hc⟩ := h2 hs
      have hv : vs ≠ k := fun e => by rw [hvs e.symm] at hs; cases hs
      exact ⟨cs, by rw [updR_ne hv]; exact e2, hc.below hb hc.lt⟩
theorem FB.boxA (haf : ∀ k v W W', af k v W → Kb B W W' → af k v W') (h : FB af w0 ka kb sa sb vd vs done r W) (hd : done sa = false) (n1 : kb ≠ ka) (n2 : sa ≠ ka) (n3 : sb ≠ ka) (n5 : vs ≠ ka) (ha : ∀ v W, af ka v W) :
    FB af w0 ka kb sa sb vd vs (Free.upd done ka) (Free.updR r ka (.pointer (some ⟨W.heap.size, 0, none⟩))) (W.alloc (.cells zD 30)) := by
  have hb := (Below.refl W.heap.size W).alloc (Nat.le_refl _) (.cells zD 30)
  refine ⟨h.below.trans (hb.mono h.below.size), h.facts haf (Kb.below B hb) (ha _ _), fun _ => ?_, fun hdb => ?_⟩
  · refine ⟨W.heap.size, updR_eq, h.below.size, fun _ => Blk.new _ _ _, fun hs => ?_⟩
    rw [upd_ne n2, hd] at hs
    cases hs
  · rw [upd_ne n1] at hdb
    obtain ⟨b, e, hl, h1, h2⟩ := h.b hdb
    refine ⟨b, by rw [updR_ne n1]; exact e, hl, fun hs => ?_, fun hs => ?_⟩
    · rw [upd_ne n3] at hs; exact (h1 hs).alloc _
    · rw [upd_ne n3] at hs
      obtain ⟨cs, e2, hc⟩ := h2 hs
      exact ⟨cs, by rw [updR_ne n5]; exact e2, hc.alloc _⟩
theorem FB.boxB (haf : ∀ k v W W', af k v W → Kb B W W' → af k v W') (h : FB af w0 ka kb sa sb vd vs done r W) (hd : done sb = false) (n1 : ka ≠ kb) (n2 : sa ≠ kb) (n3 : sb ≠ kb) (n5 : vd ≠ kb) (ha : ∀ v W, af kb v W) :
    FB af w0 ka kb sa sb vd vs (Free.upd done kb) (Free.updR r kb (.pointer (some ⟨W.heap.size, 0, none⟩))) (W.alloc (.cells zS 39)) := by
  have hb := (Below.refl W.heap.size W).alloc (Nat.le_refl _) (.cells zS 39)
  refine ⟨h.below.trans (hb.mono h.below.size), h.facts haf (Kb.below B hb) (ha _ _), fun hda => ?_, fun _ => ?_⟩
  · rw [upd_ne n1] at hda
    obtain ⟨b, e, hl, h1, h2⟩ := h.a hda
    refine ⟨b, by rw [updR_ne n1]; exact e, hl, fun hs => ?_, fun hs => ?_⟩
    · rw [upd_ne n2] at hs; exact (h1 hs).alloc _
    · rw [upd_ne n2] at hs
      obtain ⟨cs, e2, hc⟩ := h2 hs
      exact ⟨cs, by rw [updR_ne n5]; exact e2, hc.alloc _⟩
  · refine ⟨W.heap.size, updR_eq, h.below.size, fun _ => Blk.new _ _ _, fun hs => ?_⟩
    rw [upd_ne n3, hd] at hs
    cases hs
theorem FB.setA (haf : ∀ k v W W', af k v W → Kb B W W' → af k v W') (hB : B ≤ w0.heap.size) (h : FB af w0 ka kb sa sb vd vs done r W) (hka : done ka = true) (hd : done sa = false) (n1 : ka ≠ sa) (n2 : kb ≠ sa) (n3 : sb ≠ sa) (n4 : vd ≠ sa) (n5 : vs ≠ sa) (ha : ∀ v W, af sa v W) :
    ∃ b, r ka = .pointer (some ⟨b, 0, none⟩) ∧ Blk W b 30 zD ∧ ∀ cs W', r vd = .agg cs → Blk W' b 30 cs → (∀ k, k ≠ b → W'.heap[k]? = W.heap[k]?) → (∀ B V, B ≤ b → Below B V W → Below B V W') → FB af w0 ka kb sa sb vd vs (Free.upd done sa) (Free.updR r sa undef) W' := by
  obtain ⟨b, e, hl, h1, -⟩ := h.a hka
  have hz := h1 hd
  refine ⟨b, e, hz, fun cs W' ev hc hk hbl => ?_⟩
  have hb := hbl w0.heap.size w0 hl h.below
  have hkb := Kb.setW (W' := W') hz (.inl rfl) (Nat.le_trans hB hl) (hbl _ W (Nat.zero_le _) (Below.refl 0 W)).size hk
  refine ⟨hb, h.facts haf hkb (ha _ _), fun _ => ⟨b, by rw [updR_ne n1]; exact e, hl, fun hs => ?_, fun _ => ⟨cs, by rw [updR_ne n4]; exact ev, hc⟩⟩, fun hdb => ?_⟩
  · rw [upd_eq] at hs; cases hs
  · rw [upd_ne n2] at hdb
    obtain ⟨b2, e2, hl2, h3, h4⟩ := h.b hdb
    refine ⟨b2, by rw [updR_ne n2]; exact e2, hl2, fun hs => ?_, fun hs => ?_⟩
    · rw [upd_ne n3] at hs
      have h5 := h3 hs
      exact (hk b2 (h5.ty_neD hz (by decide))).trans h5
    · rw [upd_ne n3] at hs
      obtain ⟨cs2, e3, hc2⟩ := h4 hs
      exact ⟨cs2, by rw [updR_ne n5]; exact e3, (hk b2 (hc2.ty_neD hz (by decide))).trans hc2⟩
theorem FB.setB (haf : ∀ k v W W', af k v W → Kb B W W' → af k v W') (hB : B ≤ w0.heap.size) (h : FB af w0 ka kb sa sb vd vs done r W) (hkb : done kb = true) (hd : done sb = false) (n1 : ka ≠ sb) (n2 : kb ≠ sb) (n3 : sa ≠ sb) (n4 : vd ≠ sb) (n5 : vs ≠ sb) (ha : ∀ v W, af sb v W) :
    ∃ b, r kb = .pointer (some ⟨b, 0, none⟩) ∧ Blk W b 39 zS ∧ ∀ cs W', r vs = .agg cs → Blk W' b 39 cs → (∀ k, k ≠ b → W'.heap[k]? = W.heap[k]?) → (∀ B V, B ≤ b → Below B V W → Below B V W') → FB af w0 ka kb sa sb vd vs (Free.upd done sb) (Free.updR r sb undef) W' := by
  obtain ⟨b, e, hl, h1, -⟩ := h.b hkb
  have hz := h1 hd
  refine ⟨b, e, hz, fun cs W' ev hc hk hbl => ?_⟩
  have hb := hbl w0.heap.size w0 hl h.below
  have hkb := Kb.setW (W' := W') hz (.inr rfl) (Nat.le_trans hB hl) (hbl _ W (Nat.zero_le _) (Below.refl 0 W)).size hk
  refine ⟨hb, h.facts haf hkb (ha _ _), fun hda => ?_, fun _ => ⟨b, by rw [updR_ne n2]; exact e, hl, fun hs => ?_, fun _ => ⟨cs, by rw [updR_ne n5]; exact ev, hc⟩⟩⟩
  · rw [upd_ne n1] at hda
    obtain ⟨b2, e2, hl2, h3, h4⟩ := h.a hda
    refine ⟨b2, by rw [updR_ne n1]; exact e2, hl2, fun hs => ?_, fun hs => ?_⟩
    · rw [upd_ne n3] at hs
      have h5 := h3 hs
      exact (hk b2 (h5.ty_neD hz (by decide))).trans h5
    · rw [upd_ne n3] at hs
      obtain ⟨cs2, e3, hc2⟩ := h4 hs
      exact ⟨cs2, by rw [updR_ne n4]; exact e3, (hk b2 (hc2.ty_neD hz (by decide))).trans hc2⟩
  · rw [upd_eq] at hs; cases hs
end
end Go.Proofs.Ytmbgndcahlopdaa

/- law15's alive (by gen_gml.py). -/
namespace Go.Proofs.Ytmbgndcahlopdaa
set_option maxRecDepth 100000
open Go.RowKit Go.Shelf
attribute [local go_sem] Oper.semAt_some

def NwAt (B n : Nat) (list : List Int) (v : Value) (W : World) : Prop := ∃ A c, v = .agg #[.slice A n c, .int .i64 0, .slice none 0 0] ∧ RowX W B A list
theorem NwAt.kb {B n : Nat} {list : List Int} {v : Value} {W W' : World} (h : NwAt B n list v W) (hk : Kb B W W') : NwAt B n list v W' := by
  obtain ⟨A, c, e, h⟩ := h
  exact ⟨A, c, e, h.move hk.mv⟩
def l4 : List Int := [1, 1, 3, 1]
def sp15 : Gn.Sp := ⟨2, 0, 0, 5, ones15⟩
def r15 : Option (St.State × Gn.D) := Gn.state l4 2 sp15 ⟨0, []⟩
theorem r15_eq : r15 = some (⟨⟨0, 0⟩, [⟨1, 2, 1⟩], [], [], []⟩, ⟨4, [1, 1, 3, 1, 0, 0, 0, 0]⟩) := by kernel_rfl
def af15 (B : Nat) (k : Nat) (v : Value) (W : World) : Prop := match k with
  | 1 => ∃ b, v = .slice (some ⟨b, 0, none⟩) 13 13 ∧ B ≤ b ∧ Blk W b 3 (ints ones15).toArray
  | 2 => ∃ b, v = .agg #[.int .i64 2, .int .i64 0, .int .i64 0, .int .i64 5, .slice (some ⟨b, 0, none⟩) 13 13] ∧ B ≤ b ∧ Blk W b 3 (ints ones15).toArray
  | 3 => ∃ b, v = .slice (some ⟨b, 0, none⟩) 4 4 ∧ Blk W b 3 (ints l4).toArray
  | 4 => NwAt B 4 l4 v W
  | 5 => TupV B 8 4 l4 r15 v W
  | 6 => TupV B 8 4 l4 r15 v W
  | 7 => TupD B 4 l4 r15 v W
  | 8 => TupS B r15 v W
  | _ => True
theorem af15.kb {B : Nat} (k : Nat) (v : Value) (W W' : World) (h : af15 B k v W) (hk : Kb B W W') : af15 B k v W' := by
  unfold af15 at h ⊢
  split
  · obtain ⟨b, e, h1, h2⟩ := h; exact ⟨b, e, h1, hk.oth _ _ _ h2 (by decide) (by decide)⟩
  · obtain ⟨b, e, h1, h2⟩ := h; exact ⟨b, e, h1, hk.oth _ _ _ h2 (by decide) (by decide)⟩
  · obtain ⟨b, e, h2⟩ := h; exact ⟨b, e, hk.oth _ _ _ h2 (by decide) (by decide)⟩
  · exact NwAt.kb h hk
  · exact TupV.kb h hk
  · exact TupV.kb h hk
  · exact TupD.kb h hk
  · exact TupS.kb h hk
  · trivial
theorem blk_rowx {W : World} {B b : Nat} {l : List Int} (h : Blk W b 3 (ints l).toArray) : RowX W B (some ⟨b, 0, none⟩) l := fun hn => by
  obtain ⟨ad, e, h1, h3⟩ := h.row (by intro e; exact hn (List.map_eq_nil_iff.1 e))
  injection e with e
  subst e
  exact ⟨_, rfl, h.lt, .inr ⟨_, h⟩, h3⟩
def bNames15 : List ByteArray := [⟨#[97]⟩, ⟨#[98]⟩]
def bUp15 : List Nat := [3, 2]
theorem alive15_lat (w : World) : IsLat (((w.alloc (.cells #[.string ⟨#[97]⟩, .string ⟨#[98]⟩] 9)).alloc (.cells #[.int .u32 3, .int .u32 2] 63)).alloc (.cells #[.slice (some ⟨w.heap.size, 0, none⟩) 2 2, .slice (some ⟨w.heap.size + 1, 0, none⟩) 2 2] 25)) (w.heap.size + 3)
    (.agg #[.slice (some ⟨w.heap.size, 0, none⟩) 2 2, .slice (some ⟨w.heap.size + 1, 0, none⟩) 2 2]) bNames15 bUp15 := by
  have h0 := ((Blk.new w 9 (strs bNames15).toArray).alloc (.cells #[.int .u32 3, .int .u32 2] 63)).alloc (.cells #[.slice (some ⟨w.heap.size, 0, none⟩) 2 2, .slice (some ⟨w.heap.size + 1, 0, none⟩) 2 2] 25)
  have h1 := (Blk.new' (w.alloc (.cells (strs bNames15).toArray 9)) 63 (u32s bUp15).toArray (w.heap.size + 1) (by simp)).alloc (.cells #[.slice (some ⟨w.heap.size, 0, none⟩) 2 2, .slice (some ⟨w.heap.size + 1, 0, none⟩) 2 2] 25)
  refine ⟨⟨some ⟨w.heap.size, 0, none⟩, some ⟨w.heap.size + 1, 0, none⟩, 2, 2, rfl, h0.row.more (by omega), h1.row.more (by omega), ?_⟩, ?_, by decide, ?_⟩
  · intro k x hx
    unfold bUp15 at hx
    have := List.mem_of_getElem? hx
    simp at this
    omega
  · intro s hs
    unfold bNames15 at hs
    simp at hs
    unfold maxLen
    rcases hs with rfl | rfl <;> decide
  · intro A1 n1 c1 A2 n2 c2 he
    injection he with he
    injection he with he
    injection he with e1 he
    injection he with e2 he
    injection e1 with _ e11 e12
    injection e2 with _ e21 e22
    omega

set_option maxHeartbeats 16000000 in
theorem alive15_any (w : World) : Calls Try.prog 10 #[] w (Tells w true) := by
  have hlat := alive15_lat w
  obtain ⟨Wa, hWa⟩ : ∃ Wa : World, ((w.alloc (.cells #[.string ⟨#[97]⟩, .string ⟨#[98]⟩] 9)).alloc (.cells #[.int .u32 3, .int .u32 2] 63)).alloc (.cells #[.slice (some ⟨w.heap.size, 0, none⟩) 2 2, .slice (some ⟨w.heap.size + 1, 0, none⟩) 2 2] 25) = Wa := ⟨_, rfl⟩
  have hBa : Below w.heap.size w Wa := by rw [← hWa]; exact (((Below.refl _ w).alloc (Nat.le_refl _) _).alloc (by simp) _).alloc (by simp; omega) _
  have hsa : Wa.heap.size = w.heap.size + 3 := by rw [← hWa]; simp
  have hla : Blk Wa (w.heap.size + 1 + 1) 25 #[.slice (some ⟨w.heap.size, 0, none⟩) 2 2, .slice (some ⟨w.heap.size + 1, 0, none⟩) 2 2] := by rw [← hWa]; exact Blk.new' _ _ _ _ (by simp)
  rw [hWa, ← hsa] at hlat
  have hst : ∀ (A : Option Addr) (c b : Nat) (W : World), Below Wa.heap.size Wa W → RowX W Wa.heap.size A l4 → Blk W b 3 (ints ones15).toArray → Calls Try.prog 7 #[.agg #[.slice (some ⟨w.heap.size, 0, none⟩) 2 2, .slice (some ⟨w.heap.size + 1, 0, none⟩) 2 2], .agg #[.int .i64 2, .int .i64 0, .int .i64 0, .int .i64 5, .slice (some ⟨b, 0, none⟩) 13 13], .agg #[.slice A 4 c, .int .i64 0, .slice none 0 0]] W (GotG W Wa.heap.size 8 4 l4 r15) := fun A c b W hW hA hb => by
    have hq := blk_rowx (B := Wa.heap.size) hb
    exact gState_good (list := l4) (log := []) 4 c 0 0 13 sp15 W ((hlat.below hW).more hW.size) hq.row (by decide) (by decide) (by decide +kernel) hW.size hq hA (fun h => absurd rfl h) rfl rfl 0 (by decide) (by decide)
  have HST := Lib.hid hst
  have HB := Lib.hid hBa
  have HL := Lib.hid hla
  have HWT := Lib.hid (fun W => weights15_any W)
  have HBS := Lib.hid (Nat.le_refl Wa.heap.size)
  clear hlat hBa hsa hla hst
  go_enter Try.func10, Try.ntmps10
  go_wp2_with (fail)
  refine Free.region_each (by kernel_rfl) (by kernel_rfl)
    (fun k => ([some (.agg #[.slice (some ⟨w.heap.size, 0, none⟩) 2 2, .slice (some ⟨w.heap.size + 1, 0, none⟩) 2 2]), none, none, none, none, none, none, none, none, some (.int .i64 (errN 8 r15 : Nat)), none, none, none, none, some (.int .i64 (errN 8 r15 : Nat))] : List (Option Value)).getD k none)
    (FB (af15 Wa.heap.size) Wa 10 11 12 13 7 8) (fun _ => undef) ?_ ?_ ?_
  · exact FB.start _
  · refine ⟨?_, ?_, ?_, ?_, ?_, ?_, ?_, ?_, ?_, ?_, ?_, ?_, ?_, ?_, ?_, trivial⟩
    · refine Free.step_val _ rfl rfl fun done r W ρ hρ hcst hfun hJ hV hC hd hdeps => ?_
      have e0 : ρ (.tmp 1) = .pointer (some ⟨w.heap.size + 1 + 1, 0, none⟩) := by rw [hρ]; rfl
      have c0 : W.cell? ⟨w.heap.size + 1 + 1, 0, none⟩ = some (.slice (some ⟨w.heap.size, 0, none⟩) 2 2) := (HL.out.below hJ.below HL.out.lt).cell 0
      have c1 : W.cell? ⟨w.heap.size + 1 + 1, 1, none⟩ = some (.slice (some ⟨w.heap.size + 1, 0, none⟩) 2 2) := (HL.out.below hJ.below HL.out.lt).cell 1
      clear hρ
      refine ⟨?_, hJ.made af15.kb (by decide) (by decide) (by decide) (by decide) (fun h => absurd h (by decide)) (fun h => absurd h (by decide)) (Below.refl _ _) trivial⟩
      go_simp
    · refine Free.step_any rfl rfl fun done r W ρ hρ hcst hfun hJ hV hC hd hdeps => ?_
      clear hρ
      go_simp
      exact (HWT.out W).mono fun e w' ⟨he, hk, hb⟩ => ⟨_, he, hJ.made af15.kb (by decide) (by decide) (by decide) (by decide) (fun h => absurd h (by decide)) (fun h => absurd h (by decide)) hb ⟨_, rfl, hJ.below.size, hk⟩⟩
    · refine Free.step_any rfl rfl fun done r W ρ hρ hcst hfun hJ hV hC hd hdeps => ?_
      have e0 : ρ (.tmp 10) = r 1 := by rw [hρ]; rfl
      obtain ⟨b, h1, h2, h3⟩ := hJ.f 1 (hdeps 1 (by decide))
      rw [h1] at e0
      have hf := hJ.made af15.kb (k := 2) (v := .agg #[.int .i64 2, .int .i64 0, .int .i64 0, .int .i64 5, .slice (some ⟨b, 0, none⟩) 13 13]) (by decide) (by decide) (by decide) (by decide) (fun h => absurd h (by decide)) (fun h => absurd h (by decide)) (Below.refl _ _) ⟨b, rfl, h2, h3⟩
      clear hρ h1 h2 h3
      go_simp
      exact hf
    · refine Free.step_any rfl rfl fun done r W ρ hρ hcst hfun hJ hV hC hd hdeps => ?_
      clear hρ
      have hf := hJ.made af15.kb (k := 3) (v := .slice (some ⟨W.heap.size, 0, none⟩) 4 4) (by decide) (by decide) (by decide) (by decide) (fun h => absurd h (by decide)) (fun h => absurd h (by decide)) ((Below.refl _ W).alloc (Nat.le_refl _) (.cells (ints l4).toArray 3)) ⟨_, rfl, Blk.new _ _ _⟩
      go_simp
      exact hf
    · refine Free.step_any rfl rfl fun done r W ρ hρ hcst hfun hJ hV hC hd hdeps => ?_
      have e0 : ρ (.tmp 12) = r 3 := by rw [hρ]; rfl
      obtain ⟨b, h1, h2⟩ := hJ.f 3 (hdeps 3 (by decide))
      rw [h1] at e0
      have hc := new13_any 4 l4 W (A := some ⟨b, 0, none⟩) ((h2.row (cs := ints l4)).more h2.lt) (by decide)
      clear hρ h1 h2
      go_simp
      exact hc.mono fun e w' ⟨A, c, he, ho, hb⟩ => ⟨_, he, hJ.made af15.kb (by decide) (by decide) (by decide) (by decide) (fun h => absurd h (by decide)) (fun h => absurd h (by decide)) hb ⟨A, c, rfl, RowX.of_own ho⟩⟩
    · refine Free.step_any rfl rfl fun done r W ρ hρ hcst hfun hJ hV hC hd hdeps => ?_
      have e0 : ρ (.tmp 9) = .agg #[.slice (some ⟨w.heap.size, 0, none⟩) 2 2, .slice (some ⟨w.heap.size + 1, 0, none⟩) 2 2] := by rw [hρ]; exact hV 0 _ (hdeps 0 (by decide)) rfl
      have e1 : ρ (.tmp 11) = r 2 := by rw [hρ]; rfl
      have ed : ρ (.tmp 13) = r 4 := by rw [hρ]; rfl
      obtain ⟨b, h1, -, h3⟩ := hJ.f 2 (hdeps 2 (by decide))
      obtain ⟨A, c, h4, hrow⟩ := hJ.f 4 (hdeps 4 (by decide))
      rw [h1] at e1
      rw [h4] at ed
      have hc := HST.out A c b W hJ.below hrow h3
      clear hρ h1 h3 h4 hrow
      go_simp
      exact hc.mono fun e w' h => by
        obtain ⟨v, he, ht, hb⟩ := h.tup (Nat.le_trans HBS.out hJ.below.size)
        exact ⟨v, he, hJ.made af15.kb (by decide) (by decide) (by decide) (by decide) (fun h => absurd h (by decide)) (fun h => absurd h (by decide)) hb ht⟩
    · refine Free.step_any rfl rfl fun done r W ρ hρ hcst hfun hJ hV hC hd hdeps => ?_
      have e0 : ρ (.tmp 14) = r 5 := by rw [hρ]; rfl
      have hx := hJ.f 5 (hdeps 5 (by decide))
      have hf := hJ.made af15.kb (k := 6) (v := r 5) (by decide) (by decide) (by decide) (by decide) (fun h => absurd h (by decide)) (fun h => absurd h (by decide)) (Below.refl _ _) hx
      clear hρ hx
      go_simp
      exact hf
    · refine Free.step_any rfl rfl fun done r W ρ hρ hcst hfun hJ hV hC hd hdeps => ?_
      have e0 : ρ (.tmp 8) = r 6 := by rw [hρ]; rfl
      obtain ⟨dv, sv, h1, hD, hS⟩ := hJ.f 6 (hdeps 6 (by decide))
      rw [h1] at e0
      have hf := hJ.made af15.kb (k := 7) (v := dv) (by decide) (by decide) (by decide) (by decide) (fun _ => Free.not_done hC 12 7 rfl (by decide) hd) (fun h => absurd h (by decide)) (Below.refl _ _) hD
      clear hρ h1 hD hS
      go_simp
      exact hf
    · refine Free.step_any rfl rfl fun done r W ρ hρ hcst hfun hJ hV hC hd hdeps => ?_
      have e0 : ρ (.tmp 8) = r 6 := by rw [hρ]; rfl
      obtain ⟨dv, sv, h1, hD, hS⟩ := hJ.f 6 (hdeps 6 (by decide))
      rw [h1] at e0
      have hf := hJ.made af15.kb (k := 8) (v := sv) (by decide) (by decide) (by decide) (by decide) (fun h => absurd h (by decide)) (fun _ => Free.not_done hC 13 8 rfl (by decide) hd) (Below.refl _ _) hS
      clear hρ h1 hD hS
      go_simp
      exact hf
    · refine Free.step_val _ rfl rfl fun done r W ρ hρ hcst hfun hJ hV hC hd hdeps => ?_
      have e0 : ρ (.tmp 8) = r 6 := by rw [hρ]; rfl
      obtain ⟨dv, sv, h1, hD, hS⟩ := hJ.f 6 (hdeps 6 (by decide))
      rw [h1] at e0
      clear hρ h1
      refine ⟨?_, hJ.made af15.kb (by decide) (by decide) (by decide) (by decide) (fun h => absurd h (by decide)) (fun h => absurd h (by decide)) (Below.refl _ _) trivial⟩
      go_simp
    · refine Free.step_any rfl rfl fun done r W ρ hρ hcst hfun hJ hV hC hd hdeps => ?_
      have hf := hJ.boxA af15.kb (Free.not_done hC 12 10 rfl (by decide) hd) (by decide) (by decide) (by decide) (by decide) (fun _ _ => trivial)
      clear hρ
      simp only [zD] at hf
      go_simp
      exact hf
    · refine Free.step_any rfl rfl fun done r W ρ hρ hcst hfun hJ hV hC hd hdeps => ?_
      have hf := hJ.boxB af15.kb (Free.not_done hC 13 11 rfl (by decide) hd) (by decide) (by decide) (by decide) (by decide) (fun _ _ => trivial)
      clear hρ
      simp only [zS] at hf
      go_simp
      exact hf
    · refine Free.step_any rfl rfl fun done r W ρ hρ hcst hfun hJ hV hC hd hdeps => ?_
      obtain ⟨b, h1, hz, hset⟩ := hJ.setA af15.kb HBS.out (hdeps 10 (by decide)) hd (by decide) (by decide) (by decide) (by decide) (by decide) (fun _ _ => trivial)
      have hv : TupD Wa.heap.size 4 l4 r15 (r 7) W := hJ.f 7 (hdeps 7 (by decide))
      obtain ⟨A, n1, c1, i, L, n2, c2, h2⟩ := hv.three
      have ep : ρ (.tmp 2) = r 10 := by rw [hρ]; rfl
      have eq : ρ (.tmp 15) = r 7 := by rw [hρ]; rfl
      rw [h1] at ep
      rw [h2] at eq
      obtain ⟨X0, X1, X2, e0, e1, e2, f0, f1, f2, g0, g1, g2, -, -, -, HZ, HH, HBL⟩ := n3_steps hz (.slice A n1 c1) (.int .i64 i) (.slice L n2 c2)
      have hf := hset #[.slice A n1 c1, .int .i64 i, .slice L n2 c2] X2 h2 HZ.out HH.out HBL.out
      clear hρ h1 h2 hset hz hv
      go_simp
      exact hf
    · refine Free.step_any rfl rfl fun done r W ρ hρ hcst hfun hJ hV hC hd hdeps => ?_
      obtain ⟨b, h1, hz, hset⟩ := hJ.setB af15.kb HBS.out (hdeps 11 (by decide)) hd (by decide) (by decide) (by decide) (by decide) (by decide) (fun _ _ => trivial)
      have hv : TupS Wa.heap.size r15 (r 8) W := hJ.f 8 (hdeps 8 (by decide))
      obtain ⟨i, j, A1, n1, c1, A2, n2, c2, A3, n3, c3, h2⟩ := hv.six
      have ep : ρ (.tmp 3) = r 11 := by rw [hρ]; rfl
      have eq : ρ (.tmp 16) = r 8 := by rw [hρ]; rfl
      rw [h1] at ep
      rw [h2] at eq
      obtain ⟨X0, X1, X2, X3, X4, X5, e0, e1, e2, e3, e4, e5, f0, f1, f2, f3, f4, f5, g0, g1, g2, g3, g4, g5, -, -, -, -, -, -, HZ, HH, HBL⟩ := n6_steps13 hz (.int .i64 i) (.int .i64 j) (.slice A1 n1 c1) (.slice A2 n2 c2) (.slice A3 n3 c3) (.slice none 0 0)
      have hf := hset #[.int .i64 i, .int .i64 j, .slice A1 n1 c1, .slice A2 n2 c2, .slice A3 n3 c3, .slice none 0 0] X5 h2 HZ.out HH.out HBL.out
      clear hρ h1 h2 hset hz hv
      go_simp
      exact hf
    · refine Free.step_val _ rfl rfl fun done r W ρ hρ hcst hfun hJ hV hC hd hdeps => ?_
      have e0 : ρ (.tmp 17) = .int .i64 (errN 8 r15 : Nat) := by rw [hρ]; exact hV 9 _ (hdeps 9 (by decide)) rfl
      clear hρ
      refine ⟨?_, hJ.made af15.kb (by decide) (by decide) (by decide) (by decide) (fun h => absurd h (by decide)) (fun h => absurd h (by decide)) (Below.refl _ _) trivial⟩
      go_simp
  · intro done r W  hall hJ hV
    obtain ⟨ba, ea, hla, -, ha⟩ := hJ.a (hall 10 (by decide))
    obtain ⟨bb, eb, hlb, -, hb⟩ := hJ.b (hall 11 (by decide))
    obtain ⟨ca, ev, hca⟩ := ha (hall 12 (by decide))
    obtain ⟨cb, ew, hcb⟩ := hb (hall 13 (by decide))
    have hD : TupD Wa.heap.size 4 l4 r15 (r 7) _ := hJ.f 7 (hall 7 (by decide))
    have hS : TupS Wa.heap.size r15 (r 8) _ := hJ.f 8 (hall 8 (by decide))
    have hbe := hJ.below
    simp only [Free.putAll, Nat.zero_add, ea, eb, hV 0 _ (hall 0 (by decide)) rfl, hV 9 _ (hall 9 (by decide)) rfl, hV 14 _ (hall 14 (by decide)) rfl]
    rw [ev] at hD
    rw [ew] at hS
    clear hJ hV hall ha hb ea eb ev ew
    generalize r 1 = z1
    generalize r 2 = z2
    generalize r 3 = z3
    generalize r 4 = z4
    generalize r 5 = z5
    generalize r 6 = z6
    generalize r 7 = z7
    generalize r 8 = z8
    generalize r 12 = z12
    generalize r 13 = z13
    try clear r done
    have hr := r15_eq
    rw [hr] at hS ⊢
    rw [show errN 8 (some ((⟨⟨0, 0⟩, [⟨1, 2, 1⟩], [], [], []⟩ : St.State), (⟨4, [1, 1, 3, 1, 0, 0, 0, 0]⟩ : Gn.D))) = 0 from rfl]
    obtain ⟨cv, mv, sv, e1, h1, -, -⟩ := hS
    obtain ⟨cA, cc, rfl⟩ := ownT_slice h1
    injection e1 with e1
    subst e1
    have h2 : hcb = hcb := rfl
    have k2 := hcb.cell 2
    have hrow := (ownT_row h1).1
    obtain ⟨ad, hA, -, hc⟩ := hrow (by decide)
    subst hA
    have s0 : W.cell? ad = some (.int .i64 1) := hc 0 _ rfl
    have s1 : W.cell? ⟨ad.block, ad.off + 1, none⟩ = some (.int .i64 2) := hc 1 _ rfl
    have s2 : W.cell? ⟨ad.block, ad.off + 2, none⟩ = some (.int .i64 1) := hc 2 _ rfl
    have HBE := Lib.hid (HB.out.trans (hbe.mono HB.out.size))
    clear hD hca hc hrow h1 h2 hbe hr
    go_wp2
    go_ret
    exact ⟨rfl, HBE.out⟩
end Go.Proofs.Ytmbgndcahlopdaa
