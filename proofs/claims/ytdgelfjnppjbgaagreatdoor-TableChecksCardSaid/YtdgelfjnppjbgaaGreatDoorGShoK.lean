/- The walk of the reference's Thing (by gen_shok.py). -/
import Derived.Deep.RegionHeld3
import Derived.Deep.Cut
import Derived.Test.YtdgelfjnppjbgaaGreatDoorGShoG
namespace Go.Proofs.YtdgelfjnppjbgaaGreatDoor
set_option maxRecDepth 100000
open Go.RowKit Go.Shelf

/-- Three of the reference's things, each in a block of its own, behind w. -/
structure XYZ (w : World) (gy gx : Nat) (sy : ByteArray) (dy fy : Nat) (sx : ByteArray) (dx fx : Nat) (W : World) : Prop where
  b0 : Blk W w.heap.size 119 #[.string { data := #[] }, .int .i64 0, .int .i64 0]
  bY : Blk W gy 119 #[.string sy, .int .i64 dy, .int .i64 fy]
  bx : Blk W gx 119 #[.string sx, .int .i64 dx, .int .i64 fx]
  ne : w.heap.size < gy ∧ gy < gx
  below : Below w.heap.size w W
section
variable {w W W' : World} {gy gx : Nat} {sy sx : ByteArray} {dy fy dx fx : Nat}
theorem XYZ.call (h : XYZ w gy gx sy dy fy sx dx fx W) (hb : Below W.heap.size W W') : XYZ w gy gx sy dy fy sx dx fx W' := ⟨h.b0.below hb h.b0.lt, h.bY.below hb h.bY.lt, h.bx.below hb h.bx.lt, h.ne, h.below.trans (hb.mono h.below.size)⟩
theorem XYZ.drew (h : XYZ w gy gx sy dy fy sx dx fx W) : XYZ w gy gx sy dy fy sx dx fx W.drew := ⟨h.b0.drew, h.bY.drew, h.bx.drew, h.ne, h.below.drew⟩
theorem XYZ.setX (h : XYZ w gy gx sy dy fy sx dx fx W) (s : ByteArray) (d f : Nat) : XYZ w gy gx sy dy fy s d f (((W.setCell ⟨gx, 0, none⟩ (.string s)).setCell ⟨gx, 1, none⟩ (.int .i64 d)).setCell ⟨gx, 2, none⟩ (.int .i64 f)) := by
  have h1 := h.ne
  have e1 : w.heap.size ≤ gx := by omega
  have e2 : gx ≠ w.heap.size := by omega
  have e3 : gx ≠ gy := by omega
  exact ⟨((h.b0.other e2 _).other e2 _).other e2 _, ((h.bY.other e3 _).other e3 _).other e3 _, ((h.bx.set_ 0 _).set_ 1 _).set_ 2 _, h.ne,
    ((h.below.setCell (p := ⟨gx, 0, none⟩) e1 _).setCell (p := ⟨gx, 1, none⟩) e1 _).setCell (p := ⟨gx, 2, none⟩) e1 _⟩
theorem XYZ.setY (h : XYZ w gy gx sy dy fy sx dx fx W) (s : ByteArray) (d f : Nat) : XYZ w gy gx s d f sx dx fx (((W.setCell ⟨gy, 0, none⟩ (.string s)).setCell ⟨gy, 1, none⟩ (.int .i64 d)).setCell ⟨gy, 2, none⟩ (.int .i64 f)) := by
  have h1 := h.ne
  have e1 : w.heap.size ≤ gy := by omega
  have e2 : gy ≠ w.heap.size := by omega
  have e3 : gy ≠ gx := by omega
  exact ⟨((h.b0.other e2 _).other e2 _).other e2 _, ((h.bY.set_ 0 _).set_ 1 _).set_ 2 _, ((h.bx.other e3 _).other e3 _).other e3 _, h.ne,
    ((h.below.setCell (p := ⟨gy, 0, none⟩) e1 _).setCell (p := ⟨gy, 1, none⟩) e1 _).setCell (p := ⟨gy, 2, none⟩) e1 _⟩
theorem XYZ.facts (h : XYZ w gy gx sy dy fy sx dx fx W) : W.cell? ⟨gx, 0, none⟩ = some (.string sx) ∧ W.cell? ⟨gx, 1, none⟩ = some (.int .i64 dx) ∧ W.cell? ⟨gx, 2, none⟩ = some (.int .i64 fx) ∧
    W.cell? ⟨gy, 0, none⟩ = some (.string sy) ∧ W.cell? ⟨gy, 1, none⟩ = some (.int .i64 dy) ∧ W.cell? ⟨gy, 2, none⟩ = some (.int .i64 fy) ∧
    W.frozen? ⟨gx, 0, none⟩ = false ∧ W.frozen? ⟨gx, 1, none⟩ = false ∧ W.frozen? ⟨gx, 2, none⟩ = false ∧ W.frozen? ⟨gy, 0, none⟩ = false ∧ W.frozen? ⟨gy, 1, none⟩ = false ∧ W.frozen? ⟨gy, 2, none⟩ = false :=
  ⟨by rw [h.bx.cell]; rfl, by rw [h.bx.cell]; rfl, by rw [h.bx.cell]; rfl, by rw [h.bY.cell]; rfl, by rw [h.bY.cell]; rfl, by rw [h.bY.cell]; rfl, h.bx.frozen _, h.bx.frozen _, h.bx.frozen _, h.bY.frozen _, h.bY.frozen _, h.bY.frozen _⟩
theorem XYZ.facts0 (h : XYZ w gy gx sy dy fy sx dx fx W) : W.cell? ⟨w.heap.size, 0, none⟩ = some (.string { data := #[] }) ∧ W.cell? ⟨w.heap.size, 1, none⟩ = some (.int .i64 0) ∧ W.cell? ⟨w.heap.size, 2, none⟩ = some (.int .i64 0) ∧
    W.frozen? ⟨w.heap.size, 0, none⟩ = false ∧ W.frozen? ⟨w.heap.size, 1, none⟩ = false ∧ W.frozen? ⟨w.heap.size, 2, none⟩ = false :=
  ⟨by rw [h.b0.cell]; rfl, by rw [h.b0.cell]; rfl, by rw [h.b0.cell]; rfl, h.b0.frozen _, h.b0.frozen _, h.b0.frozen _⟩
end
/-- The three, as Thing makes them. -/
theorem XYZ.start (w w2 w3 : World) (sy : ByteArray) (dy fy : Nat) (sx : ByteArray) (dx fx : Nat)
    (hb2 : Below (w.alloc (.cells #[.string { data := #[] }, .int .i64 0, .int .i64 0] 119)).heap.size (w.alloc (.cells #[.string { data := #[] }, .int .i64 0, .int .i64 0] 119)) w2)
    (hb3 : Below (w2.alloc (.cells #[.string sy, .int .i64 dy, .int .i64 fy] 119)).heap.size (w2.alloc (.cells #[.string sy, .int .i64 dy, .int .i64 fy] 119)) w3) :
    XYZ w w2.heap.size w3.heap.size sy dy fy sx dx fx (w3.alloc (.cells #[.string sx, .int .i64 dx, .int .i64 fx] 119)) := by
  have z1 : (w.alloc (.cells #[.string { data := #[] }, .int .i64 0, .int .i64 0] 119)).heap.size = w.heap.size + 1 := by simp
  have z2 : (w2.alloc (.cells #[.string sy, .int .i64 dy, .int .i64 fy] 119)).heap.size = w2.heap.size + 1 := by simp
  have s2 := hb2.size
  have s3 := hb3.size
  have a0 := ((Blk.new w 119 #[.string { data := #[] }, .int .i64 0, .int .i64 0]).below hb2 (by omega)).alloc (.cells #[.string sy, .int .i64 dy, .int .i64 fy] 119)
  have a1 := a0.below hb3 (by omega)
  have y0 := (Blk.new w2 119 #[.string sy, .int .i64 dy, .int .i64 fy]).below hb3 (by omega)
  have b2 : Below w.heap.size w w2 := ((Below.refl _ w).alloc (Nat.le_refl _) _).trans (hb2.mono (by omega))
  have b3 : Below w.heap.size w w3 := (b2.alloc b2.size _).trans (hb3.mono (by omega))
  exact ⟨a1.alloc _, y0.alloc _, Blk.new w3 _ _, ⟨by omega, by omega⟩, b3.alloc b3.size _⟩

theorem XYZ.behind (w w2 w3 : World) (sy : ByteArray) (dy fy : Nat)
    (_ : Below (w.alloc (.cells #[.string { data := #[] }, .int .i64 0, .int .i64 0] 119)).heap.size (w.alloc (.cells #[.string { data := #[] }, .int .i64 0, .int .i64 0] 119)) w2)
    (hb3 : Below (w2.alloc (.cells #[.string sy, .int .i64 dy, .int .i64 fy] 119)).heap.size (w2.alloc (.cells #[.string sy, .int .i64 dy, .int .i64 fy] 119)) w3) :
    Blk w3 w2.heap.size 119 #[.string sy, .int .i64 dy, .int .i64 fy] ∧ w2.heap.size < w3.heap.size := by
  have z2 : (w2.alloc (.cells #[.string sy, .int .i64 dy, .int .i64 fy] 119)).heap.size = w2.heap.size + 1 := by simp
  have s3 := hb3.size
  exact ⟨(Blk.new w2 119 #[.string sy, .int .i64 dy, .int .i64 fy]).below hb3 (by omega), by omega⟩
theorem XYZ.set0 {w W : World} {gy gx : Nat} {sy sx : ByteArray} {dy fy dx fx : Nat} (h : XYZ w gy gx sy dy fy sx dx fx W) (s : ByteArray) (d f : Nat) :
    let W' := (((W.setCell ⟨w.heap.size, 0, none⟩ (.string s)).setCell ⟨w.heap.size, 1, none⟩ (.int .i64 d)).setCell ⟨w.heap.size, 2, none⟩ (.int .i64 f))
    W'.cell? ⟨gx, 0, none⟩ = some (.string sx) ∧ W'.cell? ⟨gy, 0, none⟩ = some (.string sy) ∧ W'.cell? ⟨w.heap.size, 0, none⟩ = some (.string s) ∧ W'.cell? ⟨w.heap.size, 1, none⟩ = some (.int .i64 d) ∧ W'.cell? ⟨w.heap.size, 2, none⟩ = some (.int .i64 f) ∧ Below w.heap.size w W' := by
  intro W'
  have h1 := h.ne
  have e2 : w.heap.size ≠ gx := by omega
  have e3 : w.heap.size ≠ gy := by omega
  have bx : Blk W' gx 119 #[.string sx, .int .i64 dx, .int .i64 fx] := ((h.bx.other e2 _).other e2 _).other e2 _
  have bY : Blk W' gy 119 #[.string sy, .int .i64 dy, .int .i64 fy] := ((h.bY.other e3 _).other e3 _).other e3 _
  have b0 : Blk W' w.heap.size 119 #[.string s, .int .i64 d, .int .i64 f] := ((h.b0.set_ 0 _).set_ 1 _).set_ 2 _
  exact ⟨by rw [bx.cell]; rfl, by rw [bY.cell]; rfl, by rw [b0.cell]; rfl, by rw [b0.cell]; rfl, by rw [b0.cell]; rfl,
    ((h.below.setCell (p := ⟨w.heap.size, 0, none⟩) (Nat.le_refl _) _).setCell (p := ⟨w.heap.size, 1, none⟩) (Nat.le_refl _) _).setCell (p := ⟨w.heap.size, 2, none⟩) (Nat.le_refl _) _⟩

set_option maxHeartbeats 8000000 in
theorem thing_five {A : Option Addr} {l : List Int} (c : Nat) (tx ty : Int) (i n k fy f : Nat) (sy sx : ByteArray) (dy dx : Nat) (w : World) (hl : l.length ≤ 100000)
    (hc : ∀ W, Below w.heap.size w W → ∃ ad, A = some ad ∧ ad.block < W.heap.size ∧ W.cell? (ad.add i) = some (.int .i64 5) ∧ W.cell? (ad.add n) = some (.int .i64 ty) ∧ W.cell? (ad.add k) = some (.int .i64 tx))
    (hin : i = n + 1) (hn : i < l.length) (hfy : fy = k + 1) (hk : k < l.length)
    (hy : ∀ W, Below w.heap.size w W → Calls Tryz.prog 63 #[.slice A l.length c, .int .i64 n] W (Things W sy dy fy))
    (hx : ∀ W, Below w.heap.size w W → Calls Tryz.prog 63 #[.slice A l.length c, .int .i64 k] W (Things W sx dx f))
    (zy : sy.size ≤ 1000000) (zx : sx.size ≤ 1000000) (_ : dy ≤ 1000000) (_ : dx ≤ 1000000) :
    Calls Tryz.prog 63 #[.slice A l.length c, .int .i64 i] w (Things w (sx ++ { data := #[32] } ++ Sh.nameOf 5 ++ { data := #[32] } ++ sy) (max dx dy) f) := by
  have htw : ∀ W, Calls Tryz.prog 88 #[.int .i64 5] W fun e w' => e = .returned (.bool true) ∧ w' = W := fun W => by
    have := rTwo5_any 5 (by decide) W
    exact this
  have hwd := fun W => rWord_any 5 (by decide) W
  have zn := Sh.name_size 5
  have hi1 : (i : Int) - 1 = (n : Int) := by omega
  have hf1 : (fy : Int) - 1 = (k : Int) := by omega
  have HTW := Lib.hid htw
  have HC := Lib.hid hc
  have HTX := Lib.hid hx
  have HTY := Lib.hid hy
  have HWD := Lib.hid hwd
  obtain ⟨dm, hdm⟩ : ∃ m, max dx dy = m := ⟨_, rfl⟩
  rw [hdm]
  generalize Sh.nameOf 5 = nm at *
  clear htw hc hx hy hwd hin hfy
  obtain ⟨ad, rfl, hb, c0, -, -⟩ := HC.out w (Below.refl _ _)
  have hblk : (ad.add i).block < w.heap.size := by rw [add_block]; exact hb
  go_enter Tryz.func63, Tryz.ntmps63
  go_wp2_with (fail)
  refine (HTW.out _).mono ?_
  rintro e w1 ⟨rfl, rfl⟩
  go_wp2_with (fail)
  refine (HTY.out _ ((Below.refl _ w).alloc (Nat.le_refl _) _)).mono ?_
  rintro e w2 ⟨rfl, hb2⟩
  have HB2 := Lib.hid hb2
  have b2 : Below w.heap.size w w2 := ((Below.refl _ w).alloc (Nat.le_refl _) _).trans (hb2.mono (by simp))
  have HBB2 := Lib.hid b2
  clear hb2 b2
  go_wp2_with (fail)
  refine (HTX.out _ (HBB2.out.alloc HBB2.out.size _)).mono ?_
  rintro e w3 ⟨rfl, hb3⟩
  have hs := XYZ.start w w2 w3 sy dy fy sx dx f HB2.out hb3
  obtain ⟨hY3, h23⟩ := XYZ.behind w w2 w3 sy dy fy HB2.out hb3
  have HS := Lib.hid hs
  have y0 : w3.cell? ⟨w2.heap.size, 0, none⟩ = some (.string sy) := by rw [hY3.cell]; rfl
  have y1 : w3.cell? ⟨w2.heap.size, 1, none⟩ = some (.int .i64 dy) := by rw [hY3.cell]; rfl
  clear hs hb3 hY3
  have q0 : (w3.alloc (.cells #[.string sx, .int .i64 dx, .int .i64 f] 119)).cell? ⟨w3.heap.size, 0, none⟩ = some (.string sx) := by rw [HS.out.bx.cell]; rfl
  have q3 : (w3.alloc (.cells #[.string sx, .int .i64 dx, .int .i64 f] 119)).cell? ⟨w2.heap.size, 0, none⟩ = some (.string sy) := by rw [HS.out.bY.cell]; rfl
  have hno1 : ¬ 9223372036854775807 < sx.size + 1 := by omega
  have hno2 : ¬ 9223372036854775807 < sx.size + 1 + nm.size := by omega
  have hno3 : ¬ 9223372036854775807 < sx.size + 1 + nm.size + 1 := by omega
  have hno4 : ¬ 9223372036854775807 < sx.size + 1 + nm.size + 1 + sy.size := by omega
  by_cases hd : dx < dy
  · have HD : Hid (dm = dy) := by unfold Hid; omega
    go_wp2
    go_region_held3 (fun W => W.cell? ⟨w3.heap.size, 0, none⟩ = some (.string sx) ∧ W.cell? ⟨w2.heap.size, 0, none⟩ = some (.string sy))
      (first | exact ⟨q0, q3⟩ | exact ⟨p0, p3⟩ | exact ⟨(HS9.out.set0 _ _ _).1, (HS9.out.set0 _ _ _).2.1⟩)
      (first
        | (go_at_call 89; refine (HWD.out _).mono ?_; rintro e w9 ⟨rfl, hb9⟩; have hs9 := HS.out.drew.call hb9; have HS9 := Lib.hid hs9; obtain ⟨p0, p1, p2, p3, p4, p5, p6, p7, p8, p9, pa, pb⟩ := hs9.facts; obtain ⟨z0, z1, z2, z3, z4, z5⟩ := hs9.facts0; clear hs9 hb9 p1 p2 p4 p5 p6 p7 p8 p9 pa pb))
    all_goals go_wp2
    all_goals
      obtain ⟨-, -, r0, r1, r2, rB⟩ := HS9.out.set0 (sx ++ { data := #[32] } ++ nm ++ { data := #[32] } ++ sy) dy f
      have RB := Lib.hid rB
      clear rB
      rw [HD.out]
      exact bodyPost_ret (v := .agg #[.string (sx ++ { data := #[32] } ++ nm ++ { data := #[32] } ++ sy), .int .i64 dy, .int .i64 f]) (by simp [results, Tryz.results63, go_sem, r0, r1, r2]) rfl ⟨rfl, RB.out⟩
  · have HD : Hid (dm = dx) := by unfold Hid; omega
    go_wp2
    go_region_held3 (fun W => W.cell? ⟨w3.heap.size, 0, none⟩ = some (.string sx) ∧ W.cell? ⟨w2.heap.size, 0, none⟩ = some (.string sy))
      (first | exact ⟨q0, q3⟩ | exact ⟨p0, p3⟩ | exact ⟨(HS9.out.set0 _ _ _).1, (HS9.out.set0 _ _ _).2.1⟩)
      (first
        | (go_at_call 89; refine (HWD.out _).mono ?_; rintro e w9 ⟨rfl, hb9⟩; have hs9 := HS.out.drew.call hb9; have HS9 := Lib.hid hs9; obtain ⟨p0, p1, p2, p3, p4, p5, p6, p7, p8, p9, pa, pb⟩ := hs9.facts; obtain ⟨z0, z1, z2, z3, z4, z5⟩ := hs9.facts0; clear hs9 hb9 p1 p2 p4 p5 p6 p7 p8 p9 pa pb))
    all_goals go_wp2
    all_goals
      obtain ⟨-, -, r0, r1, r2, rB⟩ := HS9.out.set0 (sx ++ { data := #[32] } ++ nm ++ { data := #[32] } ++ sy) dx f
      have RB := Lib.hid rB
      clear rB
      rw [HD.out]
      exact bodyPost_ret (v := .agg #[.string (sx ++ { data := #[32] } ++ nm ++ { data := #[32] } ++ sy), .int .i64 dx, .int .i64 f]) (by simp [results, Tryz.results63, go_sem, r0, r1, r2]) rfl ⟨rfl, RB.out⟩

set_option maxHeartbeats 8000000 in
theorem thing_node {A : Option Addr} {l : List Int} (c : Nat) (op tx ty : Int) (i n k fy f : Nat) (sy sx sy' sx' : ByteArray) (dy dx dy' dx' : Nat) (w : World) (hl : l.length ≤ 100000)
    (hc : ∀ W, Below w.heap.size w W → ∃ ad, A = some ad ∧ ad.block < W.heap.size ∧ W.cell? (ad.add i) = some (.int .i64 op) ∧ W.cell? (ad.add n) = some (.int .i64 ty) ∧ W.cell? (ad.add k) = some (.int .i64 tx))
    (hin : i = n + 1) (hn : i < l.length) (hfy : fy = k + 1) (hk : k < l.length) (hop : 1 ≤ op ∧ op ≤ 13) (h5 : op ≠ 5) (hlf : Sh.isLeaf op = false)
    (hy : ∀ W, Below w.heap.size w W → Calls Tryz.prog 63 #[.slice A l.length c, .int .i64 n] W (Things W sy dy fy))
    (hx : ∀ W, Below w.heap.size w W → Calls Tryz.prog 63 #[.slice A l.length c, .int .i64 k] W (Things W sx dx f))
    (hwl : ∀ W, Calls Tryz.prog 90 #[.agg #[.string sx, .int .i64 dx, .int .i64 f], .int .i64 tx, .int .i64 op, .int .i64 (Sh.binds op : Nat)] W (Things W sx' dx' f))
    (hwr : ∀ W, Calls Tryz.prog 90 #[.agg #[.string sy, .int .i64 dy, .int .i64 fy], .int .i64 ty, .int .i64 op, .int .i64 ((Sh.binds op : Nat) + 1)] W (Things W sy' dy' fy))
    (zy : sy'.size ≤ 1000000) (zx : sx'.size ≤ 1000000) (_ : dy' ≤ 1000000) (_ : dx' ≤ 1000000) :
    Calls Tryz.prog 63 #[.slice A l.length c, .int .i64 i] w (Things w (sx' ++ { data := #[32] } ++ Sh.nameOf op ++ { data := #[32] } ++ sy') (max dx' dy') f) := by
  have htw : ∀ W, Calls Tryz.prog 88 #[.int .i64 op] W fun e w' => e = .returned (.bool true) ∧ w' = W := fun W => by
    have := rTwo5_any op hop W
    rw [hlf] at this
    exact this
  have hwd := fun W => rWord_any op hop W
  have zn := Sh.name_size op
  have hi1 : (i : Int) - 1 = (n : Int) := by omega
  have hf1 : (fy : Int) - 1 = (k : Int) := by omega
  have hbd := fun W => rBinds_any op hop W
  have HBD := Lib.hid hbd
  have HWL := Lib.hid hwl
  have HWR := Lib.hid hwr
  have h5n : (op != 5) = true := by rw [bne_iff_ne]; exact h5
  have hnl : n < l.length := by omega
  have hwn : IntKind.i64.wrap (n : Int) = (n : Int) := IntWalk.i64_in _ (by omega)
  have hbo := (Sh.binds_pos op).2
  have hwb : IntKind.i64.wrap ((Sh.binds op : Nat) + 1 : Int) = (Sh.binds op : Nat) + 1 := IntWalk.i64_in _ (by omega)
  have HTW := Lib.hid htw
  have HC := Lib.hid hc
  have HTX := Lib.hid hx
  have HTY := Lib.hid hy
  have HWD := Lib.hid hwd
  obtain ⟨dm, hdm⟩ : ∃ m, max dx' dy' = m := ⟨_, rfl⟩
  rw [hdm]
  generalize Sh.nameOf op = nm at *
  generalize Sh.binds op = bo at *
  clear htw hc hx hy hwd hin hfy hbd hwl hwr hlf h5 hop
  obtain ⟨ad, rfl, hb, c0, -, -⟩ := HC.out w (Below.refl _ _)
  have hblk : (ad.add i).block < w.heap.size := by rw [add_block]; exact hb
  go_enter Tryz.func63, Tryz.ntmps63
  go_wp2_with (fail)
  refine (HTW.out _).mono ?_
  rintro e w1 ⟨rfl, rfl⟩
  go_wp2_with (fail)
  refine (HTY.out _ ((Below.refl _ w).alloc (Nat.le_refl _) _)).mono ?_
  rintro e w2 ⟨rfl, hb2⟩
  have HB2 := Lib.hid hb2
  have b2 : Below w.heap.size w w2 := ((Below.refl _ w).alloc (Nat.le_refl _) _).trans (hb2.mono (by simp))
  have HBB2 := Lib.hid b2
  clear hb2 b2
  go_wp2_with (fail)
  refine (HTX.out _ (HBB2.out.alloc HBB2.out.size _)).mono ?_
  rintro e w3 ⟨rfl, hb3⟩
  have hs := XYZ.start w w2 w3 sy dy fy sx dx f HB2.out hb3
  obtain ⟨hY3, h23⟩ := XYZ.behind w w2 w3 sy dy fy HB2.out hb3
  have HS := Lib.hid hs
  have y0 : w3.cell? ⟨w2.heap.size, 0, none⟩ = some (.string sy) := by rw [hY3.cell]; rfl
  have y1 : w3.cell? ⟨w2.heap.size, 1, none⟩ = some (.int .i64 dy) := by rw [hY3.cell]; rfl
  clear hs hb3 hY3
  go_wp2_with (fail)
  obtain ⟨W, hW⟩ : ∃ W, w3.alloc (.cells #[.string sx, .int .i64 dx, .int .i64 f] 119) = W := ⟨_, rfl⟩
  rw [hW] at HS ⊢
  clear hW y0 y1
  obtain ⟨q0, q1, q2, q3, q4, q5, q6, q7, q8, q9, qa, qb⟩ := HS.out.facts
  obtain ⟨ad2, had, hb5, -, -, c2⟩ := HC.out W HS.out.below
  injection had with had
  subst had
  have hblk2 : (ad.add k).block < W.heap.size := by rw [add_block]; exact hb5
  refine still_tail_drew 8 (by kernel_rfl) (by kernel_rfl) ?_
  simp only [List.take_succ_cons, List.take_zero, List.drop_succ_cons, List.drop_zero]
  repeat still_step
  still_call (HBD.out _)
  repeat still_step
  refine wpStill_nil ?_
  go_wp2_with (fail)
  refine (HWL.out _).mono ?_
  rintro e w5 ⟨rfl, hb5⟩
  have hs5 := HS.out.drew.call hb5
  clear q0 q1 q2 q3 q4 q5 q6 q7 q8 q9 qa qb
  obtain ⟨q0, q1, q2, q3, q4, q5, q6, q7, q8, q9, qa, qb⟩ := hs5.facts
  have HS5 := Lib.hid hs5
  clear hs5 hb5 HS
  go_wp2_with (fail)
  have hs6 := HS5.out.setX sx' dx' f
  obtain ⟨W6, hW⟩ : ∃ W6, (((w5.setCell ⟨w3.heap.size, 0, none⟩ (.string sx')).setCell ⟨w3.heap.size, 1, none⟩ (.int .i64 dx')).setCell ⟨w3.heap.size, 2, none⟩ (.int .i64 f)) = W6 := ⟨_, rfl⟩
  rw [hW] at hs6 ⊢
  clear hW q0 q1 q2 q3 q4 q5 q6 q7 q8 q9 qa qb HS5
  obtain ⟨q0, q1, q2, q3, q4, q5, q6, q7, q8, q9, qa, qb⟩ := hs6.facts
  have HS6 := Lib.hid hs6
  clear hs6
  obtain ⟨ad3, had, hb6, -, c1, -⟩ := HC.out W6 HS6.out.below
  injection had with had
  subst had
  have hblk3 : (ad.add n).block < W6.heap.size := by rw [add_block]; exact hb6
  refine still_tail_drew 10 (by kernel_rfl) (by kernel_rfl) ?_
  simp only [List.take_succ_cons, List.take_zero, List.drop_succ_cons, List.drop_zero]
  repeat still_step
  still_call (HBD.out _)
  repeat still_step
  refine wpStill_nil ?_
  go_wp2_with (fail)
  refine (HWR.out _).mono ?_
  rintro e w7 ⟨rfl, hb7⟩
  have hs7 := HS6.out.drew.call hb7
  clear q0 q1 q2 q3 q4 q5 q6 q7 q8 q9 qa qb
  obtain ⟨q0, q1, q2, q3, q4, q5, q6, q7, q8, q9, qa, qb⟩ := hs7.facts
  have HS7 := Lib.hid hs7
  clear hs7 hb7 HS6
  go_upto_region 11 with (fail)
  have HS := Lib.hid (HS7.out.setY sy' dy' fy)
  obtain ⟨W8, hW⟩ : ∃ W8, (((w7.setCell ⟨w2.heap.size, 0, none⟩ (.string sy')).setCell ⟨w2.heap.size, 1, none⟩ (.int .i64 dy')).setCell ⟨w2.heap.size, 2, none⟩ (.int .i64 fy)) = W8 := ⟨_, rfl⟩
  rw [hW] at HS ⊢
  clear hW q0 q1 q2 q3 q4 q5 q6 q7 q8 q9 qa qb HS7
  obtain ⟨q0, q1, q2, q3, q4, q5, q6, q7, q8, q9, qa, qb⟩ := HS.out.facts
  have hno1 : ¬ 9223372036854775807 < sx'.size + 1 := by omega
  have hno2 : ¬ 9223372036854775807 < sx'.size + 1 + nm.size := by omega
  have hno3 : ¬ 9223372036854775807 < sx'.size + 1 + nm.size + 1 := by omega
  have hno4 : ¬ 9223372036854775807 < sx'.size + 1 + nm.size + 1 + sy'.size := by omega
  by_cases hd : dx' < dy'
  · have HD : Hid (dm = dy') := by unfold Hid; omega
    go_wp2
    go_region_held3 (fun W => W.cell? ⟨w3.heap.size, 0, none⟩ = some (.string sx') ∧ W.cell? ⟨w2.heap.size, 0, none⟩ = some (.string sy'))
      (first | exact ⟨q0, q3⟩ | exact ⟨p0, p3⟩ | exact ⟨(HS9.out.set0 _ _ _).1, (HS9.out.set0 _ _ _).2.1⟩)
      (first
        | (go_at_call 89; refine (HWD.out _).mono ?_; rintro e w9 ⟨rfl, hb9⟩; have hs9 := HS.out.drew.call hb9; have HS9 := Lib.hid hs9; obtain ⟨p0, p1, p2, p3, p4, p5, p6, p7, p8, p9, pa, pb⟩ := hs9.facts; obtain ⟨z0, z1, z2, z3, z4, z5⟩ := hs9.facts0; clear hs9 hb9 p1 p2 p4 p5 p6 p7 p8 p9 pa pb))
    all_goals go_wp2
    all_goals
      obtain ⟨-, -, r0, r1, r2, rB⟩ := HS9.out.set0 (sx' ++ { data := #[32] } ++ nm ++ { data := #[32] } ++ sy') dy' f
      have RB := Lib.hid rB
      clear rB
      rw [HD.out]
      exact bodyPost_ret (v := .agg #[.string (sx' ++ { data := #[32] } ++ nm ++ { data := #[32] } ++ sy'), .int .i64 dy', .int .i64 f]) (by simp [results, Tryz.results63, go_sem, r0, r1, r2]) rfl ⟨rfl, RB.out⟩
  · have HD : Hid (dm = dx') := by unfold Hid; omega
    go_wp2
    go_region_held3 (fun W => W.cell? ⟨w3.heap.size, 0, none⟩ = some (.string sx') ∧ W.cell? ⟨w2.heap.size, 0, none⟩ = some (.string sy'))
      (first | exact ⟨q0, q3⟩ | exact ⟨p0, p3⟩ | exact ⟨(HS9.out.set0 _ _ _).1, (HS9.out.set0 _ _ _).2.1⟩)
      (first
        | (go_at_call 89; refine (HWD.out _).mono ?_; rintro e w9 ⟨rfl, hb9⟩; have hs9 := HS.out.drew.call hb9; have HS9 := Lib.hid hs9; obtain ⟨p0, p1, p2, p3, p4, p5, p6, p7, p8, p9, pa, pb⟩ := hs9.facts; obtain ⟨z0, z1, z2, z3, z4, z5⟩ := hs9.facts0; clear hs9 hb9 p1 p2 p4 p5 p6 p7 p8 p9 pa pb))
    all_goals go_wp2
    all_goals
      obtain ⟨-, -, r0, r1, r2, rB⟩ := HS9.out.set0 (sx' ++ { data := #[32] } ++ nm ++ { data := #[32] } ++ sy') dx' f
      have RB := Lib.hid rB
      clear rB
      rw [HD.out]
      exact bodyPost_ret (v := .agg #[.string (sx' ++ { data := #[32] } ++ nm ++ { data := #[32] } ++ sy'), .int .i64 dx', .int .i64 f]) (by simp [results, Tryz.results63, go_sem, r0, r1, r2]) rfl ⟨rfl, RB.out⟩
end Go.Proofs.YtdgelfjnppjbgaaGreatDoor

/- The reference's Thing of any tree, and its Text. -/
namespace Go.Proofs.YtdgelfjnppjbgaaGreatDoor
set_option maxRecDepth 100000
open Go.RowKit Go.Shelf

/-- xs stand in l from f on. -/
def AtL (l : List Int) (f : Nat) (xs : List Int) : Prop := ∀ j u, xs[j]? = some u → l[f + j]? = some u
section
variable {l xs ys : List Int} {f : Nat}
theorem AtL.left (h : AtL l f (xs ++ ys)) : AtL l f xs := fun j u hu => h j u (by rw [List.getElem?_append_left (List.getElem?_eq_some_iff.1 hu).1]; exact hu)
theorem AtL.right (h : AtL l f (xs ++ ys)) : AtL l (f + xs.length) ys := fun j u hu => by
  have := h (xs.length + j) u (by rw [List.getElem?_append_right (by omega), Nat.add_sub_cancel_left]; exact hu)
  rwa [← Nat.add_assoc] at this
theorem AtL.le (h : AtL l f xs) (hn : 0 < xs.length) : f + xs.length ≤ l.length := by
  have h1 := h (xs.length - 1) _ (List.getElem?_eq_getElem (by omega))
  have := (List.getElem?_eq_some_iff.1 h1).1
  omega
end
theorem post_last : ∀ t : Sh.Tree, (Sh.post t)[(Sh.post t).length - 1]? = some (Sh.top t)
  | .leaf op => rfl
  | .node op x y => by
    have e : Sh.post (.node op x y) = (Sh.post x ++ Sh.post y) ++ [op] := rfl
    rw [e, List.length_append, List.length_singleton, Nat.add_sub_cancel, List.getElem?_append_right (Nat.le_refl _), Nat.sub_self]
    rfl
theorem deep_le : ∀ t : Sh.Tree, Sh.deep t + 1 ≤ (Sh.post t).length
  | .leaf _ => Nat.le_refl _
  | .node op x y => by
    have h1 := deep_le x
    have h2 := deep_le y
    have h3 : (Sh.lowL op x).toNat ≤ 1 := by cases Sh.lowL op x <;> decide
    have h4 : (Sh.lowR op y).toNat ≤ 1 := by cases Sh.lowR op y <;> decide
    simp only [Sh.deep, Sh.post, List.length_append, List.length_cons, List.length_nil]
    omega
theorem row_get {w : World} {A : Option Addr} {l : List Int} (h : Row w w.heap.size A (ints l)) {W : World} (hb : Below w.heap.size w W) (hne : 0 < l.length) : ∃ ad, A = some ad ∧ ad.block < W.heap.size ∧ ∀ j u, l[j]? = some u → W.cell? (ad.add j) = some (.int .i64 u) := by
  obtain ⟨ad, e, hk, hc⟩ := ((h.below hb).more hb.size) (by intro e; have h1 := ints_length l; rw [e] at h1; exact absurd h1 (by simp only [List.length_nil]; omega))
  exact ⟨ad, e, hk, fun j u hu => hc j _ (by simp [ints, hu])⟩
set_option maxHeartbeats 4000000 in
theorem thing_leaf {A : Option Addr} {l : List Int} (c : Nat) (op : Int) (i : Nat) (w : World)
    (hc : ∀ W, Below w.heap.size w W → ∃ ad, A = some ad ∧ ad.block < W.heap.size ∧ W.cell? (ad.add i) = some (.int .i64 op)) (hn : i < l.length) (hop : 1 ≤ op ∧ op ≤ 13) (hlf : Sh.isLeaf op = true) :
    Calls Tryz.prog 63 #[.slice A l.length c, .int .i64 i] w (Things w (Sh.nameOf op) 0 i) := by
  have htw : ∀ W, Calls Tryz.prog 88 #[.int .i64 op] W fun e w' => e = .returned (.bool false) ∧ w' = W := fun W => by
    have := rTwo5_any op hop W
    rw [hlf] at this
    exact this
  have hwd := fun W => rWord_any op hop W
  obtain ⟨ad, rfl, hb, c0⟩ := hc w (Below.refl _ _)
  have hblk : (ad.add i).block < w.heap.size := by rw [add_block]; exact hb
  have HTW := Lib.hid htw
  have HWD := Lib.hid hwd
  generalize Sh.nameOf op = nm at *
  clear htw hwd hc hlf hop
  go_enter Tryz.func63, Tryz.ntmps63
  go_wp2_with (fail)
  refine (HTW.out _).mono ?_
  rintro e w1 ⟨rfl, rfl⟩
  go_wp2_with (fail)
  refine (HWD.out _).mono ?_
  rintro e w2 ⟨rfl, hb2⟩
  have hZ : Blk w2 w.heap.size 119 #[.string { data := #[] }, .int .i64 0, .int .i64 0] := (Blk.new w _ _).below hb2 (by simp)
  have hB : Below w.heap.size w w2 := ((Below.refl _ w).alloc (Nat.le_refl _) _).trans (hb2.mono (by simp))
  have HB := Lib.hid hB
  have z0 : w2.cell? ⟨w.heap.size, 0, none⟩ = some (.string { data := #[] }) := by rw [hZ.cell]; rfl
  have z1 : w2.cell? ⟨w.heap.size, 1, none⟩ = some (.int .i64 0) := by rw [hZ.cell]; rfl
  have z2 : w2.cell? ⟨w.heap.size, 2, none⟩ = some (.int .i64 0) := by rw [hZ.cell]; rfl
  have z3 := hZ.frozen 0
  have z4 := hZ.frozen 1
  have z5 := hZ.frozen 2
  have hS : Blk (((w2.setCell ⟨w.heap.size, 0, none⟩ (.string nm)).setCell ⟨w.heap.size, 1, none⟩ (.int .i64 0)).setCell ⟨w.heap.size, 2, none⟩ (.int .i64 i)) w.heap.size 119 #[.string nm, .int .i64 0, .int .i64 i] := ((hZ.set_ 0 _).set_ 1 _).set_ 2 _
  have HS := Lib.hid hS
  clear hb2 hZ hB hS
  go_wp2
  have r0 : (((w2.setCell ⟨w.heap.size, 0, none⟩ (.string nm)).setCell ⟨w.heap.size, 1, none⟩ (.int .i64 0)).setCell ⟨w.heap.size, 2, none⟩ (.int .i64 i)).cell? ⟨w.heap.size, 0, none⟩ = some (.string nm) := by rw [HS.out.cell]; rfl
  have r1 : (((w2.setCell ⟨w.heap.size, 0, none⟩ (.string nm)).setCell ⟨w.heap.size, 1, none⟩ (.int .i64 0)).setCell ⟨w.heap.size, 2, none⟩ (.int .i64 i)).cell? ⟨w.heap.size, 1, none⟩ = some (.int .i64 0) := by rw [HS.out.cell]; rfl
  have r2 : (((w2.setCell ⟨w.heap.size, 0, none⟩ (.string nm)).setCell ⟨w.heap.size, 1, none⟩ (.int .i64 0)).setCell ⟨w.heap.size, 2, none⟩ (.int .i64 i)).cell? ⟨w.heap.size, 2, none⟩ = some (.int .i64 i) := by rw [HS.out.cell]; rfl
  exact bodyPost_ret (v := .agg #[.string nm, .int .i64 0, .int .i64 i]) (by simp [results, Tryz.results63, go_sem, r0, r1, r2]) rfl ⟨rfl, ((HB.out.setCell (p := ⟨w.heap.size, 0, none⟩) (Nat.le_refl _) _).setCell (p := ⟨w.heap.size, 1, none⟩) (Nat.le_refl _) _).setCell (p := ⟨w.heap.size, 2, none⟩) (Nat.le_refl _) _⟩
theorem within_L {op : Int} {x : Sh.Tree} {b : Bool} (h5 : op ≠ 5) (hx : Sh.Ok b x) (f : Nat) (hs : (Sh.txt x).length ≤ 1000000) (hd : Sh.deep x ≤ 1000000) (W : World) :
    Calls Tryz.prog 90 #[.agg #[.string (Lx.pack (Sh.txt x)), .int .i64 (Sh.deep x), .int .i64 f], .int .i64 (Sh.top x), .int .i64 op, .int .i64 (Sh.binds op : Nat)] W (Things W (Lx.pack (Sh.wrapT (Sh.lowL op x) (Sh.square op) (Sh.txt x))) (Sh.deep x + (Sh.lowL op x).toNat) f) := by
  have hr := Sh.ok_range hx
  unfold Sh.lowL
  by_cases h : Sh.bt x < Sh.binds op
  · rw [decide_eq_true ⟨h5, h⟩, Sh.wrap_yes]
    exact rWithin_yes _ _ f _ op _ hr h (by rw [Lx.pack_size]; omega) (by omega) W
  · rw [decide_eq_false (fun h1 => h h1.2)]
    exact rWithin_no _ _ f _ op _ hr (by unfold Sh.bt at h; omega) W
theorem within_R {op : Int} {x : Sh.Tree} {b : Bool} (h5 : op ≠ 5) (hx : Sh.Ok b x) (f : Nat) (hs : (Sh.txt x).length ≤ 1000000) (hd : Sh.deep x ≤ 1000000) (W : World) :
    Calls Tryz.prog 90 #[.agg #[.string (Lx.pack (Sh.txt x)), .int .i64 (Sh.deep x), .int .i64 f], .int .i64 (Sh.top x), .int .i64 op, .int .i64 ((Sh.binds op : Nat) + 1)] W (Things W (Lx.pack (Sh.wrapT (Sh.lowR op x) (Sh.square op) (Sh.txt x))) (Sh.deep x + (Sh.lowR op x).toNat) f) := by
  have hr := Sh.ok_range hx
  unfold Sh.lowR
  by_cases h : Sh.bt x < Sh.binds op + 1
  · rw [decide_eq_true ⟨h5, h⟩, Sh.wrap_yes]
    exact rWithin_yes _ _ f _ op (Sh.binds op + 1) hr h (by rw [Lx.pack_size]; omega) (by omega) W
  · rw [decide_eq_false (fun h1 => h h1.2)]
    exact rWithin_no _ _ f _ op (Sh.binds op + 1) hr (by unfold Sh.bt at h; omega) W
theorem txt_sep (n : Int) (x y : Sh.Tree) : Lx.pack (Sh.txt (.node n x y)) = Lx.pack (Sh.wrapT (Sh.lowL n x) (Sh.square n) (Sh.txt x)) ++ { data := #[32] } ++ Sh.nameOf n ++ { data := #[32] } ++ Lx.pack (Sh.wrapT (Sh.lowR n y) (Sh.square n) (Sh.txt y)) := by
  rw [Sh.txt_node]
  apply ByteArray.ext
  simp [Array.append_assoc]
theorem thing_any {A : Option Addr} {l : List Int} (c : Nat) (hl : l.length ≤ 100000) : ∀ (t : Sh.Tree) (b : Bool) (f : Nat) (w : World), Sh.Ok b t → AtL l f (Sh.post t) → Row w w.heap.size A (ints l) →
    Calls Tryz.prog 63 #[.slice A l.length c, .int .i64 ((f + (Sh.post t).length - 1 : Nat) : Int)] w (Things w (Lx.pack (Sh.txt t)) (Sh.deep t) f)
  | .leaf op, b, f, w, ht, ha, h => by
    have hle := ha.le (Nat.zero_lt_one)
    have e : f + (Sh.post (.leaf op)).length - 1 = f := by show f + 1 - 1 = f; omega
    rw [e, show Sh.txt (.leaf op) = (Sh.nameOf op).data.toList from rfl, Sh.pack_name]
    have h0 : l[f]? = some op := ha 0 op rfl
    have hlen : f < l.length := (List.getElem?_eq_some_iff.1 h0).1
    exact thing_leaf c op f w (fun W hb => by
      obtain ⟨ad, e1, hk, hc⟩ := row_get h hb (by omega)
      exact ⟨ad, e1, hk, hc f op h0⟩) hlen (Sh.ok_range ht) (Sh.ok_leaf ht)
  | .node op x y, b, f, w, ht, ha, h => by
    obtain ⟨b', hx, hy⟩ := Sh.ok_sub ht
    have e : Sh.post (.node op x y) = (Sh.post x ++ Sh.post y) ++ [op] := rfl
    rw [e] at ha ⊢
    have hax : AtL l f (Sh.post x) := ha.left.left
    have hay : AtL l (f + (Sh.post x).length) (Sh.post y) := ha.left.right
    have px := Sh.post_pos x
    have py := Sh.post_pos y
    have hle := ha.le (by simp; omega)
    have hlo := ha.right 0 op rfl
    have hlx := hax _ _ (post_last x)
    have hly := hay _ _ (post_last y)
    have lx := Sh.txt_len x b' hx
    have ly := Sh.txt_len y b' hy
    have dx := deep_le x
    have dy := deep_le y
    simp only [List.length_append, List.length_cons, List.length_nil] at hle hlo ⊢
    have hcy : ∀ W, Below w.heap.size w W → Calls Tryz.prog 63 #[.slice A l.length c, .int .i64 ((f + (Sh.post x).length + (Sh.post y).length - 1 : Nat) : Int)] W (Things W (Lx.pack (Sh.txt y)) (Sh.deep y) (f + (Sh.post x).length)) :=
      fun W hb => thing_any c hl y b' _ W hy hay ((h.below hb).more hb.size)
    have hcx : ∀ W, Below w.heap.size w W → Calls Tryz.prog 63 #[.slice A l.length c, .int .i64 ((f + (Sh.post x).length - 1 : Nat) : Int)] W (Things W (Lx.pack (Sh.txt x)) (Sh.deep x) f) :=
      fun W hb => thing_any c hl x b' _ W hx hax ((h.below hb).more hb.size)
    have hcc : ∀ W, Below w.heap.size w W → ∃ ad, A = some ad ∧ ad.block < W.heap.size ∧ W.cell? (ad.add (f + ((Sh.post x).length + (Sh.post y).length))) = some (.int .i64 op) ∧ W.cell? (ad.add (f + (Sh.post x).length + (Sh.post y).length - 1)) = some (.int .i64 (Sh.top y)) ∧ W.cell? (ad.add (f + (Sh.post x).length - 1)) = some (.int .i64 (Sh.top x)) := fun W hb => by
      obtain ⟨ad, e1, hk, hc⟩ := row_get h hb (by omega)
      refine ⟨ad, e1, hk, hc _ _ (by simpa using hlo), hc _ _ ?_, hc _ _ ?_⟩
      · rw [show f + (Sh.post x).length + (Sh.post y).length - 1 = f + (Sh.post x).length + ((Sh.post y).length - 1) by omega]; exact hly
      · rw [show f + (Sh.post x).length - 1 = f + ((Sh.post x).length - 1) by omega]; exact hlx
    rw [show f + ((Sh.post x).length + (Sh.post y).length + (0 + 1)) - 1 = f + ((Sh.post x).length + (Sh.post y).length) by omega, txt_sep]
    have hwx := Sh.wrapT_len (Sh.lowL op x) (Sh.square op) (Sh.txt x)
    have hwy := Sh.wrapT_len (Sh.lowR op y) (Sh.square op) (Sh.txt y)
    by_cases h5 : op = 5
    · subst h5
      exact thing_five c (Sh.top x) (Sh.top y) _ _ _ _ f (Lx.pack (Sh.txt y)) (Lx.pack (Sh.txt x)) (Sh.deep y) (Sh.deep x) w hl hcc (by omega) (by omega) (by omega) (by omega) hcy hcx (by rw [Lx.pack_size]; omega) (by rw [Lx.pack_size]; omega) (by omega) (by omega)
    · have tL : (Sh.lowL op x).toNat ≤ 1 := by cases Sh.lowL op x <;> decide
      have tR : (Sh.lowR op y).toNat ≤ 1 := by cases Sh.lowR op y <;> decide
      exact thing_node c op (Sh.top x) (Sh.top y) _ _ _ _ f _ _ _ _ _ _ _ _ w hl hcc (by omega) (by omega) (by omega) (by omega) (Sh.ok_range ht) h5 (Sh.ok_noleaf ht) hcy hcx
        (fun W => within_L h5 hx f (by omega) (by omega) W) (fun W => within_R h5 hy _ (by omega) (by omega) W) (by rw [Lx.pack_size]; omega) (by rw [Lx.pack_size]; omega) (by omega) (by omega)
/-- The reference's Text. -/
theorem rText_any {A : Option Addr} (t : Sh.Tree) (b : Bool) (ht : Sh.Ok b t) (c : Nat) (w : World) (h : Row w w.heap.size A (ints (Sh.post t))) (hl : (Sh.post t).length ≤ 40) : Calls Tryz.prog 40 #[.slice A (Sh.post t).length c] w (Wrote w (Sh.tells (Sh.thOf t))) := by
  have hp := Sh.post_pos t
  have hth := thing_any c (by omega) t b 0 w ht (l := Sh.post t) (fun j u hu => by rw [Nat.zero_add]; exact hu) h
  obtain ⟨n, hn⟩ : ∃ n, (Sh.post t).length = n + 1 := ⟨(Sh.post t).length - 1, by omega⟩
  rw [Nat.zero_add, hn, Nat.add_sub_cancel] at hth
  rw [hn]
  unfold Sh.tells Wrote Sh.thOf
  dsimp only
  generalize Lx.pack (Sh.txt t) = s at *
  generalize Sh.deep t = d at *
  have HT := Lib.hid hth
  clear hth h
  by_cases hd : 12 < d
  · rw [if_pos hd]
    go_enter Tryz.func40, Tryz.ntmps40
    go_wp2_with (fail)
    refine HT.out.mono ?_
    rintro e w1 ⟨rfl, hb1⟩
    have HB := Lib.hid hb1
    clear hb1
    go_wp2
    go_ret2
    exact ⟨rfl, HB.out.alloc HB.out.size _⟩
  · rw [if_neg hd]
    go_enter Tryz.func40, Tryz.ntmps40
    go_wp2_with (fail)
    refine HT.out.mono ?_
    rintro e w1 ⟨rfl, hb1⟩
    have HB := Lib.hid hb1
    clear hb1
    go_wp2
    go_ret2
    exact ⟨rfl, HB.out.alloc HB.out.size _⟩
end Go.Proofs.YtdgelfjnppjbgaaGreatDoor
