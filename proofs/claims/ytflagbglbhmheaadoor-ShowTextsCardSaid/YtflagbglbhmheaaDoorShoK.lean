/- The walk of the reference's Thing (by gen_shok.py). -/
import Derived.Test.YtflagbglbhmheaaDoorShoJ
import Derived.Deep.RegionHeld3
import Derived.Deep.Cut
namespace Go.Proofs.YtflagbglbhmheaaDoor
set_option maxRecDepth 100000
open Go.RowKit Go.Shelf

/-- Three of the reference's things, each in a block of its own, behind w. -/
structure XYZ (w : World) (gy gx : Nat) (sy : ByteArray) (dy fy : Nat) (sx : ByteArray) (dx fx : Nat) (W : World) : Prop where
  b0 : Blk W w.heap.size 53 #[.string { data := #[] }, .int .i64 0, .int .i64 0]
  bY : Blk W gy 53 #[.string sy, .int .i64 dy, .int .i64 fy]
  bx : Blk W gx 53 #[.string sx, .int .i64 dx, .int .i64 fx]
  ne : w.heap.size < gy ∧ gy < gx
  below : Below w.heap.size w W
section
variable {w W W' : World} {gy gx : Nat} {sy sx : ByteArray} {dy fy dx fx : Nat}
theorem XYZ.call (h : XYZ w gy gx sy dy fy sx dx fx W) (hb : Below W.heap.size W W') : XYZ w gy gx sy dy fy sx dx fx W' := ⟨h.b0.below hb h.b0.lt, h.bY.below hb h.bY.lt, h.bx.below hb h.bx.lt, h.ne, h.below.trans (hb.mono h.below.size)⟩
theorem XYZ.drew (h : XYZ w gy gx sy dy fy sx dx fx W) : XYZ w gy gx sy dy fy sx dx fx W.drew := ⟨h.b0.drew, h.bY.drew, h.bx.drew, h.ne, h.below.drew⟩
theorem XYZ.setX (h : XYZ w gy gx sy dy fy sx dx fx W) (s : ByteArray) (d f : Nat) : XYZ w gy gx sy dy fy s d f (((W.setCell ⟨gx, 0, none⟩ (.string s)).setCell ⟨gx, 1, none⟩ (.int .i64 d)).setCell ⟨gx, 2, none⟩ (.int .i64 f)) := by
  have h1 := h.ne
  have e1 : w.heap.size ≤ gx := by omega
  have e2 : gx ≠ w.heap.size := by omega
  have e3 : gx ≠ gy := by omega
  exact ⟨((h.b0.other e2 _).other e2 _).other e2 _, ((h.bY.other e3 _).other e3 _).other e3 _, ((h.bx.set_ 0 _).set_ 1 _).set_ 2 _, h.ne,
    ((h.below.setCell (p := ⟨gx, 0, none⟩) e1 _).setCell (p := ⟨gx, 1, none⟩) e1 _).setCell (p := ⟨gx, 2, none⟩) e1 _⟩
theorem XYZ.setY (h : XYZ w gy gx sy dy fy sx dx fx W) (s : ByteArray) (d f : Nat) : XYZ w gy gx s d f sx dx fx (((W.setCell ⟨gy, 0, none⟩ (.string s)).setCell ⟨gy, 1, none⟩ (.int .i64 d)).setCell ⟨gy, 2, none⟩ (.int .i64 f)) := by
  have h1 := h.ne
  have e1 : w.heap.size ≤ gy := by omega
  have e2 : gy ≠ w.heap.size := by omega
  have e3 : gy ≠ gx := by omega
  exact ⟨((h.b0.other e2 _).other e2 _).other e2 _, ((h.bY.set_ 0 _).set_ 1 _).set_ 2 _, ((h.bx.other e3 _).other e3 _).other e3 _, h.ne,
    ((h.below.setCell (p := ⟨gy, 0, none⟩) e1 _).setCell (p := ⟨gy, 1, none⟩) e1 _).setCell (p := ⟨gy, 2, none⟩) e1 _⟩
theorem XYZ.facts (h : XYZ w gy gx sy dy fy sx dx fx W) : W.cell? ⟨gx, 0, none⟩ = some (.string sx) ∧ W.cell? ⟨gx, 1, none⟩ = some (.int .i64 dx) ∧ W.cell? ⟨gx, 2, none⟩ = some (.int .i64 fx) ∧
    W.cell? ⟨gy, 0, none⟩ = some (.string sy) ∧ W.cell? ⟨gy, 1, none⟩ = some (.int .i64 dy) ∧ W.cell? ⟨gy, 2, none⟩ = some (.int .i64 fy) ∧
    W.frozen? ⟨gx, 0, none⟩ = false ∧ W.frozen? ⟨gx, 1, none⟩ = false ∧ W.frozen? ⟨gx, 2, none⟩ = false ∧ W.frozen? ⟨gy, 0, none⟩ = false ∧ W.frozen? ⟨gy, 1, none⟩ = false ∧ W.frozen? ⟨gy, 2, none⟩ = false :=
  ⟨by rw [h.bx.cell]; rfl, by rw [h.bx.cell]; rfl, by rw [h.bx.cell]; rfl, by rw [h.bY.cell]; rfl, by rw [h.bY.cell]; rfl, by rw [h.bY.cell]; rfl, h.bx.frozen _, h.bx.frozen _, h.bx.frozen _, h.bY.frozen _, h.bY.frozen _, h.bY.frozen _⟩
theorem XYZ.facts0 (h : XYZ w gy gx sy dy fy sx dx fx W) : W.cell? ⟨w.heap.size, 0, none⟩ = some (.string { data := #[] }) ∧ W.cell? ⟨w.heap.size, 1, none⟩ = some (.int .i64 0) ∧ W.cell? ⟨w.heap.size, 2, none⟩ = some (.int .i64 0) ∧
    W.frozen? ⟨w.heap.size, 0, none⟩ = false ∧ W.frozen? ⟨w.heap.size, 1, none⟩ = false ∧ W.frozen? ⟨w.heap.size, 2, none⟩ = false :=
  ⟨by rw [h.b0.cell]; rfl, by rw [h.b0.cell]; rfl, by rw [h.b0.cell]; rfl, h.b0.frozen _, h.b0.frozen _, h.b0.frozen _⟩
end
/-- The three, as Thing makes them. -/
theorem XYZ.start (w w2 w3 : World) (sy : ByteArray) (dy fy : Nat) (sx : ByteArray) (dx fx : Nat)
    (hb2 : Below (w.alloc (.cells #[.string { data := #[] }, .int .i64 0, .int .i64 0] 53)).heap.size (w.alloc (.cells #[.string { data := #[] }, .int .i64 0, .int .i64 0] 53)) w2)
    (hb3 : Below (w2.alloc (.cells #[.string sy, .int .i64 dy, .int .i64 fy] 53)).heap.size (w2.alloc (.cells #[.string sy, .int .i64 dy, .int .i64 fy] 53)) w3) :
    XYZ w w2.heap.size w3.heap.size sy dy fy sx dx fx (w3.alloc (.cells #[.string sx, .int .i64 dx, .int .i64 fx] 53)) := by
  have z1 : (w.alloc (.cells #[.string { data := #[] }, .int .i64 0, .int .i64 0] 53)).heap.size = w.heap.size + 1 := by simp
  have z2 : (w2.alloc (.cells #[.string sy, .int .i64 dy, .int .i64 fy] 53)).heap.size = w2.heap.size + 1 := by simp
  have s2 := hb2.size
  have s3 := hb3.size
  have a0 := ((Blk.new w 53 #[.string { data := #[] }, .int .i64 0, .int .i64 0]).below hb2 (by omega)).alloc (.cells #[.string sy, .int .i64 dy, .int .i64 fy] 53)
  have a1 := a0.below hb3 (by omega)
  have y0 := (Blk.new w2 53 #[.string sy, .int .i64 dy, .int .i64 fy]).below hb3 (by omega)
  have b2 : Below w.heap.size w w2 := ((Below.refl _ w).alloc (Nat.le_refl _) _).trans (hb2.mono (by omega))
  have b3 : Below w.heap.size w w3 := (b2.alloc b2.size _).trans (hb3.mono (by omega))
  exact ⟨a1.alloc _, y0.alloc _, Blk.new w3 _ _, ⟨by omega, by omega⟩, b3.alloc b3.size _⟩

theorem XYZ.behind (w w2 w3 : World) (sy : ByteArray) (dy fy : Nat)
    (_ : Below (w.alloc (.cells #[.string { data := #[] }, .int .i64 0, .int .i64 0] 53)).heap.size (w.alloc (.cells #[.string { data := #[] }, .int .i64 0, .int .i64 0] 53)) w2)
    (hb3 : Below (w2.alloc (.cells #[.string sy, .int .i64 dy, .int .i64 fy] 53)).heap.size (w2.alloc (.cells #[.string sy, .int .i64 dy, .int .i64 fy] 53)) w3) :
    Blk w3 w2.heap.size 53 #[.string sy, .int .i64 dy, .int .i64 fy] ∧ w2.heap.size < w3.heap.size := by
  have z2 : (w2.alloc (.cells #[.string sy, .int .i64 dy, .int .i64 fy] 53)).heap.size = w2.heap.size + 1 := by simp
  have s3 := hb3.size
  exact ⟨(Blk.new w2 53 #[.string sy, .int .i64 dy, .int .i64 fy]).below hb3 (by omega), by omega⟩
theorem XYZ.set0 {w W : World} {gy gx : Nat} {sy sx : ByteArray} {dy fy dx fx : Nat} (h : XYZ w gy gx sy dy fy sx dx fx W) (s : ByteArray) (d f : Nat) :
    let W' := (((W.setCell ⟨w.heap.size, 0, none⟩ (.string s)).setCell ⟨w.heap.size, 1, none⟩ (.int .i64 d)).setCell ⟨w.heap.size, 2, none⟩ (.int .i64 f))
    W'.cell? ⟨gx, 0, none⟩ = some (.string sx) ∧ W'.cell? ⟨gy, 0, none⟩ = some (.string sy) ∧ W'.cell? ⟨w.heap.size, 0, none⟩ = some (.string s) ∧ W'.cell? ⟨w.heap.size, 1, none⟩ = some (.int .i64 d) ∧ W'.cell? ⟨w.heap.size, 2, none⟩ = some (.int .i64 f) ∧ Below w.heap.size w W' := by
  intro W'
  have h1 := h.ne
  have e2 : w.heap.size ≠ gx := by omega
  have e3 : w.heap.size ≠ gy := by omega
  have bx : Blk W' gx 53 #[.string sx, .int .i64 dx, .int .i64 fx] := ((h.bx.other e2 _).other e2 _).other e2 _
  have bY : Blk W' gy 53 #[.string sy, .int .i64 dy, .int .i64 fy] := ((h.bY.other e3 _).other e3 _).other e3 _
  have b0 : Blk W' w.heap.size 53 #[.string s, .int .i64 d, .int .i64 f] := ((h.b0.set_ 0 _).set_ 1 _).set_ 2 _
  exact ⟨by rw [bx.cell]; rfl, by rw [bY.cell]; rfl, by rw [b0.cell]; rfl, by rw [b0.cell]; rfl, by rw [b0.cell]; rfl,
    ((h.below.setCell (p := ⟨w.heap.size, 0, none⟩) (Nat.le_refl _) _).setCell (p := ⟨w.heap.size, 1, none⟩) (Nat.le_refl _) _).setCell (p := ⟨w.heap.size, 2, none⟩) (Nat.le_refl _) _⟩

set_option maxHeartbeats 8000000 in
theorem thing_five {A : Option Addr} {l : List Int} (c : Nat) (tx ty : Int) (i n k fy f : Nat) (sy sx : ByteArray) (dy dx : Nat) (w : World) (hl : l.length ≤ 100000)
    (hc : ∀ W, Below w.heap.size w W → ∃ ad, A = some ad ∧ ad.block < W.heap.size ∧ W.cell? (ad.add i) = some (.int .i64 5) ∧ W.cell? (ad.add n) = some (.int .i64 ty) ∧ W.cell? (ad.add k) = some (.int .i64 tx))
    (hin : i = n + 1) (hn : i < l.length) (hfy : fy = k + 1) (hk : k < l.length)
    (hy : ∀ W, Below w.heap.size w W → Calls Tryd.prog 20 #[.slice A l.length c, .int .i64 n] W (Things W sy dy fy))
    (hx : ∀ W, Below w.heap.size w W → Calls Tryd.prog 20 #[.slice A l.length c, .int .i64 k] W (Things W sx dx f))
    (zy : sy.size ≤ 1000000) (zx : sx.size ≤ 1000000) (_ : dy ≤ 1000000) (_ : dx ≤ 1000000) :
    Calls Tryd.prog 20 #[.slice A l.length c, .int .i64 i] w (Things w (sx ++ { data := #[32] } ++ Sh.nameOf 5 ++ { data := #[32] } ++ sy) (max dx dy) f) := by
  have htw : ∀ W, Calls Tryd.prog 35 #[.int .i64 5] W fun e w' => e = .returned (.bool true) ∧ w' = W := fun W => by
    have := rTwo5_any 5 (by decide) W
    exact this
  have hwd := fun W => rWord_any 5 (by decide) W
  have zn := Sh.name_size 5
  have hi1 : (i : Int) - 1 = (n : Int) := by omega
  have hf1 : (fy : Int) - 1 = (k : Int) := by omega
  have HTW := Lib.hid htw
  have HC := Lib.hid hc
  have HTX := Lib.hid hx
  have HTY := Lib.hid hy
  have HWD := Lib.hid hwd
  obtain ⟨dm, hdm⟩ : ∃ m, max dx dy = m := ⟨_, rfl⟩
  rw [hdm]
  generalize Sh.nameOf 5 = nm at *
  clear htw hc hx hy hwd hin hfy
  obtain ⟨ad, rfl, hb, c0, -, -⟩ := HC.out w (Below.refl _ _)
  have hblk : (ad.add i).block < w.heap.size := by rw [add_block]; exact hb
  go_enter Tryd.func20, Tryd.ntmps20
  go_wp2_with (fail)
  refine (HTW.out _).mono ?_
  rintro e w1 ⟨rfl, rfl⟩
  go_wp2_with (fail)
  refine (HTY.out _ ((Below.refl _ w).alloc (Nat.le_refl _) _)).mono ?_
  rintro e w2 ⟨rfl, hb2⟩
  have HB2 := Lib.hid hb2
  have b2 : Below w.heap.size w w2 := ((Below.refl _ w).alloc (Nat.le_refl _) _).trans (hb2.mono (by simp))
  have HBB2 := Lib.hid b2
  clear hb2 b2
  go_wp2_with (fail)
  refine (HTX.out _ (HBB2.out.alloc HBB2.out.size _)).mono ?_
  rintro e w3 ⟨rfl, hb3⟩
  have hs := XYZ.start w w2 w3 sy dy fy sx dx f HB2.out hb3
  obtain ⟨hY3, h23⟩ := XYZ.behind w w2 w3 sy dy fy HB2.out hb3
  have HS := Lib.hid hs
  have y0 : w3.cell? ⟨w2.heap.size, 0, none⟩ = some (.string sy) := by rw [hY3.cell]; rfl
  have y1 : w3.cell? ⟨w2.heap.size, 1, none⟩ = some (.int .i64 dy) := by rw [hY3.cell]; rfl
  clear hs hb3 hY3
  have q0 : (w3.alloc (.cells #[.string sx, .int .i64 dx, .int .i64 f] 53)).cell? ⟨w3.heap.size, 0, none⟩ = some (.string sx) := by rw [HS.out.bx.cell]; rfl
  have q3 : (w3.alloc (.cells #[.string sx, .int .i64 dx, .int .i64 f] 53)).cell? ⟨w2.heap.size, 0, none⟩ = some (.string sy) := by rw [HS.out.bY.cell]; rfl
  have hno1 : ¬ 9223372036854775807 < sx.size + 1 := by omega
  have hno2 : ¬ 9223372036854775807 < sx.size + 1 + nm.size := by omega
  have hno3 : ¬ 9223372036854775807 < sx.size + 1 + nm.size + 1 := by omega
  have hno4 : ¬ 9223372036854775807 < sx.size + 1 + nm.size + 1 + sy.size := by omega
  by_cases hd : dx < dy
  · have HD : Hid (dm = dy) := by unfold Hid; omega
    go_wp2
    go_region_held3 (fun W => W.cell? ⟨w3.heap.size, 0, none⟩ = some (.string sx) ∧ W.cell? ⟨w2.heap.size, 0, none⟩ = some (.string sy))
      (first | exact ⟨q0, q3⟩ | exact ⟨p0, p3⟩ | exact ⟨(HS9.out.set0 _ _ _).1, (HS9.out.set0 _ _ _).2.1⟩)
      (first
        | (go_at_call 36; refine (HWD.out _).mono ?_; rintro e w9 ⟨rfl, hb9⟩; have hs9 := HS.out.drew.call hb9; have HS9 := Lib.hid hs9; obtain ⟨p0, p1, p2, p3, p4, p5, p6, p7, p8, p9, pa, pb⟩ := hs9.facts; obtain ⟨z0, z1, z2, z3, z4, z5⟩ := hs9.facts0; clear hs9 hb9 p1 p2 p4 p5 p6 p7 p8 p9 pa pb))
    all_goals go_wp2
    all_goals
      obtain ⟨-, -, r0, r1, r2, rB⟩ := HS9.out.set0 (sx ++ { data := #[32] } ++ nm ++ { data := #[32] } ++ sy) dy f
      have RB := Lib.hid rB
      clear rB
      rw [HD.out]
      exact bodyPost_ret (v := .agg #[.string (sx ++ { data := #[32] } ++ nm ++ { data := #[32] } ++ sy), .int .i64 dy, .int .i64 f]) (by simp [results, Tryd.results20, go_sem, r0, r1, r2]) rfl ⟨rfl, RB.out⟩
  · have HD : Hid (dm = dx) := by unfold Hid; omega
    go_wp2
    go_region_held3 (fun W => W.cell? ⟨w3.heap.size, 0, none⟩ = some (.string sx) ∧ W.cell? ⟨w2.heap.size, 0, none⟩ = some (.string sy))
      (first | exact ⟨q0, q3⟩ | exact ⟨p0, p3⟩ | exact ⟨(HS9.out.set0 _ _ _).1, (HS9.out.set0 _ _ _).2.1⟩)
      (first
        | (go_at_call 36; refine (HWD.out _).mono ?_; rintro e w9 ⟨rfl, hb9⟩; have hs9 := HS.out.drew.call hb9; have HS9 := Lib.hid hs9; obtain ⟨p0, p1, p2, p3, p4, p5, p6, p7, p8, p9, pa, pb⟩ := hs9.facts; obtain ⟨z0, z1, z2, z3, z4, z5⟩ := hs9.facts0; clear hs9 hb9 p1 p2 p4 p5 p6 p7 p8 p9 pa pb))
    all_goals go_wp2
    all_goals
      obtain ⟨-, -, r0, r1, r2, rB⟩ := HS9.out.set0 (sx ++ { data := #[32] } ++ nm ++ { data := #[32] } ++ sy) dx f
      have RB := Lib.hid rB
      clear rB
      rw [HD.out]
      exact bodyPost_ret (v := .agg #[.string (sx ++ { data := #[32] } ++ nm ++ { data := #[32] } ++ sy), .int .i64 dx, .int .i64 f]) (by simp [results, Tryd.results20, go_sem, r0, r1, r2]) rfl ⟨rfl, RB.out⟩

set_option maxHeartbeats 8000000 in
theorem thing_node {A : Option Addr} {l : List Int} (c : Nat) (op tx ty : Int) (i n k fy f : Nat) (sy sx sy' sx' : ByteArray) (dy dx dy' dx' : Nat) (w : World) (hl : l.length ≤ 100000)
    (hc : ∀ W, Below w.heap.size w W → ∃ ad, A = some ad ∧ ad.block < W.heap.size ∧ W.cell? (ad.add i) = some (.int .i64 op) ∧ W.cell? (ad.add n) = some (.int .i64 ty) ∧ W.cell? (ad.add k) = some (.int .i64 tx))
    (hin : i = n + 1) (hn : i < l.length) (hfy : fy = k + 1) (hk : k < l.length) (hop : 1 ≤ op ∧ op ≤ 13) (h5 : op ≠ 5) (hlf : Sh.isLeaf op = false)
    (hy : ∀ W, Below w.heap.size w W → Calls Tryd.prog 20 #[.slice A l.length c, .int .i64 n] W (Things W sy dy fy))
    (hx : ∀ W, Below w.heap.size w W → Calls Tryd.prog 20 #[.slice A l.length c, .int .i64 k] W (Things W sx dx f))
    (hwl : ∀ W, Calls Tryd.prog 37 #[.agg #[.string sx, .int .i64 dx, .int .i64 f], .int .i64 tx, .int .i64 op, .int .i64 (Sh.binds op : Nat)] W (Things W sx' dx' f))
    (hwr : ∀ W, Calls Tryd.prog 37 #[.agg #[.string sy, .int .i64 dy, .int .i64 fy], .int .i64 ty, .int .i64 op, .int .i64 ((Sh.binds op : Nat) + 1)] W (Things W sy' dy' fy))
    (zy : sy'.size ≤ 1000000) (zx : sx'.size ≤ 1000000) (_ : dy' ≤ 1000000) (_ : dx' ≤ 1000000) :
    Calls Tryd.prog 20 #[.slice A l.length c, .int .i64 i] w (Things w (sx' ++ { data := #[32] } ++ Sh.nameOf op ++ { data := #[32] } ++ sy') (max dx' dy') f) := by
  have htw : ∀ W, Calls Tryd.prog 35 #[.int .i64 op] W fun e w' => e = .returned (.bool true) ∧ w' = W := fun W => by
    have := rTwo5_any op hop W
    rw [hlf] at this
    exact this
  have hwd := fun W => rWord_any op hop W
  have zn := Sh.name_size op
  have hi1 : (i : Int) - 1 = (n : Int) := by omega
  have hf1 : (fy : Int) - 1 = (k : Int) := by omega
  have hbd := fun W => rBinds_any op hop W
  have HBD := Lib.hid hbd
  have HWL := Lib.hid hwl
  have HWR := Lib.hid hwr
  have h5n : (op != 5) = true := by rw [bne_iff_ne]; exact h5
  have hnl : n < l.length := by omega
  have hwn : IntKind.i64.wrap (n : Int) = (n : Int) := IntWalk.i64_in _ (by omega)
  have hbo := (Sh.binds_pos op).2
  have hwb : IntKind.i64.wrap ((Sh.binds op : Nat) + 1 : Int) = (Sh.binds op : Nat) + 1 := IntWalk.i64_in _ (by omega)
  have HTW := Lib.hid htw
  have HC := Lib.hid hc
  have HTX := Lib.hid hx
  have HTY := Lib.hid hy
  have HWD := Lib.hid hwd
  obtain ⟨dm, hdm⟩ : ∃ m, max dx' dy' = m := ⟨_, rfl⟩
  rw [hdm]
  generalize Sh.nameOf op = nm at *
  generalize Sh.binds op = bo at *
  clear htw hc hx hy hwd hin hfy hbd hwl hwr hlf h5 hop
  obtain ⟨ad, rfl, hb, c0, -, -⟩ := HC.out w (Below.refl _ _)
  have hblk : (ad.add i).block < w.heap.size := by rw [add_block]; exact hb
  go_enter Tryd.func20, Tryd.ntmps20
  go_wp2_with (fail)
  refine (HTW.out _).mono ?_
  rintro e w1 ⟨rfl, rfl⟩
  go_wp2_with (fail)
  refine (HTY.out _ ((Below.refl _ w).alloc (Nat.le_refl _) _)).mono ?_
  rintro e w2 ⟨rfl, hb2⟩
  have HB2 := Lib.hid hb2
  have b2 : Below w.heap.size w w2 := ((Below.refl _ w).alloc (Nat.le_refl _) _).trans (hb2.mono (by simp))
  have HBB2 := Lib.hid b2
  clear hb2 b2
  go_wp2_with (fail)
  refine (HTX.out _ (HBB2.out.alloc HBB2.out.size _)).mono ?_
  rintro e w3 ⟨rfl, hb3⟩
  have hs := XYZ.start w w2 w3 sy dy fy sx dx f HB2.out hb3
  obtain ⟨hY3, h23⟩ := XYZ.behind w w2 w3 sy dy fy HB2.out hb3
  have HS := Lib.hid hs
  have y0 : w3.cell? ⟨w2.heap.size, 0, none⟩ = some (.string sy) := by rw [hY3.cell]; rfl
  have y1 : w3.cell? ⟨w2.heap.size, 1, none⟩ = some (.int .i64 dy) := by rw [hY3.cell]; rfl
  clear hs hb3 hY3
  go_wp2_with (fail)
  obtain ⟨W, hW⟩ : ∃ W, w3.alloc (.cells #[.string sx, .int .i64 dx, .int .i64 f] 53) = W := ⟨_, rfl⟩
  rw [hW] at HS ⊢
  clear hW y0 y1
  obtain ⟨q0, q1, q2, q3, q4, q5, q6, q7, q8, q9, qa, qb⟩ := HS.out.facts
  obtain ⟨ad2, had, hb5, -, -, c2⟩ := HC.out W HS.out.below
  injection had with had
  subst had
  have hblk2 : (ad.add k).block < W.heap.size := by rw [add_block]; exact hb5
  refine still_tail_drew 8 (by kernel_rfl) (by kernel_rfl) ?_
  simp only [List.take_succ_cons, List.take_zero, List.drop_succ_cons, List.drop_zero]
  repeat still_step
  still_call (HBD.out _)
  repeat still_step
  refine wpStill_nil ?_
  go_wp2_with (fail)
  refine (HWL.out _).mono ?_
  rintro e w5 ⟨rfl, hb5⟩
  have hs5 := HS.out.drew.call hb5
  clear q0 q1 q2 q3 q4 q5 q6 q7 q8 q9 qa qb
  obtain ⟨q0, q1, q2, q3, q4, q5, q6, q7, q8, q9, qa, qb⟩ := hs5.facts
  have HS5 := Lib.hid hs5
  clear hs5 hb5 HS
  go_wp2_with (fail)
  have hs6 := HS5.out.setX sx' dx' f
  obtain ⟨W6, hW⟩ : ∃ W6, (((w5.setCell ⟨w3.heap.size, 0, none⟩ (.string sx')).setCell ⟨w3.heap.size, 1, none⟩ (.int .i64 dx')).setCell ⟨w3.heap.size, 2, none⟩ (.int .i64 f)) = W6 := ⟨_, rfl⟩
  rw [hW] at hs6 ⊢
  clear hW q0 q1 q2 q3 q4 q5 q6 q7 q8 q9 qa qb HS5
  obtain ⟨q0, q1, q2, q3, q4, q5, q6, q7, q8, q9, qa, qb⟩ := hs6.facts
  have HS6 := Lib.hid hs6
  clear hs6
  obtain ⟨ad3, had, hb6, -, c1, -⟩ := HC.out W6 HS6.out.below
  injection had with had
  subst had
  have hblk3 : (ad.add n).block < W6.heap.size := by rw [add_block]; exact hb6
  refine still_tail_drew 10 (by kernel_rfl) (by kernel_rfl) ?_
  simp only [List.take_succ_cons, List.take_zero, List.drop_succ_cons, List.drop_zero]
  repeat still_step
  still_call (HBD.out _)
  repeat still_step
  refine wpStill_nil ?_
  go_wp2_with (fail)
  refine (HWR.out _).mono ?_
  rintro e w7 ⟨rfl, hb7⟩
  have hs7 := HS6.out.drew.call hb7
  clear q0 q1 q2 q3 q4 q5 q6 q7 q8 q9 qa qb
  obtain ⟨q0, q1, q2, q3, q4, q5, q6, q7, q8, q9, qa, qb⟩ := hs7.facts
  have HS7 := Lib.hid hs7
  clear hs7 hb7 HS6
  go_upto_region 11 with (fail)
  have HS := Lib.hid (HS7.out.setY sy' dy' fy)
  obtain ⟨W8, hW⟩ : ∃ W8, (((w7.setCell ⟨w2.heap.size, 0, none⟩ (.string sy')).setCell ⟨w2.heap.size, 1, none⟩ (.int .i64 dy')).setCell ⟨w2.heap.size, 2, none⟩ (.int .i64 fy)) = W8 := ⟨_, rfl⟩
  rw [hW] at HS ⊢
  clear hW q0 q1 q2 q3 q4 q5 q6 q7 q8 q9 qa qb HS7
  obtain ⟨q0, q1, q2, q3, q4, q5, q6, q7, q8, q9, qa, qb⟩ := HS.out.facts
  have hno1 : ¬ 9223372036854775807 < sx'.size + 1 := by omega
  have hno2 : ¬ 9223372036854775807 < sx'.size + 1 + nm.size := by omega
  have hno3 : ¬ 9223372036854775807 < sx'.size + 1 + nm.size + 1 := by omega
  have hno4 : ¬ 9223372036854775807 < sx'.size + 1 + nm.size + 1 + sy'.size := by omega
  by_cases hd : dx' < dy'
  · have HD : Hid (dm = dy') := by unfold Hid; omega
    go_wp2
    go_region_held3 (fun W => W.cell? ⟨w3.heap.size, 0, none⟩ = some (.string sx') ∧ W.cell? ⟨w2.heap.size, 0, none⟩ = some (.string sy'))
      (first | exact ⟨q0, q3⟩ | exact ⟨p0, p3⟩ | exact ⟨(HS9.out.set0 _ _ _).1, (HS9.out.set0 _ _ _).2.1⟩)
      (first
        | (go_at_call 36; refine (HWD.out _).mono ?_; rintro e w9 ⟨rfl, hb9⟩; have hs9 := HS.out.drew.call hb9; have HS9 := Lib.hid hs9; obtain ⟨p0, p1, p2, p3, p4, p5, p6, p7, p8, p9, pa, pb⟩ := hs9.facts; obtain ⟨z0, z1, z2, z3, z4, z5⟩ := hs9.facts0; clear hs9 hb9 p1 p2 p4 p5 p6 p7 p8 p9 pa pb))
    all_goals go_wp2
    all_goals
      obtain ⟨-, -, r0, r1, r2, rB⟩ := HS9.out.set0 (sx' ++ { data := #[32] } ++ nm ++ { data := #[32] } ++ sy') dy' f
      have RB := Lib.hid rB
      clear rB
      rw [HD.out]
      exact bodyPost_ret (v := .agg #[.string (sx' ++ { data := #[32] } ++ nm ++ { data := #[32] } ++ sy'), .int .i64 dy', .int .i64 f]) (by simp [results, Tryd.results20, go_sem, r0, r1, r2]) rfl ⟨rfl, RB.out⟩
  · have HD : Hid (dm = dx') := by unfold Hid; omega
    go_wp2
    go_region_held3 (fun W => W.cell? ⟨w3.heap.size, 0, none⟩ = some (.string sx') ∧ W.cell? ⟨w2.heap.size, 0, none⟩ = some (.string sy'))
      (first | exact ⟨q0, q3⟩ | exact ⟨p0, p3⟩ | exact ⟨(HS9.out.set0 _ _ _).1, (HS9.out.set0 _ _ _).2.1⟩)
      (first
        | (go_at_call 36; refine (HWD.out _).mono ?_; rintro e w9 ⟨rfl, hb9⟩; have hs9 := HS.out.drew.call hb9; have HS9 := Lib.hid hs9; obtain ⟨p0, p1, p2, p3, p4, p5, p6, p7, p8, p9, pa, pb⟩ := hs9.facts; obtain ⟨z0, z1, z2, z3, z4, z5⟩ := hs9.facts0; clear hs9 hb9 p1 p2 p4 p5 p6 p7 p8 p9 pa pb))
    all_goals go_wp2
    all_goals
      obtain ⟨-, -, r0, r1, r2, rB⟩ := HS9.out.set0 (sx' ++ { data := #[32] } ++ nm ++ { data := #[32] } ++ sy') dx' f
      have RB := Lib.hid rB
      clear rB
      rw [HD.out]
      exact bodyPost_ret (v := .agg #[.string (sx' ++ { data := #[32] } ++ nm ++ { data := #[32] } ++ sy'), .int .i64 dx', .int .i64 f]) (by simp [results, Tryd.results20, go_sem, r0, r1, r2]) rfl ⟨rfl, RB.out⟩
end Go.Proofs.YtflagbglbhmheaaDoor
