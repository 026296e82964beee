/- The reference's reader of rules: what a state is; here, next, fail. -/
import Derived.Handy
import Derived.Test.YtggcmkpafpjnoaaGreatDoorGRulD
import Derived.Test.YtggcmkpafpjnoaaGreatDoorGRulB
namespace Go.Proofs.YtggcmkpafpjnoaaGreatDoor
set_option maxRecDepth 100000
open Go.RowKit Go.Shelf

/-- A state is answered (tokens, place, the rule so far, how deep, what is wrong), and old memory stays. -/
def Gave (w : World) (A : Option Addr) (n c p : Nat) (A2 : Option Addr) (m c2 : Nat) (d : Int) (e : Nat) (en : Ending) (w' : World) : Prop := en = .returned (.agg #[.slice A n c, .int .i64 p, .slice A2 m c2, .int .i64 d, .int .i64 e]) ∧ Below w.heap.size w w'
/-- The block of a result, one behind the state's, before it is written. -/
structure PZ (w W : World) : Prop where
  blk : Blk W (w.heap.size + 1) 107 #[.slice none 0 0, .int .i64 0, .slice none 0 0, .int .i64 0, .int .i64 0]
  below : Below w.heap.size w W
section
variable {w W W' : World}
theorem PZ.start (w W : World) (o : Obj) (hb : Below ((w.alloc o).alloc (.cells #[.slice none 0 0, .int .i64 0, .slice none 0 0, .int .i64 0, .int .i64 0] 107)).heap.size ((w.alloc o).alloc (.cells #[.slice none 0 0, .int .i64 0, .slice none 0 0, .int .i64 0, .int .i64 0] 107)) W) : PZ w W := by
  have h0 : (w.alloc o).heap.size = w.heap.size + 1 := by simp
  have h1 := Blk.new (w.alloc o) 107 #[.slice none 0 0, .int .i64 0, .slice none 0 0, .int .i64 0, .int .i64 0]
  rw [h0] at h1
  exact ⟨h1.below hb (by simp), (((Below.refl _ w).alloc (Nat.le_refl _) _).alloc (by simp) _).trans (hb.mono (by simp; omega))⟩
theorem PZ.call (h : PZ w W) (hb : Below W.heap.size W W') : PZ w W' := ⟨h.blk.below hb h.blk.lt, h.below.trans (hb.mono h.below.size)⟩
theorem PZ.facts (h : PZ w W) : W.cell? ⟨w.heap.size + 1, 0, none⟩ = some (.slice none 0 0) ∧ W.cell? ⟨w.heap.size + 1, 1, none⟩ = some (.int .i64 0) ∧ W.cell? ⟨w.heap.size + 1, 2, none⟩ = some (.slice none 0 0) ∧ W.cell? ⟨w.heap.size + 1, 3, none⟩ = some (.int .i64 0) ∧ W.cell? ⟨w.heap.size + 1, 4, none⟩ = some (.int .i64 0) ∧
    W.frozen? ⟨w.heap.size + 1, 0, none⟩ = false ∧ W.frozen? ⟨w.heap.size + 1, 1, none⟩ = false ∧ W.frozen? ⟨w.heap.size + 1, 2, none⟩ = false ∧ W.frozen? ⟨w.heap.size + 1, 3, none⟩ = false ∧ W.frozen? ⟨w.heap.size + 1, 4, none⟩ = false :=
  ⟨by rw [h.blk.cell]; rfl, by rw [h.blk.cell]; rfl, by rw [h.blk.cell]; rfl, by rw [h.blk.cell]; rfl, by rw [h.blk.cell]; rfl, h.blk.frozen _, h.blk.frozen _, h.blk.frozen _, h.blk.frozen _, h.blk.frozen _⟩
theorem PZ.set_ (h : PZ w W) (v1 v2 : Value) (p d e : Int) :
    let W' := (((((W.setCell ⟨w.heap.size + 1, 0, none⟩ v1).setCell ⟨w.heap.size + 1, 1, none⟩ (.int .i64 p)).setCell ⟨w.heap.size + 1, 2, none⟩ v2).setCell ⟨w.heap.size + 1, 3, none⟩ (.int .i64 d)).setCell ⟨w.heap.size + 1, 4, none⟩ (.int .i64 e))
    W'.cell? ⟨w.heap.size + 1, 0, none⟩ = some v1 ∧ W'.cell? ⟨w.heap.size + 1, 1, none⟩ = some (.int .i64 p) ∧ W'.cell? ⟨w.heap.size + 1, 2, none⟩ = some v2 ∧ W'.cell? ⟨w.heap.size + 1, 3, none⟩ = some (.int .i64 d) ∧ W'.cell? ⟨w.heap.size + 1, 4, none⟩ = some (.int .i64 e) ∧ Below w.heap.size w W' := by
  intro W'
  have hb : Blk W' (w.heap.size + 1) 107 #[v1, .int .i64 p, v2, .int .i64 d, .int .i64 e] := ((((h.blk.set_ 0 _).set_ 1 _).set_ 2 _).set_ 3 _).set_ 4 _
  have hl : w.heap.size ≤ w.heap.size + 1 := Nat.le_succ _
  exact ⟨by rw [hb.cell]; rfl, by rw [hb.cell]; rfl, by rw [hb.cell]; rfl, by rw [hb.cell]; rfl, by rw [hb.cell]; rfl,
    ((((h.below.setCell (p := ⟨w.heap.size + 1, 0, none⟩) hl _).setCell (p := ⟨w.heap.size + 1, 1, none⟩) hl _).setCell (p := ⟨w.heap.size + 1, 2, none⟩) hl _).setCell (p := ⟨w.heap.size + 1, 3, none⟩) hl _).setCell (p := ⟨w.heap.size + 1, 4, none⟩) hl _⟩
end
section
variable {A A2 : Option Addr} {l : List Lx.Tk} {c p m c2 : Nat} {d : Int}
set_option maxHeartbeats 2000000 in
theorem here_ok (x : ByteArray) (w : World) (h : Row w w.heap.size A (tcells l)) (hp : p < l.length) : Calls Tryz.prog 97 #[.agg #[.slice A l.length c, .int .i64 p, .slice A2 m c2, .int .i64 d, .int .i64 0], .string x] w (Tells w (Rl.isN l p x)) := by
  obtain ⟨ad, t, rfl, hb, ht, t0, t1, t2⟩ := trow_at h hp
  have hn := isN_of ht x
  have hblk : (ad.add (p * 3)).block < w.heap.size := by rw [add_block]; exact hb
  have HN := Lib.hid hn
  clear hn ht h
  obtain ⟨kd, y, ps⟩ := t
  dsimp only at t0 t1 t2
  go_enter Tryz.func97, Tryz.ntmps97
  go_wp2
  all_goals
    go_ret
    refine ⟨retb ?_, (((Below.refl _ w).alloc (Nat.le_refl _) _).alloc (by simp) _)⟩
    rw [HN.out]
    first
      | (rw [str_beq, Bool.eq_iff_iff, decide_eq_true_eq, decide_eq_true_eq]; constructor
         · intro e; exact ⟨by omega, e⟩
         · intro e; exact e.2)
      | (symm; rw [decide_eq_false_iff_not]; rintro ⟨e, _⟩; omega)
set_option maxHeartbeats 2000000 in
theorem here_err (x : ByteArray) (en : Nat) (he : en ≠ 0) (w : World) (h : Row w w.heap.size A (tcells l)) (hp : p < l.length) : Calls Tryz.prog 97 #[.agg #[.slice A l.length c, .int .i64 p, .slice A2 m c2, .int .i64 d, .int .i64 en], .string x] w (Tells w false) := by
  obtain ⟨ad, t, rfl, hb, ht, t0, t1, t2⟩ := trow_at h hp
  have hblk : (ad.add (p * 3)).block < w.heap.size := by rw [add_block]; exact hb
  have he1 : ((en : Int) == 0) = false := by rw [beq_eq_false_iff_ne]; omega
  clear ht h he
  obtain ⟨kd, y, ps⟩ := t
  dsimp only at t0 t1 t2
  go_enter Tryz.func97, Tryz.ntmps97
  go_wp2
  go_ret
  exact ⟨rfl, (((Below.refl _ w).alloc (Nat.le_refl _) _).alloc (by simp) _)⟩
theorem next_ok (n : Nat) (en : Nat) (w : World) (hp : p + 1 < n) (hn : n ≤ 1000000) : Calls Tryz.prog 98 #[.agg #[.slice A n c, .int .i64 p, .slice A2 m c2, .int .i64 d, .int .i64 en]] w (Gave w A n c (p + 1) A2 m c2 d en) := by
  have h1 : (p : Int) + 1 < (n : Int) := by omega
  go_enter Tryz.func98, Tryz.ntmps98
  go_wp2
  go_returns
  exact ⟨rfl, (((Below.refl _ w).alloc (Nat.le_refl _) _).alloc (by simp) _)⟩
theorem fail_ok (n x : Nat) (w : World) : Calls Tryz.prog 122 #[.agg #[.slice A n c, .int .i64 p, .slice A2 m c2, .int .i64 d, .int .i64 0], .int .i64 x] w (Gave w A n c p A2 m c2 d x) := by
  go_enter Tryz.func122, Tryz.ntmps122
  go_wp2
  go_returns
  exact ⟨rfl, (((Below.refl _ w).alloc (Nat.le_refl _) _).alloc (by simp) _)⟩
theorem put_err (n en : Nat) (o : Int) (he : en ≠ 0) (w : World) : Calls Tryz.prog 99 #[.agg #[.slice A n c, .int .i64 p, .slice A2 m c2, .int .i64 d, .int .i64 en], .int .i64 o] w (Gave w A n c p A2 m c2 d en) := by
  have he1 : ((en : Int) != 0) = true := by rw [bne_iff_ne]; omega
  clear he
  go_enter Tryz.func99, Tryz.ntmps99
  go_wp2
  go_returns
  exact ⟨rfl, (((Below.refl _ w).alloc (Nat.le_refl _) _).alloc (by simp) _)⟩
theorem must_err (n en : Nat) (x : ByteArray) (he : en ≠ 0) (w : World) : Calls Tryz.prog 138 #[.agg #[.slice A n c, .int .i64 p, .slice A2 m c2, .int .i64 d, .int .i64 en], .string x] w (Gave w A n c p A2 m c2 d en) := by
  have he1 : ((en : Int) != 0) = true := by rw [bne_iff_ne]; omega
  clear he
  go_enter Tryz.func138, Tryz.ntmps138
  go_wp2
  go_returns
  exact ⟨rfl, (((Below.refl _ w).alloc (Nat.le_refl _) _).alloc (by simp) _)⟩
theorem rput_full (n : Nat) (o : Int) (w : World) : Calls Tryz.prog 99 #[.agg #[.slice A n c, .int .i64 p, .slice A2 40 c2, .int .i64 d, .int .i64 0], .int .i64 o] w (Gave w A n c p A2 40 c2 d 8) := by
  have hf := fun W => fail_ok (A := A) (c := c) (p := p) (d := d) (A2 := A2) (m := 40) (c2 := c2) n 8 W
  have HF := Lib.hid hf
  clear hf
  go_enter Tryz.func99, Tryz.ntmps99
  go_wp2_with (fail)
  refine (HF.out _).mono ?_
  rintro e w1 ⟨rfl, hb1⟩
  have hz := PZ.start w w1 _ hb1
  obtain ⟨z0, z1, z2, z3, z4, y0, y1, y2, y3, y4⟩ := hz.facts
  have HZ := Lib.hid hz
  clear hz hb1
  go_wp2
  obtain ⟨r0, r1, r2, r3, r4, rB⟩ := HZ.out.set_ (.slice A n c) (.slice A2 40 c2) p d 8
  have RB := Lib.hid rB
  clear rB
  exact bodyPost_ret (v := .agg #[.slice A n c, .int .i64 p, .slice A2 40 c2, .int .i64 d, .int .i64 8]) (by simp [results, Tryz.results99, go_sem, r0, r1, r2, r3, r4]) rfl ⟨rfl, RB.out⟩
end
end Go.Proofs.YtggcmkpafpjnoaaGreatDoor
