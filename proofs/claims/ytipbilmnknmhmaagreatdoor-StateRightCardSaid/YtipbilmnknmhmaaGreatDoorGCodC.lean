/- The reference's Label. -/
import Derived.Test.YtipbilmnknmhmaaGreatDoorGNotG
import Derived.Test.YtipbilmnknmhmaaGreatDoorGFree
namespace Go.Proofs.YtipbilmnknmhmaaGreatDoor
set_option maxRecDepth 100000
open Go.RowKit Go.Shelf Go.Sort
attribute [local go_sem] Oper.semAt_some
/-- A state is stored at g. -/
def put6 (W : World) (g : Nat) (p : RP) : World := ((((((W.setCell ⟨g, 0, none⟩ (.int .i64 (p.i : Int))).setCell ⟨g, 1, none⟩ (.int .i64 p.n)).setCell ⟨g, 2, none⟩ (.int .i64 p.x.op)).setCell ⟨g, 3, none⟩ (.int .i64 p.x.n)).setCell ⟨g, 4, none⟩ (.int .i64 p.x.l)).setCell ⟨g, 5, none⟩ (.int .i64 (p.e : Int)))
/-- A state lies at g. -/
def PB (W : World) (g : Nat) (p : RP) : Prop := Blk W g 169 #[.int .i64 (p.i : Int), .int .i64 p.n, .int .i64 p.x.op, .int .i64 p.x.n, .int .i64 p.x.l, .int .i64 (p.e : Int)]
def rp0 : RP := ⟨0, 0, ⟨0, 0, 0⟩, 0⟩
theorem PB.put {W : World} {g : Nat} {p : RP} (h : PB W g p) (q : RP) : PB (put6 W g q) g q := (((((h.set_ 0 _).set_ 1 _).set_ 2 _).set_ 3 _).set_ 4 _).set_ 5 _
theorem Blk.put6 {W : World} {g h : Nat} {t : TypeId} {cs : Array Value} (hb : Blk W h t cs) (hg : g ≠ h) (q : RP) : Blk (put6 W g q) h t cs := (((((hb.other hg _).other hg _).other hg _).other hg _).other hg _).other hg _
theorem below_put6 {B : Nat} {a W : World} {g : Nat} (h : Below B a W) (hg : B ≤ g) (q : RP) : Below B a (put6 W g q) := (((((h.setCell (p := ⟨g, 0, none⟩) hg _).setCell (p := ⟨g, 1, none⟩) hg _).setCell (p := ⟨g, 2, none⟩) hg _).setCell (p := ⟨g, 3, none⟩) hg _).setCell (p := ⟨g, 4, none⟩) hg _).setCell (p := ⟨g, 5, none⟩) hg _
theorem PB.cells {W : World} {g : Nat} {p : RP} (h : PB W g p) : (W.cell? ⟨g, 0, none⟩ = some (.int .i64 (p.i : Int)) ∧ W.cell? ⟨g, 1, none⟩ = some (.int .i64 p.n) ∧ W.cell? ⟨g, 2, none⟩ = some (.int .i64 p.x.op) ∧ W.cell? ⟨g, 3, none⟩ = some (.int .i64 p.x.n) ∧ W.cell? ⟨g, 4, none⟩ = some (.int .i64 p.x.l) ∧ W.cell? ⟨g, 5, none⟩ = some (.int .i64 (p.e : Int))) ∧
    (W.frozen? ⟨g, 0, none⟩ = false ∧ W.frozen? ⟨g, 1, none⟩ = false ∧ W.frozen? ⟨g, 2, none⟩ = false ∧ W.frozen? ⟨g, 3, none⟩ = false ∧ W.frozen? ⟨g, 4, none⟩ = false ∧ W.frozen? ⟨g, 5, none⟩ = false) :=
  ⟨⟨h.cell 0, h.cell 1, h.cell 2, h.cell 3, h.cell 4, h.cell 5⟩, h.frozen 0, h.frozen 1, h.frozen 2, h.frozen 3, h.frozen 4, h.frozen 5⟩
/-- Label's (and one's) blocks: the lattice, the state, the answer. -/
structure RL (w : World) (b : Nat) (lv : Array Value) (pb rb : Nat) (p r : RP) (W : World) : Prop where
  lat : Blk W b 25 lv
  st : PB W pb p
  res : PB W rb r
  below : Below w.heap.size w W
  new : w.heap.size ≤ b ∧ w.heap.size ≤ pb ∧ w.heap.size ≤ rb ∧ b ≠ pb ∧ b ≠ rb ∧ pb ≠ rb
section
variable {w W W' : World} {b pb rb : Nat} {lv : Array Value} {p q r : RP}
theorem RL.keep (h : RL w b lv pb rb p r W) (hb : Below W.heap.size W W') : RL w b lv pb rb p r W' :=
  ⟨h.lat.below hb h.lat.lt, Blk.below h.st hb (Blk.lt h.st), Blk.below h.res hb (Blk.lt h.res), h.below.trans (hb.mono h.below.size), h.new⟩
theorem RL.put (h : RL w b lv pb rb p r W) (q : RP) : RL w b lv pb rb q r (put6 W pb q) :=
  ⟨h.lat.put6 (fun e => h.new.2.2.2.1 e.symm) q, h.st.put q, Blk.put6 h.res h.new.2.2.2.2.2 q, below_put6 h.below h.new.2.1 q, h.new⟩
theorem RL.ans (h : RL w b lv pb rb p r W) (q : RP) : RL w b lv pb rb p q (put6 W rb q) :=
  ⟨h.lat.put6 (fun e => h.new.2.2.2.2.1 e.symm) q, Blk.put6 h.st (fun e => h.new.2.2.2.2.2 e.symm) q, h.res.put q, below_put6 h.below h.new.2.2.1 q, h.new⟩
theorem RL.drew (h : RL w b lv pb rb p r W) : RL w b lv pb rb p r W.drew := ⟨h.lat, h.st, h.res, h.below.drew, h.new⟩
theorem RL.setN (h : RL w b lv pb rb p r W) (n : Int) : RL w b lv pb rb { p with n := n } r (W.setCell ⟨pb, 1, none⟩ (.int .i64 n)) :=
  ⟨h.lat.other (fun e => h.new.2.2.2.1 e.symm) _, Blk.set_ h.st 1 _, Blk.other h.res h.new.2.2.2.2.2 _, h.below.setCell h.new.2.1 _, h.new⟩
end
theorem RL.start (w : World) (lv : Array Value) (p : RP) : RL w w.heap.size lv (w.heap.size + 1) (w.heap.size + 1 + 1) p rp0 (((w.alloc (.cells lv 25)).alloc (.cells #[.int .i64 (p.i : Int), .int .i64 p.n, .int .i64 p.x.op, .int .i64 p.x.n, .int .i64 p.x.l, .int .i64 (p.e : Int)] 169)).alloc (.cells #[.int .i64 0, .int .i64 0, .int .i64 0, .int .i64 0, .int .i64 0, .int .i64 0] 169)) := by
  have h1 := Blk.new (w.alloc (.cells lv 25)) 169 #[.int .i64 (p.i : Int), .int .i64 p.n, .int .i64 p.x.op, .int .i64 p.x.n, .int .i64 p.x.l, .int .i64 (p.e : Int)]
  have h2 := Blk.new ((w.alloc (.cells lv 25)).alloc (.cells #[.int .i64 (p.i : Int), .int .i64 p.n, .int .i64 p.x.op, .int .i64 p.x.n, .int .i64 p.x.l, .int .i64 (p.e : Int)] 169)) 169 #[.int .i64 0, .int .i64 0, .int .i64 0, .int .i64 0, .int .i64 0, .int .i64 0]
  simp only [World.size_alloc] at h1 h2
  exact ⟨((Blk.new w _ _).alloc _).alloc _, h1.alloc _, h2, three_new w _ _ _, by omega⟩
/-! Label. -/
end Go.Proofs.YtipbilmnknmhmaaGreatDoor

/- The reference's one (by gen_codc.py). -/
namespace Go.Proofs.YtipbilmnknmhmaaGreatDoor
set_option maxRecDepth 100000
open Go.RowKit Go.Shelf Go.Sort
attribute [local go_sem] Oper.semAt_some

end Go.Proofs.YtipbilmnknmhmaaGreatDoor
