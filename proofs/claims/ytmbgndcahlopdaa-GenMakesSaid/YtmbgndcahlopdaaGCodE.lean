/- The reference's one is the plain one; what From holds at the head of a round. -/
import Derived.Test.YtmbgndcahlopdaaGCodC
import Derived.Test.YtmbgndcahlopdaaGCodK
import Derived.Test.YtmbgndcahlopdaaGRefJ
import Derived.Test.YtmbgndcahlopdaaGNotG
import Derived.Test.YtmbgndcahlopdaaGCodP
import Derived.Test.YtmbgndcahlopdaaGCodA
import Derived.Test.YtmbgndcahlopdaaGTabE
import Derived.Test.YtmbgndcahlopdaaGFree
namespace Go.Proofs.Ytmbgndcahlopdaa
set_option maxRecDepth 100000
open Go.RowKit Go.Shelf Go.Sort

end Go.Proofs.Ytmbgndcahlopdaa

/- The reference's way of reading a state, plain: it is what tokens tell. -/
namespace Go.Proofs.Ytmbgndcahlopdaa
set_option maxRecDepth 100000
open Lx (Tk)
open Tb (tok Fine)
end Go.Proofs.Ytmbgndcahlopdaa

/- Rows of atoms and slots in memory; a state as a value; what a reading keeps of them. -/
namespace Go.Proofs.Ytmbgndcahlopdaa
set_option maxRecDepth 100000
open Go.RowKit Go.Shelf
attribute [local go_sem] Oper.semAt_some

def avs (x : St.Atom) : List Value := [.int .i64 x.v, .int .i64 x.l]
def svs (x : St.Slot) : List Value := [.bool x.ret, .int .i64 x.v, .int .i64 x.l]
theorem avs_len (x : St.Atom) : (avs x).length = 2 := rfl
theorem svs_len (x : St.Slot) : (svs x).length = 3 := rfl
def atv (x : St.Atom) : Value := .agg #[.int .i64 x.v, .int .i64 x.l]
def slv (x : St.Slot) : Value := .agg #[.bool x.ret, .int .i64 x.v, .int .i64 x.l]
theorem arow_at {w : World} {B : Nat} {A : Option Addr} {l : List St.Atom} {k : Nat} (h : Row w B A (fcells avs l)) (hk : k < l.length) : ∃ ad t, A = some ad ∧ ad.block < B ∧ l[k]? = some t ∧ w.cell? (ad.add (k * 2)) = some (.int .i64 t.v) ∧
    w.cell? ⟨(ad.add (k * 2)).block, (ad.add (k * 2)).off + 1, none⟩ = some (.int .i64 t.l) := by
  have hlen := fcells_length avs_len l
  obtain ⟨ad, e, hb, hc⟩ := h (by intro e; rw [e] at hlen; simp at hlen; omega)
  have h0 := fcells_at avs_len l k l[k] (List.getElem?_eq_getElem hk) 0 (by decide)
  have h1 := fcells_at avs_len l k l[k] (List.getElem?_eq_getElem hk) 1 (by decide)
  exact ⟨ad, l[k], e, hb, List.getElem?_eq_getElem hk, hc _ _ h0, by rw [← addr_next _ _ _ (by decide)]; exact hc _ _ h1⟩
theorem srow_at {w : World} {B : Nat} {A : Option Addr} {l : List St.Slot} {k : Nat} (h : Row w B A (fcells svs l)) (hk : k < l.length) : ∃ ad t, A = some ad ∧ ad.block < B ∧ l[k]? = some t ∧ w.cell? (ad.add (k * 3)) = some (.bool t.ret) ∧
    w.cell? ⟨(ad.add (k * 3)).block, (ad.add (k * 3)).off + 1, none⟩ = some (.int .i64 t.v) ∧ w.cell? ⟨(ad.add (k * 3)).block, (ad.add (k * 3)).off + 2, none⟩ = some (.int .i64 t.l) := by
  have hlen := fcells_length svs_len l
  obtain ⟨ad, e, hb, hc⟩ := h (by intro e; rw [e] at hlen; simp at hlen; omega)
  have h0 := fcells_at svs_len l k l[k] (List.getElem?_eq_getElem hk) 0 (by decide)
  have h1 := fcells_at svs_len l k l[k] (List.getElem?_eq_getElem hk) 1 (by decide)
  have h2 := fcells_at svs_len l k l[k] (List.getElem?_eq_getElem hk) 2 (by decide)
  exact ⟨ad, l[k], e, hb, List.getElem?_eq_getElem hk, hc _ _ h0, by rw [← addr_next _ _ _ (by decide)]; exact hc _ _ h1, by rw [← addr_next _ _ _ (by decide)]; exact hc _ _ h2⟩
/-- A slice of such things, below B. -/
def IsL {α : Type} (f : α → List Value) (w : World) (B : Nat) (v : Value) (l : List α) : Prop := ∃ A c, v = .slice A l.length c ∧ Row w B A (fcells f l) ∧ l.length ≤ c
section
variable {α : Type} {f : α → List Value} {w w' : World} {B B' R : Nat} {v : Value} {l : List α}
theorem IsL.below (h : IsL f w B v l) (hb : Below B w w') : IsL f w' B v l := by
  obtain ⟨A, c, e, hr, hc⟩ := h
  exact ⟨A, c, e, hr.below hb, hc⟩
theorem IsL.more (h : IsL f w B v l) (hB : B ≤ B') : IsL f w B' v l := by
  obtain ⟨A, c, e, hr, hc⟩ := h
  exact ⟨A, c, e, hr.more hB, hc⟩
end
/-- A state as a value. -/
def stv (s : St.State) (cv mv sv ov : Value) : Value := .agg #[.int .i64 s.pc.v, .int .i64 s.pc.l, cv, mv, sv, ov]
/-- A state, below B. -/
def IsSt (w : World) (B : Nat) (v : Value) (s : St.State) : Prop := ∃ cv mv sv ov, v = stv s cv mv sv ov ∧ IsIns w B cv s.code ∧ IsL avs w B mv s.mem ∧ IsL svs w B sv s.stack ∧ IsL avs w B ov s.out
theorem IsSt.below {w w' : World} {B : Nat} {v : Value} {s : St.State} (h : IsSt w B v s) (hb : Below B w w') : IsSt w' B v s := by
  obtain ⟨cv, mv, sv, ov, e, h1, h2, h3, h4⟩ := h
  exact ⟨cv, mv, sv, ov, e, h1.below hb, h2.below hb, h3.below hb, h4.below hb⟩
theorem IsSt.more {w : World} {B B' : Nat} {v : Value} {s : St.State} (h : IsSt w B v s) (hB : B ≤ B') : IsSt w B' v s := by
  obtain ⟨cv, mv, sv, ov, e, h1, h2, h3, h4⟩ := h
  exact ⟨cv, mv, sv, ov, e, h1.more hB, h2.more hB, h3.more hB, h4.more hB⟩
/-! A result that lies in a cell, while a reading goes on. -/
end Go.Proofs.Ytmbgndcahlopdaa

/- The reference's atom, frame, takes, with (by gen_stqa.py). -/
namespace Go.Proofs.Ytmbgndcahlopdaa
set_option maxRecDepth 100000
open Go.RowKit Go.Shelf Go.Sort
attribute [local go_sem] Oper.semAt_some
end Go.Proofs.Ytmbgndcahlopdaa

/- Which states may be (by gen_stmg.py): walks of isLabel, isAtom, isPlace, atomOf, isSlot, allRight, Right. -/
namespace Go.Proofs.Ytmbgndcahlopdaa
set_option maxRecDepth 100000
open Go.RowKit Go.Shelf Go.Sort
attribute [local go_sem] Oper.semAt_some
/-- Few enough of each. -/
structure SmallS (s : St.State) : Prop where
  code : s.code.length ≤ 1000
  mem : s.mem.length ≤ 1000
  stack : s.stack.length ≤ 1000
  out : s.out.length ≤ 1000
end Go.Proofs.Ytmbgndcahlopdaa

/- Walks of state's atom, slot, pc, program (by gen_stmb.py). -/
namespace Go.Proofs.Ytmbgndcahlopdaa
set_option maxRecDepth 100000
open Go.RowKit Go.Shelf Go.Sort
attribute [local go_sem] Oper.semAt_some
end Go.Proofs.Ytmbgndcahlopdaa

/- Walk of state's program. -/
namespace Go.Proofs.Ytmbgndcahlopdaa
set_option maxRecDepth 100000
open Go.RowKit Go.Shelf Go.Sort
attribute [local go_sem] Oper.semAt_some
end Go.Proofs.Ytmbgndcahlopdaa

/- Walks of state's row, of atoms and of slots (by gen_stmd.py). -/
namespace Go.Proofs.Ytmbgndcahlopdaa
set_option maxRecDepth 100000
open Go.RowKit Go.Shelf Go.Sort
attribute [local go_sem] Oper.semAt_some
/-! The rows, plain, from a loop's head. -/
end Go.Proofs.Ytmbgndcahlopdaa

/- The reference's AtomsSame and Same (by gen_stmi.py). -/
namespace Go.Proofs.Ytmbgndcahlopdaa
set_option maxRecDepth 100000
open Go.RowKit Go.Shelf Go.Sort
attribute [local go_sem] Oper.semAt_some
theorem eqF2 {P : Program} {it : TypeId} (hu : P.underlying it = some (.int .i64)) (hp : P.plainKey it = true) (w : World) (d : Nat) (f0 f1 : Field) (h0 : f0.name ≠ "_" ∧ f0.type = it ∧ f0.offset = 0) (h1 : f1.name ≠ "_" ∧ f1.type = it ∧ f1.offset = 1) (a0 a1 b0 b1 : Int) :
    (Op.eqFields (d + 1) #[.int .i64 a0, .int .i64 a1] #[.int .i64 b0, .int .i64 b1] [f0, f1]).run P w = .ok (a0 == b0 && a1 == b1) w := by
  have p : ∀ (xs : Array Value) (off : Nat) (v : Value), xs[off]? = some v → (part it xs off).run P w = .ok v w := fun xs off v h => run_part_plain w hp h
  have p0 : ∀ a b : Int, (part it #[.int .i64 a, .int .i64 b] 0).run P w = .ok (.int .i64 a) w := fun a b => p _ _ _ rfl
  have p1 : ∀ a b : Int, (part it #[.int .i64 a, .int .i64 b] 1).run P w = .ok (.int .i64 b) w := fun a b => p _ _ _ rfl
  have q : ∀ a b : Int, (Op.equalIn (d + 1) it (.int .i64 a) (.int .i64 b)).run P w = .ok (a == b) w := fun a b => run_equalIn_int w d it .i64 .i64 a b hu
  obtain ⟨n0, t0, o0⟩ := h0
  obtain ⟨n1, t1, o1⟩ := h1
  simp only [Op.eqFields, n0, n1, t0, t1, o0, o1, ne_eq, not_false_eq_true, if_true, Sem.run_bind, Sem.run_ite, Sem.run_pure, p0, p1, q, Result.andThen_ok]
  generalize (a0 == b0) = u0
  generalize (a1 == b1) = u1
  clear p p0 p1 q
  cases u0 <;> cases u1 <;> simp
theorem eqF3b {P : Program} {bt it : TypeId} (hub : P.underlying bt = some .bool) (hpb : P.plainKey bt = true) (hu : P.underlying it = some (.int .i64)) (hp : P.plainKey it = true) (w : World) (d : Nat) (f0 f1 f2 : Field) (h0 : f0.name ≠ "_" ∧ f0.type = bt ∧ f0.offset = 0) (h1 : f1.name ≠ "_" ∧ f1.type = it ∧ f1.offset = 1) (h2 : f2.name ≠ "_" ∧ f2.type = it ∧ f2.offset = 2) (a0 b0 : Bool) (a1 a2 b1 b2 : Int) :
    (Op.eqFields (d + 1) #[.bool a0, .int .i64 a1, .int .i64 a2] #[.bool b0, .int .i64 b1, .int .i64 b2] [f0, f1, f2]).run P w = .ok (a0 == b0 && (a1 == b1 && a2 == b2)) w := by
  have p : ∀ (xs : Array Value) (off : Nat) (v : Value), xs[off]? = some v → (part it xs off).run P w = .ok v w := fun xs off v h => run_part_plain w hp h
  have p0 : ∀ (a : Bool) (b c : Int), (part bt #[.bool a, .int .i64 b, .int .i64 c] 0).run P w = .ok (.bool a) w := fun a b c => run_part_plain w hpb rfl
  have p1 : ∀ (a : Bool) (b c : Int), (part it #[.bool a, .int .i64 b, .int .i64 c] 1).run P w = .ok (.int .i64 b) w := fun a b c => p _ _ _ rfl
  have p2 : ∀ (a : Bool) (b c : Int), (part it #[.bool a, .int .i64 b, .int .i64 c] 2).run P w = .ok (.int .i64 c) w := fun a b c => p _ _ _ rfl
  have q0 : ∀ a b : Bool, (Op.equalIn (d + 1) bt (.bool a) (.bool b)).run P w = .ok (a == b) w := fun a b => run_equalIn_bool w d bt a b hub
  have q : ∀ a b : Int, (Op.equalIn (d + 1) it (.int .i64 a) (.int .i64 b)).run P w = .ok (a == b) w := fun a b => run_equalIn_int w d it .i64 .i64 a b hu
  obtain ⟨n0, t0, o0⟩ := h0
  obtain ⟨n1, t1, o1⟩ := h1
  obtain ⟨n2, t2, o2⟩ := h2
  simp only [Op.eqFields, n0, n1, n2, t0, t1, t2, o0, o1, o2, ne_eq, not_false_eq_true, if_true, Sem.run_bind, Sem.run_ite, Sem.run_pure, p0, p1, p2, q0, q, Result.andThen_ok]
  generalize (a0 == b0) = u0
  generalize (a1 == b1) = u1
  generalize (a2 == b2) = u2
  clear p p0 p1 p2 q q0
  cases u0 <;> cases u1 <;> cases u2 <;> simp
theorem run_ateq (x y : St.Atom) (w : World) : (Op.equalIn 10000 34 (.agg #[.int .i64 x.v, .int .i64 x.l]) (.agg #[.int .i64 y.v, .int .i64 y.l])).run Try.prog w = .ok (decide (x = y)) w := by
  have hd : decide (x = y) = (x.v == y.v && x.l == y.l) := by
    obtain ⟨a, b⟩ := x
    obtain ⟨d, e⟩ := y
    rw [Bool.eq_iff_iff]
    simp
  have hl : (Try.prog.fieldsOf 34).toList = [(Try.prog.fieldsOf 34).getD 0 ⟨ "", 0, 0, false, "", "", 0⟩, (Try.prog.fieldsOf 34).getD 1 ⟨ "", 0, 0, false, "", "", 0⟩] := by kernel_rfl
  rw [hd, run_equalIn_struct w 9999 34 _ _ (by kernel_rfl) (by kernel_rfl), hl]
  exact eqF2 Try.underlying3 (by kernel_rfl) w 9998 _ _ ⟨by decide +kernel, by kernel_rfl, by kernel_rfl⟩ ⟨by decide +kernel, by kernel_rfl, by kernel_rfl⟩ _ _ _ _
theorem run_sleq (x y : St.Slot) (w : World) : (Op.equalIn 10000 70 (.agg #[.bool x.ret, .int .i64 x.v, .int .i64 x.l]) (.agg #[.bool y.ret, .int .i64 y.v, .int .i64 y.l])).run Try.prog w = .ok (decide (x = y)) w := by
  have hd : decide (x = y) = (x.ret == y.ret && (x.v == y.v && x.l == y.l)) := by
    obtain ⟨a, b, c⟩ := x
    obtain ⟨d, e, f⟩ := y
    rw [Bool.eq_iff_iff]
    simp
  have hl : (Try.prog.fieldsOf 70).toList = [(Try.prog.fieldsOf 70).getD 0 ⟨ "", 0, 0, false, "", "", 0⟩, (Try.prog.fieldsOf 70).getD 1 ⟨ "", 0, 0, false, "", "", 0⟩, (Try.prog.fieldsOf 70).getD 2 ⟨ "", 0, 0, false, "", "", 0⟩] := by kernel_rfl
  rw [hd, run_equalIn_struct w 9999 70 _ _ (by kernel_rfl) (by kernel_rfl), hl]
  exact eqF3b Try.underlying4 (by kernel_rfl) Try.underlying3 (by kernel_rfl) w 9998 _ _ _ ⟨by decide +kernel, by kernel_rfl, by kernel_rfl⟩ ⟨by decide +kernel, by kernel_rfl, by kernel_rfl⟩ ⟨by decide +kernel, by kernel_rfl, by kernel_rfl⟩ _ _ _ _ _ _
theorem run_at_neq (x y : St.Atom) (w : World) : (binOp .neq 34 (.agg #[.int .i64 x.v, .int .i64 x.l]) (.agg #[.int .i64 y.v, .int .i64 y.l])).run Try.prog w = .ok (.bool (!decide (x = y))) w := by
  rw [run_neq_struct, run_ateq]
  rfl
theorem run_sl_neq (x y : St.Slot) (w : World) : (binOp .neq 70 (.agg #[.bool x.ret, .int .i64 x.v, .int .i64 x.l]) (.agg #[.bool y.ret, .int .i64 y.v, .int .i64 y.l])).run Try.prog w = .ok (.bool (!decide (x = y))) w := by
  rw [run_neq_struct, run_sleq]
  rfl
theorem below_drawn_blk {b : Nat} {t : TypeId} {c : Array Value} {w : World} (h : Blk w b t c) (n : Nat) : Blk (w.drewN n) b t c := h
theorem same_stepA {α : Type} {a b : List α} {k : Nat} {x y : α} (ha : a[k]? = some x) (hb : b[k]? = some y) (h : x ≠ y) : a ≠ b := fun e => by
  rw [e, hb] at ha
  injection ha with ha
  exact h ha.symm
theorem same_allA {α : Type} {a b : List α} (hl : a.length = b.length) (h : ∀ (k : Nat) (x y : α), a[k]? = some x → b[k]? = some y → x = y) : a = b :=
  List.ext_getElem? fun k => by
    by_cases hk : k < a.length
    · rw [List.getElem?_eq_getElem hk, List.getElem?_eq_getElem (by omega), h k _ _ (List.getElem?_eq_getElem hk) (List.getElem?_eq_getElem (by omega))]
    · rw [List.getElem?_eq_none (by omega), List.getElem?_eq_none (by omega)]
set_option maxHeartbeats 4000000 in
theorem rAtomsSame_any {A B : Option Addr} {a b : List St.Atom} (c d : Nat) (w : World) (h : Row w w.heap.size A (fcells avs a)) (h' : Row w w.heap.size B (fcells avs b)) (ha : a.length ≤ 1000) (_hb : b.length ≤ 1000) :
    Calls Try.prog 23 #[.slice A a.length c, .slice B b.length d] w (Tells w (decide (a = b))) := by
  obtain ⟨res, hres⟩ : ∃ res, decide (a = b) = res := ⟨_, rfl⟩
  rw [hres]
  have HA := Lib.hid h
  have HBR := Lib.hid h'
  have HRES := Lib.hid hres
  have HB := Lib.hid (Below.refl w.heap.size w)
  clear h h' hres
  by_cases hl : a.length = b.length
  · have h1 : ((a.length : Int) != (b.length : Int)) = false := by rw [bne_eq_false_iff_eq]; omega
    have HL := Lib.hid hl
    go_enter Try.func23, Try.ntmps23
    go_wp2
    go_loopw [13] (fun i wr => ∃ k : Nat, k ≤ a.length ∧ i = .int .i64 k ∧ Hid (∀ (j : Nat) (x y : St.Atom), j < k → a[j]? = some x → b[j]? = some y → x = y) ∧ Hid (Below w.heap.size w wr)) (fun i _ => a.length - (intOf i).toNat)
    case atStart => exact ⟨0, Nat.zero_le _, rfl, Lib.hid fun j x y hj => absurd hj (Nat.not_lt_zero _), HB⟩
    case round =>
      obtain ⟨k, hk, rfl, HS, HBW⟩ := hrel
      by_cases hlt : k < a.length
      · obtain ⟨ad, x, rfl, hxb, hx, x0, x1⟩ := arow_at (HA.out.below HBW.out) hlt
        obtain ⟨bd, y, rfl, hyb, hy, y0, y1⟩ := arow_at (HBR.out.below HBW.out) (show k < b.length by have := HL.out; omega)
        have hq := fun w => run_at_neq x y w
        have hz := HBW.out.size
        have hxb2 : (ad.add (k * 2)).block < wr.heap.size := by rw [add_block]; omega
        have hyb2 : (bd.add (k * 2)).block < wr.heap.size := by rw [add_block]; omega
        have HX := Lib.hid hx
        have HY := Lib.hid hy
        clear hx hy
        have hlt2 : k < b.length := by have := HL.out; omega

        by_cases he : x = y
        · have hf : (!decide (x = y)) = false := by rw [decide_eq_true he]; rfl
          rw [hf] at hq
          have HE := Lib.hid he
          clear he hf
          generalize hx0 : x.v = xv at *
          generalize hx1 : x.l = xl at *
          generalize hy0 : y.v = yv at *
          generalize hy1 : y.l = yl at *
          clear hx0 hx1 hy0 hy1
          go_wp2
          go_quiet (fail)
          all_goals go_wp2
          go_roundw
          case rel => exact ⟨k + 1, by omega, by go_num, Lib.hid fun j u v hj hu hv => by
            rcases Nat.lt_or_eq_of_le (Nat.le_of_lt_succ hj) with h | rfl
            · exact HS.out j u v h hu hv
            · rw [HX.out] at hu; rw [HY.out] at hv
              injection hu with hu; injection hv with hv
              rw [← hu, ← hv]; exact HE.out, Lib.hid (below_drawn HBW.out _)⟩
          case measure => simp [intOf]; omega
        · have hf : (!decide (x = y)) = true := by rw [decide_eq_false he]; rfl
          rw [hf] at hq
          have HE := Lib.hid he
          clear he hf
          generalize hx0 : x.v = xv at *
          generalize hx1 : x.l = xl at *
          generalize hy0 : y.v = yv at *
          generalize hy1 : y.l = yl at *
          clear hx0 hx1 hy0 hy1
          go_wp2
          go_quiet (fail)
          all_goals go_wp2
          go_ret
          exact ⟨retb (by rw [← HRES.out]; exact (decide_eq_false (same_stepA HX.out HY.out HE.out)).symm), below_drawn HBW.out _⟩
      · obtain rfl : k = a.length := by omega
        go_wp2
        go_ret
        exact ⟨retb (by rw [← HRES.out]; exact (decide_eq_true (same_allA HL.out fun k x y hx hy => HS.out k x y (List.getElem?_eq_some_iff.1 hx).1 hx hy)).symm), HBW.out⟩
  · have h1 : ((a.length : Int) != (b.length : Int)) = true := by rw [bne_iff_ne]; omega
    have HR2 := Lib.hid (show false = res by rw [← HRES.out]; exact (decide_eq_false fun e => hl (by rw [e])).symm)
    clear hl
    go_enter Try.func23, Try.ntmps23
    go_wp2
    go_ret
    exact ⟨retb HR2.out, HB.out⟩
/-- Are two states the same? -/
def sameB (s t : St.State) : Bool := decide (s.pc = t.pc) && (decide (s.code = t.code) && (decide (s.mem = t.mem) && (decide (s.out = t.out) && decide (s.stack = t.stack))))
theorem sameB_iff {s t : St.State} : sameB s t = true ↔ s = t := by
  obtain ⟨a, b, c, d, e⟩ := s
  obtain ⟨a', b', c', d', e'⟩ := t
  unfold sameB
  simp only [Bool.and_eq_true, decide_eq_true_eq, St.State.mk.injEq]
  constructor
  · rintro ⟨h1, h2, h3, h4, h5⟩; exact ⟨h1, h2, h3, h5, h4⟩
  · rintro ⟨h1, h2, h3, h5, h4⟩; exact ⟨h1, h2, h3, h4, h5⟩
set_option maxHeartbeats 16000000 in
theorem rSame9_any {sv tv : Value} {s t : St.State} (w : World) (hs : IsSt w w.heap.size sv s) (ht : IsSt w w.heap.size tv t) (hsm : SmallS s) (htm : SmallS t) :
    Calls Try.prog 12 #[sv, tv] w (Tells w (sameB s t)) := by
  obtain ⟨⟨av, al⟩, acode, amem, astack, aout⟩ := s
  obtain ⟨⟨bv, bl⟩, bcode, bmem, bstack, bout⟩ := t
  obtain ⟨cv, mv, stv_, ov, rfl, ⟨acA, acc, rfl, hacr, hacc⟩, ⟨amA, amc, rfl, hamr, hamc⟩, ⟨asA, asc, rfl, hasr, hasc⟩, ⟨aoA, aoc, rfl, haor, haoc⟩⟩ := hs
  obtain ⟨cv, mv, stv_, ov, rfl, ⟨bcA, bcc, rfl, hbcr, hbcc⟩, ⟨bmA, bmc, rfl, hbmr, hbmc⟩, ⟨bsA, bsc, rfl, hbsr, hbsc⟩, ⟨boA, boc, rfl, hbor, hboc⟩⟩ := ht
  obtain ⟨hs1, hs2, hs3, hs4⟩ := hsm
  obtain ⟨ht1, ht2, ht3, ht4⟩ := htm
  unfold stv sameB
  dsimp only at hacr hacc hamr hamc hasr hasc haor haoc hbcr hbcc hbmr hbmc hbsr hbsc hbor hboc hs1 hs2 hs3 hs4 ht1 ht2 ht3 ht4 ⊢
  have HC1 := Lib.hid (fun W (hb : Below w.heap.size w W) => rSame_in acc bcc W ((hacr.below hb).more hb.size) ((hbcr.below hb).more hb.size) hs1 ht1)
  have HC2 := Lib.hid (fun W (hb : Below w.heap.size w W) => rAtomsSame_any amc bmc W ((hamr.below hb).more hb.size) ((hbmr.below hb).more hb.size) hs2 ht2)
  have HC3 := Lib.hid (fun W (hb : Below w.heap.size w W) => rAtomsSame_any aoc boc W ((haor.below hb).more hb.size) ((hbor.below hb).more hb.size) hs4 ht4)
  have HA := Lib.hid hasr
  have HBR := Lib.hid hbsr
  have hb0 := (((Below.refl _ w).alloc (Nat.le_refl _) (.cells #[.int .i64 av, .int .i64 al, .slice acA acode.length acc, .slice amA amem.length amc, .slice asA astack.length asc, .slice aoA aout.length aoc] 39)).alloc (by simp) (.cells #[.int .i64 bv, .int .i64 bl, .slice bcA bcode.length bcc, .slice bmA bmem.length bmc, .slice bsA bstack.length bsc, .slice boA bout.length boc] 39))
  obtain ⟨W0, hW0⟩ : ∃ W0, (w.alloc (.cells #[.int .i64 av, .int .i64 al, .slice acA acode.length acc, .slice amA amem.length amc, .slice asA astack.length asc, .slice aoA aout.length aoc] 39)).alloc (.cells #[.int .i64 bv, .int .i64 bl, .slice bcA bcode.length bcc, .slice bmA bmem.length bmc, .slice bsA bstack.length bsc, .slice boA bout.length boc] 39) = W0 := ⟨_, rfl⟩
  have hp0 : Blk W0 w.heap.size 39 #[.int .i64 av, .int .i64 al, .slice acA acode.length acc, .slice amA amem.length amc, .slice asA astack.length asc, .slice aoA aout.length aoc] := hW0 ▸ (Blk.new _ _ _).alloc _
  have hq0 : Blk W0 (w.heap.size + 1) 39 #[.int .i64 bv, .int .i64 bl, .slice bcA bcode.length bcc, .slice bmA bmem.length bmc, .slice bsA bstack.length bsc, .slice boA bout.length boc] := by
    have h1 := Blk.new (w.alloc (.cells #[.int .i64 av, .int .i64 al, .slice acA acode.length acc, .slice amA amem.length amc, .slice asA astack.length asc, .slice aoA aout.length aoc] 39)) 39 #[.int .i64 bv, .int .i64 bl, .slice bcA bcode.length bcc, .slice bmA bmem.length bmc, .slice bsA bstack.length bsc, .slice boA bout.length boc]
    rw [show (w.alloc (.cells #[.int .i64 av, .int .i64 al, .slice acA acode.length acc, .slice amA amem.length amc, .slice asA astack.length asc, .slice aoA aout.length aoc] 39)).heap.size = w.heap.size + 1 by simp] at h1
    rw [← hW0]; exact h1
  rw [hW0] at hb0
  have HP := Lib.hid hp0
  have HQ := Lib.hid hq0
  have HB := Lib.hid hb0
  have hpcq := fun w => run_at_neq ⟨av, al⟩ ⟨bv, bl⟩ w
  dsimp only at hpcq
  clear hb0 hp0 hq0 hacr hamr hasr haor hbcr hbmr hbsr hbor
  have a0 : W0.cell? ⟨w.heap.size, 0, none⟩ = some (.int .i64 av) := HP.out.cell 0
  have a1 : W0.cell? ⟨w.heap.size, 1, none⟩ = some (.int .i64 al) := HP.out.cell 1
  have a2 : W0.cell? ⟨w.heap.size, 2, none⟩ = some (.slice acA acode.length acc) := HP.out.cell 2
  have a3 : W0.cell? ⟨w.heap.size, 3, none⟩ = some (.slice amA amem.length amc) := HP.out.cell 3
  have a4 : W0.cell? ⟨w.heap.size, 4, none⟩ = some (.slice asA astack.length asc) := HP.out.cell 4
  have a5 : W0.cell? ⟨w.heap.size, 5, none⟩ = some (.slice aoA aout.length aoc) := HP.out.cell 5
  have b0 : W0.cell? ⟨w.heap.size + 1, 0, none⟩ = some (.int .i64 bv) := HQ.out.cell 0
  have b1 : W0.cell? ⟨w.heap.size + 1, 1, none⟩ = some (.int .i64 bl) := HQ.out.cell 1
  have b2 : W0.cell? ⟨w.heap.size + 1, 2, none⟩ = some (.slice bcA bcode.length bcc) := HQ.out.cell 2
  have b3 : W0.cell? ⟨w.heap.size + 1, 3, none⟩ = some (.slice bmA bmem.length bmc) := HQ.out.cell 3
  have b4 : W0.cell? ⟨w.heap.size + 1, 4, none⟩ = some (.slice bsA bstack.length bsc) := HQ.out.cell 4
  have b5 : W0.cell? ⟨w.heap.size + 1, 5, none⟩ = some (.slice boA bout.length boc) := HQ.out.cell 5
  generalize hd1 : decide ((⟨av, al⟩ : St.Atom) = ⟨bv, bl⟩) = d1 at *
  generalize hd2 : decide (acode = bcode) = d2 at *
  generalize hd3 : decide (amem = bmem) = d3 at *
  generalize hd4 : decide (aout = bout) = d4 at *
  clear hd1 hd2 hd3 hd4
  cases d1 with
  | false =>
    rw [Bool.false_and]
    simp only [Bool.not_false] at hpcq
    clear HC1 HC2 HC3
    go_enter Try.func12, Try.ntmps12
    go_wp2
    go_ret
    exact ⟨rfl, HB.out⟩
  | true =>
    rw [Bool.true_and]
    simp only [Bool.not_true] at hpcq
    cases d2 with
    | false =>
      rw [Bool.false_and]
      clear HC2 HC3
      go_enter Try.func12, Try.ntmps12
      go_wp2_with (fail)
      refine (HC1.out W0 HB.out).mono ?_
      rintro e W1 ⟨rfl, hb9⟩
      have hb1 := HB.out.trans (hb9.mono HB.out.size)
      have hp1 := HP.out.below hb9 HP.out.lt
      have hq1 := HQ.out.below hb9 HQ.out.lt
      clear HB HP HQ hb9
      clear a0 b0 a1 b1 a2 b2 a3 b3 a4 b4 a5 b5
      have HB := Lib.hid hb1
      have HP := Lib.hid hp1
      have HQ := Lib.hid hq1
      clear hb1 hp1 hq1
      go_wp2
      go_ret
      exact ⟨rfl, HB.out⟩
    | true =>
      rw [Bool.true_and]
      cases d3 with
      | false =>
        rw [Bool.false_and]
        clear HC3
        go_enter Try.func12, Try.ntmps12
        go_wp2_with (fail)
        refine (HC1.out W0 HB.out).mono ?_
        rintro e W1 ⟨rfl, hb9⟩
        have hb1 := HB.out.trans (hb9.mono HB.out.size)
        have hp1 := HP.out.below hb9 HP.out.lt
        have hq1 := HQ.out.below hb9 HQ.out.lt
        clear HB HP HQ hb9
        clear a0 b0 a1 b1 a2 b2 a3 b3 a4 b4 a5 b5
        have HB := Lib.hid hb1
        have HP := Lib.hid hp1
        have HQ := Lib.hid hq1
        clear hb1 hp1 hq1
        have a0 : W1.cell? ⟨w.heap.size, 0, none⟩ = some (.int .i64 av) := HP.out.cell 0
        have a1 : W1.cell? ⟨w.heap.size, 1, none⟩ = some (.int .i64 al) := HP.out.cell 1
        have a2 : W1.cell? ⟨w.heap.size, 2, none⟩ = some (.slice acA acode.length acc) := HP.out.cell 2
        have a3 : W1.cell? ⟨w.heap.size, 3, none⟩ = some (.slice amA amem.length amc) := HP.out.cell 3
        have a4 : W1.cell? ⟨w.heap.size, 4, none⟩ = some (.slice asA astack.length asc) := HP.out.cell 4
        have a5 : W1.cell? ⟨w.heap.size, 5, none⟩ = some (.slice aoA aout.length aoc) := HP.out.cell 5
        have b0 : W1.cell? ⟨w.heap.size + 1, 0, none⟩ = some (.int .i64 bv) := HQ.out.cell 0
        have b1 : W1.cell? ⟨w.heap.size + 1, 1, none⟩ = some (.int .i64 bl) := HQ.out.cell 1
        have b2 : W1.cell? ⟨w.heap.size + 1, 2, none⟩ = some (.slice bcA bcode.length bcc) := HQ.out.cell 2
        have b3 : W1.cell? ⟨w.heap.size + 1, 3, none⟩ = some (.slice bmA bmem.length bmc) := HQ.out.cell 3
        have b4 : W1.cell? ⟨w.heap.size + 1, 4, none⟩ = some (.slice bsA bstack.length bsc) := HQ.out.cell 4
        have b5 : W1.cell? ⟨w.heap.size + 1, 5, none⟩ = some (.slice boA bout.length boc) := HQ.out.cell 5
        go_wp2_with (fail)
        refine (HC2.out W1 HB.out).mono ?_
        rintro e W2 ⟨rfl, hb9⟩
        have hb1 := HB.out.trans (hb9.mono HB.out.size)
        have hp1 := HP.out.below hb9 HP.out.lt
        have hq1 := HQ.out.below hb9 HQ.out.lt
        clear HB HP HQ hb9
        clear a0 b0 a1 b1 a2 b2 a3 b3 a4 b4 a5 b5
        have HB := Lib.hid hb1
        have HP := Lib.hid hp1
        have HQ := Lib.hid hq1
        clear hb1 hp1 hq1
        go_wp2
        go_ret
        exact ⟨rfl, HB.out⟩
      | true =>
        rw [Bool.true_and]
        cases d4 with
        | false =>
          rw [Bool.false_and]
          go_enter Try.func12, Try.ntmps12
          go_wp2_with (fail)
          refine (HC1.out W0 HB.out).mono ?_
          rintro e W1 ⟨rfl, hb9⟩
          have hb1 := HB.out.trans (hb9.mono HB.out.size)
          have hp1 := HP.out.below hb9 HP.out.lt
          have hq1 := HQ.out.below hb9 HQ.out.lt
          clear HB HP HQ hb9
          clear a0 b0 a1 b1 a2 b2 a3 b3 a4 b4 a5 b5
          have HB := Lib.hid hb1
          have HP := Lib.hid hp1
          have HQ := Lib.hid hq1
          clear hb1 hp1 hq1
          have a0 : W1.cell? ⟨w.heap.size, 0, none⟩ = some (.int .i64 av) := HP.out.cell 0
          have a1 : W1.cell? ⟨w.heap.size, 1, none⟩ = some (.int .i64 al) := HP.out.cell 1
          have a2 : W1.cell? ⟨w.heap.size, 2, none⟩ = some (.slice acA acode.length acc) := HP.out.cell 2
          have a3 : W1.cell? ⟨w.heap.size, 3, none⟩ = some (.slice amA amem.length amc) := HP.out.cell 3
          have a4 : W1.cell? ⟨w.heap.size, 4, none⟩ = some (.slice asA astack.length asc) := HP.out.cell 4
          have a5 : W1.cell? ⟨w.heap.size, 5, none⟩ = some (.slice aoA aout.length aoc) := HP.out.cell 5
          have b0 : W1.cell? ⟨w.heap.size + 1, 0, none⟩ = some (.int .i64 bv) := HQ.out.cell 0
          have b1 : W1.cell? ⟨w.heap.size + 1, 1, none⟩ = some (.int .i64 bl) := HQ.out.cell 1
          have b2 : W1.cell? ⟨w.heap.size + 1, 2, none⟩ = some (.slice bcA bcode.length bcc) := HQ.out.cell 2
          have b3 : W1.cell? ⟨w.heap.size + 1, 3, none⟩ = some (.slice bmA bmem.length bmc) := HQ.out.cell 3
          have b4 : W1.cell? ⟨w.heap.size + 1, 4, none⟩ = some (.slice bsA bstack.length bsc) := HQ.out.cell 4
          have b5 : W1.cell? ⟨w.heap.size + 1, 5, none⟩ = some (.slice boA bout.length boc) := HQ.out.cell 5
          go_wp2_with (fail)
          refine (HC2.out W1 HB.out).mono ?_
          rintro e W2 ⟨rfl, hb9⟩
          have hb1 := HB.out.trans (hb9.mono HB.out.size)
          have hp1 := HP.out.below hb9 HP.out.lt
          have hq1 := HQ.out.below hb9 HQ.out.lt
          clear HB HP HQ hb9
          clear a0 b0 a1 b1 a2 b2 a3 b3 a4 b4 a5 b5
          have HB := Lib.hid hb1
          have HP := Lib.hid hp1
          have HQ := Lib.hid hq1
          clear hb1 hp1 hq1
          have a0 : W2.cell? ⟨w.heap.size, 0, none⟩ = some (.int .i64 av) := HP.out.cell 0
          have a1 : W2.cell? ⟨w.heap.size, 1, none⟩ = some (.int .i64 al) := HP.out.cell 1
          have a2 : W2.cell? ⟨w.heap.size, 2, none⟩ = some (.slice acA acode.length acc) := HP.out.cell 2
          have a3 : W2.cell? ⟨w.heap.size, 3, none⟩ = some (.slice amA amem.length amc) := HP.out.cell 3
          have a4 : W2.cell? ⟨w.heap.size, 4, none⟩ = some (.slice asA astack.length asc) := HP.out.cell 4
          have a5 : W2.cell? ⟨w.heap.size, 5, none⟩ = some (.slice aoA aout.length aoc) := HP.out.cell 5
          have b0 : W2.cell? ⟨w.heap.size + 1, 0, none⟩ = some (.int .i64 bv) := HQ.out.cell 0
          have b1 : W2.cell? ⟨w.heap.size + 1, 1, none⟩ = some (.int .i64 bl) := HQ.out.cell 1
          have b2 : W2.cell? ⟨w.heap.size + 1, 2, none⟩ = some (.slice bcA bcode.length bcc) := HQ.out.cell 2
          have b3 : W2.cell? ⟨w.heap.size + 1, 3, none⟩ = some (.slice bmA bmem.length bmc) := HQ.out.cell 3
          have b4 : W2.cell? ⟨w.heap.size + 1, 4, none⟩ = some (.slice bsA bstack.length bsc) := HQ.out.cell 4
          have b5 : W2.cell? ⟨w.heap.size + 1, 5, none⟩ = some (.slice boA bout.length boc) := HQ.out.cell 5
          go_wp2_with (fail)
          refine (HC3.out W2 HB.out).mono ?_
          rintro e W3 ⟨rfl, hb9⟩
          have hb1 := HB.out.trans (hb9.mono HB.out.size)
          have hp1 := HP.out.below hb9 HP.out.lt
          have hq1 := HQ.out.below hb9 HQ.out.lt
          clear HB HP HQ hb9
          clear a0 b0 a1 b1 a2 b2 a3 b3 a4 b4 a5 b5
          have HB := Lib.hid hb1
          have HP := Lib.hid hp1
          have HQ := Lib.hid hq1
          clear hb1 hp1 hq1
          go_wp2
          go_ret
          exact ⟨rfl, HB.out⟩
        | true =>
          rw [Bool.true_and]
          obtain ⟨res, hres⟩ : ∃ res, decide (astack = bstack) = res := ⟨_, rfl⟩
          rw [hres]
          have HRES := Lib.hid hres
          clear hres
          by_cases hl : astack.length = bstack.length
          · have h1 : ((astack.length : Int) != (bstack.length : Int)) = false := by rw [bne_eq_false_iff_eq]; omega
            have HL := Lib.hid hl
            clear hl
            generalize astack = a at *
            generalize bstack = b at *
            go_enter Try.func12, Try.ntmps12
            go_wp2_with (fail)
            refine (HC1.out W0 HB.out).mono ?_
            rintro e W1 ⟨rfl, hb9⟩
            have hb1 := HB.out.trans (hb9.mono HB.out.size)
            have hp1 := HP.out.below hb9 HP.out.lt
            have hq1 := HQ.out.below hb9 HQ.out.lt
            clear HB HP HQ hb9
            clear a0 b0 a1 b1 a2 b2 a3 b3 a4 b4 a5 b5
            have HB := Lib.hid hb1
            have HP := Lib.hid hp1
            have HQ := Lib.hid hq1
            clear hb1 hp1 hq1
            have a0 : W1.cell? ⟨w.heap.size, 0, none⟩ = some (.int .i64 av) := HP.out.cell 0
            have a1 : W1.cell? ⟨w.heap.size, 1, none⟩ = some (.int .i64 al) := HP.out.cell 1
            have a2 : W1.cell? ⟨w.heap.size, 2, none⟩ = some (.slice acA acode.length acc) := HP.out.cell 2
            have a3 : W1.cell? ⟨w.heap.size, 3, none⟩ = some (.slice amA amem.length amc) := HP.out.cell 3
            have a4 : W1.cell? ⟨w.heap.size, 4, none⟩ = some (.slice asA a.length asc) := HP.out.cell 4
            have a5 : W1.cell? ⟨w.heap.size, 5, none⟩ = some (.slice aoA aout.length aoc) := HP.out.cell 5
            have b0 : W1.cell? ⟨w.heap.size + 1, 0, none⟩ = some (.int .i64 bv) := HQ.out.cell 0
            have b1 : W1.cell? ⟨w.heap.size + 1, 1, none⟩ = some (.int .i64 bl) := HQ.out.cell 1
            have b2 : W1.cell? ⟨w.heap.size + 1, 2, none⟩ = some (.slice bcA bcode.length bcc) := HQ.out.cell 2
            have b3 : W1.cell? ⟨w.heap.size + 1, 3, none⟩ = some (.slice bmA bmem.length bmc) := HQ.out.cell 3
            have b4 : W1.cell? ⟨w.heap.size + 1, 4, none⟩ = some (.slice bsA b.length bsc) := HQ.out.cell 4
            have b5 : W1.cell? ⟨w.heap.size + 1, 5, none⟩ = some (.slice boA bout.length boc) := HQ.out.cell 5
            go_wp2_with (fail)
            refine (HC2.out W1 HB.out).mono ?_
            rintro e W2 ⟨rfl, hb9⟩
            have hb1 := HB.out.trans (hb9.mono HB.out.size)
            have hp1 := HP.out.below hb9 HP.out.lt
            have hq1 := HQ.out.below hb9 HQ.out.lt
            clear HB HP HQ hb9
            clear a0 b0 a1 b1 a2 b2 a3 b3 a4 b4 a5 b5
            have HB := Lib.hid hb1
            have HP := Lib.hid hp1
            have HQ := Lib.hid hq1
            clear hb1 hp1 hq1
            have a0 : W2.cell? ⟨w.heap.size, 0, none⟩ = some (.int .i64 av) := HP.out.cell 0
            have a1 : W2.cell? ⟨w.heap.size, 1, none⟩ = some (.int .i64 al) := HP.out.cell 1
            have a2 : W2.cell? ⟨w.heap.size, 2, none⟩ = some (.slice acA acode.length acc) := HP.out.cell 2
            have a3 : W2.cell? ⟨w.heap.size, 3, none⟩ = some (.slice amA amem.length amc) := HP.out.cell 3
            have a4 : W2.cell? ⟨w.heap.size, 4, none⟩ = some (.slice asA a.length asc) := HP.out.cell 4
            have a5 : W2.cell? ⟨w.heap.size, 5, none⟩ = some (.slice aoA aout.length aoc) := HP.out.cell 5
            have b0 : W2.cell? ⟨w.heap.size + 1, 0, none⟩ = some (.int .i64 bv) := HQ.out.cell 0
            have b1 : W2.cell? ⟨w.heap.size + 1, 1, none⟩ = some (.int .i64 bl) := HQ.out.cell 1
            have b2 : W2.cell? ⟨w.heap.size + 1, 2, none⟩ = some (.slice bcA bcode.length bcc) := HQ.out.cell 2
            have b3 : W2.cell? ⟨w.heap.size + 1, 3, none⟩ = some (.slice bmA bmem.length bmc) := HQ.out.cell 3
            have b4 : W2.cell? ⟨w.heap.size + 1, 4, none⟩ = some (.slice bsA b.length bsc) := HQ.out.cell 4
            have b5 : W2.cell? ⟨w.heap.size + 1, 5, none⟩ = some (.slice boA bout.length boc) := HQ.out.cell 5
            go_wp2_with (fail)
            refine (HC3.out W2 HB.out).mono ?_
            rintro e W3 ⟨rfl, hb9⟩
            have hb1 := HB.out.trans (hb9.mono HB.out.size)
            have hp1 := HP.out.below hb9 HP.out.lt
            have hq1 := HQ.out.below hb9 HQ.out.lt
            clear HB HP HQ hb9
            clear a0 b0 a1 b1 a2 b2 a3 b3 a4 b4 a5 b5
            have HB := Lib.hid hb1
            have HP := Lib.hid hp1
            have HQ := Lib.hid hq1
            clear hb1 hp1 hq1
            have a0 : W3.cell? ⟨w.heap.size, 0, none⟩ = some (.int .i64 av) := HP.out.cell 0
            have a1 : W3.cell? ⟨w.heap.size, 1, none⟩ = some (.int .i64 al) := HP.out.cell 1
            have a2 : W3.cell? ⟨w.heap.size, 2, none⟩ = some (.slice acA acode.length acc) := HP.out.cell 2
            have a3 : W3.cell? ⟨w.heap.size, 3, none⟩ = some (.slice amA amem.length amc) := HP.out.cell 3
            have a4 : W3.cell? ⟨w.heap.size, 4, none⟩ = some (.slice asA a.length asc) := HP.out.cell 4
            have a5 : W3.cell? ⟨w.heap.size, 5, none⟩ = some (.slice aoA aout.length aoc) := HP.out.cell 5
            have b0 : W3.cell? ⟨w.heap.size + 1, 0, none⟩ = some (.int .i64 bv) := HQ.out.cell 0
            have b1 : W3.cell? ⟨w.heap.size + 1, 1, none⟩ = some (.int .i64 bl) := HQ.out.cell 1
            have b2 : W3.cell? ⟨w.heap.size + 1, 2, none⟩ = some (.slice bcA bcode.length bcc) := HQ.out.cell 2
            have b3 : W3.cell? ⟨w.heap.size + 1, 3, none⟩ = some (.slice bmA bmem.length bmc) := HQ.out.cell 3
            have b4 : W3.cell? ⟨w.heap.size + 1, 4, none⟩ = some (.slice bsA b.length bsc) := HQ.out.cell 4
            have b5 : W3.cell? ⟨w.heap.size + 1, 5, none⟩ = some (.slice boA bout.length boc) := HQ.out.cell 5
            go_wp2
            go_loopw [47] (fun i wr => ∃ k : Nat, k ≤ a.length ∧ i = .int .i64 k ∧ Hid (∀ (j : Nat) (x y : St.Slot), j < k → a[j]? = some x → b[j]? = some y → x = y) ∧ Hid (Below w.heap.size w wr) ∧ Hid (Blk wr w.heap.size 39 #[.int .i64 av, .int .i64 al, .slice acA acode.length acc, .slice amA amem.length amc, .slice asA a.length asc, .slice aoA aout.length aoc]) ∧ Hid (Blk wr (w.heap.size + 1) 39 #[.int .i64 bv, .int .i64 bl, .slice bcA bcode.length bcc, .slice bmA bmem.length bmc, .slice bsA b.length bsc, .slice boA bout.length boc])) (fun i _ => a.length - (intOf i).toNat)
            case atStart => exact ⟨0, Nat.zero_le _, rfl, Lib.hid fun j x y hj => absurd hj (Nat.not_lt_zero _), HB, HP, HQ⟩
            case round =>
              clear HB HP HQ a0 a1 a2 a3 a4 a5 b0 b1 b2 b3 b4 b5
              obtain ⟨k, hk, rfl, HS, HBW, HP, HQ⟩ := hrel
              by_cases hlt : k < a.length
              · obtain ⟨ad, x, rfl, hxb, hx, x0, x1, x2⟩ := srow_at (HA.out.below HBW.out) hlt
                obtain ⟨bd, y, rfl, hyb, hy, y0, y1, y2⟩ := srow_at (HBR.out.below HBW.out) (show k < b.length by have := HL.out; omega)
                have hq := fun w => run_sl_neq x y w
                have hz := HBW.out.size
                have hxb2 : (ad.add (k * 3)).block < wr.heap.size := by rw [add_block]; omega
                have hyb2 : (bd.add (k * 3)).block < wr.heap.size := by rw [add_block]; omega
                have HX := Lib.hid hx
                have HY := Lib.hid hy
                clear hx hy
                have hlt2 : k < b.length := by have := HL.out; omega
                have a4 : wr.cell? ⟨w.heap.size, 4, none⟩ = some (.slice (some ad) a.length asc) := HP.out.cell 4
                have b4 : wr.cell? ⟨w.heap.size + 1, 4, none⟩ = some (.slice (some bd) b.length bsc) := HQ.out.cell 4
                have hpl := HP.out.lt
                have hql := HQ.out.lt
                by_cases he : x = y
                · have hf : (!decide (x = y)) = false := by rw [decide_eq_true he]; rfl
                  rw [hf] at hq
                  have HE := Lib.hid he
                  clear he hf
                  generalize hx0 : x.ret = xret at *
                  generalize hx1 : x.v = xv at *
                  generalize hx2 : x.l = xl at *
                  generalize hy0 : y.ret = yret at *
                  generalize hy1 : y.v = yv at *
                  generalize hy2 : y.l = yl at *
                  clear hx0 hx1 hx2 hy0 hy1 hy2
                  go_wp2
                  go_quiet (fail)
                  all_goals go_wp2
                  go_roundw
                  case rel => exact ⟨k + 1, by omega, by go_num, Lib.hid fun j u v hj hu hv => by
                    rcases Nat.lt_or_eq_of_le (Nat.le_of_lt_succ hj) with h | rfl
                    · exact HS.out j u v h hu hv
                    · rw [HX.out] at hu; rw [HY.out] at hv
                      injection hu with hu; injection hv with hv
                      rw [← hu, ← hv]; exact HE.out, Lib.hid (below_drawn HBW.out _), Lib.hid (below_drawn_blk HP.out _), Lib.hid (below_drawn_blk HQ.out _)⟩
                  case measure => simp [intOf]; omega
                · have hf : (!decide (x = y)) = true := by rw [decide_eq_false he]; rfl
                  rw [hf] at hq
                  have HE := Lib.hid he
                  clear he hf
                  generalize hx0 : x.ret = xret at *
                  generalize hx1 : x.v = xv at *
                  generalize hx2 : x.l = xl at *
                  generalize hy0 : y.ret = yret at *
                  generalize hy1 : y.v = yv at *
                  generalize hy2 : y.l = yl at *
                  clear hx0 hx1 hx2 hy0 hy1 hy2
                  go_wp2
                  go_quiet (fail)
                  all_goals go_wp2
                  go_ret
                  exact ⟨retb (by rw [← HRES.out]; exact (decide_eq_false (same_stepA HX.out HY.out HE.out)).symm), below_drawn HBW.out _⟩
              · obtain rfl : k = a.length := by omega
                go_wp2
                go_ret
                exact ⟨retb (by rw [← HRES.out]; exact (decide_eq_true (same_allA HL.out fun k x y hx hy => HS.out k x y (List.getElem?_eq_some_iff.1 hx).1 hx hy)).symm), HBW.out⟩
          · have h1 : ((astack.length : Int) != (bstack.length : Int)) = true := by rw [bne_iff_ne]; omega
            have HR2 := Lib.hid (show false = res by rw [← HRES.out]; exact (decide_eq_false fun e => hl (by rw [e])).symm)
            clear hl
            go_enter Try.func12, Try.ntmps12
            go_wp2_with (fail)
            refine (HC1.out W0 HB.out).mono ?_
            rintro e W1 ⟨rfl, hb9⟩
            have hb1 := HB.out.trans (hb9.mono HB.out.size)
            have hp1 := HP.out.below hb9 HP.out.lt
            have hq1 := HQ.out.below hb9 HQ.out.lt
            clear HB HP HQ hb9
            clear a0 b0 a1 b1 a2 b2 a3 b3 a4 b4 a5 b5
            have HB := Lib.hid hb1
            have HP := Lib.hid hp1
            have HQ := Lib.hid hq1
            clear hb1 hp1 hq1
            have a0 : W1.cell? ⟨w.heap.size, 0, none⟩ = some (.int .i64 av) := HP.out.cell 0
            have a1 : W1.cell? ⟨w.heap.size, 1, none⟩ = some (.int .i64 al) := HP.out.cell 1
            have a2 : W1.cell? ⟨w.heap.size, 2, none⟩ = some (.slice acA acode.length acc) := HP.out.cell 2
            have a3 : W1.cell? ⟨w.heap.size, 3, none⟩ = some (.slice amA amem.length amc) := HP.out.cell 3
            have a4 : W1.cell? ⟨w.heap.size, 4, none⟩ = some (.slice asA astack.length asc) := HP.out.cell 4
            have a5 : W1.cell? ⟨w.heap.size, 5, none⟩ = some (.slice aoA aout.length aoc) := HP.out.cell 5
            have b0 : W1.cell? ⟨w.heap.size + 1, 0, none⟩ = some (.int .i64 bv) := HQ.out.cell 0
            have b1 : W1.cell? ⟨w.heap.size + 1, 1, none⟩ = some (.int .i64 bl) := HQ.out.cell 1
            have b2 : W1.cell? ⟨w.heap.size + 1, 2, none⟩ = some (.slice bcA bcode.length bcc) := HQ.out.cell 2
            have b3 : W1.cell? ⟨w.heap.size + 1, 3, none⟩ = some (.slice bmA bmem.length bmc) := HQ.out.cell 3
            have b4 : W1.cell? ⟨w.heap.size + 1, 4, none⟩ = some (.slice bsA bstack.length bsc) := HQ.out.cell 4
            have b5 : W1.cell? ⟨w.heap.size + 1, 5, none⟩ = some (.slice boA bout.length boc) := HQ.out.cell 5
            go_wp2_with (fail)
            refine (HC2.out W1 HB.out).mono ?_
            rintro e W2 ⟨rfl, hb9⟩
            have hb1 := HB.out.trans (hb9.mono HB.out.size)
            have hp1 := HP.out.below hb9 HP.out.lt
            have hq1 := HQ.out.below hb9 HQ.out.lt
            clear HB HP HQ hb9
            clear a0 b0 a1 b1 a2 b2 a3 b3 a4 b4 a5 b5
            have HB := Lib.hid hb1
            have HP := Lib.hid hp1
            have HQ := Lib.hid hq1
            clear hb1 hp1 hq1
            have a0 : W2.cell? ⟨w.heap.size, 0, none⟩ = some (.int .i64 av) := HP.out.cell 0
            have a1 : W2.cell? ⟨w.heap.size, 1, none⟩ = some (.int .i64 al) := HP.out.cell 1
            have a2 : W2.cell? ⟨w.heap.size, 2, none⟩ = some (.slice acA acode.length acc) := HP.out.cell 2
            have a3 : W2.cell? ⟨w.heap.size, 3, none⟩ = some (.slice amA amem.length amc) := HP.out.cell 3
            have a4 : W2.cell? ⟨w.heap.size, 4, none⟩ = some (.slice asA astack.length asc) := HP.out.cell 4
            have a5 : W2.cell? ⟨w.heap.size, 5, none⟩ = some (.slice aoA aout.length aoc) := HP.out.cell 5
            have b0 : W2.cell? ⟨w.heap.size + 1, 0, none⟩ = some (.int .i64 bv) := HQ.out.cell 0
            have b1 : W2.cell? ⟨w.heap.size + 1, 1, none⟩ = some (.int .i64 bl) := HQ.out.cell 1
            have b2 : W2.cell? ⟨w.heap.size + 1, 2, none⟩ = some (.slice bcA bcode.length bcc) := HQ.out.cell 2
            have b3 : W2.cell? ⟨w.heap.size + 1, 3, none⟩ = some (.slice bmA bmem.length bmc) := HQ.out.cell 3
            have b4 : W2.cell? ⟨w.heap.size + 1, 4, none⟩ = some (.slice bsA bstack.length bsc) := HQ.out.cell 4
            have b5 : W2.cell? ⟨w.heap.size + 1, 5, none⟩ = some (.slice boA bout.length boc) := HQ.out.cell 5
            go_wp2_with (fail)
            refine (HC3.out W2 HB.out).mono ?_
            rintro e W3 ⟨rfl, hb9⟩
            have hb1 := HB.out.trans (hb9.mono HB.out.size)
            have hp1 := HP.out.below hb9 HP.out.lt
            have hq1 := HQ.out.below hb9 HQ.out.lt
            clear HB HP HQ hb9
            clear a0 b0 a1 b1 a2 b2 a3 b3 a4 b4 a5 b5
            have HB := Lib.hid hb1
            have HP := Lib.hid hp1
            have HQ := Lib.hid hq1
            clear hb1 hp1 hq1
            have a0 : W3.cell? ⟨w.heap.size, 0, none⟩ = some (.int .i64 av) := HP.out.cell 0
            have a1 : W3.cell? ⟨w.heap.size, 1, none⟩ = some (.int .i64 al) := HP.out.cell 1
            have a2 : W3.cell? ⟨w.heap.size, 2, none⟩ = some (.slice acA acode.length acc) := HP.out.cell 2
            have a3 : W3.cell? ⟨w.heap.size, 3, none⟩ = some (.slice amA amem.length amc) := HP.out.cell 3
            have a4 : W3.cell? ⟨w.heap.size, 4, none⟩ = some (.slice asA astack.length asc) := HP.out.cell 4
            have a5 : W3.cell? ⟨w.heap.size, 5, none⟩ = some (.slice aoA aout.length aoc) := HP.out.cell 5
            have b0 : W3.cell? ⟨w.heap.size + 1, 0, none⟩ = some (.int .i64 bv) := HQ.out.cell 0
            have b1 : W3.cell? ⟨w.heap.size + 1, 1, none⟩ = some (.int .i64 bl) := HQ.out.cell 1
            have b2 : W3.cell? ⟨w.heap.size + 1, 2, none⟩ = some (.slice bcA bcode.length bcc) := HQ.out.cell 2
            have b3 : W3.cell? ⟨w.heap.size + 1, 3, none⟩ = some (.slice bmA bmem.length bmc) := HQ.out.cell 3
            have b4 : W3.cell? ⟨w.heap.size + 1, 4, none⟩ = some (.slice bsA bstack.length bsc) := HQ.out.cell 4
            have b5 : W3.cell? ⟨w.heap.size + 1, 5, none⟩ = some (.slice boA bout.length boc) := HQ.out.cell 5
            go_wp2
            go_ret
            exact ⟨retb HR2.out, HB.out⟩
end Go.Proofs.Ytmbgndcahlopdaa
