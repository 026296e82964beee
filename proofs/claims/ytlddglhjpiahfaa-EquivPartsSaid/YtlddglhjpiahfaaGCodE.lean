/- The reference's one is the plain one; what From holds at the head of a round. -/
import Derived.Test.YtlddglhjpiahfaaGCodC
import Derived.Test.YtlddglhjpiahfaaGCodK
import Derived.Test.YtlddglhjpiahfaaGRefJ
import Derived.Test.YtlddglhjpiahfaaGNotG
import Derived.Test.YtlddglhjpiahfaaGCodP
import Derived.Test.YtlddglhjpiahfaaGCodA
import Derived.Test.YtlddglhjpiahfaaGTabE
import Derived.Test.YtlddglhjpiahfaaGFree
namespace Go.Proofs.Ytlddglhjpiahfaa
set_option maxRecDepth 100000
open Go.RowKit Go.Shelf Go.Sort

end Go.Proofs.Ytlddglhjpiahfaa

/- The reference's way of reading a state, plain: it is what tokens tell. -/
namespace Go.Proofs.Ytlddglhjpiahfaa
set_option maxRecDepth 100000
open Lx (Tk)
open Tb (tok Fine)
end Go.Proofs.Ytlddglhjpiahfaa

/- Rows of atoms and slots in memory; a state as a value; what a reading keeps of them. -/
namespace Go.Proofs.Ytlddglhjpiahfaa
set_option maxRecDepth 100000
open Go.RowKit Go.Shelf
attribute [local go_sem] Oper.semAt_some

def avs (x : St.Atom) : List Value := [.int .i64 x.v, .int .i64 x.l]
def svs (x : St.Slot) : List Value := [.bool x.ret, .int .i64 x.v, .int .i64 x.l]
theorem avs_len (x : St.Atom) : (avs x).length = 2 := rfl
theorem svs_len (x : St.Slot) : (svs x).length = 3 := rfl
theorem arow_at {w : World} {B : Nat} {A : Option Addr} {l : List St.Atom} {k : Nat} (h : Row w B A (fcells avs l)) (hk : k < l.length) : ∃ ad t, A = some ad ∧ ad.block < B ∧ l[k]? = some t ∧ w.cell? (ad.add (k * 2)) = some (.int .i64 t.v) ∧
    w.cell? ⟨(ad.add (k * 2)).block, (ad.add (k * 2)).off + 1, none⟩ = some (.int .i64 t.l) := by
  have hlen := fcells_length avs_len l
  obtain ⟨ad, e, hb, hc⟩ := h (by intro e; rw [e] at hlen; simp at hlen; omega)
  have h0 := fcells_at avs_len l k l[k] (List.getElem?_eq_getElem hk) 0 (by decide)
  have h1 := fcells_at avs_len l k l[k] (List.getElem?_eq_getElem hk) 1 (by decide)
  exact ⟨ad, l[k], e, hb, List.getElem?_eq_getElem hk, hc _ _ h0, by rw [← addr_next _ _ _ (by decide)]; exact hc _ _ h1⟩
theorem srow_at {w : World} {B : Nat} {A : Option Addr} {l : List St.Slot} {k : Nat} (h : Row w B A (fcells svs l)) (hk : k < l.length) : ∃ ad t, A = some ad ∧ ad.block < B ∧ l[k]? = some t ∧ w.cell? (ad.add (k * 3)) = some (.bool t.ret) ∧
    w.cell? ⟨(ad.add (k * 3)).block, (ad.add (k * 3)).off + 1, none⟩ = some (.int .i64 t.v) ∧ w.cell? ⟨(ad.add (k * 3)).block, (ad.add (k * 3)).off + 2, none⟩ = some (.int .i64 t.l) := by
  have hlen := fcells_length svs_len l
  obtain ⟨ad, e, hb, hc⟩ := h (by intro e; rw [e] at hlen; simp at hlen; omega)
  have h0 := fcells_at svs_len l k l[k] (List.getElem?_eq_getElem hk) 0 (by decide)
  have h1 := fcells_at svs_len l k l[k] (List.getElem?_eq_getElem hk) 1 (by decide)
  have h2 := fcells_at svs_len l k l[k] (List.getElem?_eq_getElem hk) 2 (by decide)
  exact ⟨ad, l[k], e, hb, List.getElem?_eq_getElem hk, hc _ _ h0, by rw [← addr_next _ _ _ (by decide)]; exact hc _ _ h1, by rw [← addr_next _ _ _ (by decide)]; exact hc _ _ h2⟩
/-- A slice of such things, below B. -/
def IsL {α : Type} (f : α → List Value) (w : World) (B : Nat) (v : Value) (l : List α) : Prop := ∃ A c, v = .slice A l.length c ∧ Row w B A (fcells f l) ∧ l.length ≤ c
section
variable {α : Type} {f : α → List Value} {w w' : World} {B B' R : Nat} {v : Value} {l : List α}
theorem IsL.below (h : IsL f w B v l) (hb : Below B w w') : IsL f w' B v l := by
  obtain ⟨A, c, e, hr, hc⟩ := h
  exact ⟨A, c, e, hr.below hb, hc⟩
theorem IsL.more (h : IsL f w B v l) (hB : B ≤ B') : IsL f w B' v l := by
  obtain ⟨A, c, e, hr, hc⟩ := h
  exact ⟨A, c, e, hr.more hB, hc⟩
theorem IsL.nil (f : α → List Value) (w : World) (B : Nat) : IsL f w B (.slice none 0 0) [] := ⟨none, 0, rfl, Row.nil, Nat.le_refl _⟩
end
/-- A state as a value. -/
def stv (s : St.State) (cv mv sv ov : Value) : Value := .agg #[.int .i64 s.pc.v, .int .i64 s.pc.l, cv, mv, sv, ov]
/-- A state, below B. -/
def IsSt (w : World) (B : Nat) (v : Value) (s : St.State) : Prop := ∃ cv mv sv ov, v = stv s cv mv sv ov ∧ IsIns w B cv s.code ∧ IsL avs w B mv s.mem ∧ IsL svs w B sv s.stack ∧ IsL avs w B ov s.out
theorem IsSt.below {w w' : World} {B : Nat} {v : Value} {s : St.State} (h : IsSt w B v s) (hb : Below B w w') : IsSt w' B v s := by
  obtain ⟨cv, mv, sv, ov, e, h1, h2, h3, h4⟩ := h
  exact ⟨cv, mv, sv, ov, e, h1.below hb, h2.below hb, h3.below hb, h4.below hb⟩
theorem IsSt.more {w : World} {B B' : Nat} {v : Value} {s : St.State} (h : IsSt w B v s) (hB : B ≤ B') : IsSt w B' v s := by
  obtain ⟨cv, mv, sv, ov, e, h1, h2, h3, h4⟩ := h
  exact ⟨cv, mv, sv, ov, e, h1.more hB, h2.more hB, h3.more hB, h4.more hB⟩
/-! A result that lies in a cell, while a reading goes on. -/
end Go.Proofs.Ytlddglhjpiahfaa

/- Which states may be (by gen_stmg.py): walks of isLabel, isAtom, isPlace, atomOf, isSlot, allRight, Right. -/
namespace Go.Proofs.Ytlddglhjpiahfaa
set_option maxRecDepth 100000
open Go.RowKit Go.Shelf Go.Sort
attribute [local go_sem] Oper.semAt_some
end Go.Proofs.Ytlddglhjpiahfaa

/- The reference's AtomsSame and Same (by gen_stmi.py). -/
namespace Go.Proofs.Ytlddglhjpiahfaa
set_option maxRecDepth 100000
open Go.RowKit Go.Shelf Go.Sort
attribute [local go_sem] Oper.semAt_some
theorem eqF2 {P : Program} {it : TypeId} (hu : P.underlying it = some (.int .i64)) (hp : P.plainKey it = true) (w : World) (d : Nat) (f0 f1 : Field) (h0 : f0.name ≠ "_" ∧ f0.type = it ∧ f0.offset = 0) (h1 : f1.name ≠ "_" ∧ f1.type = it ∧ f1.offset = 1) (a0 a1 b0 b1 : Int) :
    (Op.eqFields (d + 1) #[.int .i64 a0, .int .i64 a1] #[.int .i64 b0, .int .i64 b1] [f0, f1]).run P w = .ok (a0 == b0 && a1 == b1) w := by
  have p : ∀ (xs : Array Value) (off : Nat) (v : Value), xs[off]? = some v → (part it xs off).run P w = .ok v w := fun xs off v h => run_part_plain w hp h
  have p0 : ∀ a b : Int, (part it #[.int .i64 a, .int .i64 b] 0).run P w = .ok (.int .i64 a) w := fun a b => p _ _ _ rfl
  have p1 : ∀ a b : Int, (part it #[.int .i64 a, .int .i64 b] 1).run P w = .ok (.int .i64 b) w := fun a b => p _ _ _ rfl
  have q : ∀ a b : Int, (Op.equalIn (d + 1) it (.int .i64 a) (.int .i64 b)).run P w = .ok (a == b) w := fun a b => run_equalIn_int w d it .i64 .i64 a b hu
  obtain ⟨n0, t0, o0⟩ := h0
  obtain ⟨n1, t1, o1⟩ := h1
  simp only [Op.eqFields, n0, n1, t0, t1, o0, o1, ne_eq, not_false_eq_true, if_true, Sem.run_bind, Sem.run_ite, Sem.run_pure, p0, p1, q, Result.andThen_ok]
  generalize (a0 == b0) = u0
  generalize (a1 == b1) = u1
  clear p p0 p1 q
  cases u0 <;> cases u1 <;> simp
theorem eqF3b {P : Program} {bt it : TypeId} (hub : P.underlying bt = some .bool) (hpb : P.plainKey bt = true) (hu : P.underlying it = some (.int .i64)) (hp : P.plainKey it = true) (w : World) (d : Nat) (f0 f1 f2 : Field) (h0 : f0.name ≠ "_" ∧ f0.type = bt ∧ f0.offset = 0) (h1 : f1.name ≠ "_" ∧ f1.type = it ∧ f1.offset = 1) (h2 : f2.name ≠ "_" ∧ f2.type = it ∧ f2.offset = 2) (a0 b0 : Bool) (a1 a2 b1 b2 : Int) :
    (Op.eqFields (d + 1) #[.bool a0, .int .i64 a1, .int .i64 a2] #[.bool b0, .int .i64 b1, .int .i64 b2] [f0, f1, f2]).run P w = .ok (a0 == b0 && (a1 == b1 && a2 == b2)) w := by
  have p : ∀ (xs : Array Value) (off : Nat) (v : Value), xs[off]? = some v → (part it xs off).run P w = .ok v w := fun xs off v h => run_part_plain w hp h
  have p0 : ∀ (a : Bool) (b c : Int), (part bt #[.bool a, .int .i64 b, .int .i64 c] 0).run P w = .ok (.bool a) w := fun a b c => run_part_plain w hpb rfl
  have p1 : ∀ (a : Bool) (b c : Int), (part it #[.bool a, .int .i64 b, .int .i64 c] 1).run P w = .ok (.int .i64 b) w := fun a b c => p _ _ _ rfl
  have p2 : ∀ (a : Bool) (b c : Int), (part it #[.bool a, .int .i64 b, .int .i64 c] 2).run P w = .ok (.int .i64 c) w := fun a b c => p _ _ _ rfl
  have q0 : ∀ a b : Bool, (Op.equalIn (d + 1) bt (.bool a) (.bool b)).run P w = .ok (a == b) w := fun a b => run_equalIn_bool w d bt a b hub
  have q : ∀ a b : Int, (Op.equalIn (d + 1) it (.int .i64 a) (.int .i64 b)).run P w = .ok (a == b) w := fun a b => run_equalIn_int w d it .i64 .i64 a b hu
  obtain ⟨n0, t0, o0⟩ := h0
  obtain ⟨n1, t1, o1⟩ := h1
  obtain ⟨n2, t2, o2⟩ := h2
  simp only [Op.eqFields, n0, n1, n2, t0, t1, t2, o0, o1, o2, ne_eq, not_false_eq_true, if_true, Sem.run_bind, Sem.run_ite, Sem.run_pure, p0, p1, p2, q0, q, Result.andThen_ok]
  generalize (a0 == b0) = u0
  generalize (a1 == b1) = u1
  generalize (a2 == b2) = u2
  clear p p0 p1 p2 q q0
  cases u0 <;> cases u1 <;> cases u2 <;> simp
theorem run_ateq (x y : St.Atom) (w : World) : (Op.equalIn 10000 27 (.agg #[.int .i64 x.v, .int .i64 x.l]) (.agg #[.int .i64 y.v, .int .i64 y.l])).run Try.prog w = .ok (decide (x = y)) w := by
  have hd : decide (x = y) = (x.v == y.v && x.l == y.l) := by
    obtain ⟨a, b⟩ := x
    obtain ⟨d, e⟩ := y
    rw [Bool.eq_iff_iff]
    simp
  have hl : (Try.prog.fieldsOf 27).toList = [(Try.prog.fieldsOf 27).getD 0 ⟨ "", 0, 0, false, "", "", 0⟩, (Try.prog.fieldsOf 27).getD 1 ⟨ "", 0, 0, false, "", "", 0⟩] := by kernel_rfl
  rw [hd, run_equalIn_struct w 9999 27 _ _ (by kernel_rfl) (by kernel_rfl), hl]
  exact eqF2 Try.underlying3 (by kernel_rfl) w 9998 _ _ ⟨by decide +kernel, by kernel_rfl, by kernel_rfl⟩ ⟨by decide +kernel, by kernel_rfl, by kernel_rfl⟩ _ _ _ _
theorem run_sleq (x y : St.Slot) (w : World) : (Op.equalIn 10000 53 (.agg #[.bool x.ret, .int .i64 x.v, .int .i64 x.l]) (.agg #[.bool y.ret, .int .i64 y.v, .int .i64 y.l])).run Try.prog w = .ok (decide (x = y)) w := by
  have hd : decide (x = y) = (x.ret == y.ret && (x.v == y.v && x.l == y.l)) := by
    obtain ⟨a, b, c⟩ := x
    obtain ⟨d, e, f⟩ := y
    rw [Bool.eq_iff_iff]
    simp
  have hl : (Try.prog.fieldsOf 53).toList = [(Try.prog.fieldsOf 53).getD 0 ⟨ "", 0, 0, false, "", "", 0⟩, (Try.prog.fieldsOf 53).getD 1 ⟨ "", 0, 0, false, "", "", 0⟩, (Try.prog.fieldsOf 53).getD 2 ⟨ "", 0, 0, false, "", "", 0⟩] := by kernel_rfl
  rw [hd, run_equalIn_struct w 9999 53 _ _ (by kernel_rfl) (by kernel_rfl), hl]
  exact eqF3b Try.underlying4 (by kernel_rfl) Try.underlying3 (by kernel_rfl) w 9998 _ _ _ ⟨by decide +kernel, by kernel_rfl, by kernel_rfl⟩ ⟨by decide +kernel, by kernel_rfl, by kernel_rfl⟩ ⟨by decide +kernel, by kernel_rfl, by kernel_rfl⟩ _ _ _ _ _ _
theorem run_at_neq (x y : St.Atom) (w : World) : (binOp .neq 27 (.agg #[.int .i64 x.v, .int .i64 x.l]) (.agg #[.int .i64 y.v, .int .i64 y.l])).run Try.prog w = .ok (.bool (!decide (x = y))) w := by
  rw [run_neq_struct, run_ateq]
  rfl
theorem run_at_eql (x y : St.Atom) (w : World) : (binOp .eql 27 (.agg #[.int .i64 x.v, .int .i64 x.l]) (.agg #[.int .i64 y.v, .int .i64 y.l])).run Try.prog w = .ok (.bool (decide (x = y))) w := by
  rw [run_eql_struct, run_ateq]
  rfl
theorem run_sl_eql (x y : St.Slot) (w : World) : (binOp .eql 53 (.agg #[.bool x.ret, .int .i64 x.v, .int .i64 x.l]) (.agg #[.bool y.ret, .int .i64 y.v, .int .i64 y.l])).run Try.prog w = .ok (.bool (decide (x = y))) w := by
  rw [run_eql_struct, run_sleq]
  rfl
theorem same_stepA {α : Type} {a b : List α} {k : Nat} {x y : α} (ha : a[k]? = some x) (hb : b[k]? = some y) (h : x ≠ y) : a ≠ b := fun e => by
  rw [e, hb] at ha
  injection ha with ha
  exact h ha.symm
theorem same_allA {α : Type} {a b : List α} (hl : a.length = b.length) (h : ∀ (k : Nat) (x y : α), a[k]? = some x → b[k]? = some y → x = y) : a = b :=
  List.ext_getElem? fun k => by
    by_cases hk : k < a.length
    · rw [List.getElem?_eq_getElem hk, List.getElem?_eq_getElem (by omega), h k _ _ (List.getElem?_eq_getElem hk) (List.getElem?_eq_getElem (by omega))]
    · rw [List.getElem?_eq_none (by omega), List.getElem?_eq_none (by omega)]
set_option maxHeartbeats 4000000 in
theorem rAtomsSame_any {A B : Option Addr} {a b : List St.Atom} (c d : Nat) (w : World) (h : Row w w.heap.size A (fcells avs a)) (h' : Row w w.heap.size B (fcells avs b)) (ha : a.length ≤ 1000) (_hb : b.length ≤ 1000) :
    Calls Try.prog 37 #[.slice A a.length c, .slice B b.length d] w (Tells w (decide (a = b))) := by
  obtain ⟨res, hres⟩ : ∃ res, decide (a = b) = res := ⟨_, rfl⟩
  rw [hres]
  have HA := Lib.hid h
  have HBR := Lib.hid h'
  have HRES := Lib.hid hres
  have HB := Lib.hid (Below.refl w.heap.size w)
  clear h h' hres
  by_cases hl : a.length = b.length
  · have h1 : ((a.length : Int) != (b.length : Int)) = false := by rw [bne_eq_false_iff_eq]; omega
    have HL := Lib.hid hl
    go_enter Try.func37, Try.ntmps37
    go_wp2
    go_loopw [13] (fun i wr => ∃ k : Nat, k ≤ a.length ∧ i = .int .i64 k ∧ Hid (∀ (j : Nat) (x y : St.Atom), j < k → a[j]? = some x → b[j]? = some y → x = y) ∧ Hid (Below w.heap.size w wr)) (fun i _ => a.length - (intOf i).toNat)
    case atStart => exact ⟨0, Nat.zero_le _, rfl, Lib.hid fun j x y hj => absurd hj (Nat.not_lt_zero _), HB⟩
    case round =>
      obtain ⟨k, hk, rfl, HS, HBW⟩ := hrel
      by_cases hlt : k < a.length
      · obtain ⟨ad, x, rfl, hxb, hx, x0, x1⟩ := arow_at (HA.out.below HBW.out) hlt
        obtain ⟨bd, y, rfl, hyb, hy, y0, y1⟩ := arow_at (HBR.out.below HBW.out) (show k < b.length by have := HL.out; omega)
        have hq := fun w => run_at_neq x y w
        have hz := HBW.out.size
        have hxb2 : (ad.add (k * 2)).block < wr.heap.size := by rw [add_block]; omega
        have hyb2 : (bd.add (k * 2)).block < wr.heap.size := by rw [add_block]; omega
        have HX := Lib.hid hx
        have HY := Lib.hid hy
        clear hx hy
        have hlt2 : k < b.length := by have := HL.out; omega

        by_cases he : x = y
        · have hf : (!decide (x = y)) = false := by rw [decide_eq_true he]; rfl
          rw [hf] at hq
          have HE := Lib.hid he
          clear he hf
          generalize hx0 : x.v = xv at *
          generalize hx1 : x.l = xl at *
          generalize hy0 : y.v = yv at *
          generalize hy1 : y.l = yl at *
          clear hx0 hx1 hy0 hy1
          go_wp2
          go_quiet (fail)
          all_goals go_wp2
          go_roundw
          case rel => exact ⟨k + 1, by omega, by go_num, Lib.hid fun j u v hj hu hv => by
            rcases Nat.lt_or_eq_of_le (Nat.le_of_lt_succ hj) with h | rfl
            · exact HS.out j u v h hu hv
            · rw [HX.out] at hu; rw [HY.out] at hv
              injection hu with hu; injection hv with hv
              rw [← hu, ← hv]; exact HE.out, Lib.hid (below_drawn HBW.out _)⟩
          case measure => simp [intOf]; omega
        · have hf : (!decide (x = y)) = true := by rw [decide_eq_false he]; rfl
          rw [hf] at hq
          have HE := Lib.hid he
          clear he hf
          generalize hx0 : x.v = xv at *
          generalize hx1 : x.l = xl at *
          generalize hy0 : y.v = yv at *
          generalize hy1 : y.l = yl at *
          clear hx0 hx1 hy0 hy1
          go_wp2
          go_quiet (fail)
          all_goals go_wp2
          go_ret
          exact ⟨retb (by rw [← HRES.out]; exact (decide_eq_false (same_stepA HX.out HY.out HE.out)).symm), below_drawn HBW.out _⟩
      · obtain rfl : k = a.length := by omega
        go_wp2
        go_ret
        exact ⟨retb (by rw [← HRES.out]; exact (decide_eq_true (same_allA HL.out fun k x y hx hy => HS.out k x y (List.getElem?_eq_some_iff.1 hx).1 hx hy)).symm), HBW.out⟩
  · have h1 : ((a.length : Int) != (b.length : Int)) = true := by rw [bne_iff_ne]; omega
    have HR2 := Lib.hid (show false = res by rw [← HRES.out]; exact (decide_eq_false fun e => hl (by rw [e])).symm)
    clear hl
    go_enter Try.func37, Try.ntmps37
    go_wp2
    go_ret
    exact ⟨retb HR2.out, HB.out⟩
end Go.Proofs.Ytlddglhjpiahfaa

/- Walk of slices.Equal at []api.Atom. -/
namespace Go.Proofs.Ytlddglhjpiahfaa
set_option maxRecDepth 100000
open Go.RowKit Go.Shelf
attribute [local go_sem] Oper.semAt_some

set_option maxHeartbeats 4000000 in
theorem atEqual_any {A B : Option Addr} {a b : List St.Atom} (c d : Nat) (w : World) (h : Row w w.heap.size A (fcells avs a)) (h' : Row w w.heap.size B (fcells avs b)) (ha : a.length ≤ 1000) (_hb : b.length ≤ 1000) :
    Calls Try.prog 62 #[.slice A a.length c, .slice B b.length d] w (Tells w (decide (a = b))) := by
  obtain ⟨res, hres⟩ : ∃ res, decide (a = b) = res := ⟨_, rfl⟩
  rw [hres]
  have H := Lib.hid h
  have H' := Lib.hid h'
  have HRES := Lib.hid hres
  have HB := Lib.hid (Below.refl w.heap.size w)
  clear h h' hres
  by_cases hl : a.length = b.length
  · have h1 : ((a.length : Int) != (b.length : Int)) = false := by rw [bne_eq_false_iff_eq]; omega
    have HL := Lib.hid hl
    go_enter Try.func62, Try.ntmps62
    go_wp2
    go_loopw [13] (fun i wr => ∃ k : Nat, k ≤ a.length ∧ i = .int .i64 k ∧ Hid (∀ (j : Nat) (x y : St.Atom), j < k → a[j]? = some x → b[j]? = some y → x = y) ∧ Hid (Below w.heap.size w wr)) (fun i _ => a.length - (intOf i).toNat)
    case atStart => exact ⟨0, Nat.zero_le _, rfl, Lib.hid fun j x y hj => absurd hj (Nat.not_lt_zero _), HB⟩
    case round =>
      obtain ⟨k, hk, rfl, HS, HBW⟩ := hrel
      by_cases hlt : k < a.length
      · obtain ⟨ad, x, rfl, hxb, hx, x0, x1⟩ := arow_at (H.out.below HBW.out) hlt
        obtain ⟨bd, y, rfl, hyb, hy, y0, y1⟩ := arow_at (H'.out.below HBW.out) (show k < b.length by omega)
        have hq := fun w => run_at_neq x y w
        have hz := HBW.out.size
        have hxb2 : (ad.add (k * 2)).block < wr.heap.size := by rw [add_block]; omega
        have hyb2 : (bd.add (k * 2)).block < wr.heap.size := by rw [add_block]; omega
        have HX := Lib.hid hx
        have HY := Lib.hid hy
        clear hx hy
        have hlt2 : k < b.length := by omega
        by_cases he : x = y
        · have hf : (!decide (x = y)) = false := by rw [decide_eq_true he]; rfl
          rw [hf] at hq
          have HE := Lib.hid he
          clear he hf
          generalize hx2 : x.v = xn at *
          generalize hx3 : x.l = xl at *
          generalize hy2 : y.v = yn at *
          generalize hy3 : y.l = yl at *
          clear hx2 hx3 hy2 hy3
          go_wp2
          go_quiet (fail)
          all_goals go_wp2
          go_roundw
          case rel => exact ⟨k + 1, by omega, by go_num, Lib.hid fun j u v hj hu hv => by
            rcases Nat.lt_or_eq_of_le (Nat.le_of_lt_succ hj) with h | rfl
            · exact HS.out j u v h hu hv
            · rw [HX.out] at hu; rw [HY.out] at hv
              injection hu with hu; injection hv with hv
              rw [← hu, ← hv]; exact HE.out, Lib.hid (below_drawn HBW.out _)⟩
          case measure => simp [intOf]; omega
        · have hf : (!decide (x = y)) = true := by rw [decide_eq_false he]; rfl
          rw [hf] at hq
          have HE := Lib.hid he
          clear he hf
          generalize hx2 : x.v = xn at *
          generalize hx3 : x.l = xl at *
          generalize hy2 : y.v = yn at *
          generalize hy3 : y.l = yl at *
          clear hx2 hx3 hy2 hy3
          go_wp2
          go_quiet (fail)
          all_goals go_wp2
          go_ret
          exact ⟨retb (by rw [← HRES.out]; exact (decide_eq_false (same_stepA HX.out HY.out HE.out)).symm), below_drawn HBW.out _⟩
      · obtain rfl : k = a.length := by omega
        go_wp2
        go_ret
        exact ⟨retb (by rw [← HRES.out]; exact (decide_eq_true (same_allA HL.out fun k x y hx hy => HS.out k x y (List.getElem?_eq_some_iff.1 hx).1 hx hy)).symm), HBW.out⟩
  · have h1 : ((a.length : Int) != (b.length : Int)) = true := by rw [bne_iff_ne]; omega
    have HR2 := Lib.hid (show false = res by rw [← HRES.out]; exact (decide_eq_false fun e => hl (by rw [e])).symm)
    clear hl
    go_enter Try.func62, Try.ntmps62
    go_wp2
    go_ret
    exact ⟨retb HR2.out, HB.out⟩
end Go.Proofs.Ytlddglhjpiahfaa

/- Walks of state's atom, slot, pc, program (by gen_stmb.py). -/
namespace Go.Proofs.Ytlddglhjpiahfaa
set_option maxRecDepth 100000
open Go.RowKit Go.Shelf Go.Sort
attribute [local go_sem] Oper.semAt_some
end Go.Proofs.Ytlddglhjpiahfaa

/- Walk of state's program. -/
namespace Go.Proofs.Ytlddglhjpiahfaa
set_option maxRecDepth 100000
open Go.RowKit Go.Shelf Go.Sort
attribute [local go_sem] Oper.semAt_some
end Go.Proofs.Ytlddglhjpiahfaa

/- Walks of state's row, of atoms and of slots (by gen_stmd.py). -/
namespace Go.Proofs.Ytlddglhjpiahfaa
set_option maxRecDepth 100000
open Go.RowKit Go.Shelf Go.Sort
attribute [local go_sem] Oper.semAt_some
/-! The rows, plain, from a loop's head. -/
end Go.Proofs.Ytlddglhjpiahfaa

/- Walk of state's state (by gen_stme.py). -/
namespace Go.Proofs.Ytlddglhjpiahfaa
set_option maxRecDepth 100000
open Go.RowKit Go.Shelf Go.Sort
attribute [local go_sem] Oper.semAt_some
/-! All that tokens tell of a state, plain, in steps. -/
end Go.Proofs.Ytlddglhjpiahfaa

/- Walk of state.From (by gen_stmf.py). -/
namespace Go.Proofs.Ytlddglhjpiahfaa
set_option maxRecDepth 100000
open Go.RowKit Go.Shelf Go.Sort
attribute [local go_sem] Oper.semAt_some
/-- Six cells of the block behind a call's first one are stored. -/
def ansF (w W : World) (a b c d e f : Value) : World := (((((W.setCell ⟨w.heap.size + 1, 0, none⟩ a).setCell ⟨w.heap.size + 1, 1, none⟩ b).setCell ⟨w.heap.size + 1, 2, none⟩ c).setCell ⟨w.heap.size + 1, 3, none⟩ d).setCell ⟨w.heap.size + 1, 4, none⟩ e).setCell ⟨w.heap.size + 1, 5, none⟩ f
theorem blk_ansF {w W : World} {t : TypeId} {a b c d e f y0 y1 y2 y3 y4 y5 : Value} (h : Blk W (w.heap.size + 1) t #[y0, y1, y2, y3, y4, y5]) : Blk (ansF w W a b c d e f) (w.heap.size + 1) t #[a, b, c, d, e, f] :=
  (((((h.set_ 0 a).set_ 1 b).set_ 2 c).set_ 3 d).set_ 4 e).set_ 5 f
theorem Blk.drew9 {W : World} {t : TypeId} {g : Nat} {cs : Array Value} (h : Blk W g t cs) : Blk W.drew g t cs := h
theorem below_ansF {w W w0 : World} {a b c d e f : Value} (h : Below w.heap.size w0 W) : Below w.heap.size w0 (ansF w W a b c d e f) :=
  (((((h.setCell (by show w.heap.size ≤ w.heap.size + 1; omega) a).setCell (by show w.heap.size ≤ w.heap.size + 1; omega) b).setCell (by show w.heap.size ≤ w.heap.size + 1; omega) c).setCell (by show w.heap.size ≤ w.heap.size + 1; omega) d).setCell (by show w.heap.size ≤ w.heap.size + 1; omega) e).setCell (by show w.heap.size ≤ w.heap.size + 1; omega) f
end Go.Proofs.Ytlddglhjpiahfaa

/- Walks of Whole (of states) and state.Parse (by gen_stmh.py). -/
namespace Go.Proofs.Ytlddglhjpiahfaa
set_option maxRecDepth 100000
open Go.RowKit Go.Shelf Go.Sort
attribute [local go_sem] Oper.semAt_some
end Go.Proofs.Ytlddglhjpiahfaa

/- The laws' cut and alive, of states (by gen_stmj.py). -/
namespace Go.Proofs.Ytlddglhjpiahfaa
set_option maxRecDepth 100000
open Go.RowKit Go.Shelf Go.Sort
attribute [local go_sem] Oper.semAt_some
theorem fcells_take {α : Type} {f : α → List Value} {m : Nat} (hf : ∀ x, (f x).length = m) (l : List α) (n : Nat) : fcells f (l.take n) = (fcells f l).take (n * m) := by
  induction l generalizing n with
  | nil => simp [fcells]
  | cons x r ih =>
    cases n with
    | zero => simp [fcells]
    | succ n =>
      have := ih n
      have hx : (f x).length ≤ n * m + m := by rw [hf]; omega
      rw [List.take_succ_cons, show fcells f (x :: r.take n) = f x ++ fcells f (r.take n) from rfl, this, show fcells f (x :: r) = f x ++ fcells f r from rfl, Nat.succ_mul, List.take_append, List.take_of_length_le hx, hf, Nat.add_sub_cancel]
def cutS (s : St.State) : St.State := ⟨s.pc, s.code.take 15, s.mem.take 15, s.stack.take 15, s.out.take 15⟩
/-- A state as it comes in: rows, with the room behind them. -/
structure StIn (w : World) (B : Nat) (s : St.State) (cA : Option Addr) (cc : Nat) (mA : Option Addr) (mc : Nat) (sA : Option Addr) (sc : Nat) (oA : Option Addr) (oc : Nat) : Prop where
  rc : Row w B cA (icells s.code) ∧ s.code.length ≤ cc ∧ cc ≤ maxLen
  rm : Row w B mA (fcells avs s.mem) ∧ s.mem.length ≤ mc ∧ mc ≤ maxLen
  rs : Row w B sA (fcells svs s.stack) ∧ s.stack.length ≤ sc ∧ sc ≤ maxLen
  ro : Row w B oA (fcells avs s.out) ∧ s.out.length ≤ oc ∧ oc ≤ maxLen
def incv (s : St.State) (cA : Option Addr) (cc : Nat) (mA : Option Addr) (mc : Nat) (sA : Option Addr) (sc : Nat) (oA : Option Addr) (oc : Nat) : Value := .agg #[.int .i64 s.pc.v, .int .i64 s.pc.l, .slice cA s.code.length cc, .slice mA s.mem.length mc, .slice sA s.stack.length sc, .slice oA s.out.length oc]
theorem StIn.below {w w' : World} {B : Nat} {s : St.State} {cA mA sA oA : Option Addr} {cc mc sc oc : Nat} (h : StIn w B s cA cc mA mc sA sc oA oc) (hb : Below B w w') : StIn w' B s cA cc mA mc sA sc oA oc :=
  ⟨⟨h.rc.1.below hb, h.rc.2⟩, ⟨h.rm.1.below hb, h.rm.2⟩, ⟨h.rs.1.below hb, h.rs.2⟩, ⟨h.ro.1.below hb, h.ro.2⟩⟩
theorem StIn.more {w : World} {B B' : Nat} {s : St.State} {cA mA sA oA : Option Addr} {cc mc sc oc : Nat} (h : StIn w B s cA cc mA mc sA sc oA oc) (hB : B ≤ B') : StIn w B' s cA cc mA mc sA sc oA oc :=
  ⟨⟨h.rc.1.more hB, h.rc.2⟩, ⟨h.rm.1.more hB, h.rm.2⟩, ⟨h.rs.1.more hB, h.rs.2⟩, ⟨h.ro.1.more hB, h.ro.2⟩⟩
theorem StIn.cut {w : World} {B : Nat} {s : St.State} {cA mA sA oA : Option Addr} {cc mc sc oc : Nat} (h : StIn w B s cA cc mA mc sA sc oA oc) : StIn w B (cutS s) cA cc mA mc sA sc oA oc := by
  refine ⟨⟨?_, ?_, h.rc.2.2⟩, ⟨?_, ?_, h.rm.2.2⟩, ⟨?_, ?_, h.rs.2.2⟩, ⟨?_, ?_, h.ro.2.2⟩⟩
  · show Row w B cA (icells (s.code.take 15)); rw [icells_f, fcells_take ivs_len]; exact h.rc.1.take _
  · have := h.rc.2.1; show (s.code.take 15).length ≤ cc; rw [List.length_take]; omega
  · show Row w B mA (fcells avs (s.mem.take 15)); rw [fcells_take avs_len]; exact h.rm.1.take _
  · have := h.rm.2.1; show (s.mem.take 15).length ≤ mc; rw [List.length_take]; omega
  · show Row w B sA (fcells svs (s.stack.take 15)); rw [fcells_take svs_len]; exact h.rs.1.take _
  · have := h.rs.2.1; show (s.stack.take 15).length ≤ sc; rw [List.length_take]; omega
  · show Row w B oA (fcells avs (s.out.take 15)); rw [fcells_take avs_len]; exact h.ro.1.take _
  · have := h.ro.2.1; show (s.out.take 15).length ≤ oc; rw [List.length_take]; omega
theorem StIn.isSt {w : World} {B : Nat} {s : St.State} {cA mA sA oA : Option Addr} {cc mc sc oc : Nat} (h : StIn w B s cA cc mA mc sA sc oA oc) : IsSt w B (incv s cA cc mA mc sA sc oA oc) s :=
  ⟨_, _, _, _, rfl, ⟨cA, cc, rfl, h.rc.1, h.rc.2.1⟩, ⟨mA, mc, rfl, h.rm.1, h.rm.2.1⟩, ⟨sA, sc, rfl, h.rs.1, h.rs.2.1⟩, ⟨oA, oc, rfl, h.ro.1, h.ro.2.1⟩⟩
theorem incv_cut (s : St.State) (cA mA sA oA : Option Addr) (cc mc sc oc : Nat) : incv (cutS s) cA cc mA mc sA sc oA oc = .agg #[.int .i64 s.pc.v, .int .i64 s.pc.l, .slice cA (min 15 s.code.length) cc, .slice mA (min 15 s.mem.length) mc, .slice sA (min 15 s.stack.length) sc, .slice oA (min 15 s.out.length) oc] := by
  unfold incv cutS
  simp only [List.length_take]
/-! alive -/
deriving instance DecidableEq for St.State
end Go.Proofs.Ytlddglhjpiahfaa
