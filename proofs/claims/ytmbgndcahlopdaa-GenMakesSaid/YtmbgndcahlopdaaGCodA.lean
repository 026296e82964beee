/- Rows of instructions; the reference's Number, Instr, Right, Same; hasNumber, hasLabel, Like. -/
import Derived.Handy
import Derived.DeepKeys
import Derived.BigRegion
import Derived.BigQuiet
import Derived.Test.YtmbgndcahlopdaaGCodP
import Derived.Test.YtmbgndcahlopdaaGLexD
import Derived.Test.YtmbgndcahlopdaaGRulA
import Derived.Test.YtmbgndcahlopdaaGMapLit
import Derived.Test.YtmbgndcahlopdaaGOrd
namespace Go.Proofs.Ytmbgndcahlopdaa
set_option maxRecDepth 100000
open Go.RowKit Go.Shelf

def icells (l : List Cd.In) : List Value := l.flatMap fun x => [.int .i64 x.op, .int .i64 x.n, .int .i64 x.l]
theorem icells_length (l : List Cd.In) : (icells l).length = l.length * 3 := by
  induction l with
  | nil => rfl
  | cons e r ih => simp only [icells, List.flatMap_cons, List.length_append, List.length_cons, List.length_nil] at ih ⊢; omega
theorem icells_at : ∀ (l : List Cd.In) (k : Nat) (t : Cd.In), l[k]? = some t → (icells l)[k * 3]? = some (.int .i64 t.op) ∧ (icells l)[k * 3 + 1]? = some (.int .i64 t.n) ∧ (icells l)[k * 3 + 2]? = some (.int .i64 t.l)
  | [], k, t, h => by simp at h
  | e :: r, 0, t, h => by
    simp only [List.getElem?_cons_zero, Option.some.injEq] at h
    subst h
    exact ⟨rfl, rfl, rfl⟩
  | e :: r, k + 1, t, h => by
    have ih := icells_at r k t (by simpa using h)
    have e0 : icells (e :: r) = [.int .i64 e.op, .int .i64 e.n, .int .i64 e.l] ++ icells r := by simp [icells]
    rw [e0, List.getElem?_append_right (by simp; omega), List.getElem?_append_right (by simp; omega), List.getElem?_append_right (by simp; omega)]
    rw [show (k + 1) * 3 - [Value.int .i64 e.op, .int .i64 e.n, .int .i64 e.l].length = k * 3 by simp; omega, show (k + 1) * 3 + 1 - [Value.int .i64 e.op, .int .i64 e.n, .int .i64 e.l].length = k * 3 + 1 by simp; omega, show (k + 1) * 3 + 2 - [Value.int .i64 e.op, .int .i64 e.n, .int .i64 e.l].length = k * 3 + 2 by simp; omega]
    exact ih
theorem inrow_at {w : World} {B : Nat} {A : Option Addr} {l : List Cd.In} {k : Nat} (h : Row w B A (icells l)) (hk : k < l.length) : ∃ ad t, A = some ad ∧ ad.block < B ∧ l[k]? = some t ∧ w.cell? (ad.add (k * 3)) = some (.int .i64 t.op) ∧
    w.cell? ⟨(ad.add (k * 3)).block, (ad.add (k * 3)).off + 1, none⟩ = some (.int .i64 t.n) ∧ w.cell? ⟨(ad.add (k * 3)).block, (ad.add (k * 3)).off + 2, none⟩ = some (.int .i64 t.l) := by
  obtain ⟨ad, e, hb, hc⟩ := h (by intro e; have := icells_length l; rw [e] at this; simp at this; omega)
  have := icells_at l k l[k] (List.getElem?_eq_getElem hk)
  exact ⟨ad, l[k], e, hb, List.getElem?_eq_getElem hk, hc _ _ this.1, by rw [← addr_next _ _ _ (by decide)]; exact hc _ _ this.2.1, by rw [← addr_next _ _ _ (by decide)]; exact hc _ _ this.2.2⟩
/-! Programs in memory. -/
def inv (x : Cd.In) : Value := .agg #[.int .i64 x.op, .int .i64 x.n, .int .i64 x.l]
theorem eqF3 {P : Program} {it : TypeId} (hu : P.underlying it = some (.int .i64)) (hp : P.plainKey it = true) (w : World) (d : Nat) (f0 f1 f2 : Field) (h0 : f0.name ≠ "_" ∧ f0.type = it ∧ f0.offset = 0) (h1 : f1.name ≠ "_" ∧ f1.type = it ∧ f1.offset = 1) (h2 : f2.name ≠ "_" ∧ f2.type = it ∧ f2.offset = 2) (a0 a1 a2 b0 b1 b2 : Int) :
    (Op.eqFields (d + 1) #[.int .i64 a0, .int .i64 a1, .int .i64 a2] #[.int .i64 b0, .int .i64 b1, .int .i64 b2] [f0, f1, f2]).run P w = .ok (a0 == b0 && (a1 == b1 && a2 == b2)) w := by
  have p : ∀ (xs : Array Value) (off : Nat) (v : Value), xs[off]? = some v → (part it xs off).run P w = .ok v w := fun xs off v h => run_part_plain w hp h
  have p0 : ∀ a b c : Int, (part it #[.int .i64 a, .int .i64 b, .int .i64 c] 0).run P w = .ok (.int .i64 a) w := fun a b c => p _ _ _ rfl
  have p1 : ∀ a b c : Int, (part it #[.int .i64 a, .int .i64 b, .int .i64 c] 1).run P w = .ok (.int .i64 b) w := fun a b c => p _ _ _ rfl
  have p2 : ∀ a b c : Int, (part it #[.int .i64 a, .int .i64 b, .int .i64 c] 2).run P w = .ok (.int .i64 c) w := fun a b c => p _ _ _ rfl
  have q : ∀ a b : Int, (Op.equalIn (d + 1) it (.int .i64 a) (.int .i64 b)).run P w = .ok (a == b) w := fun a b => run_equalIn_int w d it .i64 .i64 a b hu
  obtain ⟨n0, t0, o0⟩ := h0
  obtain ⟨n1, t1, o1⟩ := h1
  obtain ⟨n2, t2, o2⟩ := h2
  simp only [Op.eqFields, n0, n1, n2, t0, t1, t2, o0, o1, o2, ne_eq, not_false_eq_true, if_true, Sem.run_bind, Sem.run_ite, Sem.run_pure, p0, p1, p2, q, Result.andThen_ok]
  generalize (a0 == b0) = u0
  generalize (a1 == b1) = u1
  generalize (a2 == b2) = u2
  clear p p0 p1 p2 q
  cases u0 <;> cases u1 <;> cases u2 <;> simp
theorem run_ineq (x y : Cd.In) (w : World) : (Op.equalIn 10000 66 (inv x) (inv y)).run Try.prog w = .ok (decide (x = y)) w := by
  have hd : decide (x = y) = (x.op == y.op && (x.n == y.n && x.l == y.l)) := by
    obtain ⟨a, b, c⟩ := x
    obtain ⟨d, e, f⟩ := y
    rw [Bool.eq_iff_iff]
    simp
  have hl : (Try.prog.fieldsOf 66).toList = [(Try.prog.fieldsOf 66).getD 0 ⟨ "", 0, 0, false, "", "", 0⟩, (Try.prog.fieldsOf 66).getD 1 ⟨ "", 0, 0, false, "", "", 0⟩, (Try.prog.fieldsOf 66).getD 2 ⟨ "", 0, 0, false, "", "", 0⟩] := by kernel_rfl
  unfold inv
  rw [hd, run_equalIn_struct w 9999 66 _ _ (by kernel_rfl) (by kernel_rfl), hl]
  exact eqF3 Try.underlying3 (by kernel_rfl) w 9998 _ _ _ ⟨by decide +kernel, by kernel_rfl, by kernel_rfl⟩ ⟨by decide +kernel, by kernel_rfl, by kernel_rfl⟩ ⟨by decide +kernel, by kernel_rfl, by kernel_rfl⟩ _ _ _ _ _ _
theorem run_in_neq (x y : Cd.In) (w : World) : (binOp .neq 66 (inv x) (inv y)).run Try.prog w = .ok (.bool (!decide (x = y))) w := by
  have := run_ineq x y w
  unfold inv at this ⊢
  rw [run_neq_struct, this]
  rfl
theorem same_step {a b : List Cd.In} {k : Nat} {x y : Cd.In} (ha : a[k]? = some x) (hb : b[k]? = some y) (h : x ≠ y) : a ≠ b := fun e => by
  rw [e, hb] at ha
  injection ha with ha
  exact h ha.symm
theorem same_all {a b : List Cd.In} (hl : a.length = b.length) (h : ∀ (k : Nat) (x y : Cd.In), a[k]? = some x → b[k]? = some y → x = y) : a = b :=
  List.ext_getElem? fun k => by
    by_cases hk : k < a.length
    · rw [List.getElem?_eq_getElem hk, List.getElem?_eq_getElem (by omega), h k _ _ (List.getElem?_eq_getElem hk) (List.getElem?_eq_getElem (by omega))]
    · rw [List.getElem?_eq_none (by omega), List.getElem?_eq_none (by omega)]
set_option maxHeartbeats 4000000 in
theorem rSame_in {A B : Option Addr} {a b : List Cd.In} (c d : Nat) (w : World) (h : Row w w.heap.size A (icells a)) (h' : Row w w.heap.size B (icells b)) (ha : a.length ≤ 1000) (_hb : b.length ≤ 1000) :
    Calls Try.prog 22 #[.slice A a.length c, .slice B b.length d] w (Tells w (decide (a = b))) := by
  obtain ⟨res, hres⟩ : ∃ res, decide (a = b) = res := ⟨_, rfl⟩
  rw [hres]
  have H := Lib.hid h
  have H' := Lib.hid h'
  have HRES := Lib.hid hres
  have HB := Lib.hid (Below.refl w.heap.size w)
  clear h h' hres
  by_cases hl : a.length = b.length
  · have h1 : ((a.length : Int) != (b.length : Int)) = false := by rw [bne_eq_false_iff_eq]; omega
    have HL := Lib.hid hl
    go_enter Try.func22, Try.ntmps22
    go_wp2
    go_loopw [13] (fun i wr => ∃ k : Nat, k ≤ a.length ∧ i = .int .i64 k ∧ Hid (∀ (j : Nat) (x y : Cd.In), j < k → a[j]? = some x → b[j]? = some y → x = y) ∧ Hid (Below w.heap.size w wr)) (fun i _ => a.length - (intOf i).toNat)
    case atStart => exact ⟨0, Nat.zero_le _, rfl, Lib.hid fun j x y hj => absurd hj (Nat.not_lt_zero _), HB⟩
    case round =>
      obtain ⟨k, hk, rfl, HS, HBW⟩ := hrel
      by_cases hlt : k < a.length
      · obtain ⟨ad, x, rfl, hxb, hx, x0, x1, x2⟩ := inrow_at (H.out.below HBW.out) hlt
        obtain ⟨bd, y, rfl, hyb, hy, y0, y1, y2⟩ := inrow_at (H'.out.below HBW.out) (show k < b.length by omega)
        have hq := fun w => run_in_neq x y w
        unfold inv at hq
        have hz := HBW.out.size
        have hxb2 : (ad.add (k * 3)).block < wr.heap.size := by rw [add_block]; omega
        have hyb2 : (bd.add (k * 3)).block < wr.heap.size := by rw [add_block]; omega
        have HX := Lib.hid hx
        have HY := Lib.hid hy
        clear hx hy
        have hlt2 : k < b.length := by omega
        by_cases he : x = y
        · have hf : (!decide (x = y)) = false := by rw [decide_eq_true he]; rfl
          rw [hf] at hq
          have HE := Lib.hid he
          clear he hf
          generalize hx1 : x.op = xo at *
          generalize hx2 : x.n = xn at *
          generalize hx3 : x.l = xl at *
          generalize hy1 : y.op = yo at *
          generalize hy2 : y.n = yn at *
          generalize hy3 : y.l = yl at *
          clear hx1 hx2 hx3 hy1 hy2 hy3
          go_wp2
          go_quiet (fail)
          all_goals go_wp2
          go_roundw
          case rel => exact ⟨k + 1, by omega, by go_num, Lib.hid fun j u v hj hu hv => by
            rcases Nat.lt_or_eq_of_le (Nat.le_of_lt_succ hj) with h | rfl
            · exact HS.out j u v h hu hv
            · rw [HX.out] at hu; rw [HY.out] at hv
              injection hu with hu; injection hv with hv
              rw [← hu, ← hv]; exact HE.out, Lib.hid (below_drawn HBW.out _)⟩
          case measure => simp [intOf]; omega
        · have hf : (!decide (x = y)) = true := by rw [decide_eq_false he]; rfl
          rw [hf] at hq
          have HE := Lib.hid he
          clear he hf
          generalize hx1 : x.op = xo at *
          generalize hx2 : x.n = xn at *
          generalize hx3 : x.l = xl at *
          generalize hy1 : y.op = yo at *
          generalize hy2 : y.n = yn at *
          generalize hy3 : y.l = yl at *
          clear hx1 hx2 hx3 hy1 hy2 hy3
          go_wp2
          go_quiet (fail)
          all_goals go_wp2
          go_ret
          exact ⟨retb (by rw [← HRES.out]; exact (decide_eq_false (same_step HX.out HY.out HE.out)).symm), below_drawn HBW.out _⟩
      · obtain rfl : k = a.length := by omega
        go_wp2
        go_ret
        exact ⟨retb (by rw [← HRES.out]; exact (decide_eq_true (same_all HL.out fun k x y hx hy => HS.out k x y (List.getElem?_eq_some_iff.1 hx).1 hx hy)).symm), HBW.out⟩
  · have h1 : ((a.length : Int) != (b.length : Int)) = true := by rw [bne_iff_ne]; omega
    have HR2 := Lib.hid (show false = res by rw [← HRES.out]; exact (decide_eq_false fun e => hl (by rw [e])).symm)
    clear hl
    go_enter Try.func22, Try.ntmps22
    go_wp2
    go_ret
    exact ⟨retb HR2.out, HB.out⟩
end Go.Proofs.Ytmbgndcahlopdaa

/- A map with ints for keys, over no program; the checks' closures; checks. -/
namespace Go.Proofs.Ytmbgndcahlopdaa
set_option maxRecDepth 100000
open Go.RowKit Go.Shelf
attribute [local go_sem] Oper.semAt_some

section
variable {P : Program} (w : World)
theorem run_iput_new (mty kt et : TypeId) (r clock : Nat) (es : Array MapEntry) (n : Int) (val : Value) (hm : P.underlying mty = some (.map kt et)) (hk : P.underlying kt = some (.int .i64)) (hb : w.heap[r]? = some (.map es clock)) (hf : Instr.findNow (.int .i64) (.int .i64 n) es.toList 0 = some none) :
    (Instr.mapUpdate mty (.map (some r)) (.int .i64 n) val).run P w = .ok () (w.putObj r (.map (es.push { key := .int .i64 n, val := val, born := clock }) (clock + 1))) := by
  have hc : (Instr.checkKey false 10000 kt (.int .i64 n)).run P w = .ok () w := MapKept.run_checkKey (k := .int .i64 n) hk (by simp [MapKept.IsKey]) false 9999
  simp [Instr.mapUpdate, run_underlying hm, MapKept.run_getObj_map hb, hc, MapKept.run_findKey hk hf, MapKept.run_setObj_map _ hb, Result.andThen, World.putObj]
theorem run_ilook_there (ok : Bool) (mty kt et : TypeId) (r clock i : Nat) (es : Array MapEntry) (n : Int) (val : Value) (hm : P.underlying mty = some (.map kt et)) (hk : P.underlying kt = some (.int .i64)) (hb : w.heap[r]? = some (.map es clock)) (hf : Instr.findNow (.int .i64) (.int .i64 n) es.toList 0 = some (some (i, val))) :
    (Instr.lookup mty (.map (some r)) (.int .i64 n) ok).run P w = .ok (if ok then .tuple #[val, .bool true] else val) w := by
  have hc : (Instr.checkKey es.isEmpty 10000 kt (.int .i64 n)).run P w = .ok () w := MapKept.run_checkKey (k := .int .i64 n) hk (by simp [MapKept.IsKey]) _ 9999
  cases ok <;> simp [Instr.lookup, run_underlying hm, MapKept.run_getObj_map hb, hc, MapKept.run_findKey hk hf, Result.andThen]
theorem run_ilook_not (mty kt et : TypeId) (r clock : Nat) (es : Array MapEntry) (n : Int) (z : Value) (hm : P.underlying mty = some (.map kt et)) (hk : P.underlying kt = some (.int .i64)) (hb : w.heap[r]? = some (.map es clock)) (hf : Instr.findNow (.int .i64) (.int .i64 n) es.toList 0 = some none) (hz : (zeroValue et).run P w = .ok z w) :
    (Instr.lookup mty (.map (some r)) (.int .i64 n) true).run P w = .ok (.tuple #[z, .bool false]) w := by
  have hc : (Instr.checkKey es.isEmpty 10000 kt (.int .i64 n)).run P w = .ok () w := MapKept.run_checkKey (k := .int .i64 n) hk (by simp [MapKept.IsKey]) _ 9999
  simp [Instr.lookup, run_underlying hm, MapKept.run_getObj_map hb, hc, MapKept.run_findKey hk hf, hz, Result.andThen]
end
/-! The closures. -/
end Go.Proofs.Ytmbgndcahlopdaa

/- Which programs may be: mayBe, Right; the reference's Right. -/
namespace Go.Proofs.Ytmbgndcahlopdaa
set_option maxRecDepth 100000
open Go.RowKit Go.Shelf
attribute [local go_sem] Oper.semAt_some

end Go.Proofs.Ytmbgndcahlopdaa

/- Right; the reference's Right. -/
namespace Go.Proofs.Ytmbgndcahlopdaa
set_option maxRecDepth 100000
open Go.RowKit Go.Shelf
attribute [local go_sem] Oper.semAt_some

end Go.Proofs.Ytmbgndcahlopdaa
