/- Rows of instructions; the reference's Number, Instr, Right, Same; hasNumber, hasLabel, Like. -/
import Derived.Handy
import Derived.DeepKeys
import Derived.BigRegion
import Derived.BigQuiet
import Derived.Test.YtlddglhjpiahfaaGCodP
import Derived.Test.YtlddglhjpiahfaaGLexD
import Derived.Test.YtlddglhjpiahfaaGRulA
import Derived.Test.YtlddglhjpiahfaaGMapLit
import Derived.Test.YtlddglhjpiahfaaGOrd
namespace Go.Proofs.Ytlddglhjpiahfaa
set_option maxRecDepth 100000
open Go.RowKit Go.Shelf

def icells (l : List Cd.In) : List Value := l.flatMap fun x => [.int .i64 x.op, .int .i64 x.n, .int .i64 x.l]
theorem icells_length (l : List Cd.In) : (icells l).length = l.length * 3 := by
  induction l with
  | nil => rfl
  | cons e r ih => simp only [icells, List.flatMap_cons, List.length_append, List.length_cons, List.length_nil] at ih ⊢; omega
theorem icells_at : ∀ (l : List Cd.In) (k : Nat) (t : Cd.In), l[k]? = some t → (icells l)[k * 3]? = some (.int .i64 t.op) ∧ (icells l)[k * 3 + 1]? = some (.int .i64 t.n) ∧ (icells l)[k * 3 + 2]? = some (.int .i64 t.l)
  | [], k, t, h => by simp at h
  | e :: r, 0, t, h => by
    simp only [List.getElem?_cons_zero, Option.some.injEq] at h
    subst h
    exact ⟨rfl, rfl, rfl⟩
  | e :: r, k + 1, t, h => by
    have ih := icells_at r k t (by simpa using h)
    have e0 : icells (e :: r) = [.int .i64 e.op, .int .i64 e.n, .int .i64 e.l] ++ icells r := by simp [icells]
    rw [e0, List.getElem?_append_right (by simp; omega), List.getElem?_append_right (by simp; omega), List.getElem?_append_right (by simp; omega)]
    rw [show (k + 1) * 3 - [Value.int .i64 e.op, .int .i64 e.n, .int .i64 e.l].length = k * 3 by simp; omega, show (k + 1) * 3 + 1 - [Value.int .i64 e.op, .int .i64 e.n, .int .i64 e.l].length = k * 3 + 1 by simp; omega, show (k + 1) * 3 + 2 - [Value.int .i64 e.op, .int .i64 e.n, .int .i64 e.l].length = k * 3 + 2 by simp; omega]
    exact ih
theorem inrow_at {w : World} {B : Nat} {A : Option Addr} {l : List Cd.In} {k : Nat} (h : Row w B A (icells l)) (hk : k < l.length) : ∃ ad t, A = some ad ∧ ad.block < B ∧ l[k]? = some t ∧ w.cell? (ad.add (k * 3)) = some (.int .i64 t.op) ∧
    w.cell? ⟨(ad.add (k * 3)).block, (ad.add (k * 3)).off + 1, none⟩ = some (.int .i64 t.n) ∧ w.cell? ⟨(ad.add (k * 3)).block, (ad.add (k * 3)).off + 2, none⟩ = some (.int .i64 t.l) := by
  obtain ⟨ad, e, hb, hc⟩ := h (by intro e; have := icells_length l; rw [e] at this; simp at this; omega)
  have := icells_at l k l[k] (List.getElem?_eq_getElem hk)
  exact ⟨ad, l[k], e, hb, List.getElem?_eq_getElem hk, hc _ _ this.1, by rw [← addr_next _ _ _ (by decide)]; exact hc _ _ this.2.1, by rw [← addr_next _ _ _ (by decide)]; exact hc _ _ this.2.2⟩
/-! Programs in memory. -/
def inv (x : Cd.In) : Value := .agg #[.int .i64 x.op, .int .i64 x.n, .int .i64 x.l]
theorem eqF3 {P : Program} {it : TypeId} (hu : P.underlying it = some (.int .i64)) (hp : P.plainKey it = true) (w : World) (d : Nat) (f0 f1 f2 : Field) (h0 : f0.name ≠ "_" ∧ f0.type = it ∧ f0.offset = 0) (h1 : f1.name ≠ "_" ∧ f1.type = it ∧ f1.offset = 1) (h2 : f2.name ≠ "_" ∧ f2.type = it ∧ f2.offset = 2) (a0 a1 a2 b0 b1 b2 : Int) :
    (Op.eqFields (d + 1) #[.int .i64 a0, .int .i64 a1, .int .i64 a2] #[.int .i64 b0, .int .i64 b1, .int .i64 b2] [f0, f1, f2]).run P w = .ok (a0 == b0 && (a1 == b1 && a2 == b2)) w := by
  have p : ∀ (xs : Array Value) (off : Nat) (v : Value), xs[off]? = some v → (part it xs off).run P w = .ok v w := fun xs off v h => run_part_plain w hp h
  have p0 : ∀ a b c : Int, (part it #[.int .i64 a, .int .i64 b, .int .i64 c] 0).run P w = .ok (.int .i64 a) w := fun a b c => p _ _ _ rfl
  have p1 : ∀ a b c : Int, (part it #[.int .i64 a, .int .i64 b, .int .i64 c] 1).run P w = .ok (.int .i64 b) w := fun a b c => p _ _ _ rfl
  have p2 : ∀ a b c : Int, (part it #[.int .i64 a, .int .i64 b, .int .i64 c] 2).run P w = .ok (.int .i64 c) w := fun a b c => p _ _ _ rfl
  have q : ∀ a b : Int, (Op.equalIn (d + 1) it (.int .i64 a) (.int .i64 b)).run P w = .ok (a == b) w := fun a b => run_equalIn_int w d it .i64 .i64 a b hu
  obtain ⟨n0, t0, o0⟩ := h0
  obtain ⟨n1, t1, o1⟩ := h1
  obtain ⟨n2, t2, o2⟩ := h2
  simp only [Op.eqFields, n0, n1, n2, t0, t1, t2, o0, o1, o2, ne_eq, not_false_eq_true, if_true, Sem.run_bind, Sem.run_ite, Sem.run_pure, p0, p1, p2, q, Result.andThen_ok]
  generalize (a0 == b0) = u0
  generalize (a1 == b1) = u1
  generalize (a2 == b2) = u2
  clear p p0 p1 p2 q
  cases u0 <;> cases u1 <;> cases u2 <;> simp
theorem run_ineq (x y : Cd.In) (w : World) : (Op.equalIn 10000 67 (inv x) (inv y)).run Try.prog w = .ok (decide (x = y)) w := by
  have hd : decide (x = y) = (x.op == y.op && (x.n == y.n && x.l == y.l)) := by
    obtain ⟨a, b, c⟩ := x
    obtain ⟨d, e, f⟩ := y
    rw [Bool.eq_iff_iff]
    simp
  have hl : (Try.prog.fieldsOf 67).toList = [(Try.prog.fieldsOf 67).getD 0 ⟨ "", 0, 0, false, "", "", 0⟩, (Try.prog.fieldsOf 67).getD 1 ⟨ "", 0, 0, false, "", "", 0⟩, (Try.prog.fieldsOf 67).getD 2 ⟨ "", 0, 0, false, "", "", 0⟩] := by kernel_rfl
  unfold inv
  rw [hd, run_equalIn_struct w 9999 67 _ _ (by kernel_rfl) (by kernel_rfl), hl]
  exact eqF3 Try.underlying3 (by kernel_rfl) w 9998 _ _ _ ⟨by decide +kernel, by kernel_rfl, by kernel_rfl⟩ ⟨by decide +kernel, by kernel_rfl, by kernel_rfl⟩ ⟨by decide +kernel, by kernel_rfl, by kernel_rfl⟩ _ _ _ _ _ _
theorem run_in_eql (x y : Cd.In) (w : World) : (binOp .eql 67 (inv x) (inv y)).run Try.prog w = .ok (.bool (decide (x = y))) w := by
  have := run_ineq x y w
  unfold inv at this ⊢
  rw [run_eql_struct, this]
  rfl

end Go.Proofs.Ytlddglhjpiahfaa

/- A map with ints for keys, over no program; the checks' closures; checks. -/
namespace Go.Proofs.Ytlddglhjpiahfaa
set_option maxRecDepth 100000
open Go.RowKit Go.Shelf
attribute [local go_sem] Oper.semAt_some

/-! The closures. -/
end Go.Proofs.Ytlddglhjpiahfaa

/- Which programs may be: mayBe, Right; the reference's Right. -/
namespace Go.Proofs.Ytlddglhjpiahfaa
set_option maxRecDepth 100000
open Go.RowKit Go.Shelf
attribute [local go_sem] Oper.semAt_some

end Go.Proofs.Ytlddglhjpiahfaa

/- Right; the reference's Right. -/
namespace Go.Proofs.Ytlddglhjpiahfaa
set_option maxRecDepth 100000
open Go.RowKit Go.Shelf
attribute [local go_sem] Oper.semAt_some

end Go.Proofs.Ytlddglhjpiahfaa
