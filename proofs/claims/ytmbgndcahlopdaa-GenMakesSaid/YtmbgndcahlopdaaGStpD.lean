/- Walks of the machine's methods put, putResult. -/
import Derived.Test.YtmbgndcahlopdaaGStpA
import Derived.Test.YtmbgndcahlopdaaGTurC
import Derived.Test.YtmbgndcahlopdaaGRulA
import Derived.Test.YtmbgndcahlopdaaGCodE
namespace Go.Proofs.Ytmbgndcahlopdaa
set_option maxRecDepth 100000
open Go.RowKit Go.Shelf
attribute [local go_sem] Oper.semAt_some
theorem Row.cellM {w : World} {B : Nat} {ad : Addr} {xs : List Value} (h : Row w B (some ad) xs) {j : Nat} {u : Value} (hu : xs[j]? = some u) : w.cell? (ad.add j) = some u := by
  obtain ⟨ad', e, _, hc⟩ := h (by rintro rfl; simp at hu)
  injection e with e
  subst e
  exact hc j u hu
end Go.Proofs.Ytmbgndcahlopdaa

/- The reference's with, mem (by gen_stqb.py). -/
namespace Go.Proofs.Ytmbgndcahlopdaa
set_option maxRecDepth 100000
open Go.RowKit Go.Shelf
attribute [local go_sem] Oper.semAt_some
theorem run_append_none_c {P : Program} {w : World} {base : Nat} (t ty e : TypeId) (i : TypeInfo) (size c : Nat) (ht : P.underlying t = some (.slice e)) (hi : P.info? e = some i)
    (v : Value) (n : Nat) (xs : List Value) (hown : w.ownsRow base e size v n xs) : (Builtin.append_ #[t, t] ty #[v, .slice none 0 c]).run P w = .ok v w := by
  rcases hown.2 with ⟨rfl, rfl⟩ | ⟨g, cap, cur, rfl, _, _, hnc, _⟩
  · simp [Builtin.append_, run_underlying ht, sizeOf, typeInfo, hi, Builtin.lenOf, Builtin.firstCells]
  · simp [Builtin.append_, run_underlying ht, sizeOf, typeInfo, hi, Builtin.lenOf, Builtin.firstCells, hnc, storeCells]
/-- append_run, of a row without a place and any room. -/
theorem append_run10 {P : Program} {w : World} (base : Nat) (t ty e : TypeId) (i : TypeInfo) (z : Value) (size bytes : Nat) (ht : P.underlying t = some (.slice e)) (hi : P.info? e = some i) (hz : i.zero = some z)
    (hsize : i.size = size) (hby : i.bytes = bytes) (hzs : z.cells.size = size) (hsz : 0 < size) (v : Value) (n : Nat) (xs : List Value) (hown : w.ownsRow base e size v n xs)
    (A : Option Addr) (m c : Nat) (news : List Value) (hn : news.length = m * size) (hr : Row w w.heap.size A news) (h1 : ∀ u ∈ news, u.oneCell' = true)
    (h63 : n + m ≤ maxLen) (hbytes : (n + m) * bytes ≤ 140737488355328) (hbase : base ≤ w.heap.size) :
    ∃ v' w', (Builtin.append_ #[t, t] ty #[v, .slice A m c]).run P w = .ok v' w' ∧ w'.ownsRow base e size v' (n + m) (xs ++ news) ∧ Below base w w' ∧ ∀ (g : Nat) (t : TypeId) (cs : Array Value), some g ≠ v.ownBlock → Blk w g t cs → Blk w' g t cs := by
  cases A with
  | some ad =>
    obtain ⟨v', w', h1, h2, h3, _, h5⟩ := run_append_own_at (P := P) w base t ty e i z size bytes ht hi hz hsize hby hzs hsz v n xs hown ad m c news hn (fun j u hu => Row.cellM hr hu) h1 h63 hbytes hbase
    exact ⟨v', w', h1, h2, (Below.refl base w).grown h3 hbase (fun k he => (hown.lt k he).1), fun g t cs hg hb => (h3.block g hb.lt hg).trans hb⟩
  | none =>
    have hn0 : news = [] := by
      cases news with
      | nil => rfl
      | cons y r => obtain ⟨ad, e, _⟩ := hr (by simp); cases e
    subst hn0
    have hm : m = 0 := by
      rcases Nat.eq_zero_or_pos m with h | h
      · exact h
      · have := Nat.mul_pos h hsz; simp at hn; omega
    subst hm
    exact ⟨v, w, run_append_none_c (P := P) (w := w) t ty e i size c ht hi v n xs hown, by simpa using hown, Below.refl _ _, fun _ _ _ _ h => h⟩
theorem fcells_snoc10 {α : Type} (f : α → List Value) (l r : List α) : fcells f (l ++ r) = fcells f l ++ fcells f r := by simp [fcells]
end Go.Proofs.Ytmbgndcahlopdaa
