/- Rows of tokens. -/
import Derived.Test.YtmgaaejghfgbnaaLexD
namespace Go.Proofs.Ytmgaaejghfgbnaa
set_option maxRecDepth 100000
open Go.RowKit Go.Shelf

def tcells (l : List Lx.Tk) : List Value := l.flatMap fun t => [.int .i64 t.kind, .string t.text, .int .i64 t.pos]
theorem tcells_length (l : List Lx.Tk) : (tcells l).length = l.length * 3 := by
  induction l with
  | nil => rfl
  | cons e r ih => simp only [tcells, List.flatMap_cons, List.length_append, List.length_cons, List.length_nil] at ih ⊢; omega
theorem tcells_snoc (l : List Lx.Tk) (t : Lx.Tk) : tcells (l ++ [t]) = tcells l ++ [.int .i64 t.kind, .string t.text, .int .i64 t.pos] := by simp [tcells]
theorem tcells_at : ∀ (l : List Lx.Tk) (k : Nat) (t : Lx.Tk), l[k]? = some t → (tcells l)[k * 3]? = some (.int .i64 t.kind) ∧ (tcells l)[k * 3 + 1]? = some (.string t.text) ∧ (tcells l)[k * 3 + 2]? = some (.int .i64 t.pos)
  | [], k, t, h => by simp at h
  | e :: r, 0, t, h => by
    simp only [List.getElem?_cons_zero, Option.some.injEq] at h
    subst h
    exact ⟨rfl, rfl, rfl⟩
  | e :: r, k + 1, t, h => by
    have ih := tcells_at r k t (by simpa using h)
    have e0 : tcells (e :: r) = [.int .i64 e.kind, .string e.text, .int .i64 e.pos] ++ tcells r := by simp [tcells]
    rw [e0, List.getElem?_append_right (by simp; omega), List.getElem?_append_right (by simp; omega), List.getElem?_append_right (by simp; omega)]
    rw [show (k + 1) * 3 - [Value.int .i64 e.kind, .string e.text, .int .i64 e.pos].length = k * 3 by simp; omega, show (k + 1) * 3 + 1 - [Value.int .i64 e.kind, .string e.text, .int .i64 e.pos].length = k * 3 + 1 by simp; omega, show (k + 1) * 3 + 2 - [Value.int .i64 e.kind, .string e.text, .int .i64 e.pos].length = k * 3 + 2 by simp; omega]
    exact ih
theorem trow_at {w : World} {B : Nat} {A : Option Addr} {l : List Lx.Tk} {k : Nat} (h : Row w B A (tcells l)) (hk : k < l.length) : ∃ ad t, A = some ad ∧ ad.block < B ∧ l[k]? = some t ∧ w.cell? (ad.add (k * 3)) = some (.int .i64 t.kind) ∧
    w.cell? ⟨(ad.add (k * 3)).block, (ad.add (k * 3)).off + 1, none⟩ = some (.string t.text) ∧ w.cell? ⟨(ad.add (k * 3)).block, (ad.add (k * 3)).off + 2, none⟩ = some (.int .i64 t.pos) := by
  obtain ⟨ad, e, hb, hc⟩ := h (by intro e; have := tcells_length l; rw [e] at this; simp at this; omega)
  have := tcells_at l k l[k] (List.getElem?_eq_getElem hk)
  exact ⟨ad, l[k], e, hb, List.getElem?_eq_getElem hk, hc _ _ this.1, by rw [← addr_next _ _ _ (by decide)]; exact hc _ _ this.2.1, by rw [← addr_next _ _ _ (by decide)]; exact hc _ _ this.2.2⟩
/-- Rows of cells that the call owns. -/
theorem ownT_row {W : World} {base sz k cn : Nat} {e : TypeId} {An : Option Addr} {xs : List Value} (h : W.ownsRow base e sz (.slice An k cn) k xs) : Row W W.heap.size An xs ∧ k ≤ cn := by
  have hown := h
  obtain ⟨h1, h2⟩ := h
  rcases h2 with ⟨he, hk0⟩ | ⟨g, cap, cur, he, hb, hh, hkc, hcm, hcs, ht⟩
  · injection he with e1 e2 e3
    subst hk0
    have : xs = [] := List.eq_nil_of_length_eq_zero (by simpa using h1)
    subst this
    exact ⟨Row.nil, by omega⟩
  · injection he with e1 e2 e3
    subst e1 e3
    have hg := (Array.getElem?_eq_some_iff.1 hh).1
    exact ⟨fun _ => ⟨_, rfl, hg, fun j u hu => hown.cells rfl j u hu⟩, hkc⟩
theorem ownT_slice {W : World} {base sz k : Nat} {e : TypeId} {v : Value} {xs : List Value} (h : W.ownsRow base e sz v k xs) : ∃ A c, v = .slice A k c := by
  rcases h.2 with ⟨he, hk0⟩ | ⟨g, cap, cur, he, _⟩
  · exact ⟨none, 0, by rw [he, hk0]⟩
  · exact ⟨_, _, he⟩
theorem ownT_below {W w' : World} {base sz k : Nat} {e : TypeId} {v : Value} {xs : List Value} (h : W.ownsRow base e sz v k xs) (hb : Below W.heap.size W w') : w'.ownsRow base e sz v k xs :=
  ⟨h.1, h.2.imp id fun ⟨g, cap, cur, he, hb', hh, r⟩ => ⟨g, cap, cur, he, hb', (hb.block g (Array.getElem?_eq_some_iff.1 hh).1).trans hh, r⟩⟩
theorem ownT_mono {W : World} {base base' sz k : Nat} {e : TypeId} {v : Value} {xs : List Value} (h : W.ownsRow base e sz v k xs) (hb : base' ≤ base) : W.ownsRow base' e sz v k xs :=
  ⟨h.1, h.2.imp id fun ⟨g, cap, cur, he, hb', r⟩ => ⟨g, cap, cur, he, Nat.le_trans hb hb', r⟩⟩
theorem cells_new (w : World) (xs : List Value) (t : TypeId) : ∀ j u, xs[j]? = some u → (w.alloc (.cells xs.toArray t)).cell? ((⟨w.heap.size, 0, none⟩ : Addr).add j) = some u := by
  intro j u hu
  have hb := Blk.new w t xs.toArray
  have e : (⟨w.heap.size, 0, none⟩ : Addr).add j = ⟨w.heap.size, j, none⟩ := by unfold Addr.add; split <;> simp_all
  rw [e, hb.cell]
  simpa using hu
/-- A slice of tokens. -/
def IsToks (w : World) (B : Nat) (v : Value) (l : List Lx.Tk) : Prop := ∃ A c, v = .slice A l.length c ∧ Row w B A (tcells l) ∧ l.length ≤ c
theorem IsToks.below {w w' : World} {B : Nat} {v : Value} {l : List Lx.Tk} (h : IsToks w B v l) (hb : Below B w w') : IsToks w' B v l := by
  obtain ⟨A, c, e, hr, hc⟩ := h
  exact ⟨A, c, e, hr.below hb, hc⟩
theorem IsToks.more {w : World} {B B' : Nat} {v : Value} {l : List Lx.Tk} (h : IsToks w B v l) (hB : B ≤ B') : IsToks w B' v l := by
  obtain ⟨A, c, e, hr, hc⟩ := h
  exact ⟨A, c, e, hr.more hB, hc⟩
theorem IsToks.nil (w : World) (B : Nat) : IsToks w B (.slice none 0 0) [] := ⟨none, 0, rfl, Row.nil, Nat.le_refl _⟩

/-- What holds in tokens' loop: what is told so far, and what is left. -/
def ToksAt (s : List UInt8) (k : Nat) (l : List Lx.Tk) : Prop := ∃ n, s.length ≤ n + k ∧ Lx.toks s.length s 0 = (l ++ (Lx.toks n (s.drop k) k).1, (Lx.toks n (s.drop k) k).2)
theorem ToksAt.start (s : List UInt8) : ToksAt s 0 [] := ⟨s.length, by omega, by simp⟩
theorem ToksAt.skip {s : List UInt8} {k : Nat} {l : List Lx.Tk} (h : ToksAt s k l) (hk : k < s.length) (h0 : (Lx.first (s.drop k)).2 ≠ 0) (h1 : (Lx.first (s.drop k)).1 = -1) : ToksAt s (k + (Lx.first (s.drop k)).2) l := by
  obtain ⟨n, hn, e⟩ := h
  obtain ⟨n, rfl⟩ : ∃ n', n = n' + 1 := ⟨n - 1, by omega⟩
  rw [Lx.toks_skip (by intro e; have := congrArg List.length e; simp at this; omega) h0 h1, List.drop_drop] at e
  exact ⟨n, by omega, e⟩
theorem ToksAt.take {s : List UInt8} {k : Nat} {l : List Lx.Tk} (h : ToksAt s k l) (hk : k < s.length) (h0 : (Lx.first (s.drop k)).2 ≠ 0) (h1 : (Lx.first (s.drop k)).1 ≠ -1) : ToksAt s (k + (Lx.first (s.drop k)).2) (l ++ [⟨(Lx.first (s.drop k)).1, Lx.pack ((s.drop k).take (Lx.first (s.drop k)).2), k⟩]) := by
  obtain ⟨n, hn, e⟩ := h
  obtain ⟨n, rfl⟩ : ∃ n', n = n' + 1 := ⟨n - 1, by omega⟩
  rw [Lx.toks_take (by intro e; have := congrArg List.length e; simp at this; omega) h0 h1, List.drop_drop] at e
  exact ⟨n, by omega, by rw [List.append_assoc]; exact e⟩
theorem ToksAt.bad {s : List UInt8} {k : Nat} {l : List Lx.Tk} (h : ToksAt s k l) (h0 : (Lx.first (s.drop k)).2 = 0) : Lx.toks s.length s 0 = (l, k) := by
  obtain ⟨n, _, e⟩ := h
  rw [Lx.toks_bad h0] at e
  simpa using e
theorem ToksAt.fin {s : List UInt8} {k : Nat} {l : List Lx.Tk} (h : ToksAt s k l) (hk : s.length ≤ k) : Lx.toks s.length s 0 = (l, k) := by
  obtain ⟨n, _, e⟩ := h
  rw [List.drop_eq_nil_of_le hk, Lx.toks_end] at e
  simpa using e
end Go.Proofs.Ytmgaaejghfgbnaa
