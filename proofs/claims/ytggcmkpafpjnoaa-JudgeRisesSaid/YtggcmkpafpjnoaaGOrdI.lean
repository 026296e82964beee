/- Walks of checkEdges, Clone and Of. -/
import Derived.WalkSpells
import Derived.Test.YtggcmkpafpjnoaaGOrdH
namespace Go.Proofs.Ytggcmkpafpjnoaa
set_option maxRecDepth 100000
open Go.RowKit Go.Shelf

def isPl (n : Nat) (a : Int) : Bool := decide (0 ≤ a) && decide (a < n)
def edgeOk (n : Nat) (e : Int × Int) : Bool := isPl n e.1 && isPl n e.2
def eN (n : Nat) (es : List (Int × Int)) : Nat := if 1 ≤ n ∧ n ≤ 8 then if es.length ≤ 64 then if es.all (edgeOk n) then 0 else 9 else 8 else 1

theorem own_empty (w : World) (e : TypeId) : (w.alloc (.cells #[] e)).ownsRow w.heap.size e 1 (.slice (some ⟨w.heap.size, 0, none⟩) 0 0) 0 [] :=
  ⟨rfl, .inr ⟨w.heap.size, 0, #[], rfl, Nat.le_refl _, World.alloc_heap_new w _, Nat.le_refl _, by unfold maxLen; omega, rfl, rfl⟩⟩
theorem Row.cells_ {w : World} {B : Nat} {ad : Addr} {xs : List Value} (h : Row w B (some ad) xs) {j : Nat} {u : Value} (hu : xs[j]? = some u) : w.cell? (ad.add j) = some u := by
  obtain ⟨ad', e, _, hc⟩ := h (by rintro rfl; simp at hu)
  injection e with e
  subst e
  exact hc j u hu

theorem own_below {W W' : World} {base sz n B : Nat} {e : TypeId} {v : Value} {xs : List Value} (h : W.ownsRow base e sz v n xs) (hb : Below B W W') (hB : W.heap.size ≤ B) : W'.ownsRow base e sz v n xs := by
  refine ⟨h.1, ?_⟩
  rcases h.2 with hn | ⟨g, cap, cur, he, hg, hh, hr⟩
  · exact .inl hn
  · exact .inr ⟨g, cap, cur, he, hg, (hb.block g (Nat.lt_of_lt_of_le (Array.getElem?_eq_some_iff.1 hh).1 hB)).trans hh, hr⟩

def natE (es : List (Int × Int)) : List (Nat × Nat) := es.map fun e => (e.1.toNat, e.2.toNat)
theorem natE_length (es : List (Int × Int)) : (natE es).length = es.length := by simp [natE]
theorem toIs_natE {n : Nat} {es : List (Int × Int)} (h : es.all (edgeOk n) = true) : toIs (natE es) = es := by
  rw [List.all_eq_true] at h
  unfold toIs natE
  rw [List.map_map]
  conv => rhs; rw [← List.map_id es]
  refine List.map_congr_left fun e he => ?_
  have := h e he
  simp only [edgeOk, isPl, Bool.and_eq_true, decide_eq_true_eq] at this
  show ((e.1.toNat : Int), (e.2.toNat : Int)) = e
  rw [Int.toNat_of_nonneg this.1.1, Int.toNat_of_nonneg this.2.1]
theorem natE_lt {n : Nat} {es : List (Int × Int)} (h : es.all (edgeOk n) = true) : ∀ p ∈ natE es, p.1 < n ∧ p.2 < n := by
  intro p hp
  obtain ⟨e, he, rfl⟩ := List.mem_map.1 hp
  rw [List.all_eq_true] at h
  have := h e he
  simp only [edgeOk, isPl, Bool.and_eq_true, decide_eq_true_eq] at this
  constructor
  · show e.1.toNat < n; omega
  · show e.2.toNat < n; omega
theorem eN_zero {n : Nat} {es : List (Int × Int)} (h : eN n es = 0) : 1 ≤ n ∧ n ≤ 8 ∧ es.length ≤ 64 ∧ es.all (edgeOk n) = true := by
  unfold eN at h
  by_cases h1 : 1 ≤ n ∧ n ≤ 8
  · rw [if_pos h1] at h
    by_cases h2 : es.length ≤ 64
    · rw [if_pos h2] at h
      by_cases h3 : es.all (edgeOk n) = true
      · exact ⟨h1.1, h1.2, h2, h3⟩
      · rw [if_neg h3] at h; cases h
    · rw [if_neg h2] at h; cases h
  · rw [if_neg h1] at h; cases h
/-- What Of answers. -/
noncomputable def ofN (names : List ByteArray) (es : List (Int × Int)) : Nat := if eN names.length es = 0 then checkN names (Ordr.madeL names.length (natE es)) else eN names.length es
noncomputable def ofNames (names : List ByteArray) (es : List (Int × Int)) : List ByteArray := if ofN names es = 0 then names else []
noncomputable def ofUp (names : List ByteArray) (es : List (Int × Int)) : List Nat := if ofN names es = 0 then Ordr.madeL names.length (natE es) else []
noncomputable def OfRes (w : World) (names : List ByteArray) (es : List (Int × Int)) : Ending → World → Prop := LatRes w (ofN names es) (ofNames names es) (ofUp names es)
theorem OfRes.no {w w' : World} {names : List ByteArray} {es : List (Int × Int)} {n : Nat} (hn : ofN names es = n) (hz : n ≠ 0) (hb : Below w.heap.size w w') : OfRes w names es (.returned (.tuple #[.agg #[.slice none 0 0, .slice none 0 0], .int .i64 (n : Int)])) w' := by
  refine ⟨_, by rw [hn], ?_, hb⟩
  unfold ofNames ofUp
  rw [hn, if_neg hz, if_neg hz]
  exact IsLat.none_ _ _
theorem OfRes.yes {w w' : World} {names : List ByteArray} {es : List (Int × Int)} {v : Value} (hn : ofN names es = 0) (h : IsLat w' w'.heap.size v names (Ordr.madeL names.length (natE es))) (hb : Below w.heap.size w w') : OfRes w names es (.returned (.tuple #[v, .int .i64 0])) w' := by
  refine ⟨_, by rw [hn]; rfl, ?_, hb⟩
  unfold ofNames ofUp
  rw [hn, if_pos rfl, if_pos rfl]
  exact h
/-- A lattice out of a row of one's own and a block. -/
theorem IsLat.ofOwn {w : World} {B base g' : Nat} {e : TypeId} {names : List ByteArray} {up : List Nat} {v : Value} {n n' c' : Nat} (h : w.ownsRow base e 1 v n (strs names)) (h' : Blk w g' 44 (u32s up).toArray) (hB : w.heap.size ≤ B) (hu : ∀ (k x : Nat), up[k]? = some x → x < 4294967296)
    (hs : ∀ s ∈ names, s.size ≤ maxLen) (hn : names.length = n) (hn' : up.length = n') (hf : n ≤ 1000 ∧ n' ≤ 1000) (hc : n' ≤ c') : IsLat w B (.agg #[v, .slice (some ⟨g', 0, none⟩) n' c']) names up := by
  obtain ⟨A, c, rfl⟩ := own_slice h
  obtain ⟨hr, hcc⟩ := own_rowN h
  subst hn hn'
  refine ⟨⟨_, _, c, c', rfl, hr.more hB, ⟨h'.row.more (by have := h'.lt; omega), hu⟩⟩, hs, hf, fun A n c A' n' c' h => ?_⟩
  injection h with h; injection h with h; injection h with e1 h; injection h with e2 h
  injection e1 with _ a b; injection e2 with _ c d; omega

end Go.Proofs.Ytggcmkpafpjnoaa

/- Walks of the reference's power, within, names. -/
namespace Go.Proofs.Ytggcmkpafpjnoaa
set_option maxRecDepth 100000
open Go.RowKit Go.Shelf

theorem within_step : ∀ a b : Fin 8, a.1 ≠ 0 → powerF a.1 b.1 = if a.1 % 2 = 1 ∧ b.1 % 2 = 0 then false else powerF (a.1 / 2) (b.1 / 2) := by decide
theorem named_eight : named 8 = [⟨#[97]⟩, ⟨#[98]⟩, ⟨#[99]⟩, ⟨#[100]⟩, ⟨#[101]⟩, ⟨#[102]⟩, ⟨#[103]⟩, ⟨#[104]⟩] := by rfl
theorem named_take {n : Nat} (h : n ≤ 8) : named n = (named 8).take n := by
  unfold named
  rw [← List.map_take, List.take_range, Nat.min_eq_left h]
end Go.Proofs.Ytggcmkpafpjnoaa

/- Walks of the reference's Make. -/
namespace Go.Proofs.Ytggcmkpafpjnoaa
set_option maxRecDepth 100000
open Go.RowKit Go.Shelf

theorem rowTo_add (f : Nat → Nat → Bool) (a k : Nat) : Ordr.rowTo f a k ||| 2 ^ k = Ordr.rowTo f a k + 2 ^ k := by
  have h := Ordr.rowTo_lt f a k
  have := Nat.two_pow_add_eq_or_of_lt h 1
  rw [Nat.mul_one] at this
  rw [Nat.or_comm, ← this, Nat.add_comm]
theorem rowTo_yes {f : Nat → Nat → Bool} {a k : Nat} (h : f a k = true) : Ordr.rowTo f a (k + 1) = Ordr.rowTo f a k + 2 ^ k := by
  conv => lhs; unfold Ordr.rowTo
  rw [if_pos h, rowTo_add]
theorem rowTo_no {f : Nat → Nat → Bool} {a k : Nat} (h : f a k = false) : Ordr.rowTo f a (k + 1) = Ordr.rowTo f a k := by
  conv => lhs; unfold Ordr.rowTo
  rw [if_neg (by rw [h]; decide)]
theorem ups_take_succ {f : Nat → Nat → Bool} {n a : Nat} (h : a < n) : (Ordr.ups f n).take (a + 1) = (Ordr.ups f n).take a ++ [Ordr.rowTo f a n] := by
  rw [List.take_add_one]
  congr 1
  unfold Ordr.ups
  rw [List.getElem?_map, List.getElem?_range h]
  rfl

/-- The reference's T. -/
def TRes (w : World) (n : Nat) (names : List ByteArray) (up : List Nat) (e : Ending) (w' : World) : Prop :=
  ∃ x0 x1, e = .returned (.agg #[x0, x1, .int .i64 (n : Int)]) ∧ IsLat w' w'.heap.size (.agg #[x0, x1]) names up ∧ Below w.heap.size w w'
theorem TRes.none_ {w w' : World} {n : Nat} (hb : Below w.heap.size w w') : TRes w n [] [] (.returned (.agg #[.slice none 0 0, .slice none 0 0, .int .i64 (n : Int)])) w' := ⟨_, _, rfl, IsLat.none_ _ _, hb⟩

theorem rmake_len {f : Nat → Nat → Bool} {m a : Nat} (h : a ≤ m) : ((Ordr.ups f m).take a).length = a := by rw [List.length_take, Ordr.ups_length]; omega

end Go.Proofs.Ytggcmkpafpjnoaa

/- Walk of the reference's Make at a kind. -/
namespace Go.Proofs.Ytggcmkpafpjnoaa
set_option maxRecDepth 100000
open Go.RowKit Go.Shelf

end Go.Proofs.Ytggcmkpafpjnoaa

/- Walk of the reference's Make at a kind. -/
namespace Go.Proofs.Ytggcmkpafpjnoaa
set_option maxRecDepth 100000
open Go.RowKit Go.Shelf

end Go.Proofs.Ytggcmkpafpjnoaa

/- The reference's Make, whole. -/
namespace Go.Proofs.Ytggcmkpafpjnoaa
set_option maxRecDepth 100000
open Go.RowKit Go.Shelf

theorem tres_of {w : World} {kind : ByteArray} {n : Int} {c : Nat} {names : List ByteArray} {up : List Nat} (h1 : makeN kind n = c) (h2 : c = 0 → makeUp kind n = up ∧ named up.length = names) (h3 : c ≠ 0 → names = [] ∧ up = []) {e : Ending} {w' : World} (h : TRes w c names up e w') : TRes w (makeN kind n) (named (makeUpR kind n).length) (makeUpR kind n) e w' := by
  unfold makeUpR
  rw [h1]
  by_cases hc : c = 0
  · subst hc
    rw [if_pos rfl, (h2 rfl).1, (h2 rfl).2]
    exact h
  · rw [if_neg hc]
    obtain ⟨rfl, rfl⟩ := h3 hc
    exact h
end Go.Proofs.Ytggcmkpafpjnoaa
