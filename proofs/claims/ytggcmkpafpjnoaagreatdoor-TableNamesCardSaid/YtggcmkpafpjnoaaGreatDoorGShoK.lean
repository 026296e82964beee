/- The walk of the reference's Thing (by gen_shok.py). -/
import Derived.Deep.RegionHeld3
import Derived.Deep.Cut
import Derived.Test.YtggcmkpafpjnoaaGreatDoorGShoG
namespace Go.Proofs.YtggcmkpafpjnoaaGreatDoor
set_option maxRecDepth 100000
open Go.RowKit Go.Shelf

section
variable {w W W' : World} {gy gx : Nat} {sy sx : ByteArray} {dy fy dx fx : Nat}
end
end Go.Proofs.YtggcmkpafpjnoaaGreatDoor

/- The reference's Thing of any tree, and its Text. -/
namespace Go.Proofs.YtggcmkpafpjnoaaGreatDoor
set_option maxRecDepth 100000
open Go.RowKit Go.Shelf

/-- xs stand in l from f on. -/
def AtL (l : List Int) (f : Nat) (xs : List Int) : Prop := ∀ j u, xs[j]? = some u → l[f + j]? = some u
section
variable {l xs ys : List Int} {f : Nat}
theorem AtL.left (h : AtL l f (xs ++ ys)) : AtL l f xs := fun j u hu => h j u (by rw [List.getElem?_append_left (List.getElem?_eq_some_iff.1 hu).1]; exact hu)
theorem AtL.right (h : AtL l f (xs ++ ys)) : AtL l (f + xs.length) ys := fun j u hu => by
  have := h (xs.length + j) u (by rw [List.getElem?_append_right (by omega), Nat.add_sub_cancel_left]; exact hu)
  rwa [← Nat.add_assoc] at this
theorem AtL.le (h : AtL l f xs) (hn : 0 < xs.length) : f + xs.length ≤ l.length := by
  have h1 := h (xs.length - 1) _ (List.getElem?_eq_getElem (by omega))
  have := (List.getElem?_eq_some_iff.1 h1).1
  omega
end
theorem post_last : ∀ t : Sh.Tree, (Sh.post t)[(Sh.post t).length - 1]? = some (Sh.top t)
  | .leaf op => rfl
  | .node op x y => by
    have e : Sh.post (.node op x y) = (Sh.post x ++ Sh.post y) ++ [op] := rfl
    rw [e, List.length_append, List.length_singleton, Nat.add_sub_cancel, List.getElem?_append_right (Nat.le_refl _), Nat.sub_self]
    rfl
theorem deep_le : ∀ t : Sh.Tree, Sh.deep t + 1 ≤ (Sh.post t).length
  | .leaf _ => Nat.le_refl _
  | .node op x y => by
    have h1 := deep_le x
    have h2 := deep_le y
    have h3 : (Sh.lowL op x).toNat ≤ 1 := by cases Sh.lowL op x <;> decide
    have h4 : (Sh.lowR op y).toNat ≤ 1 := by cases Sh.lowR op y <;> decide
    simp only [Sh.deep, Sh.post, List.length_append, List.length_cons, List.length_nil]
    omega
theorem row_get {w : World} {A : Option Addr} {l : List Int} (h : Row w w.heap.size A (ints l)) {W : World} (hb : Below w.heap.size w W) (hne : 0 < l.length) : ∃ ad, A = some ad ∧ ad.block < W.heap.size ∧ ∀ j u, l[j]? = some u → W.cell? (ad.add j) = some (.int .i64 u) := by
  obtain ⟨ad, e, hk, hc⟩ := ((h.below hb).more hb.size) (by intro e; have h1 := ints_length l; rw [e] at h1; exact absurd h1 (by simp only [List.length_nil]; omega))
  exact ⟨ad, e, hk, fun j u hu => hc j _ (by simp [ints, hu])⟩
theorem txt_sep (n : Int) (x y : Sh.Tree) : Lx.pack (Sh.txt (.node n x y)) = Lx.pack (Sh.wrapT (Sh.lowL n x) (Sh.square n) (Sh.txt x)) ++ { data := #[32] } ++ Sh.nameOf n ++ { data := #[32] } ++ Lx.pack (Sh.wrapT (Sh.lowR n y) (Sh.square n) (Sh.txt y)) := by
  rw [Sh.txt_node]
  apply ByteArray.ext
  simp [Array.append_assoc]
end Go.Proofs.YtggcmkpafpjnoaaGreatDoor
