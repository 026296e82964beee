/- Rows in memory and small facts, over no program. -/
import Derived.Below
import Derived.Laws.OwnMore
import Derived.Laws.BitsAllLaws
import Derived.Lib.Hide
import Derived.Deep.Draws
import Derived.WalkKit
namespace Go.Proofs.Ytmgaaejghfgbnaa
set_option maxRecDepth 100000
open Go.RowKit

/-- The slice at A holds the cells xs, in a block below B. -/
def Row (w : World) (B : Nat) (A : Option Addr) (xs : List Value) : Prop :=
  xs ≠ [] → ∃ ad, A = some ad ∧ ad.block < B ∧ ∀ j u, xs[j]? = some u → w.cell? (ad.add j) = some u

theorem add_block (a : Addr) (n : Nat) : (a.add n).block = a.block := by unfold Addr.add; split <;> rfl

section
variable {w w' : World} {B B' : Nat} {A : Option Addr} {xs : List Value}
theorem Row.nil : Row w B A [] := fun h => absurd rfl h
theorem Row.at_ {k : Nat} (h : Row w B A xs) (hk : k < xs.length) : ∃ ad, A = some ad ∧ ad.block < B ∧ w.cell? (ad.add k) = some xs[k] := by
  obtain ⟨ad, e, hb, hc⟩ := h (by intro e; subst e; simp at hk)
  exact ⟨ad, e, hb, hc k _ (List.getElem?_eq_getElem hk)⟩
theorem Row.keep (h : Row w B A xs) (hk : ∀ p : Addr, p.block < B → w'.cell? p = w.cell? p) : Row w' B A xs := fun hn => by
  obtain ⟨ad, e, hb, hc⟩ := h hn
  exact ⟨ad, e, hb, fun j u hu => (hk _ (by rw [add_block]; exact hb)).trans (hc j u hu)⟩
theorem Row.below (h : Row w B A xs) (hb : Below B w w') : Row w' B A xs := h.keep fun _ hp => hb.cell hp
theorem Row.more (h : Row w B A xs) (hB : B ≤ B') : Row w B' A xs := fun hn => by
  obtain ⟨ad, e, hb, hc⟩ := h hn
  exact ⟨ad, e, by omega, hc⟩
theorem Row.take (h : Row w B A xs) (n : Nat) : Row w B A (xs.take n) := fun hn => by
  obtain ⟨ad, e, hb, hc⟩ := h (by rintro rfl; simp at hn)
  refine ⟨ad, e, hb, fun j u hu => hc j u ?_⟩
  rw [List.getElem?_take] at hu
  split at hu
  · exact hu
  · cases hu
end

/-- Numbers of 32 bits in a slice. -/
def u32s (up : List Nat) : List Value := up.map fun (x : Nat) => Value.int .u32 (x : Int)

def Ups (w : World) (B : Nat) (A : Option Addr) (up : List Nat) : Prop := Row w B A (u32s up) ∧ ∀ (k x : Nat), up[k]? = some x → x < 4294967296

section
variable {w w' : World} {B B' : Nat} {A : Option Addr} {up : List Nat}
theorem Ups.at_ {k : Nat} (h : Ups w B A up) (hk : k < up.length) : ∃ ad x, A = some ad ∧ ad.block < B ∧ up[k]? = some x ∧ x < 4294967296 ∧ w.cell? (ad.add k) = some (.int .u32 (x : Int)) := by
  obtain ⟨ad, e, hb, hc⟩ := h.1.at_ (k := k) (by simpa [u32s] using hk)
  exact ⟨ad, up[k], e, hb, List.getElem?_eq_getElem hk, h.2 k _ (List.getElem?_eq_getElem hk), by simpa [u32s] using hc⟩
theorem Ups.below (h : Ups w B A up) (hb : Below B w w') : Ups w' B A up := ⟨h.1.below hb, h.2⟩
theorem Ups.more (h : Ups w B A up) (hB : B ≤ B') : Ups w B' A up := ⟨h.1.more hB, h.2⟩
theorem Ups.drewN (h : Ups w B A up) (n : Nat) : Ups (w.drewN n) B A up := h
theorem Ups.lt {k : Nat} (h : Ups w B A up) : up.getD k 0 < 4294967296 := by
  rw [List.getD_eq_getElem?_getD]
  cases e : up[k]? with
  | none => decide
  | some x => exact h.2 k x e
end

/-- Strings in a slice. -/
def strs (ss : List ByteArray) : List Value := ss.map Value.string

theorem bcell {W w1 : World} {B : Nat} (hb : Below B W w1) : (∀ b o, b < B → w1.cell? ⟨b, o, none⟩ = W.cell? ⟨b, o, none⟩) ∧ (∀ b o, b < B → w1.frozen? ⟨b, o, none⟩ = W.frozen? ⟨b, o, none⟩) :=
  ⟨fun b o h => hb.cell (p := ⟨b, o, none⟩) h, fun b o h => hb.frozen (p := ⟨b, o, none⟩) h⟩

/-- A quiet callee's contract, stated with the world's name kept. -/
theorem quiet_eq {P : Program} {f : FuncId} {args : Array Value} {w : World} {n : Nat} {v : Value}
    (h : Calls P f args (w.drewN n) fun e w' => e = .returned v ∧ w.drewN n = w') : Calls P f args (w.drewN n) fun e w'' => e = .returned v ∧ ∃ m, w'' = w.drewN m :=
  h.mono fun _ _ ⟨he, hm⟩ => ⟨he, n, hm.symm⟩
end Go.Proofs.Ytmgaaejghfgbnaa
