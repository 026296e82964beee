/- Walks of lattice's Flows, Join, Meet, Bottom, Top. -/
import Derived.Test.YtaingkjleelbfaaCheck
import Derived.Deep.RegionWith
namespace Go.Proofs.Ytaingkjleelbfaa
open Go.RowKit

theorem checkN_zero {names : List ByteArray} {up : List Nat} (h : checkN names up = 0) : mayB names up = true ∧ Lat.isOrder up = true ∧ Lat.isLattice up = true := by
  unfold checkN at h
  cases h1 : mayB names up <;> rw [h1] at h <;> simp at h
  cases h2 : Lat.isOrder up <;> rw [h2] at h <;> simp at h
  cases h3 : Lat.isLattice up <;> rw [h3] at h <;> simp at h
  exact ⟨rfl, rfl, rfl⟩
theorem labN_zero {names : List ByteArray} {up : List Nat} {a b : Int} (h : labN names up a b = 0) : checkN names up = 0 ∧ (∃ a' : Nat, a = a' ∧ a' < up.length) ∧ (∃ b' : Nat, b = b' ∧ b' < up.length) := by
  unfold labN at h
  by_cases h1 : checkN names up = 0
  · rw [if_pos h1] at h
    by_cases h2 : (isLab up a && isLab up b) = true
    · simp only [Bool.and_eq_true, isLab, decide_eq_true_eq] at h2
      exact ⟨h1, ⟨a.toNat, by omega, by omega⟩, ⟨b.toNat, by omega, by omega⟩⟩
    · rw [if_neg h2] at h; omega
  · rw [if_neg h1] at h; exact absurd h h1
theorem len_of_checkN {names : List ByteArray} {up : List Nat} (h : checkN names up = 0) : 1 ≤ up.length ∧ up.length ≤ 8 := by
  have := mayB_len (checkN_zero h).1
  exact ⟨this.1, this.2.1⟩

theorem ret_bi {x y : Int} {a b : Bool} (h' : a = b) (h : x = y) : Ending.returned (.tuple #[.bool a, .int .i64 x]) = .returned (.tuple #[.bool b, .int .i64 y]) := by rw [h, h']
theorem ret_ii {x y a b : Int} (h' : a = b) (h : x = y) : Ending.returned (.tuple #[.int .i64 a, .int .i64 x]) = .returned (.tuple #[.int .i64 b, .int .i64 y]) := by rw [h, h']

def flowsR (names : List ByteArray) (up : List Nat) (a b : Int) : Bool := if labN names up a b = 0 then Lat.fl up a.toNat b.toNat else false
def joinR (names : List ByteArray) (up : List Nat) (a b : Int) : Nat := if labN names up a b = 0 then Lat.leastN up (Lat.joinS up a.toNat b.toNat) else 0
def meetR (names : List ByteArray) (up : List Nat) (a b : Int) : Nat := if labN names up a b = 0 then Lat.leastN (Lat.turned up) (Lat.joinS (Lat.turned up) a.toNat b.toNat) else 0
def bottomR (names : List ByteArray) (up : List Nat) : Nat := if checkN names up = 0 then Lat.leastN up (Lat.allS up.length) else 0
def topR (names : List ByteArray) (up : List Nat) : Nat := if checkN names up = 0 then Lat.leastN (Lat.turned up) (Lat.allS up.length) else 0

end Go.Proofs.Ytaingkjleelbfaa
