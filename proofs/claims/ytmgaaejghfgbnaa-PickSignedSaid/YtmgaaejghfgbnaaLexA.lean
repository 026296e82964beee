/- Walks of lex's closures. -/
import Derived.Test.YtmgaaejghfgbnaaLexQ
import Derived.Test.YtmgaaejghfgbnaaPairs
import Derived.BigQuiet
import Derived.Deep.QuietTactic
import Derived.Deep.DeepFit
import Derived.LoopTactic
import Derived.Lib.Bytealg
import Derived.Test.YtmgaaejghfgbnaaLexS
namespace Go.Proofs.Ytmgaaejghfgbnaa
set_option maxRecDepth 100000
open Go.RowKit Go.Shelf

theorem retb {a b : Bool} (h : a = b) : Ending.returned (.bool a) = .returned (.bool b) := by rw [h]
theorem reti {x y : Int} (h : x = y) : Ending.returned (.int .i64 x) = .returned (.int .i64 y) := by rw [h]
def IsPred (g : FuncId) (p : UInt8 → Bool) : Prop := ∀ (c : UInt8) (W : World), Calls Try.prog g #[.int .u8 (c.toNat : Int)] W fun e w' => e = .returned (.bool (p c)) ∧ W = w'
theorem blank_iff (c : UInt8) : Lx.blank c = true ↔ c.toNat = 9 ∨ c.toNat = 10 ∨ c.toNat = 32 := by
  simp only [Lx.blank, Bool.or_eq_true, beq_iff_eq, ← UInt8.toNat_inj, or_assoc]
  exact Iff.rfl
theorem inLine_iff (c : UInt8) : Lx.inLine c = true ↔ c.toNat ≠ 10 := by
  simp only [Lx.inLine, bne_iff_ne, ne_eq, ← UInt8.toNat_inj]
  exact Iff.rfl
theorem letter_iff (c : UInt8) : Lx.letter c = true ↔ 97 ≤ c.toNat ∧ c.toNat ≤ 122 := by
  simp only [Lx.letter, Bool.and_eq_true, decide_eq_true_eq, UInt8.le_iff_toNat_le]
  exact Iff.rfl
theorem digit_iff (c : UInt8) : Lx.digit c = true ↔ 48 ≤ c.toNat ∧ c.toNat ≤ 57 := by
  simp only [Lx.digit, Bool.and_eq_true, decide_eq_true_eq, UInt8.le_iff_toNat_le]
  exact Iff.rfl

/-- A callee that only reads, met in a region that draws, behind other draws. -/
theorem quiet_same2 {P : Program} {f : FuncId} {args : Array Value} {w : World} {m n : Nat} {v : Value}
    (h : Calls P f args (w.drewN (m + n)) fun e w' => e = .returned v ∧ w.drewN (m + n) = w') : Calls P f args (w.drewN (m + n)) fun e w'' => e = .returned v ∧ ∃ k, w'' = w.drewN (m + k) :=
  h.mono fun _ _ ⟨he, hm⟩ => ⟨he, n, hm.symm⟩

theorem bytes_at {s : ByteArray} (k : Nat) (hk : k < s.size) : s.data.toList[k]? = some s[k] := by
  rw [Array.getElem?_toList]
  exact Array.getElem?_eq_getElem hk
theorem run_at {p : UInt8 → Bool} (r : List UInt8) (k : Nat) (h : ∀ j c, j < k → r[j]? = some c → p c = true) (hk : k ≤ r.length) (hs : ∀ c, r[k]? = some c → p c = false) : Lx.run p r = k := by
  induction r generalizing k with
  | nil => simp at hk; subst hk; rfl
  | cons d r ih =>
    cases k with
    | zero => exact Lx.run_no (hs d rfl) r
    | succ k =>
      rw [Lx.run_yes (h 0 d (by omega) rfl), ih k (fun j c hj e => h (j + 1) c (by omega) e) (by simpa using hk) (fun c e => hs c e)]

theorem comment_yes {r : List UInt8} (h : Lib.hasPrefix r [35] = true) : 1 ≤ r.length ∧ Lx.comment r = 1 + Lx.run Lx.inLine (r.drop 1) := by
  cases r with
  | nil => exact absurd h (by decide)
  | cons c r =>
    have hc : c = 35 := by
      simp only [Lib.hasPrefix, List.isPrefixOf, Bool.and_eq_true, beq_iff_eq] at h
      exact h.1.symm
    rw [Lx.comment_cons, if_pos hc]
    exact ⟨by simp, rfl⟩
theorem comment_no {r : List UInt8} (h : Lib.hasPrefix r [35] = false) : Lx.comment r = 0 := by
  cases r with
  | nil => rfl
  | cons c r =>
    rw [Lx.comment_cons, if_neg]
    rintro rfl
    exact absurd h (by simp [Lib.hasPrefix, List.isPrefixOf])
def hash : ByteArray := { data := #[35] }
theorem mark_two {r : List UInt8} (h : Lib.hasPrefix r [60, 61] = true) : Lx.mark r = 2 := by
  rcases r with _ | ⟨c, _ | ⟨d, r⟩⟩
  · exact absurd h (by decide)
  · simp [Lib.hasPrefix, List.isPrefixOf] at h
  · simp only [Lib.hasPrefix, List.isPrefixOf, Bool.and_eq_true, beq_iff_eq] at h
    rw [Lx.mark_cons, if_pos ⟨h.1.symm, by rw [← h.2.1]; rfl⟩]
theorem mark_not {c : UInt8} {r : List UInt8} (h : Lib.hasPrefix (c :: r) [60, 61] = false) : Lx.mark (c :: r) = if Lx.marks.contains c then 1 else 0 := by
  rw [Lx.mark_cons, if_neg]
  rintro ⟨rfl, e⟩
  rcases r with _ | ⟨d, r⟩
  · simp at e
  · simp only [List.head?_cons, Option.some.injEq] at e
    subst e
    simp [Lib.hasPrefix, List.isPrefixOf] at h
theorem index_mem (c : UInt8) : ∀ l : List UInt8, decide (0 ≤ Lib.indexByte l c) = l.contains c
  | [] => rfl
  | b :: l => by
    have ih := index_mem c l
    have hg := Lib.indexByte_ge l c
    unfold Lib.indexByte
    by_cases hb : b = c
    · subst hb
      simp
    · have h1 : (b == c) = false := by simpa using hb
      have h2 : (c == b) = false := by simpa using fun e => hb e.symm
      rw [h1, List.contains_cons, h2, ← ih]
      simp only [Bool.false_eq_true, if_false, Bool.false_or]
      by_cases hm : Lib.indexByte l c = -1
      · rw [hm]; decide
      · have h3 : (Lib.indexByte l c == -1) = false := by simpa using hm
        rw [h3]
        simp only [Bool.false_eq_true, if_false]
        congr 1
        exact propext ⟨fun _ => by omega, fun _ => by omega⟩
theorem toUInt8_nat (c : UInt8) : ((c.toNat : Int)).toNat.toUInt8 = c := by simp
end Go.Proofs.Ytmgaaejghfgbnaa
