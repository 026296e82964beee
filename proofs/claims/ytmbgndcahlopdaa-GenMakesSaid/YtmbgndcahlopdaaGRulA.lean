/- The map of words; the reader in memory: what holds of it, and what a call keeps. -/
import Derived.Deep.RegionLaw
import Derived.Maps.AppendAt
import Derived.Laws.EntriesVeiled
import Derived.BigRegion
import Derived.RangeFuncBox
import Derived.BigQuiet
import Derived.Deep.QuietTactic
import Derived.KernelRfl
import Derived.Test.YtmbgndcahlopdaaGLexP
import Derived.Test.YtmbgndcahlopdaaGPairs
import Derived.Test.YtmbgndcahlopdaaGLexD
import Derived.Test.YtmbgndcahlopdaaGMapLit
import Derived.Test.YtmbgndcahlopdaaGLexA
import Derived.Test.YtmbgndcahlopdaaGBase
namespace Go.Proofs.Ytmbgndcahlopdaa
set_option maxRecDepth 100000
open Go.RowKit Go.Shelf


def ints (l : List Int) : List Value := l.map (Value.int .i64)
theorem ints_snoc (l : List Int) (n : Int) : ints (l ++ [n]) = ints l ++ [.int .i64 n] := by simp [ints]
theorem ints_length (l : List Int) : (ints l).length = l.length := by simp [ints]
theorem Try.infoInt : (Try.prog.info? 3).map (fun i => (i.zero, i.size, i.bytes)) = some (some (.int .i64 0), 1, 8) := by kernel_rfl

end Go.Proofs.Ytmbgndcahlopdaa

/- Walks of the reader's small methods. -/
namespace Go.Proofs.Ytmbgndcahlopdaa
set_option maxRecDepth 100000
open Go.RowKit Go.Shelf

theorem cell_one_new (w : World) (t : TypeId) (u : Value) : ∀ j v, [u][j]? = some v → (w.alloc (.cells #[u] t)).drew.cell? ((⟨w.heap.size, 0, none⟩ : Addr).add j) = some v := fun j v hv => cells_new w [u] t j v hv
end Go.Proofs.Ytmbgndcahlopdaa

/- Walks of ofTwo and of done: a pile's last two things, and one number of a rule. -/
namespace Go.Proofs.Ytmbgndcahlopdaa
set_option maxRecDepth 100000
open Go.RowKit Go.Shelf

/- One number of a rule. -/
end Go.Proofs.Ytmbgndcahlopdaa

/- The walk of Right, and of Uses. -/
namespace Go.Proofs.Ytmbgndcahlopdaa
set_option maxRecDepth 100000
open Go.RowKit Go.Shelf

theorem irow_at {w : World} {B : Nat} {A : Option Addr} {l : List Int} {k : Nat} (h : Row w B A (ints l)) (hk : k < l.length) : ∃ ad, A = some ad ∧ ad.block < B ∧ w.cell? (ad.add k) = some (.int .i64 l[k]) := by
  obtain ⟨ad, e, hb, hc⟩ := h.at_ (k := k) (by rw [ints_length]; exact hk)
  exact ⟨ad, e, hb, by simpa [ints] using hc⟩
/-- A bool is answered, and old memory stays. -/
def Tells (w : World) (b : Bool) (e : Ending) (w' : World) : Prop := e = .returned (.bool b) ∧ Below w.heap.size w w'

end Go.Proofs.Ytmbgndcahlopdaa

/- The walk of Uses. -/
namespace Go.Proofs.Ytmbgndcahlopdaa
set_option maxRecDepth 100000
open Go.RowKit Go.Shelf
namespace Rl
def made (r : List Int) : Bool := right r false || right r true
end Rl
end Go.Proofs.Ytmbgndcahlopdaa

/- The walk of what stands between brackets. -/
namespace Go.Proofs.Ytmbgndcahlopdaa
set_option maxRecDepth 100000
open Go.RowKit Go.Shelf

end Go.Proofs.Ytmbgndcahlopdaa

/- The walk of an atom. -/
namespace Go.Proofs.Ytmbgndcahlopdaa
set_option maxRecDepth 100000
open Go.RowKit Go.Shelf
attribute [local go_sem] Oper.semAt_some

end Go.Proofs.Ytmbgndcahlopdaa

/- Walks of flow and of prim. -/
namespace Go.Proofs.Ytmbgndcahlopdaa
set_option maxRecDepth 100000
open Go.RowKit Go.Shelf
attribute [local go_sem] Oper.semAt_some

end Go.Proofs.Ytmbgndcahlopdaa

/- The walk of rows: parts with words between them. -/
namespace Go.Proofs.Ytmbgndcahlopdaa
set_option maxRecDepth 100000
open Go.RowKit Go.Shelf


end Go.Proofs.Ytmbgndcahlopdaa

/- The walks of cond and of label, by the depth; and of From. -/
namespace Go.Proofs.Ytmbgndcahlopdaa
set_option maxRecDepth 100000
open Go.RowKit Go.Shelf
attribute [local go_sem] Oper.semAt_some


namespace Rl
/-- May tokens be read from a place on? -/
def may (l : List Lx.Tk) (i : Int) : Bool := decide (0 ≤ i ∧ i < l.length ∧ ∃ t, l[l.length - 1]? = some t ∧ t.kind = 0)
def told (r : Res) : List Int × Nat × Nat := if r.2 = 0 then (r.1.out, r.1.pos, 0) else ([], r.1.pos, r.2)
/-- What From answers. -/
def from_ (l : List Lx.Tk) (i : Int) (lab : Bool) : List Int × Nat × Nat := if may l i = true then told (read l lab i.toNat) else ([], 0, 1)
end Rl
end Go.Proofs.Ytmbgndcahlopdaa

/- Tables over plain data: what may be, what a text tells; what is written is read. -/
namespace Go.Proofs.Ytmbgndcahlopdaa
set_option maxRecDepth 100000
namespace Tb
open Lx (Tk pack)

/-- A row's rules. -/
structure PR where
  m : List Int
  r : List Int
  p : List Int
deriving DecidableEq
def PR.none : PR := ⟨[], [], []⟩
/-! What a text tells. -/
def tok (l : List Tk) (k : Nat) : Tk := l.getD k ⟨0, ByteArray.empty, 0⟩
structure St where
  pos : Nat
  rows : List PR
  had : List Bool
def start : St := ⟨0, List.replicate 13 PR.none, List.replicate 13 false⟩
/-! What is written is read. -/
/-- The last token is the end. -/
def Fine (l : List Tk) : Prop := ∃ p, l[l.length - 1]? = some ⟨0, ByteArray.empty, p⟩
end Tb
end Go.Proofs.Ytmbgndcahlopdaa

/- Tables over plain data: where a reading stands; what is read may be. -/
namespace Go.Proofs.Ytmbgndcahlopdaa
set_option maxRecDepth 100000
end Go.Proofs.Ytmbgndcahlopdaa

/- Two rows compared: cmp.Compare and slices.Compare at int, package draw's compare and Cmp, the reference's Cmp and Ints. -/
namespace Go.Proofs.Ytmbgndcahlopdaa
set_option maxRecDepth 100000
open Go.RowKit Go.Shelf
attribute [local go_sem] Oper.semAt_some

/-- Answers a number, and leaves all memory as it was. -/
def TellsZ13 (w : World) (n : Int) (e : Ending) (w' : World) : Prop := e = .returned (.int .i64 n) ∧ Below w.heap.size w w'
set_option maxHeartbeats 2000000 in
theorem rCmp13_any {A B : Option Addr} {a b : List Int} (c d : Nat) (w : World) (h : Row w w.heap.size A (ints a)) (h2 : Row w w.heap.size B (ints b)) (hl : a.length ≤ 1000000) (_ : b.length ≤ 1000000) :
    Calls Try.prog 30 #[.slice A a.length c, .slice B b.length d] w (TellsZ13 w (Dr.cmp a b)) := by
  unfold Dr.cmp
  by_cases h1 : a.length < b.length
  · rw [if_pos h1]
    clear h h2 hl
    generalize a.length = n at *
    generalize b.length = m at *
    go_enter Try.func30, Try.ntmps30
    go_wp2
    go_ret
    exact ⟨rfl, Below.refl _ _⟩
  · by_cases h3 : b.length < a.length
    · rw [if_neg h1, if_pos h3]
      clear h h2 hl
      generalize a.length = n at *
      generalize b.length = m at *
      go_enter Try.func30, Try.ntmps30
      go_wp2
      go_ret
      exact ⟨rfl, Below.refl _ _⟩
    · rw [if_neg h1, if_neg h3]
      obtain ⟨res, hres⟩ : ∃ res, Dr.lex a b = res := ⟨_, rfl⟩
      rw [hres]
      have HRES := Lib.hid hres
      have H := Lib.hid h
      have H2 := Lib.hid h2
      obtain ⟨n, hna⟩ : ∃ n, a.length = n := ⟨_, rfl⟩
      have hnb : b.length = n := by omega
      have HNA := Lib.hid hna
      have HNB := Lib.hid hnb
      rw [hna, hnb]
      have hn9 : n ≤ 1000000 := by omega
      have hff : decide ((n : Int) < (n : Int)) = false := decide_eq_false (by omega)
      clear hres h h2 hna hnb hl h1 h3
      go_enter Try.func30, Try.ntmps30
      go_wp2
      go_loopw [18] (fun i wr => ∃ (k : Nat), k ≤ n ∧ i = .int .i64 k ∧ Hid (Below w.heap.size w wr) ∧ Hid (Dr.lex (a.drop k) (b.drop k) = res)) (fun i _ => n - (intOf i).toNat)
      case atStart => exact ⟨0, Nat.zero_le _, rfl, Lib.hid (Below.refl _ _), HRES⟩
      case round =>
        obtain ⟨k, hk, rfl, HB, HK⟩ := hrel
        by_cases hlt : k < n
        · obtain ⟨ad, hA, hb, c0⟩ := irow_at (H.out.below HB.out) (show k < a.length by rw [HNA.out]; exact hlt)
          obtain ⟨bd, hB, hb2, c1⟩ := irow_at (H2.out.below HB.out) (show k < b.length by rw [HNB.out]; exact hlt)
          have hx : a[k]? = some (a[k]'(by rw [HNA.out]; exact hlt)) := List.getElem?_eq_getElem _
          have hy : b[k]? = some (b[k]'(by rw [HNB.out]; exact hlt)) := List.getElem?_eq_getElem _
          subst hA hB
          generalize a[k]'(by rw [HNA.out]; exact hlt) = x at *
          generalize b[k]'(by rw [HNB.out]; exact hlt) = y at *
          have hst := Dr.lex_step hx hy
          rw [HK.out] at hst
          by_cases hxy : x < y
          · rw [if_pos hxy] at hst
            have HST := Lib.hid hst
            have h5 : decide (x < y) = true := decide_eq_true hxy
            clear hx hy hst hxy
            go_wp2
            go_region
            go_wp2
            go_ret
            exact ⟨by rw [HST.out]; rfl, HB.out.drew⟩
          · have h5 : decide (x < y) = false := decide_eq_false hxy
            by_cases hyx : y < x
            · rw [if_neg hxy, if_pos hyx] at hst
              have HST := Lib.hid hst
              have h6 : decide (y < x) = true := decide_eq_true hyx
              clear hx hy hst hxy hyx
              go_wp2
              go_region
              go_wp2
              go_region
              go_wp2
              go_ret
              exact ⟨by rw [HST.out]; rfl, HB.out.drew.drew⟩
            · rw [if_neg hxy, if_neg hyx] at hst
              have HST := Lib.hid hst.symm
              have h6 : decide (y < x) = false := decide_eq_false hyx
              clear hx hy hst hxy hyx
              go_wp2
              go_region
              go_wp2
              go_region
              go_wp2
              go_roundw
              case rel => exact ⟨k + 1, by omega, by go_num, Lib.hid HB.out.drew.drew, HST⟩
              case measure => simp [intOf]; omega
        · obtain rfl : k = n := by omega
          have htt := Dr.lex_end (a := a) (b := b) (k := k) (by rw [HNA.out]; exact Nat.le_refl _)
          rw [HK.out] at htt
          have HTT := Lib.hid htt
          clear htt
          go_wp2
          go_ret
          exact ⟨by rw [HTT.out]; rfl, HB.out⟩
theorem rInts13_any {A B : Option Addr} {a b : List Int} (c d : Nat) (w : World) (h : Row w w.heap.size A (ints a)) (h2 : Row w w.heap.size B (ints b)) (hl : a.length ≤ 1000000) (hm : b.length ≤ 1000000) :
    Calls Try.prog 16 #[.slice A a.length c, .slice B b.length d] w (Tells w (decide (a = b))) := by
  have HC := Lib.hid (rCmp13_any c d w h h2 hl hm)
  have hres : (Dr.cmp a b == 0) = decide (a = b) := by
    rw [Bool.eq_iff_iff, beq_iff_eq, decide_eq_true_iff]
    exact Dr.cmp_zero
  have HR := Lib.hid hres
  clear h h2 hl hm hres
  generalize Dr.cmp a b = res at *
  generalize decide (a = b) = t at *
  generalize a.length = n at *
  generalize b.length = m at *
  go_enter Try.func16, Try.ntmps16
  go_wp2_with (fail)
  refine HC.out.mono ?_
  rintro e w3 ⟨rfl, hb3⟩
  have HB3 := Lib.hid hb3
  clear hb3
  go_wp2
  go_ret
  exact ⟨by rw [HR.out]; rfl, HB3.out⟩
end Go.Proofs.Ytmbgndcahlopdaa

/- The walk of From. -/
namespace Go.Proofs.Ytmbgndcahlopdaa
set_option maxRecDepth 100000
open Go.RowKit Go.Shelf
attribute [local go_sem] Oper.semAt_some

end Go.Proofs.Ytmbgndcahlopdaa

/- Walks of the reference: two, Made, Right, Has, Uses, Same. -/
namespace Go.Proofs.Ytmbgndcahlopdaa
set_option maxRecDepth 100000
open Go.RowKit Go.Shelf

end Go.Proofs.Ytmbgndcahlopdaa

/- The walk of the reference's Made. -/
namespace Go.Proofs.Ytmbgndcahlopdaa
set_option maxRecDepth 100000
open Go.RowKit Go.Shelf

/-- A number is answered, and old memory stays. -/
def TellsN (w : World) (n : Int) (e : Ending) (w' : World) : Prop := e = .returned (.int .i64 n) ∧ Below w.heap.size w w'
end Go.Proofs.Ytmbgndcahlopdaa

/- Walks of the reference's Right, Has, Uses, Same. -/
namespace Go.Proofs.Ytmbgndcahlopdaa
set_option maxRecDepth 100000
open Go.RowKit Go.Shelf

end Go.Proofs.Ytmbgndcahlopdaa

/- Walks of the law's few and alive. -/
namespace Go.Proofs.Ytmbgndcahlopdaa
set_option maxRecDepth 100000
open Go.RowKit Go.Shelf

/- The law's alive. -/
end Go.Proofs.Ytmbgndcahlopdaa
