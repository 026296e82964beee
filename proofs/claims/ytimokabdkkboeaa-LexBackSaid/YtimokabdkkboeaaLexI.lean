/- The walk of the laws' alive. -/
import Derived.Test.YtimokabdkkboeaaLexH
import Derived.KernelRfl
namespace Go.Proofs.Ytimokabdkkboeaa
open Go.RowKit Go.Shelf

def aliveS : List UInt8 := [111, 110, 101, 60, 61, 116, 119, 111, 32, 35, 32, 99]
def aliveL : List Lx.Tk := [⟨1, Lx.pack [111, 110, 101], (0 : Nat)⟩, ⟨3, Lx.pack [60, 61], (3 : Nat)⟩, ⟨1, Lx.pack [116, 119, 111], (5 : Nat)⟩, ⟨0, ByteArray.empty, (12 : Nat)⟩]
theorem alive_lex : Lx.lex aliveS = (aliveL, 0, 0) := by rfl
theorem alive_join : Lx.joined aliveL = { data := #[111, 110, 101, 32, 60, 61, 32, 116, 119, 111] } := by rfl

set_option maxRecDepth 100000 in
set_option maxHeartbeats 4000000 in
theorem lexAlive_any (w : World) : Calls Try.prog 5 #[] w fun e w' => e = .returned (.bool true) ∧ Below w.heap.size w w' := by
  have hcall := lex_any { data := #[111, 110, 101, 60, 61, 116, 119, 111, 32, 35, 32, 99] } w (by decide)
  rw [show ({ data := #[111, 110, 101, 60, 61, 116, 119, 111, 32, 35, 32, 99] } : ByteArray).data.toList = aliveS from rfl, alive_lex] at hcall
  have HC := Lib.hid hcall
  clear hcall
  go_enter Try.func5, Try.ntmps5
  go_wp2_with (fail)
  refine HC.out.mono ?_
  rintro e w1 ⟨v, rfl, ⟨A, c, hv, hrow, hcap⟩, hb⟩
  rw [show aliveL.length = 4 from rfl] at hv
  subst hv
  obtain ⟨ad, t, rfl, hadb, ht, -, c1, -⟩ := trow_at (k := 1) hrow (by decide)
  have e1 : t = ⟨3, Lx.pack [60, 61], (3 : Nat)⟩ := by injection ht with ht; exact ht.symm
  subst e1
  have hc : w1.cell? ⟨ad.block, ad.off + 3 + 1, none⟩ = some (.string { data := #[60, 61] }) := c1
  have hj : Calls Try.prog 6 #[.slice (some ad) 4 c] w1 fun e w' => e = .returned (.string (Lx.joined aliveL)) ∧ Below w1.heap.size w1 w' := lexJoin_any c aliveL w1 hrow (by decide) (by rw [alive_join]; decide)
  rw [alive_join] at hj
  have HJ := Lib.hid hj
  have HB := Lib.hid hb
  clear hj hb ht hrow c1
  go_wp2_with (fail)
  refine HJ.out.mono ?_
  rintro e w2 ⟨rfl, hb2⟩
  have HB2 := Lib.hid hb2
  clear hb2
  go_wp2
  go_ret
  exact ⟨rfl, HB.out.trans (HB2.out.mono HB.out.size)⟩
end Go.Proofs.Ytimokabdkkboeaa
