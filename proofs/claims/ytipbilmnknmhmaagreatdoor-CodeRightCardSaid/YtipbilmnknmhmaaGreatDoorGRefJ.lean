/- The reference's tables: Op and mark. -/
import Derived.Test.YtipbilmnknmhmaaGreatDoorGRefC
import Derived.Test.YtipbilmnknmhmaaGreatDoorGShoA
namespace Go.Proofs.YtipbilmnknmhmaaGreatDoor
set_option maxRecDepth 100000
open Go.RowKit Go.Shelf
attribute [local go_sem] Oper.semAt_some

theorem find_is {s : ByteArray} {k : Nat} (hk : k < 13) (h : Tb.word k = s) : Tb.find s = some k := by rw [← h]; exact Tb.find_word hk
theorem find_not {s : ByteArray} (h : ∀ j, j < 13 → Tb.word j ≠ s) : Tb.find s = none := by
  unfold Tb.find
  rw [List.find?_eq_none]
  intro x hx
  rw [List.mem_range] at hx
  simpa using h x hx
section
variable {A A0 A1 A2 : Option Addr} {l : List Lx.Tk} {c i n0 c0 n1 c1 n2 c2 : Nat}
end
end Go.Proofs.YtipbilmnknmhmaaGreatDoor
