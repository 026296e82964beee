/- The reference's tables: Op and mark. -/
import Derived.Test.YtipbilmnknmhmaaGreatDoorGRefC
import Derived.Test.YtipbilmnknmhmaaGreatDoorGShoA
namespace Go.Proofs.YtipbilmnknmhmaaGreatDoor
set_option maxRecDepth 100000
open Go.RowKit Go.Shelf
attribute [local go_sem] Oper.semAt_some

theorem find_is {s : ByteArray} {k : Nat} (hk : k < 13) (h : Tb.word k = s) : Tb.find s = some k := by rw [← h]; exact Tb.find_word hk
theorem find_not {s : ByteArray} (h : ∀ j, j < 13 → Tb.word j ≠ s) : Tb.find s = none := by
  unfold Tb.find
  rw [List.find?_eq_none]
  intro x hx
  rw [List.mem_range] at hx
  simpa using h x hx
/-- What Op answers. -/
def opIx : Option Nat → Int
  | some k => k
  | none => -1
def TellsZ (w : World) (n : Int) (e : Ending) (w' : World) : Prop := e = .returned (.int .i64 n) ∧ Below w.heap.size w w'
theorem retz {a b : Int} (h : a = b) : Ending.returned (.int .i64 a) = .returned (.int .i64 b) := by rw [h]
set_option maxHeartbeats 4000000 in
theorem rOp_any (s : ByteArray) (w : World) : Calls Tryz.prog 119 #[.string s] w (TellsZ w (opIx (Tb.find s))) := by
  have HA := Lib.hid (fun k (hk : k < 13) W => rIWord_any k hk W)
  obtain ⟨res, hres⟩ : ∃ res, opIx (Tb.find s) = res := ⟨_, rfl⟩
  rw [hres]
  have HRES := Lib.hid hres
  clear hres
  go_enter Tryz.func119, Tryz.ntmps119
  go_wp2
  go_loopw [3] (fun i wr => ∃ k : Nat, k ≤ 13 ∧ i = .int .i64 k ∧ Hid (∀ j : Nat, j < k → Tb.word j ≠ s) ∧ Hid (Below w.heap.size w wr)) (fun i _ => 13 - (intOf i).toNat)
  case atStart => exact ⟨0, by decide, rfl, Lib.hid (fun j h1 => absurd h1 (by omega)), Lib.hid (Below.refl _ _)⟩
  case round =>
    obtain ⟨k, hk, rfl, HK, HB⟩ := hrel
    by_cases hlt : k < 13
    · have HC := Lib.hid (HA.out k hlt wr)
      obtain ⟨x, hx⟩ : ∃ x, Tb.word k = x := ⟨_, rfl⟩
      rw [hx] at HC
      have HX := Lib.hid hx
      clear hx
      by_cases he : x = s
      · subst he
        have HF := Lib.hid (show (k : Int) = res by rw [← HRES.out, find_is hlt HX.out]; rfl)
        have hbe : (x.toList == x.toList) = true := by simp
        go_wp2_with (fail)
        refine HC.out.mono ?_
        rintro e w2 ⟨rfl, hb2⟩
        have HB2 := Lib.hid (HB.out.trans (hb2.mono HB.out.size))
        clear hb2
        go_wp2
        go_ret
        exact ⟨retz HF.out, HB2.out⟩
      · have hbe : (x.toList == s.toList) = false := by rw [str_beq, decide_eq_false_iff_not]; exact he
        have HE := Lib.hid he
        clear he
        go_wp2_with (fail)
        refine HC.out.mono ?_
        rintro e w2 ⟨rfl, hb2⟩
        have HB2 := Lib.hid (HB.out.trans (hb2.mono HB.out.size))
        clear hb2
        go_wp2
        go_roundw
        case rel => exact ⟨k + 1, by omega, by go_num, Lib.hid fun j h1 => by
          by_cases e : j = k
          · subst e; rw [HX.out]; exact HE.out
          · exact HK.out j (by omega), HB2⟩
        case measure => simp [intOf]; omega
    · obtain rfl : k = 13 := by omega
      have HT := Lib.hid (show (-1 : Int) = res by rw [← HRES.out, find_not HK.out]; rfl)
      go_wp2
      go_ret
      exact ⟨retz HT.out, HB.out⟩
section
variable {A A0 A1 A2 : Option Addr} {l : List Lx.Tk} {c i n0 c0 n1 c1 n2 c2 : Nat}
end
end Go.Proofs.YtipbilmnknmhmaaGreatDoor
