/- The walk of package draw's take. -/
import Derived.Test.YtmgaaejghfgbnaaDrwA
namespace Go.Proofs.Ytmgaaejghfgbnaa
set_option maxRecDepth 100000
open Go.RowKit Go.Shelf
attribute [local go_sem] Oper.semAt_some

/-- What take answers: the error, and the draws behind it. -/
def Took13 (w : World) (B G n m : Nat) (list log : List Int) (i : Nat) (A : Option Addr) (c : Nat) (b : Int) (e : Ending) (w' : World) : Prop :=
  if b < 1 then e = .returned (.int .i64 1) ∧ w = w' else if m = 2000 then e = .returned (.int .i64 8) ∧ w = w' else
    e = .returned (.int .i64 0) ∧ ∃ L' d', Drws w' B G n (m + 1) list (log ++ [Dr.choice list i b]) (Dr.next list i) A c L' d' ∧ Below B w w'
set_option maxHeartbeats 2000000 in
theorem take13_any {w : World} {B G n m : Nat} {list log : List Int} {i : Nat} {A : Option Addr} {c : Nat} {L : Option Addr} {d : Nat} (b : Int) (h : Drws w B G n m list log i A c L d) (_ : n ≤ 1000000) (hi : i ≤ 9223372036854775807) (hm : m ≤ 2000) (hB : b < 9223372036854775808) :
    Calls Try.prog 39 #[.pointer (some ⟨G, 0, none⟩), .int .i64 b] w (Took13 w B G n m list log i A c b) := by
  have q0 : w.cell? ⟨G, 0, none⟩ = some (.slice A n c) := h.box.cell 0
  have q1 : w.cell? ⟨G, 1, none⟩ = some (.int .i64 (i : Int)) := h.box.cell 1
  have q2 : w.cell? ⟨G, 2, none⟩ = some (.slice L m d) := h.box.cell 2
  have f1 := h.box.frozen 1
  have f2 := h.box.frozen 2
  unfold Took13
  by_cases hb : b < 1
  · have hl : decide (b < 1) = true := decide_eq_true hb
    simp only [if_pos hb]
    clear h hi hB hb
    go_enter Try.func39, Try.ntmps39
    go_wp2
    go_ret
    exact ⟨rfl, rfl⟩
  · have hl : decide (b < 1) = false := decide_eq_false hb
    simp only [if_neg hb]
    by_cases hm2 : m = 2000
    · subst hm2
      simp only [if_pos]
      clear h hi hB hb
      go_enter Try.func39, Try.ntmps39
      go_wp2
      go_ret
      exact ⟨rfl, rfl⟩
    · simp only [if_neg hm2]
      have hmz : ((m : Int) == 2000) = false := by rw [beq_eq_false_iff_ne]; omega
      by_cases hlt : i < n
      · have hlen := h.len
        have hrow := (ownT_row h.la).1
        obtain ⟨ad, hA, hba, c0⟩ := irow_at hrow (show i < list.length by omega)
        have hx : list[i]? = some (list[i]'(by omega)) := List.getElem?_eq_getElem _
        have hch : Dr.choice list i b = (list[i]'(by omega)) % b := by unfold Dr.choice; rw [if_pos (by omega), List.getD_eq_getElem?_getD, hx]; rfl
        have hnx : Dr.next list i = i + 1 := by unfold Dr.next; rw [if_pos (by omega)]
        rw [hch, hnx]
        generalize list[i]'(by omega) = x at *
        obtain ⟨y, hy⟩ : ∃ y, x % b = y := ⟨_, rfl⟩
        have hleft := fun W => left13_any x b (by omega) hB W
        rw [hy] at hleft ⊢
        have hp := fun N => ((h.drewN N).at_ (i + 1)).push y (by omega)
        simp only [World.size_setCell, Int.natCast_succ] at hp
        subst hA
        have HC := Lib.hid hleft
        have HP := Lib.hid hp
        have HBG := Lib.hid h.bg
        clear h hleft hp hrow hx hch hnx hy hlen hB hb
        go_enter Try.func39, Try.ntmps39
        go_wp2
        go_region
        go_wp2
        go_quiet (exact quiet_same2 (HC.out _))
        obtain ⟨L', d', W, hrun, hk, hb1, hD, hbD⟩ := HP.out (1 + nq)
        have k2 : W.cell? ⟨G, 2, none⟩ = some (.slice L m d) := hk.cell 2
        have k3 := hk.frozen 2
        have HRUN := Lib.hid hrun
        have HD := Lib.hid hD
        have HBD := Lib.hid (((below_drewN13 B w (1 + nq)).setCell (p := ⟨G, 1, none⟩) HBG.out (.int .i64 ((i : Int) + 1))).trans hbD)
        clear hrun hD hbD hb1 hk
        go_wp2_with (at_builtin; refine wpList_appD rfl _ _ 22 22 rfl _ _ rfl rfl _ _ HRUN.out ?_)
        go_wp2
        go_ret
        exact ⟨rfl, L', d', HD.out, HBD.out⟩
      · have hlen := h.len
        have hch : Dr.choice list i b = 0 := by unfold Dr.choice; rw [if_neg (by omega)]
        have hnx : Dr.next list i = i := by unfold Dr.next; rw [if_neg (by omega)]
        rw [hch, hnx]
        obtain ⟨L', d', W, hrun, hk, hb1, hD, hbD⟩ := h.drew.push 0 (by omega)
        have k2 : W.cell? ⟨G, 2, none⟩ = some (.slice L m d) := hk.cell 2
        have k3 := hk.frozen 2
        have HRUN := Lib.hid hrun
        have HD := Lib.hid hD
        have HBD := Lib.hid (((Below.refl B w).drew).trans hbD)
        clear h hrun hD hbD hb1 hk hch hnx hlen hB hb
        go_enter Try.func39, Try.ntmps39
        go_wp2
        go_region
        go_wp2_with (at_builtin; refine wpList_appD rfl _ _ 22 22 rfl _ _ rfl rfl _ _ HRUN.out ?_)
        go_wp2
        go_ret
        exact ⟨rfl, L', d', HD.out, HBD.out⟩
end Go.Proofs.Ytmgaaejghfgbnaa
