/- The walk of take: one number of a rule. -/
import Derived.Test.YtflagbglbhmheaaDoorShoG
namespace Go.Proofs.YtflagbglbhmheaaDoor
set_option maxRecDepth 100000
open Go.RowKit Go.Shelf

theorem Wds.drew {w : World} (h : Wds w) : Wds w.drew := h
/-- What take leaves. -/
def Taken (R : Nat) (p : Sh.Two) (w : World) (e : Ending) (w' : World) : Prop := (∃ u, e = .returned u) ∧ (∃ vc vl, PP R vc vl p.1 p.2 w') ∧ Below R w w'
section
variable {R : Nat} {vc vl : Value} {cs ls : List Sh.Th}
set_option maxHeartbeats 4000000 in
theorem take_leafC (n : Nat) (hn : n = 1 ∨ n = 2) (w : World) (hw : Wds w) (h : PP R vc vl cs ls w) (hl : cs.length ≤ 100000) : Calls Tryd.prog 16 #[.pointer (some ⟨R, 0, none⟩), .int .i64 n] w (Taken R (cs ++ [Sh.one n], ls) w) := by
  have ha : ∀ W, Wds W → Calls Tryd.prog 28 #[.int .i64 n] W (Gives W (Sh.one n)) := fun W hW => aloneC_any n (by omega) (by omega) W hW
  have hp := fun (t : Sh.Th) W (hW : PP R vc vl cs ls W) => putC_any t W hW (by omega)
  have HA := Lib.hid ha
  have HP := Lib.hid hp
  have HW := Lib.hid hw
  have H := Lib.hid h
  have hlt := h.lt
  clear ha hp hw h hl
  rcases hn with rfl | rfl
  all_goals
    go_enter Tryd.func16, Tryd.ntmps16
    go_wp2
    go_region_with (first | (go_at_call 28; refine (HA.out _ HW.out.drew).mono ?_; rintro e w1 ⟨rfl, hb1⟩) | (go_at_call 27; refine (HP.out _ _ (H.out.kept ((Below.refl _ _).drew.trans hb1))).mono ?_; rintro e w2 ⟨⟨u, rfl⟩, ⟨v2, hp2⟩, hb2⟩))
    all_goals go_wp2
    all_goals
      go_returns
      exact ⟨⟨_, rfl⟩, ⟨_, _, hp2⟩, ((Below.refl _ _).drew.trans (hb1.mono (Nat.le_of_lt hlt))).trans hb2⟩
set_option maxHeartbeats 4000000 in
theorem take_leafL (n : Nat) (hn : n = 6 ∨ n = 7 ∨ n = 8 ∨ n = 9 ∨ n = 10 ∨ n = 11) (w : World) (hw : Wds w) (h : PP R vc vl cs ls w) (hl : ls.length ≤ 100000) : Calls Tryd.prog 16 #[.pointer (some ⟨R, 0, none⟩), .int .i64 n] w (Taken R (cs, ls ++ [Sh.one n]) w) := by
  have ha : ∀ W, Wds W → Calls Tryd.prog 34 #[.int .i64 n] W (Gives W (Sh.one n)) := fun W hW => aloneL_any n (by omega) (by omega) W hW
  have hp := fun (t : Sh.Th) W (hW : PP R vc vl cs ls W) => putL_any t W hW (by omega)
  have HA := Lib.hid ha
  have HP := Lib.hid hp
  have HW := Lib.hid hw
  have H := Lib.hid h
  have hlt := h.lt
  clear ha hp hw h hl
  rcases hn with rfl | rfl | rfl | rfl | rfl | rfl
  all_goals
    go_enter Tryd.func16, Tryd.ntmps16
    go_wp2
    go_region_with (first | (go_at_call 34; refine (HA.out _ HW.out.drew).mono ?_; rintro e w1 ⟨rfl, hb1⟩) | (go_at_call 33; refine (HP.out _ _ (H.out.kept ((Below.refl _ _).drew.trans hb1))).mono ?_; rintro e w2 ⟨⟨u, rfl⟩, ⟨v2, hp2⟩, hb2⟩))
    all_goals go_wp2
    all_goals
      go_returns
      exact ⟨⟨_, rfl⟩, ⟨_, _, hp2⟩, ((Below.refl _ _).drew.trans (hb1.mono (Nat.le_of_lt hlt))).trans hb2⟩
set_option maxHeartbeats 4000000 in
theorem take_ofC (x y : Sh.Th) (n : Nat) (hn : n = 3 ∨ n = 4) (w : World) (hw : Wds w) (hR0 : 0 < R) (h : PP R vc vl (cs ++ [x] ++ [y]) ls w) (hx : Sh.wt x ≤ 100000) (hy : Sh.wt y ≤ 100000) (hl : cs.length ≤ 100000) :
    Calls Tryd.prog 16 #[.pointer (some ⟨R, 0, none⟩), .int .i64 n] w (Taken R (cs ++ [Sh.btw (Sh.brL n { data := #[40] } { data := #[41] } x) n (Sh.brR n { data := #[40] } { data := #[41] } y)], ls) w) := by
  have ho := ofC_any x y n { data := #[40] } { data := #[41] } (by omega) (by omega) (by decide) (by decide) hx hy w hw hR0 h hl
  have HO := Lib.hid ho
  clear ho hw h hx hy hl hR0
  rcases hn with rfl | rfl
  all_goals
    go_enter Tryd.func16, Tryd.ntmps16
    go_wp2_with (fail)
    refine HO.out.mono ?_
    rintro e w2 ⟨⟨u, rfl⟩, ⟨v2, hp2⟩, hb2⟩
    go_wp2
    go_returns
    exact ⟨⟨_, rfl⟩, ⟨_, _, hp2⟩, hb2⟩
set_option maxHeartbeats 4000000 in
theorem take_ofL (x y : Sh.Th) (n : Nat) (hn : n = 12 ∨ n = 13) (w : World) (hw : Wds w) (hR0 : 0 < R) (h : PP R vc vl cs (ls ++ [x] ++ [y]) w) (hx : Sh.wt x ≤ 100000) (hy : Sh.wt y ≤ 100000) (hl : ls.length ≤ 100000) :
    Calls Tryd.prog 16 #[.pointer (some ⟨R, 0, none⟩), .int .i64 n] w (Taken R (cs, ls ++ [Sh.btw (Sh.brL n { data := #[91] } { data := #[93] } x) n (Sh.brR n { data := #[91] } { data := #[93] } y)]) w) := by
  have ho := ofL_any x y n { data := #[91] } { data := #[93] } (by omega) (by omega) (by decide) (by decide) hx hy w hw hR0 h hl
  have HO := Lib.hid ho
  clear ho hw h hx hy hl hR0
  rcases hn with rfl | rfl
  all_goals
    go_enter Tryd.func16, Tryd.ntmps16
    go_wp2_with (fail)
    refine HO.out.mono ?_
    rintro e w2 ⟨⟨u, rfl⟩, ⟨v2, hp2⟩, hb2⟩
    go_wp2
    go_returns
    exact ⟨⟨_, rfl⟩, ⟨_, _, hp2⟩, hb2⟩
set_option maxHeartbeats 4000000 in
theorem take_flows (x y : Sh.Th) (w : World) (hw : Wds w) (hR0 : 0 < R) (h : PP R vc vl cs (ls ++ [x] ++ [y]) w) (hx : Sh.wt x ≤ 100000) (hy : Sh.wt y ≤ 100000) (hl : ls.length ≤ 100000) (hl2 : cs.length ≤ 100000) :
    Calls Tryd.prog 16 #[.pointer (some ⟨R, 0, none⟩), .int .i64 5] w (Taken R (cs ++ [Sh.btw x 5 y], ls) w) := by
  have htk := takeL_any x y w h (by omega)
  have hbt : ∀ W, Wds W → Calls Tryd.prog 31 #[thv x, .int .i64 5, thv y] W (Gives W (Sh.btw x 5 y)) := fun W hW => btwM_any x y 5 (by decide) (by decide) (by omega) (by omega) W hW
  have hp := fun (t : Sh.Th) vc vl W (hW : PP R vc vl cs ls W) => putC_any t W hW (by omega)
  have HTK := Lib.hid htk
  have HBT := Lib.hid hbt
  have HP := Lib.hid hp
  have HW := Lib.hid hw
  clear htk hbt hp hw h hl hl2 hx hy
  go_enter Tryd.func16, Tryd.ntmps16
  go_wp2_with (fail)
  refine HTK.out.mono ?_
  rintro e w1 ⟨rfl, ⟨v1, hp1⟩, hb1⟩
  have hs := XY.start w1 77 x y 1
  have HS := Lib.hid hs
  have HP1 := Lib.hid hp1
  have HWW := Lib.hid (HW.out.below (hb1.trans (hs.below.mono (Nat.le_of_lt hp1.lt))) hR0)
  have HB1 := Lib.hid hb1
  have hsz := hs.below.size
  clear hs hp1 hb1
  unfold thv at HBT ⊢
  go_wp2
  go_region_with (first | (go_at_call 31; refine (HBT.out _ HWW.out).mono ?_; rintro e w3 ⟨rfl, hb3⟩) | (go_at_call 27; refine (HP.out (Sh.btw x 5 y) _ _ w3 (HP1.out.kept (HS.out.below.trans (hb3.mono hsz)))).mono ?_; rintro e w2 ⟨⟨u, rfl⟩, ⟨v2, hp2⟩, hb2⟩))
  all_goals go_wp2
  all_goals
    go_returns
    exact ⟨⟨_, rfl⟩, ⟨_, _, hp2⟩, HB1.out.trans (((HS.out.below.trans (hb3.mono hsz)).mono (Nat.le_of_lt HP1.out.lt)).trans hb2)⟩
end
end Go.Proofs.YtflagbglbhmheaaDoor
