/- Walks of take (any number), whole, sorts, and Text. -/
import Derived.Test.YtflagbglbhmheaaDoorShoH
import Derived.Test.YtflagbglbhmheaaDoorRulJ
namespace Go.Proofs.YtflagbglbhmheaaDoor
set_option maxRecDepth 100000
open Go.RowKit Go.Shelf

theorem take_any {R : Nat} {vc vl : Value} {p q : Sh.Two} (n : Int) (w : World) (hw : Wds w) (hR0 : 0 < R) (h : PP R vc vl p.1 p.2 w) (hs : Sh.pstep p n = some q) (hz : Sh.size2 p ≤ 100000) : Calls Tryd.prog 16 #[.pointer (some ⟨R, 0, none⟩), .int .i64 n] w (Taken R q w) := by
  obtain ⟨cs, ls⟩ := p
  dsimp only at h
  have hz1 : Sh.wts cs + Sh.wts ls ≤ 100000 := hz
  have hc1 := Sh.wts_len cs
  have hl1 := Sh.wts_len ls
  unfold Sh.pstep at hs
  split at hs
  · rename_i hn
    injection hs with hs
    subst hs
    obtain ⟨m, rfl⟩ : ∃ m : Nat, n = m := ⟨n.toNat, by omega⟩
    exact take_leafC m (by omega) w hw h (show cs.length ≤ 100000 by omega)
  · split at hs
    · rename_i hn
      injection hs with hs
      subst hs
      obtain ⟨m, rfl⟩ : ∃ m : Nat, n = m := ⟨n.toNat, by omega⟩
      exact take_leafL m (by omega) w hw h (show ls.length ≤ 100000 by omega)
    · split at hs
      · rename_i hn
        obtain ⟨⟨l0, x, y⟩, h1, h2⟩ := Option.map_eq_some_iff.1 hs
        subst h2
        have e := Sh.two_some h1
        dsimp only at e h1 ⊢
        subst e
        simp only [Sh.wts_snoc] at hz1
        have := Sh.wts_len l0
        obtain ⟨m, rfl⟩ : ∃ m : Nat, n = m := ⟨n.toNat, by omega⟩
        exact take_ofC x y m (by omega) w hw hR0 h (by omega) (by omega) (by omega)
      · split at hs
        · rename_i hn
          subst hn
          obtain ⟨⟨l0, x, y⟩, h1, h2⟩ := Option.map_eq_some_iff.1 hs
          subst h2
          have e := Sh.two_some h1
          dsimp only at e h1 ⊢
          subst e
          simp only [Sh.wts_snoc] at hz1
          have := Sh.wts_len l0
          exact take_flows x y w hw hR0 h (by omega) (by omega) (by omega) (by omega)
        · split at hs
          · rename_i hn
            obtain ⟨⟨l0, x, y⟩, h1, h2⟩ := Option.map_eq_some_iff.1 hs
            subst h2
            have e := Sh.two_some h1
            dsimp only at e h1 ⊢
            subst e
            simp only [Sh.wts_snoc] at hz1
            have := Sh.wts_len l0
            obtain ⟨m, rfl⟩ : ∃ m : Nat, n = m := ⟨n.toNat, by omega⟩
            exact take_ofL x y m (by omega) w hw hR0 h (by omega) (by omega) (by omega)
          · cases hs
/-- What a thing that is left tells: its text, and an error. -/
def Sh.tells (t : Sh.Th) : ByteArray × Nat := if 12 < t.d then (ByteArray.empty, 5) else (t.s, 0)
def Wrote (w : World) (r : ByteArray × Nat) (e : Ending) (w' : World) : Prop := e = .returned (.tuple #[.string r.1, .int .i64 r.2]) ∧ Below w.heap.size w w'
theorem wholeC_any {base : Nat} {v : Value} (t : Sh.Th) (w : World) (h : w.ownsRow base 73 3 v 1 (thcells [t])) : Calls Tryd.prog 17 #[v] w (Wrote w (Sh.tells t)) := by
  obtain ⟨g, cap, rfl, -⟩ := own_addr3 h (by decide)
  have c0 := own_cell3 h (j := 0) (u := .string t.s) rfl
  have c2 := own_cell3 h (j := 2) (u := .int .i64 t.d) rfl
  obtain ⟨s, b, d⟩ := t
  dsimp only at c0 c2
  clear h
  unfold Sh.tells Wrote
  dsimp only
  by_cases hd : 12 < d
  · rw [if_pos hd]
    go_enter Tryd.func17, Tryd.ntmps17
    go_wp2
    go_ret2
    exact ⟨rfl, Below.refl _ _⟩
  · rw [if_neg hd]
    go_enter Tryd.func17, Tryd.ntmps17
    go_wp2
    go_ret2
    exact ⟨rfl, Below.refl _ _⟩
theorem wholeL_any {base : Nat} {v : Value} (t : Sh.Th) (w : World) (h : w.ownsRow base 77 3 v 1 (thcells [t])) : Calls Tryd.prog 18 #[v] w (Wrote w (Sh.tells t)) := by
  obtain ⟨g, cap, rfl, -⟩ := own_addr3 h (by decide)
  have c0 := own_cell3 h (j := 0) (u := .string t.s) rfl
  have c2 := own_cell3 h (j := 2) (u := .int .i64 t.d) rfl
  obtain ⟨s, b, d⟩ := t
  dsimp only at c0 c2
  clear h
  unfold Sh.tells Wrote
  dsimp only
  by_cases hd : 12 < d
  · rw [if_pos hd]
    go_enter Tryd.func18, Tryd.ntmps18
    go_wp2
    go_ret2
    exact ⟨rfl, Below.refl _ _⟩
  · rw [if_neg hd]
    go_enter Tryd.func18, Tryd.ntmps18
    go_wp2
    go_ret2
    exact ⟨rfl, Below.refl _ _⟩
theorem sorts_any {A : Option Addr} {rule : List Int} (c : Nat) (w : World) (h : Row w w.heap.size A (ints rule)) (hl : rule.length ≤ 1000000) : Calls Tryd.prog 15 #[.slice A rule.length c] w fun e w' => e = .returned (.tuple #[.bool (Rl.right rule false), .bool (Rl.right rule true)]) ∧ Below w.heap.size w w' := by
  have h1 := right_any c false w h hl
  have h2 : ∀ W, Below w.heap.size w W → Calls Tryd.prog 12 #[.slice A rule.length c, .bool true] W (Tells W (Rl.right rule true)) := fun W hb => right_any c true W ((h.below hb).more hb.size) hl
  have H1 := Lib.hid h1
  have H2 := Lib.hid h2
  clear h1 h2 h
  generalize Rl.right rule false = r1 at *
  generalize Rl.right rule true = r2 at *
  generalize rule.length = n at *
  go_enter Tryd.func15, Tryd.ntmps15
  go_wp2_with (fail)
  refine H1.out.mono ?_
  rintro e w1 ⟨rfl, hb1⟩
  have HB1 := Lib.hid hb1
  clear hb1
  go_wp2_with (fail)
  refine (H2.out _ HB1.out).mono ?_
  rintro e w2 ⟨rfl, hb2⟩
  have HB2 := Lib.hid (HB1.out.trans (hb2.mono HB1.out.size))
  clear hb2
  go_wp2
  go_ret2
  exact ⟨rfl, HB2.out⟩
theorem text_no {A : Option Addr} {rule : List Int} (c : Nat) (w : World) (h : Row w w.heap.size A (ints rule)) (hl : rule.length ≤ 1000000) (h1 : Rl.right rule false = false) (h2 : Rl.right rule true = false) : Calls Tryd.prog 6 #[.slice A rule.length c] w (Wrote w (ByteArray.empty, 1)) := by
  have hs := sorts_any c w h hl
  rw [h1, h2] at hs
  have HS := Lib.hid hs
  clear hs h h1 h2
  generalize rule.length = n at *
  go_enter Tryd.func6, Tryd.ntmps6
  go_wp2_with (fail)
  refine HS.out.mono ?_
  rintro e w1 ⟨rfl, hb1⟩
  have HB1 := Lib.hid hb1
  clear hb1
  go_wp2
  go_ret2
  exact ⟨rfl, HB1.out⟩
/-- What holds at the head of Text's rounds. -/
structure TextAt (w : World) (R : Nat) (rule : List Int) (k : Nat) (q : Sh.Two) (W : World) : Prop where
  own : ∃ vc vl, PP R vc vl q.1 q.2 W
  below : Below w.heap.size w W
  go : Sh.pmach ([], []) rule = Sh.pmach q (rule.drop k)
  size : Sh.size2 q ≤ 13 * k
theorem pmach_on {rule : List Int} {q f : Sh.Two} {k : Nat} (hk : k < rule.length) (h : Sh.pmach q (rule.drop k) = some f) : ∃ r, Sh.pstep q rule[k] = some r ∧ Sh.pmach q (rule.drop k) = Sh.pmach r (rule.drop (k + 1)) := by
  rw [List.drop_eq_getElem_cons hk] at h ⊢
  simp only [Sh.pmach] at h ⊢
  cases hs : Sh.pstep q rule[k] with
  | none => rw [hs] at h; cases h
  | some r => exact ⟨r, rfl, rfl⟩
set_option maxHeartbeats 4000000 in
theorem text_tree {A : Option Addr} (t : Sh.Tree) (b : Bool) (ht : Sh.Ok b t) (c : Nat) (w : World) (h : Row w w.heap.size A (ints (Sh.post t))) (hl : (Sh.post t).length ≤ 40) (hw : Wds w) : Calls Tryd.prog 6 #[.slice A (Sh.post t).length c] w (Wrote w (Sh.tells (Sh.thOf t))) := by
  have hs := sorts_any c w h (by omega)
  obtain ⟨hr1, hr2⟩ := Rl.right_of (Sh.tree_seg t b ht) hl
  have hmach := Sh.pmach_post t b ([], []) ht
  have HW := Lib.hid hw
  have H := Lib.hid h
  generalize Sh.post t = rule at *
  generalize Sh.thOf t = th at *
  have hw0 := hw.lt
  cases b
  · rw [hr1, show Rl.right rule true = false from hr2] at hs
    have hmach2 : Sh.pmach ([], []) rule = some ([th], []) := hmach
    have HM := Lib.hid hmach2
    have HS := Lib.hid hs
    clear hs hr1 hr2 hmach hmach2 hw h
    go_enter Tryd.func6, Tryd.ntmps6
    go_wp2_with (fail)
    refine HS.out.mono ?_
    rintro e w1 ⟨rfl, hb1⟩
    have HB1 := Lib.hid hb1
    have hsz1 := hb1.size
    clear hb1
    go_wp2
    go_loopw [22] (fun i wr => ∃ (k : Nat) (q : Sh.Two), k ≤ rule.length ∧ i = .int .i64 k ∧ Hid (TextAt w w1.heap.size rule k q wr)) (fun i _ => rule.length - (intOf i).toNat)
    case atStart =>
      refine ⟨0, ([], []), Nat.zero_le _, rfl, ⟨⟨.slice none 0 0, .slice none 0 0, ⟨Blk.new w1 45 #[.slice none 0 0, .slice none 0 0], World.ownsRow_nil _ _ _ _, World.ownsRow_nil _ _ _ _, fun k hk => by cases hk⟩⟩, HB1.out.alloc HB1.out.size _, rfl, Nat.zero_le _⟩⟩
    case round =>
      obtain ⟨k, q, hk, rfl, HK⟩ := hrel
      by_cases hlt : k < rule.length
      · obtain ⟨ad, hA, hb, c0⟩ := irow_at (H.out.below HK.out.below) hlt
        obtain ⟨vc, vl, hpp⟩ := HK.out.own
        obtain ⟨r, hst, hgo⟩ := pmach_on hlt (HK.out.go.symm.trans HM.out)
        have htk := take_any rule[k] wr (HW.out.below HK.out.below hw0) (show 0 < w1.heap.size by omega) hpp hst (by have := HK.out.size; omega)
        have hz := Sh.pstep_size hst
        have HTK := Lib.hid htk
        have HG := Lib.hid (HK.out.go.trans hgo)
        have HZ := Lib.hid (show Sh.size2 r ≤ 13 * (k + 1) by have := HK.out.size; omega)
        rw [hA]
        clear htk hpp hst hgo hz hA
        generalize rule[k] = x at *
        go_wp2_with (fail)
        refine HTK.out.mono ?_
        rintro e w2 ⟨⟨u, rfl⟩, hp2, hb2⟩
        have hnx : TextAt w w1.heap.size rule (k + 1) r w2 := ⟨hp2, HK.out.below.trans (hb2.mono hsz1), HG.out, HZ.out⟩
        have HNX := Lib.hid hnx
        clear hp2 hb2 hnx
        go_wp2
        go_roundw
        case rel => exact ⟨k + 1, r, by omega, by go_num, HNX⟩
        case measure => simp [intOf]; omega
      · obtain rfl : k = rule.length := by omega
        have hgo := HK.out.go
        rw [List.drop_length, HM.out] at hgo
        injection hgo with hgo
        subst hgo
        obtain ⟨vc, vl, hpp⟩ := HK.out.own
        have c0 : wr.cell? ⟨w1.heap.size, 0, none⟩ = some vc := by rw [hpp.blk.cell]; rfl
        have hwh := wholeC_any th wr hpp.oc
        have HWH := Lib.hid hwh
        have HBB := Lib.hid HK.out.below
        clear hpp hwh HK
        go_wp2_with (fail)
        refine HWH.out.mono ?_
        rintro e w2 ⟨rfl, hb2⟩
        have HB2 := Lib.hid (HBB.out.trans (hb2.mono HBB.out.size))
        clear hb2
        go_wp2
        go_ret2
        exact ⟨rfl, HB2.out⟩
  · rw [hr1, show Rl.right rule false = false from hr2] at hs
    have hmach2 : Sh.pmach ([], []) rule = some ([], [th]) := hmach
    have HM := Lib.hid hmach2
    have HS := Lib.hid hs
    clear hs hr1 hr2 hmach hmach2 hw h
    go_enter Tryd.func6, Tryd.ntmps6
    go_wp2_with (fail)
    refine HS.out.mono ?_
    rintro e w1 ⟨rfl, hb1⟩
    have HB1 := Lib.hid hb1
    have hsz1 := hb1.size
    clear hb1
    go_wp2
    go_loopw [22] (fun i wr => ∃ (k : Nat) (q : Sh.Two), k ≤ rule.length ∧ i = .int .i64 k ∧ Hid (TextAt w w1.heap.size rule k q wr)) (fun i _ => rule.length - (intOf i).toNat)
    case atStart =>
      refine ⟨0, ([], []), Nat.zero_le _, rfl, ⟨⟨.slice none 0 0, .slice none 0 0, ⟨Blk.new w1 45 #[.slice none 0 0, .slice none 0 0], World.ownsRow_nil _ _ _ _, World.ownsRow_nil _ _ _ _, fun k hk => by cases hk⟩⟩, HB1.out.alloc HB1.out.size _, rfl, Nat.zero_le _⟩⟩
    case round =>
      obtain ⟨k, q, hk, rfl, HK⟩ := hrel
      by_cases hlt : k < rule.length
      · obtain ⟨ad, hA, hb, c0⟩ := irow_at (H.out.below HK.out.below) hlt
        obtain ⟨vc, vl, hpp⟩ := HK.out.own
        obtain ⟨r, hst, hgo⟩ := pmach_on hlt (HK.out.go.symm.trans HM.out)
        have htk := take_any rule[k] wr (HW.out.below HK.out.below hw0) (show 0 < w1.heap.size by omega) hpp hst (by have := HK.out.size; omega)
        have hz := Sh.pstep_size hst
        have HTK := Lib.hid htk
        have HG := Lib.hid (HK.out.go.trans hgo)
        have HZ := Lib.hid (show Sh.size2 r ≤ 13 * (k + 1) by have := HK.out.size; omega)
        rw [hA]
        clear htk hpp hst hgo hz hA
        generalize rule[k] = x at *
        go_wp2_with (fail)
        refine HTK.out.mono ?_
        rintro e w2 ⟨⟨u, rfl⟩, hp2, hb2⟩
        have hnx : TextAt w w1.heap.size rule (k + 1) r w2 := ⟨hp2, HK.out.below.trans (hb2.mono hsz1), HG.out, HZ.out⟩
        have HNX := Lib.hid hnx
        clear hp2 hb2 hnx
        go_wp2
        go_roundw
        case rel => exact ⟨k + 1, r, by omega, by go_num, HNX⟩
        case measure => simp [intOf]; omega
      · obtain rfl : k = rule.length := by omega
        have hgo := HK.out.go
        rw [List.drop_length, HM.out] at hgo
        injection hgo with hgo
        subst hgo
        obtain ⟨vc, vl, hpp⟩ := HK.out.own
        have c0 : wr.cell? ⟨w1.heap.size, 1, none⟩ = some vl := by rw [hpp.blk.cell]; rfl
        have hwh := wholeL_any th wr hpp.ol
        have HWH := Lib.hid hwh
        have HBB := Lib.hid HK.out.below
        clear hpp hwh HK
        go_wp2_with (fail)
        refine HWH.out.mono ?_
        rintro e w2 ⟨rfl, hb2⟩
        have HB2 := Lib.hid (HBB.out.trans (hb2.mono HBB.out.size))
        clear hb2
        go_wp2
        go_ret2
        exact ⟨rfl, HB2.out⟩
end Go.Proofs.YtflagbglbhmheaaDoor
