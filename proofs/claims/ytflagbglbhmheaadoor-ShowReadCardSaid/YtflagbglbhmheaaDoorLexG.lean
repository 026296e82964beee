/- The walk of Lex. -/
import Derived.Test.YtflagbglbhmheaaDoorLexF
namespace Go.Proofs.YtflagbglbhmheaaDoor
set_option maxRecDepth 100000
open Go.RowKit Go.Shelf

/-- What Lex answers. -/
def LexRes (w : World) (r : List Lx.Tk × Nat × Nat) (e : Ending) (w' : World) : Prop :=
  ∃ v, e = .returned (.tuple #[v, .int .i64 (r.2.1 : Int), .int .i64 (r.2.2 : Int)]) ∧ IsToks w' w'.heap.size v r.1 ∧ Below w.heap.size w w'
theorem LexRes.none {w w' : World} (a n : Nat) (hb : Below w.heap.size w w') : LexRes w ([], a, n) (.returned (.tuple #[.slice none 0 0, .int .i64 (a : Int), .int .i64 (n : Int)])) w' := ⟨_, rfl, IsToks.nil _ _, hb⟩
theorem lex_long {s : List UInt8} (h : 2000 < s.length) : Lx.lex s = ([], 0, 8) := by unfold Lx.lex; rw [if_pos h]
theorem lex_bad {s : List UInt8} (h : s.length ≤ 2000) (h2 : (Lx.toks s.length s 0).2 < s.length) : Lx.lex s = ([], (Lx.toks s.length s 0).2, 4) := by unfold Lx.lex; rw [if_neg (by omega), if_pos h2]
theorem lex_many {s : List UInt8} (h : s.length ≤ 2000) (h2 : ¬ (Lx.toks s.length s 0).2 < s.length) (h3 : 200 < (Lx.toks s.length s 0).1.length + 1) : Lx.lex s = ([], 0, 8) := by unfold Lx.lex; rw [if_neg (by omega), if_neg h2, if_pos h3]
theorem lex_good {s : List UInt8} (h : s.length ≤ 2000) (h2 : ¬ (Lx.toks s.length s 0).2 < s.length) (h3 : (Lx.toks s.length s 0).1.length + 1 ≤ 200) : Lx.lex s = ((Lx.toks s.length s 0).1 ++ [⟨0, ByteArray.empty, ((Lx.toks s.length s 0).2 : Nat)⟩], 0, 0) := by unfold Lx.lex; rw [if_neg (by omega), if_neg h2, if_neg (by omega)]

set_option maxRecDepth 100000 in
set_option maxHeartbeats 4000000 in
theorem lex_any (s : ByteArray) (w : World) (hm : s.size ≤ maxLen) : Calls Tryd.prog 10 #[.string s] w (LexRes w (Lx.lex s.data.toList)) := by
  have HD : Hid (s.data.toList.length = s.size) := by unfold Hid; rw [← Lib.size_eq]
  unfold maxLen at hm
  by_cases hs : s.size ≤ 2000
  · have hcall := tokens_any s w hs
    have hlen := toks_le s.data.toList.length s.data.toList 0
    have hend := (Lx.toks_told s.data.toList s.data.toList.length 0 (Nat.zero_le _)).le
    rw [List.drop_zero] at hend
    obtain ⟨l, z, hT⟩ : ∃ l z, Lx.toks s.data.toList.length s.data.toList 0 = (l, z) := ⟨_, _, rfl⟩
    rw [hT] at hcall hlen hend
    dsimp only at hcall hlen hend
    rw [HD.out] at hlen hend
    have HT := Lib.hid hT
    have HC := Lib.hid hcall
    clear hT hcall
    obtain ⟨i0, hi, hz0, hz1, hz2⟩ := info_parts Tryd.infoTok
    by_cases hz : z < s.size
    · go_enter Tryd.func10, Tryd.ntmps10
      go_wp2_with (fail)
      refine HC.out.mono ?_
      rintro e w1 ⟨v, rfl, hown, hb⟩
      obtain ⟨A, c, rfl⟩ := ownT_slice hown
      have HB := Lib.hid hb
      clear hb hown
      go_wp2
      go_ret3
      rw [lex_bad (by rw [HD.out]; exact hs) (by rw [HT.out, HD.out]; exact hz), HT.out]
      exact LexRes.none z 4 HB.out
    · by_cases hl : l.length + 1 ≤ 200
      · go_enter Tryd.func10, Tryd.ntmps10
        go_wp2_with (fail)
        refine HC.out.mono ?_
        rintro e w1 ⟨v, rfl, hown, hb⟩
        have hsz1 := hb.size
        have HB := Lib.hid hb
        clear hb
        go_wp2_with (at_builtin; refine wpList_append_own _ rfl _ _ 29 rfl w.heap.size 58 i0 (.agg #[.int .i64 0, .string ByteArray.empty, .int .i64 0]) 3 32 Tryd.underlying29 hi hz0 hz1 hz2 rfl (by decide) _ _ _ rfl (hown.alloc _) ⟨w1.heap.size, 0, none⟩ 1 1 [.int .i64 0, .string ByteArray.empty, .int .i64 (z : Int)] rfl rfl ?c1 ?c2 ?c3 ?c4 ?c5 ?_)
        case c1 => exact cells_new _ _ _
        case c2 => simp [Value.oneCell']
        case c3 => unfold maxLen; omega
        case c4 => omega
        case c5 => simp; omega
        intro v' w' hown' hgrow _
        have hbw : Below w.heap.size w w' := (HB.out.alloc HB.out.size _).grown hgrow (by simp; omega) (fun k he => (hown.lt k he).1)
        have hown2 : w'.ownsRow w.heap.size 58 3 v' (l.length + 1) (tcells (l ++ [⟨0, ByteArray.empty, (z : Int)⟩])) := by rw [tcells_snoc]; exact hown'
        obtain ⟨A, c, rfl⟩ := ownT_slice hown2
        have HO := Lib.hid (ownT_row hown2)
        have HBW := Lib.hid hbw
        clear hown hown' hown2 hgrow hbw
        go_wp2
        go_ret3
        rw [lex_good (by rw [HD.out]; exact hs) (by rw [HT.out, HD.out]; exact hz) (by rw [HT.out]; exact hl), HT.out]
        exact ⟨_, rfl, ⟨A, c, by simp, HO.out.1, by simpa using HO.out.2⟩, HBW.out⟩
      · go_enter Tryd.func10, Tryd.ntmps10
        go_wp2_with (fail)
        refine HC.out.mono ?_
        rintro e w1 ⟨v, rfl, hown, hb⟩
        have hsz1 := hb.size
        have HB := Lib.hid hb
        clear hb
        go_wp2_with (at_builtin; refine wpList_append_own _ rfl _ _ 29 rfl w.heap.size 58 i0 (.agg #[.int .i64 0, .string ByteArray.empty, .int .i64 0]) 3 32 Tryd.underlying29 hi hz0 hz1 hz2 rfl (by decide) _ _ _ rfl (hown.alloc _) ⟨w1.heap.size, 0, none⟩ 1 1 [.int .i64 0, .string ByteArray.empty, .int .i64 (z : Int)] rfl rfl ?c1 ?c2 ?c3 ?c4 ?c5 ?_)
        case c1 => exact cells_new _ _ _
        case c2 => simp [Value.oneCell']
        case c3 => unfold maxLen; omega
        case c4 => omega
        case c5 => simp; omega
        intro v' w' hown' hgrow _
        have hbw : Below w.heap.size w w' := (HB.out.alloc HB.out.size _).grown hgrow (by simp; omega) (fun k he => (hown.lt k he).1)
        have hown2 : w'.ownsRow w.heap.size 58 3 v' (l.length + 1) (tcells (l ++ [⟨0, ByteArray.empty, (z : Int)⟩])) := by rw [tcells_snoc]; exact hown'
        obtain ⟨A, c, rfl⟩ := ownT_slice hown2
        have HO := Lib.hid (ownT_row hown2)
        have HBW := Lib.hid hbw
        clear hown hown' hown2 hgrow hbw
        go_wp2
        go_ret3
        rw [lex_many (by rw [HD.out]; exact hs) (by rw [HT.out, HD.out]; exact hz) (by rw [HT.out]; show 200 < l.length + 1; omega)]
        exact LexRes.none 0 8 HBW.out
  · go_enter Tryd.func10, Tryd.ntmps10
    go_wp2
    go_ret3
    rw [lex_long (by rw [HD.out]; omega)]
    exact LexRes.none 0 8 (Below.refl _ _)
end Go.Proofs.YtflagbglbhmheaaDoor
