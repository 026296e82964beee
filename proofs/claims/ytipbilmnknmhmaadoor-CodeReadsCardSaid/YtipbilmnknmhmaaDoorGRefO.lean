/- The walk of the reference's Lex. -/
import Derived.Deep.RegionLaw
import Derived.Test.YtipbilmnknmhmaaDoorGRefM
import Derived.Test.YtipbilmnknmhmaaDoorGLexD
namespace Go.Proofs.YtipbilmnknmhmaaDoor
set_option maxRecDepth 100000
open Go.RowKit Go.Shelf

/-- What the reference's Lex answers. -/
def RLexRes (w : World) (r : List Lx.Tk × Nat × Nat) (e : Ending) (w' : World) : Prop :=
  ∃ v, e = .returned (.agg #[v, .int .i64 (r.2.1 : Int), .int .i64 (r.2.2 : Int)]) ∧ IsToks w' w'.heap.size v r.1 ∧ Below w.heap.size w w'
/-- What Lex's loop holds in memory: the result's block, and the row. -/
structure LexIn (w : World) (v : Value) (l : List Lx.Tk) (W : World) : Prop where
  blk : Blk W w.heap.size 46 #[.slice none 0 0, .int .i64 0, .int .i64 0]
  own : W.ownsRow (w.heap.size + 1) 50 3 v l.length (tcells l)
  below : Below w.heap.size w W
theorem LexIn.call {w W W' : World} {v : Value} {l : List Lx.Tk} (h : LexIn w v l W) (hb : Below W.heap.size W W') : LexIn w v l W' := ⟨h.blk.below hb h.blk.lt, ownT_below h.own hb, h.below.trans (hb.mono h.below.size)⟩
theorem LexIn.step {w W W1 w' : World} {v v' : Value} {l : List Lx.Tk} {t : Lx.Tk} (h : LexIn w v l W) (h1 : Below W.heap.size W W1) (hown : w'.ownsRow (w.heap.size + 1) 50 3 v' (l.length + 1) (tcells l ++ [.int .i64 t.kind, .string t.text, .int .i64 t.pos])) (hg : W1.grownBy w' v.ownBlock) : LexIn w v' (l ++ [t]) w' := by
  have h2 := h.call h1
  have hlt := h2.blk.lt
  refine ⟨(hg.block _ hlt (fun e => ?_)).trans h2.blk, ?_, h2.below.grown hg (Nat.le_of_lt hlt) (fun k he => ?_)⟩
  · have := (h.own.lt _ e.symm).1
    omega
  · rw [tcells_snoc, List.length_append]; exact hown
  · have := (h.own.lt _ he).1
    omega
theorem LexIn.set_ {w W : World} {v : Value} {l : List Lx.Tk} (h : LexIn w v l W) (vs : Value) (a b : Int) :
    let W' := (((W.setCell ⟨w.heap.size, 0, none⟩ vs).setCell ⟨w.heap.size, 1, none⟩ (.int .i64 a)).setCell ⟨w.heap.size, 2, none⟩ (.int .i64 b))
    W'.cell? ⟨w.heap.size, 0, none⟩ = some vs ∧ W'.cell? ⟨w.heap.size, 1, none⟩ = some (.int .i64 a) ∧ W'.cell? ⟨w.heap.size, 2, none⟩ = some (.int .i64 b) ∧ Below w.heap.size w W' ∧ W'.ownsRow (w.heap.size + 1) 50 3 v l.length (tcells l) := by
  intro W'
  have hb : Blk W' w.heap.size 46 #[vs, .int .i64 a, .int .i64 b] := ((h.blk.set_ 0 _).set_ 1 _).set_ 2 _
  exact ⟨by rw [hb.cell]; rfl, by rw [hb.cell]; rfl, by rw [hb.cell]; rfl,
    ((h.below.setCell (p := ⟨w.heap.size, 0, none⟩) (Nat.le_refl _) _).setCell (p := ⟨w.heap.size, 1, none⟩) (Nat.le_refl _) _).setCell (p := ⟨w.heap.size, 2, none⟩) (Nat.le_refl _) _,
    ownsRow_setCell_below (ownsRow_setCell_below (ownsRow_setCell_below h.own (by simp) _) (by simp) _) (by simp) _⟩
theorem LexIn.facts {w W : World} {v : Value} {l : List Lx.Tk} (h : LexIn w v l W) : W.cell? ⟨w.heap.size, 0, none⟩ = some (.slice none 0 0) ∧ W.cell? ⟨w.heap.size, 1, none⟩ = some (.int .i64 0) ∧ W.cell? ⟨w.heap.size, 2, none⟩ = some (.int .i64 0) ∧ W.frozen? ⟨w.heap.size, 0, none⟩ = false ∧ W.frozen? ⟨w.heap.size, 1, none⟩ = false ∧ W.frozen? ⟨w.heap.size, 2, none⟩ = false :=
  ⟨by rw [h.blk.cell]; rfl, by rw [h.blk.cell]; rfl, by rw [h.blk.cell]; rfl, h.blk.frozen _, h.blk.frozen _, h.blk.frozen _⟩
theorem kind_of {c : UInt8} {r : List UInt8} (hb : Lx.blank c = false) (hc : c ≠ 35) (h0 : endN (c :: r) ≠ 0) : Lx.first (c :: r) = (kindR c, endN (c :: r)) := by
  rw [first_of hb hc]
  unfold endN at h0 ⊢
  unfold kindR
  dsimp only at h0 ⊢
  cases hl : Lx.letter c
  · cases hd : Lx.digit c
    · rw [hl, hd, if_neg (by decide), if_neg (by decide)] at h0
      rw [if_neg (by decide), if_neg (by decide), if_pos (by omega), if_neg (by decide), if_neg (by decide), if_neg (by decide), if_neg (by decide)]
    · rfl
  · rfl
theorem kind_no {c : UInt8} {r : List UInt8} (hb : Lx.blank c = false) (hc : c ≠ 35) (h0 : endN (c :: r) = 0) : (Lx.first (c :: r)).2 = 0 := by
  rw [first_of hb hc]
  unfold endN at h0
  dsimp only at h0
  cases hl : Lx.letter c
  · cases hd : Lx.digit c
    · rw [hl, hd, if_neg (by decide), if_neg (by decide)] at h0
      rw [if_neg (by decide), if_neg (by decide), if_neg (by omega)]
    · rw [hd, hl, if_neg (by decide), if_pos rfl] at h0
      rw [Lx.run_yes hd] at h0
      omega
  · rw [hl, if_pos rfl, Lx.run_yes hl] at h0
    omega
theorem kindR_ne (c : UInt8) : kindR c ≠ -1 := by
  unfold kindR
  split
  · decide
  · split <;> decide
theorem endN_le (r : List UInt8) : endN r ≤ r.length := by
  cases r with
  | nil => exact Nat.le_refl _
  | cons c r =>
    unfold endN
    dsimp only
    split
    · exact Lx.run_le _ _
    · split
      · exact Lx.run_le _ _
      · exact Lx.mark_le _
end Go.Proofs.YtipbilmnknmhmaaDoor

/- The walk of the reference's Lex. -/
namespace Go.Proofs.YtipbilmnknmhmaaDoor
set_option maxRecDepth 100000
open Go.RowKit Go.Shelf

theorem blank_split {c : UInt8} (h : Lx.blank c = true) : ((c.toNat : Int) == 9) = true ∨ (((c.toNat : Int) == 9) = false ∧ ((c.toNat : Int) == 10) = true) ∨ (((c.toNat : Int) == 9) = false ∧ ((c.toNat : Int) == 10) = false ∧ ((c.toNat : Int) == 32) = true) := by
  have := (blank_iff c).1 h
  rw [beq_iff_eq, beq_eq_false_iff_ne, beq_iff_eq, beq_eq_false_iff_ne, beq_iff_eq]
  omega
theorem blank_none {c : UInt8} (h : Lx.blank c = false) : ((c.toNat : Int) == 9) = false ∧ ((c.toNat : Int) == 10) = false ∧ ((c.toNat : Int) == 32) = false := by
  have h1 : ¬ (c.toNat = 9 ∨ c.toNat = 10 ∨ c.toNat = 32) := fun e => by rw [(blank_iff c).2 e] at h; cases h
  rw [beq_eq_false_iff_ne, beq_eq_false_iff_ne, beq_eq_false_iff_ne]
  omega
theorem RLexRes.err {w w' : World} (a n : Nat) (hb : Below w.heap.size w w') : RLexRes w ([], a, n) (.returned (.agg #[.slice none 0 0, .int .i64 (a : Int), .int .i64 (n : Int)])) w' := ⟨_, rfl, IsToks.nil _ _, hb⟩
set_option maxHeartbeats 8000000 in
theorem rLex_any (s : ByteArray) (w : World) (hs : s.size ≤ maxLen) : Calls Tryd.prog 15 #[.string s] w (RLexRes w (Lx.lex s.data.toList)) := by
  have HD : Hid (s.data.toList.length = s.size) := by unfold Hid; rw [← Lib.size_eq]
  have hs0 : s.size ≤ 9223372036854775807 := hs
  by_cases h2000 : 2000 < s.size
  · have hl : (2000 : Int) < (s.size : Int) := by omega
    rw [lex_long (by rw [HD.out]; omega)]
    clear hs
    go_enter Tryd.func15, Tryd.ntmps15
    go_wp2
    go_returns
    exact RLexRes.err 0 8 ((Below.refl _ w).alloc (Nat.le_refl _) _)
  · obtain ⟨i0, hi, hz0, hz1, hz2⟩ := info_parts Tryd.infoTok
    have hsz : s.size ≤ 2000 := by omega
    have hl : ¬ (2000 : Int) < (s.size : Int) := by omega
    clear hs hs0
    go_enter Tryd.func15, Tryd.ntmps15
    go_wp2
    go_loopw [3, 4] (fun v i wr => ∃ (l : List Lx.Tk) (k : Nat), k ≤ s.size ∧ i = .int .i64 k ∧ Hid (ToksAt s.data.toList k l) ∧ Hid (LexIn w v l wr)) (fun _ i _ => s.size - (intOf i).toNat)
    case atStart =>
      refine ⟨[], 0, Nat.zero_le _, rfl, ToksAt.start _, ?_⟩
      have hz : (w.alloc (.cells #[.slice none 0 0, .int .i64 0, .int .i64 0] 46)).heap.size = w.heap.size + 1 := by simp
      have ho := World.ownsRow_made (e := 50) (size := 3) (w.alloc (.cells #[.slice none 0 0, .int .i64 0, .int .i64 0] 46)) #[] 0 (Nat.le_refl _) (by decide) rfl
      rw [hz] at ho
      exact ⟨(Blk.new w 46 #[.slice none 0 0, .int .i64 0, .int .i64 0]).alloc _, ho, ((Below.refl _ w).alloc (Nat.le_refl _) _).alloc (by simp) _⟩
    case round =>
      obtain ⟨l, k, hk, rfl, HT, HI⟩ := hrel
      by_cases hlt : k < s.size
      · have hkk : (k : Int) < (s.size : Int) := by omega
        have hdr := drop_byte s k hlt
        cases hbl : Lx.blank s[k]
        · obtain ⟨b1, b2, b3⟩ := blank_none hbl
          by_cases h35 : s[k] = 35
          · have c35 : ((s[k].toNat : Int) == 35) = true := by rw [h35]; rfl
            have hf := first_35 (s.data.toList.drop (k + 1))
            rw [← h35, ← hdr] at hf
            have hsk := HT.out.skip (by rw [HD.out]; exact hlt) (by rw [hf]; exact (by omega : 1 + Lx.run Lx.inLine (s.data.toList.drop (k + 1)) ≠ 0)) (by rw [hf])
            rw [hf] at hsk
            have HSK := Lib.hid hsk
            have hin : Lx.inLine s[k] = true := by rw [h35]; decide
            have HIN := Lib.hid hin
            have hdr2 : s.data.toList.drop k = s[k] :: s.data.toList.drop (k + 1) := hdr
            have hrun : Lx.run Lx.inLine (s.data.toList.drop k) = 1 + Lx.run Lx.inLine (s.data.toList.drop (k + 1)) := by rw [hdr2, Lx.run_yes hin]; omega
            have HRUN := Lib.hid hrun
            clear hf hsk hin hdr2 hrun hdr h35 hbl
            go_wp2
            go_loopw [4] (fun i wr2 => ∃ j : Nat, k ≤ j ∧ j ≤ s.size ∧ i = .int .i64 j ∧ wr2 = wr ∧ Hid (∀ q c, q < j - k → (s.data.toList.drop k)[q]? = some c → Lx.inLine c = true)) (fun i _ => s.size - (intOf i).toNat)
            case atStart => exact ⟨k, Nat.le_refl _, by omega, rfl, rfl, fun q c h => absurd h (by omega)⟩
            case round =>
              obtain ⟨j, hkj, hj, rfl, rfl, HJ⟩ := hrel
              have hfin : ∀ c, (s.data.toList.drop k)[j - k]? = some c → j < s.size := fun c e => by
                have := (List.getElem?_eq_some_iff.1 e).1
                rw [List.length_drop, HD.out] at this
                omega
              by_cases hjl : j < s.size
              · have hjj : (j : Int) < (s.size : Int) := by omega
                have hg := drop_get s k j hkj hjl
                by_cases h10 : s[j] = 10
                · have c10 : ((s[j].toNat : Int) != 10) = false := by rw [h10]; rfl
                  have hr := run_at (s.data.toList.drop k) (j - k) HJ.out (by rw [List.length_drop, HD.out]; omega) (fun c e => by rw [hg] at e; injection e with e; rw [← e, h10]; decide)
                  have HR := Lib.hid (show k + (1 + Lx.run Lx.inLine (s.data.toList.drop (k + 1))) = j by rw [← HRUN.out, hr]; omega)
                  clear hfin hg h10 hr
                  go_wp2
                  go_roundw
                  case rel => exact ⟨l, j, by omega, by go_num, by have := HSK.out; rw [HR.out] at this; exact this, HI⟩
                  case measure => have := HR.out; simp [intOf]; omega
                · have c10 : ((s[j].toNat : Int) != 10) = true := by
                    rw [bne_iff_ne]
                    exact fun e => h10 (UInt8.toNat_inj.1 (by show s[j].toNat = 10; omega))
                  have hil : Lx.inLine s[j] = true := by rw [inLine_iff]; exact fun e => h10 (UInt8.toNat_inj.1 e)
                  have HIL := Lib.hid hil
                  have HG := Lib.hid hg
                  clear hfin hg h10 hil
                  go_wp2
                  go_roundw
                  case rel => exact ⟨j + 1, by omega, by omega, by go_num, trivial, fun q c hq e => by
                    rcases Nat.lt_or_eq_of_le (show q ≤ j - k by omega) with h | rfl
                    · exact HJ.out q c h e
                    · rw [HG.out] at e; injection e with e; rw [← e]; exact HIL.out⟩
                  case measure => simp [intOf]; omega
              · have hjj : decide ((j : Int) < (s.size : Int)) = false := by rw [decide_eq_false_iff_not]; omega
                have hr := run_at (s.data.toList.drop k) (j - k) HJ.out (by rw [List.length_drop, HD.out]; omega) (fun c e => absurd (hfin c e) hjl)
                have HR := Lib.hid (show k + (1 + Lx.run Lx.inLine (s.data.toList.drop (k + 1))) = j by rw [← HRUN.out, hr]; omega)
                clear hfin hr
                go_wp2
                go_roundw
                case rel => exact ⟨l, j, by omega, by go_num, by have := HSK.out; rw [HR.out] at this; exact this, HI⟩
                case measure => have := HR.out; simp [intOf]; omega
          · have c35 : ((s[k].toNat : Int) == 35) = false := by
              rw [beq_eq_false_iff_ne]
              exact fun e => h35 (UInt8.toNat_inj.1 (by show s[k].toNat = 35; omega))
            have he := fun W => rEnd_any s k hlt (by omega) W
            have hle := endN_le (s.data.toList.drop k)
            rw [List.length_drop, HD.out] at hle
            by_cases hn0 : endN (s.data.toList.drop k) = 0
            · have hbad : Lx.toks s.data.toList.length s.data.toList 0 = (l, k) := HT.out.bad (by rw [hdr] at hn0 ⊢; exact kind_no hbl h35 hn0)
              have HBAD := Lib.hid hbad
              rw [hn0, Nat.add_zero] at he
              have HE := Lib.hid he
              obtain ⟨z0, z1, z2, z3, z4, z5⟩ := HI.out.facts
              clear he hbad hdr hn0 hle hbl h35
              go_wp2_with (fail)
              refine (HE.out _).mono ?_
              rintro e w2 ⟨rfl, hb2⟩
              clear z0 z1 z2 z3 z4 z5
              have HI2 := Lib.hid (HI.out.call hb2)
              obtain ⟨z0, z1, z2, z3, z4, z5⟩ := HI2.out.facts
              clear hb2 HI
              go_wp2
              obtain ⟨r0, r1, r2, rB, -⟩ := HI2.out.set_ (.slice none 0 0) k 4
              have RB := Lib.hid rB
              clear rB z0 z1 z2 z3 z4 z5
              rw [lex_bad (by rw [HD.out]; exact hsz) (by rw [HBAD.out, HD.out]; exact hlt), HBAD.out]
              exact bodyPost_ret (v := .agg #[.slice none 0 0, .int .i64 k, .int .i64 4]) (by simp [results, Tryd.results15, go_sem, r0, r1, r2]) rfl (RLexRes.err k 4 RB.out)
            · obtain ⟨N, hN⟩ : ∃ N, endN (s.data.toList.drop k) = N := ⟨_, rfl⟩
              rw [hN] at he hle hn0
              have hf : Lx.first (s.data.toList.drop k) = (kindR s[k], N) := by
                have := kind_of (r := s.data.toList.drop (k + 1)) hbl h35 (by rw [← hdr, hN]; exact hn0)
                rw [← hdr, hN] at this
                exact this
              have htk := HT.out.take (by rw [HD.out]; exact hlt) (by rw [hf]; exact hn0) (by rw [hf]; exact kindR_ne _)
              rw [hf] at htk
              have HTK := Lib.hid htk
              have HE := Lib.hid he
              have hkd := fun W => rKind_any s[k] W
              have HKD := Lib.hid hkd
              have hne : (((k + N : Nat) : Int) == (k : Int)) = false := by rw [beq_eq_false_iff_ne]; omega
              have hlen := HT.out.len
              rw [HD.out] at hlen
              have hsl : ∀ W : World, (Instr.slice 9 (.string s) (some (.int .i64 (k : Int))) (some (.int .i64 ((k + N : Nat) : Int))) none).run Tryd.prog W = .ok (.string (s.extract k (k + N))) W := fun W => by
                have h := run_slice_string (P := Tryd.prog) (w := W) 9 s .i64 .i64 (k : Int) ((k + N : Nat) : Int) Tryd.underlying9 (by omega) (by omega) (by omega)
                rw [h, Int.toNat_natCast, Int.toNat_natCast]
              have hkN : k + N ≤ s.size := by omega
              have hN0 : 0 < N := Nat.pos_of_ne_zero hn0
              clear he hdr hle hn0 hN hf htk hkd hbl h35
              obtain ⟨kN, hkNe⟩ : ∃ x, k + N = x := ⟨_, rfl⟩
              have HKN := Lib.hid hkNe
              rw [hkNe] at HE hsl hne hkN
              clear hkNe
              generalize hkr : kindR s[k] = kd at *
              go_wp2_with (fail)
              refine (HE.out _).mono ?_
              rintro e w2 ⟨rfl, hb2⟩
              have HI2 := Lib.hid (HI.out.call hb2)
              have hown := HI2.out.own
              have hsz2 := HI2.out.blk.lt
              clear hb2 HI
              obtain ⟨A1, c1, rfl⟩ := ownT_slice hown
              go_wp2
              go_region_law (first
                | (refine step_append_own2 rfl (.tmp 57) (.tmp 68) 44 rfl (w.heap.size + 1) 50 i0 (.agg #[.int .i64 0, .string ByteArray.empty, .int .i64 0]) 3 32 Tryd.underlying44 hi hz0 hz1 hz2 rfl (by decide) (.slice A1 l.length c1) l.length (tcells l) (by simp [Act.eval]) (by exact hown.alloc _) ⟨w2.heap.size, 0, none⟩ 1 1 [.int .i64 kd, .string (s.extract k kN), .int .i64 k] (by simp [Act.eval]) rfl (by exact cells_new _ _ _) (by simp [Value.oneCell']) (by unfold maxLen; omega) (by omega) (by simp; omega) ?_; intro v' w' hown' hgrow hob; obtain ⟨g', cap', rfl⟩ := ownsRow_succ hown')
                | (go_simp; go_at_call 30; refine (HKD.out _).mono ?_; rintro e w1 ⟨rfl, rfl⟩))
              all_goals
                have hst := HI2.out.step (t := ⟨kd, s.extract k kN, k⟩) (((Below.refl _ w2).alloc (Nat.le_refl _) _).drew) hown' hgrow
                have HST := Lib.hid hst
                clear hst hown' hgrow hob hown HI2
                go_wp2
                go_roundw
                case rel => exact ⟨l ++ [(⟨kd, s.extract k kN, (k : Int)⟩ : Lx.Tk)], kN, by omega, by go_num, by have := HTK.out; rw [← HKN.out, pack_extract]; exact this, HST⟩
                case measure => have := HKN.out; simp [intOf]; omega
        · have hnx := HT.out.blank hdr hbl
          have HN := Lib.hid hnx
          rcases blank_split hbl with b1 | ⟨b1, b2⟩ | ⟨b1, b2, b3⟩
          all_goals
            clear hnx hdr hbl
            go_wp2
            go_roundw
            case rel => exact ⟨l, k + 1, by omega, by go_num, HN, HI⟩
            case measure => simp [intOf]; omega
      · obtain rfl : k = s.size := by omega
        have hfin := HT.out.fin (by rw [HD.out]; exact Nat.le_refl _)
        have hlen := HT.out.len
        rw [HD.out] at hlen
        have hown := HI.out.own
        have HFIN := Lib.hid hfin
        obtain ⟨z0, z1, z2, z3, z4, z5⟩ := HI.out.facts
        have hlt0 := HI.out.blk.lt
        clear hfin z0 z1 z2 z3 z4 z5
        go_wp2_with (at_builtin; refine wpList_append_own _ rfl _ _ 44 rfl (w.heap.size + 1) 50 i0 (.agg #[.int .i64 0, .string ByteArray.empty, .int .i64 0]) 3 32 Tryd.underlying44 hi hz0 hz1 hz2 rfl (by decide) _ _ _ rfl (hown.alloc _) ⟨wr.heap.size, 0, none⟩ 1 1 [.int .i64 0, .string ByteArray.empty, .int .i64 s.size] rfl rfl ?c1 ?c2 ?c3 ?c4 ?c5 ?_)
        case c1 => exact cells_new _ _ _
        case c2 => simp [Value.oneCell']
        case c3 => unfold maxLen; omega
        case c4 => omega
        case c5 => simp; omega
        intro v' w' hown' hgrow _
        have hst := HI.out.step (t := ⟨0, ByteArray.empty, s.size⟩) ((Below.refl _ wr).alloc (Nat.le_refl _) _) hown' hgrow
        obtain ⟨A1, c1, rfl⟩ := ownT_slice hown'
        obtain ⟨z0, z1, z2, z3, z4, z5⟩ := hst.facts
        have HST := Lib.hid hst
        clear hst hown' hgrow hown HI
        by_cases h200 : 200 < l.length + 1
        · have h2 : (200 : Int) < ((l.length + 1 : Nat) : Int) := by omega
          go_wp2
          obtain ⟨r0, r1, r2, rB, -⟩ := HST.out.set_ (.slice none 0 0) 0 8
          have RB := Lib.hid rB
          clear rB z0 z1 z2 z3 z4 z5
          rw [lex_many (by rw [HD.out]; exact hsz) (by rw [HFIN.out, HD.out]; omega) (by rw [HFIN.out]; exact h200)]
          exact bodyPost_ret (v := .agg #[.slice none 0 0, .int .i64 0, .int .i64 8]) (by simp [results, Tryd.results15, go_sem, r0, r1, r2]) rfl (RLexRes.err 0 8 RB.out)
        · have h2 : ¬ (200 : Int) < ((l.length + 1 : Nat) : Int) := by omega
          go_wp2
          obtain ⟨r0, r1, r2, rB, rO⟩ := HST.out.set_ (.slice A1 (l.length + 1) c1) 0 0
          rw [List.length_append, List.length_singleton] at rO
          have RB := Lib.hid rB
          have RO := Lib.hid rO
          clear rB z0 z1 z2 z3 z4 z5 rO
          have hlx : Lx.lex s.data.toList = (l ++ [⟨0, ByteArray.empty, (s.size : Nat)⟩], 0, 0) := by
            unfold Lx.lex
            rw [if_neg (by rw [HD.out]; omega), HFIN.out, if_neg (by rw [HD.out]; simp), if_neg (by exact h200)]
          rw [hlx]
          exact bodyPost_ret (v := .agg #[.slice A1 (l.length + 1) c1, .int .i64 0, .int .i64 0]) (by simp [results, Tryd.results15, go_sem, r0, r1, r2]) rfl
            ⟨_, rfl, ⟨A1, c1, by simp, by have := (ownT_row RO.out).1; exact this, by have h9 := (ownT_row RO.out).2; rw [List.length_append, List.length_singleton]; exact h9⟩, RB.out⟩
end Go.Proofs.YtipbilmnknmhmaaDoor
