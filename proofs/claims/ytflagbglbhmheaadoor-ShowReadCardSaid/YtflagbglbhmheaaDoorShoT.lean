/- The walk of the law that what tokens tell, written, is read as the same. -/
import Derived.Test.YtflagbglbhmheaaDoorShoO
import Derived.Test.YtflagbglbhmheaaDoorLexH
namespace Go.Proofs.YtflagbglbhmheaaDoor
set_option maxRecDepth 100000
open Go.RowKit Go.Shelf

theorem lex_err5 {s : List UInt8} {l : List Lx.Tk} {a n : Nat} (h : Lx.lex s = (l, a, n)) (hn : n ≠ 0) : l = [] := by
  unfold Lx.lex at h
  repeat' split at h
  · injection h with h _; exact h.symm
  · injection h with h _; exact h.symm
  · injection h with h _; exact h.symm
  · injection h with _ h
    injection h with _ h
    exact absurd h.symm hn
set_option maxHeartbeats 8000000 in
theorem showReadLaw_any (s : ByteArray) (lab : Bool) (w : World) (hw : Wds w) (hs : s.size ≤ maxLen) : Calls Tryd.prog 5 #[.string s, .bool lab] w (Tells w true) := by
  have hs : s.size ≤ 9223372036854775807 := hs
  obtain ⟨M, hM⟩ : ∃ M, min s.size 400 = M := ⟨_, rfl⟩
  have hmin : min (s.size : Int) 400 = (M : Int) := by omega
  have hM1 : M ≤ s.size := by omega
  have hM2 : M ≤ 400 := by omega
  clear hM
  obtain ⟨x, hx⟩ : ∃ x, s.extract 0 M = x := ⟨_, rfl⟩
  have hxs : x.size = M := by rw [← hx, Lib.size_eq, Lib.extract_data, List.length_take, List.drop_zero, ← Lib.size_eq]; omega
  have hcall := lex_any x w (by unfold maxLen; omega)
  obtain ⟨l, a, n, hl⟩ : ∃ l a n, Lx.lex x.data.toList = (l, a, n) := ⟨_, _, _, rfl⟩
  rw [hl] at hcall
  have hal : ∀ W, Below w.heap.size w W → Calls Tryd.prog 8 #[] W (Tells W true) := fun W hb => sAlive_any W (hw.below hb hw.lt)
  have HAL := Lib.hid hal
  have HL := Lib.hid hl
  have HC := Lib.hid hcall
  have HXS := Lib.hid hxs
  clear hl hcall hxs hal
  by_cases hn : n = 0
  · subst hn
    obtain ⟨ts, hts, hlen, -, -, -⟩ := Lx.lex_ok HL.out
    have hjs := (Lx.lex_back (by rw [← Lib.size_eq, HXS.out]; omega) HL.out).1
    have hlast : l[l.length - 1]? = some ⟨0, ByteArray.empty, (x.data.toList.length : Nat)⟩ := by rw [hts]; simp
    have hll : l.length = ts.length + 1 := by rw [hts]; simp
    have hmay : Rl.may l 0 = true := decide_eq_true ⟨Int.le_refl _, by omega, ⟨0, ByteArray.empty, (x.data.toList.length : Nat)⟩, hlast, rfl⟩
    have he := Rl.ends_of hlast rfl
    have hk0 : 0 < l.length := by omega
    have hfrom : Rl.from_ l 0 lab = Rl.told (Rl.read l lab 0) := may_yes hmay
    by_cases hr0 : (Rl.read l lab 0).2 = 0
    · obtain ⟨q1, q2, q3, q4, q5⟩ := Rl.read_right he lab 0 hk0 hr0
      obtain ⟨t, ht, hp, hd, hwl⟩ := Sh.read_tree hr0
      have h40 : (Sh.post t).length ≤ 40 := by rw [← hp]; exact (of_decide_eq_true q1).1
      have hshort := Sh.read_short hwl
      rw [show Rl.told (Rl.read l lab 0) = ((Rl.read l lab 0).1.out, (Rl.read l lab 0).1.pos, 0) by unfold Rl.told; rw [if_pos hr0], hp] at hfrom
      generalize (Rl.read l lab 0).1.pos = e0 at *
      obtain ⟨toks, hlx, hl1, hl2, hfr⟩ := from_back ht h40 hd
      have hlex := fun W => lex_any (Lx.pack (Sh.txt t)) W (by have := Sh.txt_len t lab ht; rw [Lx.pack_size]; unfold maxLen; omega)
      rw [hlx] at hlex
      have htx : ∀ W (A2 : Option Addr) (c2 : Nat), Below w.heap.size w W → Row W W.heap.size A2 (ints (Sh.post t)) → Calls Tryd.prog 6 #[.slice A2 (Sh.post t).length c2] W (Wrote W (Lx.pack (Sh.txt t), 0)) := fun W A2 c2 hb hr => by
        have := text_tree t lab ht c2 W hr h40 (hw.below hb hw.lt)
        rwa [tells_ok hd] at this
      have hsm : ∀ W (A2 A3 : Option Addr) (c2 c3 : Nat), Row W W.heap.size A2 (ints (Sh.post t)) → Row W W.heap.size A3 (ints (Sh.post t)) → Calls Tryd.prog 13 #[.slice A2 (Sh.post t).length c2, .slice A3 (Sh.post t).length c3] W (Tells W true) := fun W A2 A3 c2 c3 h2 h3 => by
        have := rSame_any c2 c3 W h2 h3 (by omega)
        rwa [decide_eq_true rfl] at this
      have hjn : ∀ W (A2 : Option Addr) (c2 : Nat), Row W W.heap.size A2 (tcells l) → Calls Tryd.prog 14 #[.slice A2 l.length c2] W fun e w' => e = .returned (.string (Lx.joined l)) ∧ Below W.heap.size W w' := fun W A2 c2 h2 => lexJoin_any c2 l W h2 (by omega) (by omega)
      have hle : (((Lx.pack (Sh.txt t)).size : Nat) : Int) ≤ ((Lx.joined l).size : Int) + 4 * ((Sh.post t).length : Int) := by rw [Lx.pack_size]; omega
      have hlen4 : ((Sh.post t).length : Int) ≤ 40 := by omega
      have hjz : ((Lx.joined l).size : Int) ≤ 1200 := by omega
      have HFR1 := Lib.hid hfrom
      have HFR2 := Lib.hid hfr
      have HLEX := Lib.hid hlex
      have HTX := Lib.hid htx
      have HSM := Lib.hid hsm
      have HJN := Lib.hid hjn
      unfold Wrote at HTX
      dsimp only at HTX
      have hlb : l.length ≤ 1000 := by omega
      clear hfrom hfr hlex htx hsm hjn hlx ht hp hd hwl h40 hshort q1 q2 q3 q4 q5 hr0 hmay he hlast hts hw hjs hk0 hll hlen
      generalize Lx.pack (Sh.txt t) = str at *
      generalize Sh.post t = rule at *
      generalize Lx.joined l = jn at *
      go_enter Tryd.func5, Tryd.ntmps5
      go_wp2_with (fail)
      refine HC.out.mono ?_
      rintro e w1 ⟨v, rfl, ⟨A1, c1, rfl, hrow1, hcap1⟩, hb1⟩
      have hf := from_any c1 0 lab w1 hrow1 (show l.length ≤ 1000000 by omega)
      rw [HFR1.out] at hf
      have HF := Lib.hid hf
      have HROW1 := Lib.hid hrow1
      have HB1 := Lib.hid hb1
      clear hf hrow1 hb1
      go_wp2_with (fail)
      refine HF.out.mono ?_
      rintro e w2 ⟨v2, rfl, ⟨A2, c2, rfl, hrow2, hcap2⟩, hb2⟩
      dsimp only at hrow2 hcap2
      have HROW2 := Lib.hid hrow2
      have HB12 := Lib.hid hb2
      have HB2 := Lib.hid (HB1.out.trans (hb2.mono HB1.out.size))
      clear hrow2 hb2
      go_wp2_with (fail)
      refine (HTX.out w2 A2 c2 HB2.out HROW2.out).mono ?_
      rintro e w3 ⟨rfl, hb3⟩
      have HB23 := Lib.hid hb3
      clear hb3
      go_wp2_with (fail)
      refine (HLEX.out w3).mono ?_
      rintro e w4 ⟨v4, rfl, ⟨A4, c4, rfl, hrow4, hcap4⟩, hb4⟩
      have hf4 := from_any c4 0 lab w4 hrow4 (show toks.length ≤ 1000000 by omega)
      rw [HFR2.out] at hf4
      have HF4 := Lib.hid hf4
      have HB24 := Lib.hid (HB23.out.trans (hb4.mono HB23.out.size))
      clear hf4 hrow4 hb4
      go_wp2_with (fail)
      refine HF4.out.mono ?_
      rintro e w5 ⟨v5, rfl, ⟨A5, c5, rfl, hrow5, hcap5⟩, hb5⟩
      dsimp only at hrow5 hcap5
      have hb25 := HB24.out.trans (hb5.mono HB24.out.size)
      have HB25 := Lib.hid hb25
      have HROW5 := Lib.hid hrow5
      have HT5 := Lib.hid (HTX.out w5 A5 c5 (HB2.out.trans (hb25.mono HB2.out.size)) hrow5)
      clear hrow5 hb5 hb25
      go_wp2_with (fail)
      refine HT5.out.mono ?_
      rintro e w6 ⟨rfl, hb6⟩
      have HB56 := Lib.hid hb6
      have HB26 := Lib.hid (HB25.out.trans (hb6.mono HB25.out.size))
      clear hb6
      go_wp2_with (fail)
      refine (HAL.out _ (HB2.out.trans (HB26.out.mono HB2.out.size))).mono ?_
      rintro e w7 ⟨rfl, hb7⟩
      have hb27 := HB26.out.trans (hb7.mono HB26.out.size)
      have hb57 := HB56.out.trans (hb7.mono HB56.out.size)
      have HS := Lib.hid (HSM.out w7 A2 A5 c2 c5 ((HROW2.out.below hb27).more hb27.size) ((HROW5.out.below hb57).more hb57.size))
      have HB27 := Lib.hid hb27
      clear hb7 hb27 hb57
      go_wp2_with (fail)
      refine HS.out.mono ?_
      rintro e w8 ⟨rfl, hb8⟩
      have hb28 := HB27.out.trans (hb8.mono HB27.out.size)
      have hb18 := HB12.out.trans (hb28.mono HB12.out.size)
      have HJ := Lib.hid (HJN.out w8 A1 c1 ((HROW1.out.below hb18).more hb18.size))
      have HB28 := Lib.hid (HB2.out.trans (hb28.mono HB2.out.size))
      clear hb8 hb28 hb18
      go_wp2_with (fail)
      refine HJ.out.mono ?_
      rintro e w9 ⟨rfl, hb9⟩
      have HB9 := Lib.hid (HB28.out.trans (hb9.mono HB28.out.size))
      clear hb9
      go_wp2
      go_ret
      exact ⟨retb (by simp), HB9.out⟩
    · rw [show Rl.told (Rl.read l lab 0) = ([], (Rl.read l lab 0).1.pos, (Rl.read l lab 0).2) by unfold Rl.told; rw [if_neg hr0]] at hfrom
      have hn1 : (((Rl.read l lab 0).2 : Int) != 0) = true := by rw [bne_iff_ne]; omega
      generalize (Rl.read l lab 0).1.pos = e0 at *
      generalize (Rl.read l lab 0).2 = n0 at *
      have HFR1 := Lib.hid hfrom
      have hlb : l.length ≤ 1000 := by omega
      clear hfrom hr0 hmay he hlast hts hw hjs hk0 hll hlen
      go_enter Tryd.func5, Tryd.ntmps5
      go_wp2_with (fail)
      refine HC.out.mono ?_
      rintro e w1 ⟨v, rfl, ⟨A1, c1, rfl, hrow1, hcap1⟩, hb1⟩
      have hf := from_any c1 0 lab w1 hrow1 (show l.length ≤ 1000000 by omega)
      rw [HFR1.out] at hf
      have HF := Lib.hid hf
      have HB1 := Lib.hid hb1
      clear hf hrow1 hb1
      go_wp2_with (fail)
      refine HF.out.mono ?_
      rintro e w2 ⟨v2, rfl, ⟨A2, c2, hv2, hrow2, hcap2⟩, hb2⟩
      rw [show ([] : List Int).length = 0 from rfl] at hv2
      subst hv2
      have HB2 := Lib.hid (HB1.out.trans (hb2.mono HB1.out.size))
      clear hrow2 hb2
      go_wp2_with (fail)
      refine (HAL.out _ HB2.out).mono ?_
      rintro e w3 ⟨rfl, hb3⟩
      have HB3 := Lib.hid (HB2.out.trans (hb3.mono HB2.out.size))
      clear hb3
      go_wp2
      go_ret
      exact ⟨rfl, HB3.out⟩
  · have hnil := lex_err5 HL.out hn
    subst hnil
    have hn1 : ((n : Int) != 0) = true := by rw [bne_iff_ne]; omega
    clear hw
    go_enter Tryd.func5, Tryd.ntmps5
    go_wp2_with (fail)
    refine HC.out.mono ?_
    rintro e w1 ⟨v, rfl, ⟨A1, c1, hv, hrow1, hcap1⟩, hb1⟩
    rw [List.length_nil] at hv
    subst hv
    have HB1 := Lib.hid hb1
    clear hrow1 hb1
    go_wp2_with (fail)
    refine (HAL.out _ HB1.out).mono ?_
    rintro e w3 ⟨rfl, hb3⟩
    have HB3 := Lib.hid (HB1.out.trans (hb3.mono HB1.out.size))
    clear hb3
    go_wp2
    go_ret
    exact ⟨rfl, HB3.out⟩
end Go.Proofs.YtflagbglbhmheaaDoor
