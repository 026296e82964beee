/- The walk of the law that what is written is read as the same rule. -/
import Derived.Test.YtflagbglbhmheaaDoorShoM
import Derived.Test.YtflagbglbhmheaaDoorRulH
import Derived.Test.YtflagbglbhmheaaDoorLexG
namespace Go.Proofs.YtflagbglbhmheaaDoor
set_option maxRecDepth 100000
open Go.RowKit Go.Shelf

/-- A text that is written is read as its rule. -/
theorem from_back {t : Sh.Tree} {b : Bool} (h : Sh.Ok b t) (hl : (Sh.post t).length ≤ 40) (hd : Sh.deep t ≤ 12) : ∃ l : List Lx.Tk, Lx.lex (Lx.pack (Sh.txt t)).data.toList = (l, 0, 0) ∧ 1 ≤ l.length ∧ l.length ≤ 1000 ∧ Rl.from_ l 0 b = (Sh.post t, l.length - 1, 0) := by
  obtain ⟨l, h1, h2⟩ := Sh.lex_txt h hl
  have hn := Sh.toks_len t
  have hlen : l.length = (Sh.toks t).length := by rw [← h2, List.length_map]
  have hpk : (Lx.pack (Sh.txt t)).data.toList = Sh.txt t := by simp [Lx.pack]
  refine ⟨l ++ [⟨0, ByteArray.empty, ((Sh.txt t).length : Nat)⟩], by rw [hpk]; exact h1, by simp, by simp; omega, ?_⟩
  have hr := Sh.read_back h hl hd h2 (e := ⟨0, ByteArray.empty, ((Sh.txt t).length : Nat)⟩) rfl
  have hmay : Rl.may (l ++ [⟨0, ByteArray.empty, ((Sh.txt t).length : Nat)⟩]) 0 = true := decide_eq_true ⟨Int.le_refl _, by simp, ⟨0, ByteArray.empty, ((Sh.txt t).length : Nat)⟩, by simp, rfl⟩
  rw [may_yes hmay]
  show Rl.told (Rl.read _ b 0) = _
  rw [hr]
  unfold Rl.told
  rw [if_pos rfl]
  simp
set_option maxHeartbeats 8000000 in
theorem showBackLaw_any {A : Option Addr} {l : List Int} (c : Nat) (w : World) (hw : Wds w) (h : Row w w.heap.size A (ints l)) (hc : l.length ≤ c) (hm : c ≤ maxLen) : Calls Tryd.prog 4 #[.slice A l.length c] w (Tells w true) := by
  unfold maxLen at hm
  obtain ⟨N, hN⟩ : ∃ N, min l.length 45 = N := ⟨_, rfl⟩
  have hmin : min (l.length : Int) 45 = (N : Int) := by omega
  have hmax : max (N : Int) 0 = (N : Int) := by omega
  have hN1 : N ≤ l.length := by omega
  have hN2 : N ≤ 45 := by omega
  clear hN
  obtain ⟨rule, hrule⟩ : ∃ rule, l.take N = rule := ⟨_, rfl⟩
  have hlen : rule.length = N := by rw [← hrule, List.length_take]; omega
  have hrow : ∀ W, Below w.heap.size w W → Row W W.heap.size A (ints rule) := fun W hb => by
    have := ((h.take N).below hb).more hb.size
    rwa [ints_takeS, hrule] at this
  have hal : ∀ W, Below w.heap.size w W → Calls Tryd.prog 8 #[] W (Tells W true) := fun W hb => sAlive_any W (hw.below hb hw.lt)
  have HAL := Lib.hid hal
  clear hal
  by_cases hgood : ∃ t b, Sh.Ok b t ∧ Sh.post t = rule ∧ rule.length ≤ 40 ∧ Sh.deep t ≤ 12
  · obtain ⟨t, b, ht, hp, h40, hd⟩ := hgood
    have htx := text_tree t b ht c w (by rw [hp]; exact hrow w (Below.refl _ _)) (by rw [hp]; exact h40) hw
    rw [tells_ok hd, hp, hlen] at htx
    obtain ⟨toks, hlx, hl1, hl2, hfr⟩ := from_back ht (by rw [hp]; exact h40) hd
    have hlex := fun W => lex_any (Lx.pack (Sh.txt t)) W (by have := Sh.txt_len t b ht; rw [Lx.pack_size]; rw [hp] at this; unfold maxLen; omega)
    rw [hlx] at hlex
    rw [hp] at hfr
    have hrt : ∀ W, Below w.heap.size w W → Calls Tryd.prog 12 #[.slice A N c, .bool true] W (Tells W b) := fun W hb => by
      have := right_any c true W (hrow W hb) (by omega)
      obtain ⟨r1, r2⟩ := Rl.right_of (Sh.tree_seg t b ht) (by rw [hp]; exact h40)
      rw [hp] at r1 r2
      rw [hlen, show Rl.right rule true = b by cases b; exact r2; exact r1] at this
      exact this
    have hsm : ∀ W (A2 : Option Addr) (c2 : Nat), Below w.heap.size w W → Row W W.heap.size A2 (ints rule) → Calls Tryd.prog 13 #[.slice A2 N c2, .slice A N c] W (Tells W true) := fun W A2 c2 hb hr => by
      have := rSame_any c2 c W hr (hrow W hb) (by omega)
      rw [decide_eq_true rfl, hlen] at this
      exact this
    have HT := Lib.hid htx
    have HLX := Lib.hid hlex
    have HFR := Lib.hid hfr
    have HRT := Lib.hid hrt
    have HSM := Lib.hid hsm
    have HLEN := Lib.hid hlen
    unfold Wrote at HT
    dsimp only at HT
    clear htx hlx hlex hfr hrt hsm h hrow hw ht hp hd hlen hrule
    generalize Lx.pack (Sh.txt t) = s at *
    have htl : ((toks.length - 1 : Nat) : Int) = (toks.length : Int) - 1 := by omega
    go_enter Tryd.func4, Tryd.ntmps4
    go_wp2_with (fail)
    refine HT.out.mono ?_
    rintro e w1 ⟨rfl, hb1⟩
    have HB1 := Lib.hid hb1
    clear hb1
    go_wp2_with (fail)
    refine (HLX.out _).mono ?_
    rintro e w2 ⟨v, rfl, ⟨A1, c1, rfl, hrow1, hcap1⟩, hb2⟩
    have HB2 := Lib.hid (HB1.out.trans (hb2.mono HB1.out.size))
    have HROW1 := Lib.hid hrow1
    clear hb2 hrow1
    go_wp2_with (fail)
    refine (HRT.out _ HB2.out).mono ?_
    rintro e w3 ⟨rfl, hb3⟩
    have hf := from_any c1 0 b w3 ((HROW1.out.below hb3).more hb3.size) (by omega)
    rw [HFR.out] at hf
    have HF := Lib.hid hf
    have HB3 := Lib.hid (HB2.out.trans (hb3.mono HB2.out.size))
    clear hb3 hf
    go_wp2_with (fail)
    refine HF.out.mono ?_
    rintro e w4 ⟨v4, rfl, ⟨A4, c4, rfl, hrow4, hcap4⟩, hb4⟩
    have HB4 := Lib.hid (HB3.out.trans (hb4.mono HB3.out.size))
    have HROW4 := Lib.hid hrow4
    clear hb4 hrow4 hcap4
    dsimp only
    rw [HLEN.out]
    go_wp2_with (fail)
    refine (HAL.out _ HB4.out).mono ?_
    rintro e w5 ⟨rfl, hb5⟩
    have HB5 := Lib.hid (HB4.out.trans (hb5.mono HB4.out.size))
    have hs := HSM.out w5 A4 c4 HB5.out ((HROW4.out.below hb5).more hb5.size)
    have HS := Lib.hid hs
    clear hb5 hs
    go_wp2_with (fail)
    refine HS.out.mono ?_
    rintro e w6 ⟨rfl, hb6⟩
    have HB6 := Lib.hid (HB5.out.trans (hb6.mono HB5.out.size))
    clear hb6
    go_wp2
    go_ret
    exact ⟨retb (by simp), HB6.out⟩
  · obtain ⟨n, htx, hn⟩ : ∃ n : Nat, Calls Tryd.prog 6 #[.slice A N c] w (Wrote w (ByteArray.empty, n)) ∧ n ≠ 0 := by
      by_cases hm0 : madeN rule = 0
      · obtain ⟨e1, e2, -⟩ := madeN_right rule
        have htx := text_no c w (hrow w (Below.refl _ _)) (by omega) (by rw [e1, hm0]; rfl) (by rw [e2, hm0]; rfl)
        rw [hlen] at htx
        exact ⟨1, htx, by decide⟩
      · obtain ⟨t, b, ht, hp, h40⟩ := made_tree hm0
        have hd : 12 < Sh.deep t := by
          rcases Nat.lt_or_ge 12 (Sh.deep t) with hd | hd
          · exact hd
          · exact absurd ⟨t, b, ht, hp, h40, hd⟩ hgood
        have htx := text_tree t b ht c w (by rw [hp]; exact hrow w (Below.refl _ _)) (by rw [hp]; exact h40) hw
        rw [tells_deep hd, hp, hlen] at htx
        exact ⟨5, htx, by decide⟩
    have HT := Lib.hid htx
    have hn1 : ((n : Int) != 0) = true := by rw [bne_iff_ne]; omega
    clear htx hgood hrow hw h hrule hlen hn
    go_enter Tryd.func4, Tryd.ntmps4
    go_wp2_with (fail)
    refine HT.out.mono ?_
    rintro e w1 ⟨rfl, hb1⟩
    have HB1 := Lib.hid hb1
    clear hb1
    go_wp2_with (fail)
    refine (HAL.out _ HB1.out).mono ?_
    rintro e w3 ⟨rfl, hb3⟩
    have HB3 := Lib.hid (HB1.out.trans (hb3.mono HB1.out.size))
    clear hb3
    go_wp2
    go_ret
    exact ⟨rfl, HB3.out⟩
end Go.Proofs.YtflagbglbhmheaaDoor
