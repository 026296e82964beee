/- The walk of an atom. -/
import Derived.Test.YtflagbglbhmheaaDoorRulC
import Derived.BigQuiet
import Derived.Deep.QuietTactic
namespace Go.Proofs.YtflagbglbhmheaaDoor
set_option maxRecDepth 100000
open Go.RowKit Go.Shelf
attribute [local go_sem] Oper.semAt_some

theorem word_of {l : List Lx.Tk} {k : Nat} {t : Lx.Tk} (h : l[k]? = some t) : Rl.word l k = if t.kind = 1 ∧ 6 ≤ Rl.opOf t.text ∧ Rl.opOf t.text ≤ 11 then Rl.opOf t.text else 0 := by
  unfold Rl.word
  rw [h]

set_option maxHeartbeats 2000000 in
theorem atom_any {R M c : Nat} {A : Option Addr} {l : List Lx.Tk} {s : Rl.St} {rv : Value} {lab : Rl.St → Rl.Res} (w : World) (h : Rd R M A c l s rv w) (he : Rl.Ends l) (hl : l.length ≤ 1000000) (hpos : s.pos < l.length) (hd : s.deep ≤ 12) (ho : s.out.length ≤ 40)
    (hgood : s.deep < 12 → Rl.isN l s.pos Rl.wOpenL = true → (lab (Rl.into s)).1.pos < l.length ∧ ((lab (Rl.into s)).2 = 0 → (lab (Rl.into s)).1.deep = s.deep + 1)) (hpart : s.deep < 12 → Rl.isN l s.pos Rl.wOpenL = true → Parses R M A c l 24 lab (Rl.into s)) :
    Calls Tryd.prog 43 #[.pointer (some ⟨R, 0, none⟩)] w (Told R M A c l rv w (Rl.atom l lab s)) := by
  have hmf : ∀ (fn : Fn) (first cap : Array Value) (w : World), (Instr.makeFunc fn first cap).run Tryd.prog w = .ok (.func fn first cap) w := fun _ _ _ _ => rfl
  have hnx := isNext_any Rl.wOpenL w h hpos hl
  cases hn : Rl.isN l s.pos Rl.wOpenL
  · have ea : Rl.atom l lab s = if Rl.word l s.pos = 0 then (s, 4) else Rl.put (Rl.word l s.pos) (Rl.adv s) := by rw [Rl.atom, if_neg (by rw [hn]; decide)]
    rw [ea]
    rw [hn] at hnx
    have HNX := Lib.hid hnx
    have H := Lib.hid h
    clear hnx ea hgood hpart hn h
    have ht0 : l[s.pos]? = some l[s.pos] := List.getElem?_eq_getElem hpos
    have hwd := word_of ht0
    obtain ⟨t, htt⟩ : ∃ t, l[s.pos] = t := ⟨_, rfl⟩
    rw [htt] at ht0 hwd
    obtain ⟨kd, y, ps⟩ := t
    dsimp only at hwd
    have hob := Rl.opOf_bounds y
    obtain ⟨op, hop⟩ : ∃ op, Rl.opOf y = op := ⟨_, rfl⟩
    rw [hop] at hwd hob
    have HT := Lib.hid ht0
    have HW := Lib.hid hwd
    have HOP := Lib.hid hop
    clear ht0 hwd hop htt
    by_cases hin : kd = 1 ∧ 6 ≤ op ∧ op ≤ 11
    · have hwo : Rl.word l s.pos = op := by rw [HW.out, if_pos hin]
      rw [hwo, if_neg (show ¬ op = 0 by omega)]
      have hlast := Rl.word_lt he (show Rl.word l s.pos ≠ 0 by rw [hwo]; omega)
      obtain ⟨rfl, hin1, hin2⟩ := hin
      clear hwo
      go_enter Tryd.func43, Tryd.ntmps43
      go_wp2_with (fail)
      refine HNX.out.mono ?_
      rintro e w1 ⟨rfl, hb1⟩
      have h1 := H.out.kept hb1
      obtain ⟨ad, t, hA, hb, ht, t0, t1, t2⟩ := trow_at h1.toks.row hpos
      rw [HT.out] at ht
      injection ht with ht
      subst ht
      dsimp only at t0 t1 t2
      have hblk : (ad.add (s.pos * 3)).block < w1.heap.size := by rw [add_block]; exact hb
      obtain ⟨⟨c0, c1, c2, c3, c4⟩, f1, f2, f3⟩ := h1.facts
      rw [hA] at c0
      have HA := Lib.hid hA
      have hR := h1.lt
      have hlk := run_word y (w1.alloc (.cells #[.int .i64 1, .string y, .int .i64 ps] 58)).drew.drew M ((Below.heap_alloc _ _ _ h1.safe.1).trans h1.map)
      rw [HOP.out] at hlk
      have HB1 := Lib.hid hb1
      have H1 := Lib.hid h1
      have hst := ((((Still.below hb1 rv).setR (p := ⟨R, 1, none⟩) rfl (.int .i64 ((s.pos : Int) + 1))).alloc (.cells #[.int .i64 1, .string y, .int .i64 ps] 58)).drew).drew
      have hput := put_any y _ (((h1.set_ (i := 1) (u := .int .i64 ((s.pos : Int) + 1)) (s' := Rl.adv s) rfl rfl).kept ((((Below.refl _ _).alloc (Nat.le_refl _) (.cells #[.int .i64 1, .string y, .int .i64 ps] 58)).drew).drew))) ho
      rw [HOP.out] at hput
      have HPUT := Lib.hid hput
      have HST := Lib.hid hst
      clear hb1 h1 hb hA hput hst c2 c3 f2 f3
      go_wp2
      go_region
      go_wp2
      go_region
      go_wp2_with (fail)
      refine HPUT.out.mono ?_
      rintro e w6 ⟨rv6, rfl, h6, hs6⟩
      have H6 := Lib.hid h6
      have HS6 := Lib.hid hs6
      clear h6 hs6
      go_wp2
      go_ret
      exact ⟨rv6, rfl, H6.out, HST.out.trans HS6.out⟩
    · have hwo : Rl.word l s.pos = 0 := by rw [HW.out, if_neg hin]
      rw [if_pos hwo]
      clear hwo
      by_cases hk1 : kd = 1
      · subst hk1
        go_enter Tryd.func43, Tryd.ntmps43
        go_wp2_with (fail)
        refine HNX.out.mono ?_
        rintro e w1 ⟨rfl, hb1⟩
        have h1 := H.out.kept hb1
        obtain ⟨ad, t, hA, hb, ht, t0, t1, t2⟩ := trow_at h1.toks.row hpos
        rw [HT.out] at ht
        injection ht with ht
        subst ht
        dsimp only at t0 t1 t2
        have hblk : (ad.add (s.pos * 3)).block < w1.heap.size := by rw [add_block]; exact hb
        obtain ⟨⟨c0, c1, c2, c3, c4⟩, f1, f2, f3⟩ := h1.facts
        rw [hA] at c0
        have HA := Lib.hid hA
        have hR := h1.lt
        have hlk := run_word y (w1.alloc (.cells #[.int .i64 1, .string y, .int .i64 ps] 58)).drew.drew M ((Below.heap_alloc _ _ _ h1.safe.1).trans h1.map)
        rw [HOP.out] at hlk
        have HB1 := Lib.hid hb1
        have H1 := Lib.hid h1
        have hst := (((Below.refl _ w1).alloc (Nat.le_refl _) (.cells #[.int .i64 1, .string y, .int .i64 ps] 58)).drew).drew
        have HST := Lib.hid hst
        have HIN := Lib.hid hin
        clear hb1 h1 hb hA hst c2 c3 f2 f3 hin
        go_wp2
        go_region
        go_wp2
        go_region
        go_wp2_with (fail)
        all_goals
          first
            | (go_ret; exact ⟨rv, rfl, H1.out.kept HST.out, .below (HB1.out.trans (HST.out.mono HB1.out.size)) rv⟩)
            | (exfalso; exact HIN.out ⟨trivial, by omega, by omega⟩)
      · skip
        go_enter Tryd.func43, Tryd.ntmps43
        go_wp2_with (fail)
        refine HNX.out.mono ?_
        rintro e w1 ⟨rfl, hb1⟩
        have h1 := H.out.kept hb1
        obtain ⟨ad, t, hA, hb, ht, t0, t1, t2⟩ := trow_at h1.toks.row hpos
        rw [HT.out] at ht
        injection ht with ht
        subst ht
        dsimp only at t0 t1 t2
        have hblk : (ad.add (s.pos * 3)).block < w1.heap.size := by rw [add_block]; exact hb
        obtain ⟨⟨c0, c1, c2, c3, c4⟩, f1, f2, f3⟩ := h1.facts
        rw [hA] at c0
        have HA := Lib.hid hA
        have hR := h1.lt
        have hlk := run_word y (w1.alloc (.cells #[.int .i64 kd, .string y, .int .i64 ps] 58)).drew.drew M ((Below.heap_alloc _ _ _ h1.safe.1).trans h1.map)
        rw [HOP.out] at hlk
        have HB1 := Lib.hid hb1
        have H1 := Lib.hid h1
        have hst := (((Below.refl _ w1).alloc (Nat.le_refl _) (.cells #[.int .i64 kd, .string y, .int .i64 ps] 58)).drew).drew
        have HST := Lib.hid hst
        have HIN := Lib.hid hin
        clear hb1 h1 hb hA hst c2 c3 f2 f3 hin
        go_wp2
        go_region
        go_wp2
        go_region
        go_wp2_with (fail)
        all_goals
          first
            | (go_ret; exact ⟨rv, rfl, H1.out.kept HST.out, .below (HB1.out.trans (HST.out.mono HB1.out.size)) rv⟩)
            | (exfalso; exact HIN.out ⟨trivial, by omega, by omega⟩)
  · have hlast := Rl.isN_lt he hn
    have ea : Rl.atom l lab s = Rl.inside l lab Rl.wShutL s := by rw [Rl.atom, if_pos hn]
    have hin := fun W (hW : Rd R M A c l s rv W) => inside_any (g := 24) (p := lab) Tryd.call24 Rl.wShutL W hW hl hlast hd (fun h1 => hgood h1 hn) (fun h1 => hpart h1 hn)
    rw [ea]
    rw [hn] at hnx
    have HNX := Lib.hid hnx
    have HIN := Lib.hid hin
    have H := Lib.hid h
    clear hnx ea hgood hpart hn h hin
    go_enter Tryd.func43, Tryd.ntmps43
    go_wp2_with (fail)
    refine HNX.out.mono ?_
    rintro e w1 ⟨rfl, hb1⟩
    have HB1 := Lib.hid hb1
    clear hb1
    go_wp2_with (fail)
    refine (HIN.out w1 (H.out.kept HB1.out)).mono ?_
    rintro e w2 ⟨rv2, rfl, h2, hs2⟩
    have H2 := Lib.hid h2
    have HS2 := Lib.hid hs2
    clear h2 hs2
    go_wp2
    go_ret
    exact ⟨rv2, rfl, H2.out, (Still.below HB1.out rv).trans HS2.out⟩
end Go.Proofs.YtflagbglbhmheaaDoor
