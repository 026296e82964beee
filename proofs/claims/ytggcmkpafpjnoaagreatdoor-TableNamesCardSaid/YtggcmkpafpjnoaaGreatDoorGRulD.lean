/- The walk of an atom. -/
import Derived.BigQuiet
import Derived.Deep.QuietTactic
import Derived.Test.YtggcmkpafpjnoaaGreatDoorGRulB
import Derived.Test.YtggcmkpafpjnoaaGreatDoorGLexD
import Derived.Test.YtggcmkpafpjnoaaGreatDoorGLexP
namespace Go.Proofs.YtggcmkpafpjnoaaGreatDoor
set_option maxRecDepth 100000
open Go.RowKit Go.Shelf
attribute [local go_sem] Oper.semAt_some

theorem word_of {l : List Lx.Tk} {k : Nat} {t : Lx.Tk} (h : l[k]? = some t) : Rl.word l k = if t.kind = 1 ∧ 6 ≤ Rl.opOf t.text ∧ Rl.opOf t.text ≤ 11 then Rl.opOf t.text else 0 := by
  unfold Rl.word
  rw [h]

set_option maxHeartbeats 2000000 in
theorem atom_any {R M c : Nat} {A : Option Addr} {l : List Lx.Tk} {s : Rl.St} {rv : Value} {lab : Rl.St → Rl.Res} (w : World) (h : Rd R M A c l s rv w) (he : Rl.Ends l) (hl : l.length ≤ 1000000) (hpos : s.pos < l.length) (hd : s.deep ≤ 12) (ho : s.out.length ≤ 40)
    (hgood : s.deep < 12 → Rl.isN l s.pos Rl.wOpenL = true → (lab (Rl.into s)).1.pos < l.length ∧ ((lab (Rl.into s)).2 = 0 → (lab (Rl.into s)).1.deep = s.deep + 1)) (hpart : s.deep < 12 → Rl.isN l s.pos Rl.wOpenL = true → Parses R M A c l 92 lab (Rl.into s)) :
    Calls Tryz.prog 118 #[.pointer (some ⟨R, 0, none⟩)] w (Told R M A c l rv w (Rl.atom l lab s)) := by
  have hmf : ∀ (fn : Fn) (first cap : Array Value) (w : World), (Instr.makeFunc fn first cap).run Tryz.prog w = .ok (.func fn first cap) w := fun _ _ _ _ => rfl
  have hnx := isNext_any Rl.wOpenL w h hpos hl
  cases hn : Rl.isN l s.pos Rl.wOpenL
  · have ea : Rl.atom l lab s = if Rl.word l s.pos = 0 then (s, 4) else Rl.put (Rl.word l s.pos) (Rl.adv s) := by rw [Rl.atom, if_neg (by rw [hn]; decide)]
    rw [ea]
    rw [hn] at hnx
    have HNX := Lib.hid hnx
    have H := Lib.hid h
    clear hnx ea hgood hpart hn h
    have ht0 : l[s.pos]? = some l[s.pos] := List.getElem?_eq_getElem hpos
    have hwd := word_of ht0
    obtain ⟨t, htt⟩ : ∃ t, l[s.pos] = t := ⟨_, rfl⟩
    rw [htt] at ht0 hwd
    obtain ⟨kd, y, ps⟩ := t
    dsimp only at hwd
    have hob := Rl.opOf_bounds y
    obtain ⟨op, hop⟩ : ∃ op, Rl.opOf y = op := ⟨_, rfl⟩
    rw [hop] at hwd hob
    have HT := Lib.hid ht0
    have HW := Lib.hid hwd
    have HOP := Lib.hid hop
    clear ht0 hwd hop htt
    by_cases hin : kd = 1 ∧ 6 ≤ op ∧ op ≤ 11
    · have hwo : Rl.word l s.pos = op := by rw [HW.out, if_pos hin]
      rw [hwo, if_neg (show ¬ op = 0 by omega)]
      have hlast := Rl.word_lt he (show Rl.word l s.pos ≠ 0 by rw [hwo]; omega)
      obtain ⟨rfl, hin1, hin2⟩ := hin
      clear hwo
      go_enter Tryz.func118, Tryz.ntmps118
      go_wp2_with (fail)
      refine HNX.out.mono ?_
      rintro e w1 ⟨rfl, hb1⟩
      have h1 := H.out.kept hb1
      obtain ⟨ad, t, hA, hb, ht, t0, t1, t2⟩ := trow_at h1.toks.row hpos
      rw [HT.out] at ht
      injection ht with ht
      subst ht
      dsimp only at t0 t1 t2
      have hblk : (ad.add (s.pos * 3)).block < w1.heap.size := by rw [add_block]; exact hb
      obtain ⟨⟨c0, c1, c2, c3, c4⟩, f1, f2, f3⟩ := h1.facts
      rw [hA] at c0
      have HA := Lib.hid hA
      have hR := h1.lt
      have hlk := run_word y (w1.alloc (.cells #[.int .i64 1, .string y, .int .i64 ps] 57)).drew.drew M ((Below.heap_alloc _ _ _ h1.safe.1).trans h1.map)
      rw [HOP.out] at hlk
      have HB1 := Lib.hid hb1
      have H1 := Lib.hid h1
      have hst := ((((Still.below hb1 rv).setR (p := ⟨R, 1, none⟩) rfl (.int .i64 ((s.pos : Int) + 1))).alloc (.cells #[.int .i64 1, .string y, .int .i64 ps] 57)).drew).drew
      have hput := put_any y _ (((h1.set_ (i := 1) (u := .int .i64 ((s.pos : Int) + 1)) (s' := Rl.adv s) rfl rfl).kept ((((Below.refl _ _).alloc (Nat.le_refl _) (.cells #[.int .i64 1, .string y, .int .i64 ps] 57)).drew).drew))) ho
      rw [HOP.out] at hput
      have HPUT := Lib.hid hput
      have HST := Lib.hid hst
      clear hb1 h1 hb hA hput hst c2 c3 f2 f3
      go_wp2
      go_region
      go_wp2
      go_region
      go_wp2_with (fail)
      refine HPUT.out.mono ?_
      rintro e w6 ⟨rv6, rfl, h6, hs6⟩
      have H6 := Lib.hid h6
      have HS6 := Lib.hid hs6
      clear h6 hs6
      go_wp2
      go_ret
      exact ⟨rv6, rfl, H6.out, HST.out.trans HS6.out⟩
    · have hwo : Rl.word l s.pos = 0 := by rw [HW.out, if_neg hin]
      rw [if_pos hwo]
      clear hwo
      by_cases hk1 : kd = 1
      · subst hk1
        go_enter Tryz.func118, Tryz.ntmps118
        go_wp2_with (fail)
        refine HNX.out.mono ?_
        rintro e w1 ⟨rfl, hb1⟩
        have h1 := H.out.kept hb1
        obtain ⟨ad, t, hA, hb, ht, t0, t1, t2⟩ := trow_at h1.toks.row hpos
        rw [HT.out] at ht
        injection ht with ht
        subst ht
        dsimp only at t0 t1 t2
        have hblk : (ad.add (s.pos * 3)).block < w1.heap.size := by rw [add_block]; exact hb
        obtain ⟨⟨c0, c1, c2, c3, c4⟩, f1, f2, f3⟩ := h1.facts
        rw [hA] at c0
        have HA := Lib.hid hA
        have hR := h1.lt
        have hlk := run_word y (w1.alloc (.cells #[.int .i64 1, .string y, .int .i64 ps] 57)).drew.drew M ((Below.heap_alloc _ _ _ h1.safe.1).trans h1.map)
        rw [HOP.out] at hlk
        have HB1 := Lib.hid hb1
        have H1 := Lib.hid h1
        have hst := (((Below.refl _ w1).alloc (Nat.le_refl _) (.cells #[.int .i64 1, .string y, .int .i64 ps] 57)).drew).drew
        have HST := Lib.hid hst
        have HIN := Lib.hid hin
        clear hb1 h1 hb hA hst c2 c3 f2 f3 hin
        go_wp2
        go_region
        go_wp2
        go_region
        go_wp2_with (fail)
        all_goals
          first
            | (go_ret; exact ⟨rv, rfl, H1.out.kept HST.out, .below (HB1.out.trans (HST.out.mono HB1.out.size)) rv⟩)
            | (exfalso; exact HIN.out ⟨trivial, by omega, by omega⟩)
      · skip
        go_enter Tryz.func118, Tryz.ntmps118
        go_wp2_with (fail)
        refine HNX.out.mono ?_
        rintro e w1 ⟨rfl, hb1⟩
        have h1 := H.out.kept hb1
        obtain ⟨ad, t, hA, hb, ht, t0, t1, t2⟩ := trow_at h1.toks.row hpos
        rw [HT.out] at ht
        injection ht with ht
        subst ht
        dsimp only at t0 t1 t2
        have hblk : (ad.add (s.pos * 3)).block < w1.heap.size := by rw [add_block]; exact hb
        obtain ⟨⟨c0, c1, c2, c3, c4⟩, f1, f2, f3⟩ := h1.facts
        rw [hA] at c0
        have HA := Lib.hid hA
        have hR := h1.lt
        have hlk := run_word y (w1.alloc (.cells #[.int .i64 kd, .string y, .int .i64 ps] 57)).drew.drew M ((Below.heap_alloc _ _ _ h1.safe.1).trans h1.map)
        rw [HOP.out] at hlk
        have HB1 := Lib.hid hb1
        have H1 := Lib.hid h1
        have hst := (((Below.refl _ w1).alloc (Nat.le_refl _) (.cells #[.int .i64 kd, .string y, .int .i64 ps] 57)).drew).drew
        have HST := Lib.hid hst
        have HIN := Lib.hid hin
        clear hb1 h1 hb hA hst c2 c3 f2 f3 hin
        go_wp2
        go_region
        go_wp2
        go_region
        go_wp2_with (fail)
        all_goals
          first
            | (go_ret; exact ⟨rv, rfl, H1.out.kept HST.out, .below (HB1.out.trans (HST.out.mono HB1.out.size)) rv⟩)
            | (exfalso; exact HIN.out ⟨trivial, by omega, by omega⟩)
  · have hlast := Rl.isN_lt he hn
    have ea : Rl.atom l lab s = Rl.inside l lab Rl.wShutL s := by rw [Rl.atom, if_pos hn]
    have hin := fun W (hW : Rd R M A c l s rv W) => inside_any (g := 92) (p := lab) Tryz.call92 Rl.wShutL W hW hl hlast hd (fun h1 => hgood h1 hn) (fun h1 => hpart h1 hn)
    rw [ea]
    rw [hn] at hnx
    have HNX := Lib.hid hnx
    have HIN := Lib.hid hin
    have H := Lib.hid h
    clear hnx ea hgood hpart hn h hin
    go_enter Tryz.func118, Tryz.ntmps118
    go_wp2_with (fail)
    refine HNX.out.mono ?_
    rintro e w1 ⟨rfl, hb1⟩
    have HB1 := Lib.hid hb1
    clear hb1
    go_wp2_with (fail)
    refine (HIN.out w1 (H.out.kept HB1.out)).mono ?_
    rintro e w2 ⟨rv2, rfl, h2, hs2⟩
    have H2 := Lib.hid h2
    have HS2 := Lib.hid hs2
    clear h2 hs2
    go_wp2
    go_ret
    exact ⟨rv2, rfl, H2.out, (Still.below HB1.out rv).trans HS2.out⟩
end Go.Proofs.YtggcmkpafpjnoaaGreatDoor

/- Walks of flow and of prim. -/
namespace Go.Proofs.YtggcmkpafpjnoaaGreatDoor
set_option maxRecDepth 100000
open Go.RowKit Go.Shelf
attribute [local go_sem] Oper.semAt_some

/-- A part read at a depth, wherever it begins. -/
def ParsesAll (R M : Nat) (A : Option Addr) (c : Nat) (l : List Lx.Tk) (g : FuncId) (p : Rl.St → Rl.Res) (o : Nat) : Prop :=
  ∀ s : Rl.St, s.pos < l.length → s.deep = o → s.out.length ≤ 40 → Parses R M A c l g p s

set_option maxHeartbeats 1000000 in
theorem flow_any {R M c : Nat} {A : Option Addr} {l : List Lx.Tk} {o : Nat} {lab : Rl.St → Rl.Res} (he : Rl.Ends l) (hl : l.length ≤ 1000000) (hg : Rl.Good l o true lab) (hlab : ParsesAll R M A c l 92 lab o) :
    ParsesAll R M A c l 136 (Rl.flow l lab) o := by
  intro s hpos hd ho w rv h
  have hL := hlab s hpos hd ho w rv h
  obtain ⟨a1, a2, a3⟩ := hg s hpos hd ho
  have hdef : Rl.flow l lab s = if (lab s).2 = 0 then (if Rl.isN l (lab s).1.pos Rl.wFlows = true then (if (lab (Rl.adv (lab s).1)).2 = 0 then Rl.put 5 (lab (Rl.adv (lab s).1)).1 else lab (Rl.adv (lab s).1)) else ((lab s).1, 4)) else lab s := rfl
  rw [hdef]
  generalize lab s = r at *
  obtain ⟨s1, n⟩ := r
  dsimp only at hL a1 a2 a3 ⊢
  have HL := Lib.hid hL
  clear hdef hL h
  by_cases hn : n = 0
  · obtain ⟨b1, -, -⟩ := a3 hn
    subst hn
    rw [if_pos rfl]
    clear a3
    cases hf : Rl.isN l s1.pos Rl.wFlows
    · rw [if_neg (by decide)]
      have HF := Lib.hid hf
      clear hf hlab
      go_enter Tryz.func136, Tryz.ntmps136
      go_wp2_with (fail)
      refine HL.out.mono ?_
      rintro e w1 ⟨rv1, rfl, h1, hs1⟩
      have htk := takes_no Rl.wFlows w1 h1 a1 hl HF.out
      have HT := Lib.hid htk
      have HS1 := Lib.hid hs1
      clear htk hs1 h1
      go_wp2_with (fail)
      refine HT.out.mono ?_
      rintro e w2 ⟨rfl, h2, hs2⟩
      have H2 := Lib.hid h2
      have HS2 := Lib.hid hs2
      clear h2 hs2
      go_wp2
      go_ret
      exact ⟨_, rfl, H2.out, HS1.out.trans HS2.out⟩
    · rw [if_pos rfl]
      have hlt := Rl.isN_lt he hf
      have hL2 : ∀ (W : World) (rv : Value), Rd R M A c l (Rl.adv s1) rv W → Calls Tryz.prog 92 #[.pointer (some ⟨R, 0, none⟩)] W (Told R M A c l rv W (lab (Rl.adv s1))) := hlab (Rl.adv s1) hlt b1 a2
      obtain ⟨d1, d2, d3⟩ := hg (Rl.adv s1) hlt b1 a2
      generalize lab (Rl.adv s1) = r2 at *
      obtain ⟨s2, n2⟩ := r2
      have HF := Lib.hid hf
      dsimp only at d2 hL2 ⊢
      have HL2 := Lib.hid hL2
      clear hf hlab hL2
      by_cases hn2 : n2 = 0
      · subst hn2
        rw [if_pos rfl]
        go_enter Tryz.func136, Tryz.ntmps136
        go_wp2_with (fail)
        refine HL.out.mono ?_
        rintro e w1 ⟨rv1, rfl, h1, hs1⟩
        have htk := takes_yes Rl.wFlows w1 h1 a1 hl HF.out
        have HT := Lib.hid htk
        have HS1 := Lib.hid hs1
        clear htk hs1 h1
        go_wp2_with (fail)
        refine HT.out.mono ?_
        rintro e w2 ⟨rfl, h2, hs2⟩
        have H2 := Lib.hid h2
        have HS2 := Lib.hid hs2
        clear h2 hs2
        go_wp2_with (fail)
        refine (HL2.out _ _ H2.out).mono ?_
        rintro e w3 ⟨rv3, rfl, h3, hs3⟩
        have hput := put_any Rl.wFlows w3 h3 d2
        rw [Rl.op_flows] at hput
        have HP := Lib.hid hput
        have HS3 := Lib.hid hs3
        clear h3 hs3 hput
        go_wp2_with (fail)
        refine HP.out.mono ?_
        rintro e w4 ⟨rv4, rfl, h4, hs4⟩
        have H4 := Lib.hid h4
        have HS4 := Lib.hid hs4
        clear h4 hs4
        go_wp2
        go_ret
        exact ⟨_, rfl, H4.out, HS1.out.trans (HS2.out.trans (HS3.out.trans HS4.out))⟩
      · rw [if_neg hn2]
        have hn3 : ((n2 : Int) != 0) = true := by rw [bne_iff_ne]; omega
        clear hn2
        go_enter Tryz.func136, Tryz.ntmps136
        go_wp2_with (fail)
        refine HL.out.mono ?_
        rintro e w1 ⟨rv1, rfl, h1, hs1⟩
        have htk := takes_yes Rl.wFlows w1 h1 a1 hl HF.out
        have HT := Lib.hid htk
        have HS1 := Lib.hid hs1
        clear htk hs1 h1
        go_wp2_with (fail)
        refine HT.out.mono ?_
        rintro e w2 ⟨rfl, h2, hs2⟩
        have H2 := Lib.hid h2
        have HS2 := Lib.hid hs2
        clear h2 hs2
        go_wp2_with (fail)
        refine (HL2.out _ _ H2.out).mono ?_
        rintro e w3 ⟨rv3, rfl, h3, hs3⟩
        have H3 := Lib.hid h3
        have HS3 := Lib.hid hs3
        clear h3 hs3
        go_wp2
        go_ret
        exact ⟨_, rfl, H3.out, HS1.out.trans (HS2.out.trans HS3.out)⟩
  · rw [if_neg hn]
    have hn1 : ((n : Int) != 0) = true := by rw [bne_iff_ne]; omega
    clear hn hlab a3
    go_enter Tryz.func136, Tryz.ntmps136
    go_wp2_with (fail)
    refine HL.out.mono ?_
    rintro e w1 ⟨rv1, rfl, h1, hs1⟩
    have H1 := Lib.hid h1
    have HS1 := Lib.hid hs1
    clear h1 hs1
    go_wp2
    go_ret
    exact ⟨_, rfl, H1.out, HS1.out⟩

set_option maxHeartbeats 2000000 in
theorem prim_any {R M c : Nat} {A : Option Addr} {l : List Lx.Tk} {o : Nat} {cnd lab : Rl.St → Rl.Res} (he : Rl.Ends l) (hl : l.length ≤ 1000000) (hd12 : o ≤ 12) (hg : Rl.Good l o true lab) (hlab : ParsesAll R M A c l 92 lab o)
    (hgc : o < 12 → Rl.Good l (o + 1) false cnd) (hcnd : o < 12 → ParsesAll R M A c l 91 cnd (o + 1)) : ParsesAll R M A c l 117 (Rl.prim l cnd lab) o := by
  intro s hpos hd ho w rv h
  have hmf : ∀ (fn : Fn) (first cap : Array Value) (w : World), (Instr.makeFunc fn first cap).run Tryz.prog w = .ok (.func fn first cap) w := fun _ _ _ _ => rfl
  cases t1 : Rl.isN l s.pos Rl.wTrue
  · have k1 := takes_no Rl.wTrue w h hpos hl t1
    have K1 := Lib.hid k1
    cases t2 : Rl.isN l s.pos Rl.wFalse
    · have K2 := Lib.hid (fun W (hW : Rd R M A c l s rv W) => takes_no Rl.wFalse W hW hpos hl t2)
      have hnx := fun W (hW : Rd R M A c l s rv W) => isNext_any Rl.wOpen W hW hpos hl
      cases t3 : Rl.isN l s.pos Rl.wOpen
      · have ed : Rl.prim l cnd lab s = Rl.flow l lab s := by rw [Rl.prim, t1, t2, t3]; rfl
        rw [ed]
        rw [t3] at hnx
        have K3 := Lib.hid hnx
        have K4 := Lib.hid (flow_any he hl hg hlab s hpos hd ho)
        clear ed hnx t1 t2 t3 k1 h hlab hcnd hgc hg
        go_enter Tryz.func117, Tryz.ntmps117
        go_wp2_with (fail)
        refine K1.out.mono ?_
        rintro e w1 ⟨rfl, h1, hs1⟩
        have H1 := Lib.hid h1
        have HS1 := Lib.hid hs1
        clear h1 hs1
        go_wp2_with (fail)
        refine (K2.out _ H1.out).mono ?_
        rintro e w2 ⟨rfl, h2, hs2⟩
        have H2 := Lib.hid h2
        have HS2 := Lib.hid hs2
        clear h2 hs2
        go_wp2_with (fail)
        refine (K3.out _ H2.out).mono ?_
        rintro e w3 ⟨rfl, hb3⟩
        have HB3 := Lib.hid hb3
        clear hb3
        go_wp2_with (fail)
        refine (K4.out _ _ (H2.out.kept HB3.out)).mono ?_
        rintro e w4 ⟨rv4, rfl, h4, hs4⟩
        have H4 := Lib.hid h4
        have HS4 := Lib.hid hs4
        clear h4 hs4
        go_wp2
        go_ret
        exact ⟨_, rfl, H4.out, HS1.out.trans (HS2.out.trans ((Still.below HB3.out rv).trans HS4.out))⟩
      · have ed : Rl.prim l cnd lab s = Rl.inside l cnd Rl.wShut s := by rw [Rl.prim, t1, t2, t3]; rfl
        rw [ed]
        rw [t3] at hnx
        have hlt := Rl.isN_lt he t3
        have K3 := Lib.hid hnx
        have K4 := Lib.hid (fun W (hW : Rd R M A c l s rv W) => inside_any (g := 91) (p := cnd) Tryz.call91 Rl.wShut W hW hl hlt (by omega)
          (fun h1 => by
            obtain ⟨g1, g2, g3⟩ := hgc (by omega) (Rl.into s) hlt (by show s.deep + 1 = _; omega) ho
            exact ⟨g1, fun hh => by rw [(g3 hh).1, hd]⟩)
          (fun h1 => hcnd (by omega) (Rl.into s) hlt (by show s.deep + 1 = _; omega) ho))
        clear ed hnx t1 t2 t3 k1 h hlab hcnd hgc hg
        go_enter Tryz.func117, Tryz.ntmps117
        go_wp2_with (fail)
        refine K1.out.mono ?_
        rintro e w1 ⟨rfl, h1, hs1⟩
        have H1 := Lib.hid h1
        have HS1 := Lib.hid hs1
        clear h1 hs1
        go_wp2_with (fail)
        refine (K2.out _ H1.out).mono ?_
        rintro e w2 ⟨rfl, h2, hs2⟩
        have H2 := Lib.hid h2
        have HS2 := Lib.hid hs2
        clear h2 hs2
        go_wp2_with (fail)
        refine (K3.out _ H2.out).mono ?_
        rintro e w3 ⟨rfl, hb3⟩
        have HB3 := Lib.hid hb3
        clear hb3
        go_wp2_with (fail)
        refine (K4.out _ (H2.out.kept HB3.out)).mono ?_
        rintro e w4 ⟨rv4, rfl, h4, hs4⟩
        have H4 := Lib.hid h4
        have HS4 := Lib.hid hs4
        clear h4 hs4
        go_wp2
        go_ret
        exact ⟨_, rfl, H4.out, HS1.out.trans (HS2.out.trans ((Still.below HB3.out rv).trans HS4.out))⟩
    · have ed : Rl.prim l cnd lab s = Rl.put 2 (Rl.adv s) := by rw [Rl.prim, t1, t2]; rfl
      rw [ed]
      have K2 := Lib.hid (fun W (hW : Rd R M A c l s rv W) => takes_yes Rl.wFalse W hW hpos hl t2)
      have hput := fun W (hW : Rd R M A c l (Rl.adv s) rv W) => put_any Rl.wFalse W hW ho
      rw [Rl.op_false] at hput
      have K3 := Lib.hid hput
      clear ed t1 t2 k1 h hlab hcnd hgc hg hput
      go_enter Tryz.func117, Tryz.ntmps117
      go_wp2_with (fail)
      refine K1.out.mono ?_
      rintro e w1 ⟨rfl, h1, hs1⟩
      have H1 := Lib.hid h1
      have HS1 := Lib.hid hs1
      clear h1 hs1
      go_wp2_with (fail)
      refine (K2.out _ H1.out).mono ?_
      rintro e w2 ⟨rfl, h2, hs2⟩
      have H2 := Lib.hid h2
      have HS2 := Lib.hid hs2
      clear h2 hs2
      go_wp2_with (fail)
      refine (K3.out _ H2.out).mono ?_
      rintro e w4 ⟨rv4, rfl, h4, hs4⟩
      have H4 := Lib.hid h4
      have HS4 := Lib.hid hs4
      clear h4 hs4
      go_wp2
      go_ret
      exact ⟨_, rfl, H4.out, HS1.out.trans (HS2.out.trans HS4.out)⟩
  · have ed : Rl.prim l cnd lab s = Rl.put 1 (Rl.adv s) := by rw [Rl.prim, t1]; rfl
    rw [ed]
    have K1 := Lib.hid (takes_yes Rl.wTrue w h hpos hl t1)
    have hput := fun W (hW : Rd R M A c l (Rl.adv s) rv W) => put_any Rl.wTrue W hW ho
    rw [Rl.op_true] at hput
    have K3 := Lib.hid hput
    clear ed t1 h hlab hcnd hgc hg hput
    go_enter Tryz.func117, Tryz.ntmps117
    go_wp2_with (fail)
    refine K1.out.mono ?_
    rintro e w1 ⟨rfl, h1, hs1⟩
    have H1 := Lib.hid h1
    have HS1 := Lib.hid hs1
    clear h1 hs1
    go_wp2_with (fail)
    refine (K3.out _ H1.out).mono ?_
    rintro e w4 ⟨rv4, rfl, h4, hs4⟩
    have H4 := Lib.hid h4
    have HS4 := Lib.hid hs4
    clear h4 hs4
    go_wp2
    go_ret
    exact ⟨_, rfl, H4.out, HS1.out.trans HS4.out⟩
end Go.Proofs.YtggcmkpafpjnoaaGreatDoor

/- The walk of rows: parts with words between them. -/
namespace Go.Proofs.YtggcmkpafpjnoaaGreatDoor
set_option maxRecDepth 100000
open Go.RowKit Go.Shelf

namespace Rl
theorem loop_no {l : List Lx.Tk} {more : St → Res} {w : ByteArray} {n : Nat} {s : St} (h : isN l s.pos w = false) : loop l more w n s = (s, 0) := by
  cases n with
  | zero => rfl
  | succ n => rw [loop, if_neg (by rw [h]; decide)]
theorem loop_bad {l : List Lx.Tk} {more : St → Res} {w : ByteArray} {n : Nat} {s : St} (h : isN l s.pos w = true) (h2 : (more (adv s)).2 ≠ 0) : loop l more w (n + 1) s = more (adv s) := by rw [loop, if_pos h, if_neg h2]
theorem loop_full {l : List Lx.Tk} {more : St → Res} {w : ByteArray} {n : Nat} {s : St} (h : isN l s.pos w = true) (h2 : (more (adv s)).2 = 0) (h3 : (put (opOf w) (more (adv s)).1).2 ≠ 0) : loop l more w (n + 1) s = put (opOf w) (more (adv s)).1 := by rw [loop, if_pos h, if_pos h2, if_neg h3]
theorem loop_on {l : List Lx.Tk} {more : St → Res} {w : ByteArray} {n : Nat} {s : St} (h : isN l s.pos w = true) (h2 : (more (adv s)).2 = 0) (h3 : (put (opOf w) (more (adv s)).1).2 = 0) : loop l more w (n + 1) s = loop l more w n (put (opOf w) (more (adv s)).1).1 := by rw [loop, if_pos h, if_pos h2, if_pos h3]
end Rl

/-- Rows of parts, read with words that lie in a block. -/
def RowsAll (R M : Nat) (A : Option Addr) (c : Nat) (l : List Lx.Tk) (g : FuncId) (b : Nat) (cs : Array Value) (v : Value) (p : Rl.St → Rl.Res) (o : Nat) : Prop :=
  ∀ s : Rl.St, s.pos < l.length → s.deep = o → s.out.length ≤ 40 → ∀ (W : World) (rv : Value), Rd R M A c l s rv W → Blk W b 9 cs → Safe R rv W b →
    Calls Tryz.prog 116 #[.pointer (some ⟨R, 0, none⟩), .func (.func g) #[.pointer (some ⟨R, 0, none⟩)] #[], v] W (Told R M A c l rv W (p s))

theorem rows_none {R M c : Nat} {A : Option Addr} {l : List Lx.Tk} {o : Nat} {g : FuncId} {p : Rl.St → Rl.Res} (hen : ∀ args W, (callFunc g args).run Tryz.prog W = .ok (.enter g args) W) (hp : ParsesAll R M A c l g p o) (b : Nat) (cs : Array Value) (B : Option Addr) (cb : Nat) :
    RowsAll R M A c l g b cs (.slice B 0 cb) p o := by
  intro s hpos hd ho w rv h _ _
  have hP := hp s hpos hd ho w rv h
  have HP := Lib.hid hP
  clear hP h hp
  go_enter Tryz.func116, Tryz.ntmps116
  go_wp2_with (fail)
  refine HP.out.mono ?_
  rintro e w1 ⟨rv1, rfl, h1, hs1⟩
  have H1 := Lib.hid h1
  have HS1 := Lib.hid hs1
  clear h1 hs1
  go_wp2
  go_ret
  exact ⟨_, rfl, H1.out, HS1.out⟩

/-- What holds at the head of the rounds. -/
structure Round (R M : Nat) (A : Option Addr) (c : Nat) (l : List Lx.Tk) (o : Nat) (b : Nat) (cs : Array Value) (rv0 : Value) (w0 : World) (whole : Rl.Res) (more : Rl.St → Rl.Res) (wd : ByteArray) (s : Rl.St) (n : Nat) (rv : Value) (W : World) : Prop where
  rd : Rd R M A c l s rv W
  still : Still R rv0 rv w0 W
  blk : Blk W b 9 cs
  safe : Safe R rv W b
  pos : s.pos < l.length
  deep : s.deep = o
  out : s.out.length ≤ 40
  fuel : l.length ≤ n + s.pos
  goal : whole = Rl.loop l more wd n s
def rpos (R : Nat) (W : World) : Nat := (intOf ((W.cell? ⟨R, 1, none⟩).getD (.int .i64 0))).toNat
theorem rpos_of {R M c : Nat} {A : Option Addr} {l : List Lx.Tk} {s : Rl.St} {rv : Value} {W : World} (h : Rd R M A c l s rv W) : rpos R W = s.pos := by
  unfold rpos
  rw [h.facts.1.2.1]
  rfl

set_option maxHeartbeats 4000000 in
theorem rows_one {R M c : Nat} {A : Option Addr} {l : List Lx.Tk} {o : Nat} {sort : Bool} {g : FuncId} {p : Rl.St → Rl.Res} {ws : List ByteArray} {wd : ByteArray} (he : Rl.Ends l) (hl : l.length ≤ 1000000) (b : Nat) (cs : Array Value) (hcs : cs[1]? = some (.string wd))
    (hg : Rl.Good l o sort (Rl.rows l p ws)) (hm : RowsAll R M A c l g b cs (.slice (some ⟨b, 1, none⟩) 0 0) (Rl.rows l p ws) o) : RowsAll R M A c l g b cs (.slice (some ⟨b, 1, none⟩) 1 1) (Rl.rows l p (wd :: ws)) o := by
  intro s hpos hd ho w rv h hblk hsafe
  have hwhole : Rl.rows l p (wd :: ws) s = if (Rl.rows l p ws s).2 = 0 then Rl.loop l (Rl.rows l p ws) wd l.length (Rl.rows l p ws s).1 else Rl.rows l p ws s := rfl
  generalize Rl.rows l p (wd :: ws) s = whole at *
  generalize Rl.rows l p ws = more at *
  have hc : w.cell? ⟨b, 1, none⟩ = some (.string wd) := by rw [hblk.cell]; exact hcs
  have hM := fun m => hm s hpos hd ho (w.drewN m) rv (h.kept (below_drawn (Below.refl _ w) m)) (hblk.drewN m) hsafe
  obtain ⟨a1, a2, a3⟩ := hg s hpos hd ho
  have hblt := hblk.lt
  generalize more s = r at *
  obtain ⟨s1, n⟩ := r
  dsimp only at hM a1 a2 a3 hwhole
  have HM := Lib.hid hM
  have HBLK := Lib.hid hblk
  have HSAFE := Lib.hid hsafe
  have HMORE := Lib.hid hm
  clear hM h hblk hsafe hm hcs
  by_cases hn : n = 0
  · obtain ⟨b1, -, -⟩ := a3 hn
    subst hn
    rw [if_pos rfl] at hwhole
    have HWH := Lib.hid hwhole
    clear a3 hwhole
    go_enter Tryz.func116, Tryz.ntmps116
    go_wp2
    go_quiet (fail)
    go_wp2_with (fail)
    refine (HM.out _).mono ?_
    rintro e w1 ⟨rv1, rfl, h1, hs1⟩
    have hR : Round R M A c l o b cs rv w whole more wd s1 l.length rv1 w1 := ⟨h1, (Still.drewN (Still.refl R rv w) _).trans hs1, (hs1.block b HSAFE.out).trans HBLK.out, hs1.safe HSAFE.out, a1, b1, a2, by omega, HWH.out⟩
    have HR := Lib.hid hR
    clear h1 hs1 hR a1 a2 b1
    go_wp2
    go_loopw [10] (fun _ wr => ∃ (st : Rl.St) (k : Nat) (rvk : Value), Hid (Round R M A c l o b cs rv w whole more wd st k rvk wr)) (fun _ wr => l.length - rpos R wr)
    case atStart => exact ⟨_, _, _, HR.out⟩
    case round =>
      obtain ⟨st, k, rvk, HK⟩ := hrel
      have hpk := HK.out.pos
      obtain ⟨k, rfl⟩ : ∃ k', k = k' + 1 := ⟨k - 1, by have := HK.out.fuel; omega⟩
      have hp0 := rpos_of HK.out.rd
      have HP0 := Lib.hid hp0
      clear hp0
      cases hf : Rl.isN l st.pos wd
      · have htk := takes_no wd wr HK.out.rd hpk hl hf
        have HT := Lib.hid htk
        have HE := Lib.hid (HK.out.goal.trans (Rl.loop_no hf))
        clear htk hf
        go_wp2_with (fail)
        refine HT.out.mono ?_
        rintro e w2 ⟨rfl, h2, hs2⟩
        have H2 := Lib.hid h2
        have HS2 := Lib.hid hs2
        clear h2 hs2
        go_wp2
        go_ret
        rw [HE.out]
        exact ⟨_, rfl, H2.out, HK.out.still.trans HS2.out⟩
      · have htk := takes_yes wd wr HK.out.rd hpk hl hf
        have HT := Lib.hid htk
        have hlt := Rl.isN_lt he hf
        have hm2 := HMORE.out (Rl.adv st) hlt HK.out.deep HK.out.out
        obtain ⟨d1, d2, d3⟩ := hg (Rl.adv st) hlt HK.out.deep HK.out.out
        have e1 := fun h2 => Rl.loop_bad (n := k) (more := more) hf h2
        have e2 := fun h2 h3 => Rl.loop_full (n := k) (more := more) hf h2 h3
        have e3 := fun h2 h3 => Rl.loop_on (n := k) (more := more) hf h2 h3
        generalize more (Rl.adv st) = r2 at *
        obtain ⟨s2, n2⟩ := r2
        dsimp only at hm2 d1 d2 d3 e1 e2 e3
        have HM2 := Lib.hid hm2
        clear htk hf hm2
        by_cases hn2 : n2 = 0
        · obtain ⟨g1, g2, -⟩ := d3 hn2
          subst hn2
          obtain ⟨f1, f2, f3, -⟩ := Rl.put_good (Rl.opOf wd) s2 d2
          have hput := fun W rvp hW => put_any (R := R) (M := M) (A := A) (c := c) (l := l) (s := s2) (rv := rvp) wd W hW d2
          replace e2 := e2 rfl
          replace e3 := e3 rfl
          clear e1 d3
          generalize Rl.put (Rl.opOf wd) s2 = r3 at *
          obtain ⟨s3, n3⟩ := r3
          dsimp only at hput e2 e3 f1 f2 f3
          have HPUT := Lib.hid hput
          clear hput
          by_cases hn3 : n3 = 0
          · subst hn3
            have HE := Lib.hid (HK.out.goal.trans (e3 rfl))
            clear e2 e3
            go_wp2_with (fail)
            refine HT.out.mono ?_
            rintro e w2 ⟨rfl, h2, hs2⟩
            have hb2 := (hs2.block b HK.out.safe).trans HK.out.blk
            have hsf2 := hs2.safe HK.out.safe
            have hmm := HM2.out w2 rvk h2 hb2 hsf2
            have HMM := Lib.hid hmm
            have HS2 := Lib.hid hs2
            have HB2 := Lib.hid hb2
            have HF2 := Lib.hid hsf2
            clear h2 hs2 hb2 hsf2 hmm
            go_wp2_with (fail)
            refine HMM.out.mono ?_
            rintro e w3 ⟨rv3, rfl, h3, hs3⟩
            have hpp := HPUT.out w3 rv3 h3
            have HPP := Lib.hid hpp
            have HS3 := Lib.hid hs3
            clear h3 hs3 hpp
            go_wp2_with (fail)
            refine HPP.out.mono ?_
            rintro e w4 ⟨rv4, rfl, h4, hs4⟩
            have hs34 := HS3.out.trans hs4
            have hst : Still R rv rv4 w w4 := HK.out.still.trans (HS2.out.trans hs34)
            have hrd : Round R M A c l o b cs rv w whole more wd s3 k rv4 w4 := ⟨h4, hst, (hs34.block b HF2.out).trans HB2.out, hs34.safe HF2.out, by omega, by omega, f3, by have := HK.out.fuel; have g2' : st.pos + 1 < s2.pos := g2; omega, HE.out⟩
            have hp4 := rpos_of h4
            have HP4 := Lib.hid hp4
            have HRD := Lib.hid hrd
            clear h4 hs4 hs34 hst hrd hp4
            go_wp2
            go_roundw
            case rel => exact ⟨_, _, _, HRD⟩
            case measure => rw [HP4.out, HP0.out]; have g2' : st.pos + 1 < s2.pos := g2; omega
          · have hn4 : ((n3 : Int) != 0) = true := by rw [bne_iff_ne]; omega
            have HE := Lib.hid (HK.out.goal.trans (e2 hn3))
            clear e2 e3 hn3
            go_wp2_with (fail)
            refine HT.out.mono ?_
            rintro e w2 ⟨rfl, h2, hs2⟩
            have hmm := HM2.out w2 rvk h2 ((hs2.block b HK.out.safe).trans HK.out.blk) (hs2.safe HK.out.safe)
            have HMM := Lib.hid hmm
            have HS2 := Lib.hid hs2
            clear h2 hs2 hmm
            go_wp2_with (fail)
            refine HMM.out.mono ?_
            rintro e w3 ⟨rv3, rfl, h3, hs3⟩
            have hpp := HPUT.out w3 rv3 h3
            have HPP := Lib.hid hpp
            have HS3 := Lib.hid hs3
            clear h3 hs3 hpp
            go_wp2_with (fail)
            refine HPP.out.mono ?_
            rintro e w4 ⟨rv4, rfl, h4, hs4⟩
            have H4 := Lib.hid h4
            have HS4 := Lib.hid (HK.out.still.trans (HS2.out.trans (HS3.out.trans hs4)))
            clear h4 hs4
            go_wp2
            go_ret
            rw [HE.out]
            exact ⟨_, rfl, H4.out, HS4.out⟩
        · have hn4 : ((n2 : Int) != 0) = true := by rw [bne_iff_ne]; omega
          have HE := Lib.hid (HK.out.goal.trans (e1 hn2))
          clear e1 e2 e3 d3 hn2
          go_wp2_with (fail)
          refine HT.out.mono ?_
          rintro e w2 ⟨rfl, h2, hs2⟩
          have hmm := HM2.out w2 rvk h2 ((hs2.block b HK.out.safe).trans HK.out.blk) (hs2.safe HK.out.safe)
          have HMM := Lib.hid hmm
          have HS2 := Lib.hid hs2
          clear h2 hs2 hmm
          go_wp2_with (fail)
          refine HMM.out.mono ?_
          rintro e w3 ⟨rv3, rfl, h3, hs3⟩
          have H3 := Lib.hid h3
          have HS3 := Lib.hid (HK.out.still.trans (HS2.out.trans hs3))
          clear h3 hs3
          go_wp2
          go_ret
          rw [HE.out]
          exact ⟨_, rfl, H3.out, HS3.out⟩
  · rw [if_neg hn] at hwhole
    have HWH := Lib.hid hwhole
    have hn1 : ((n : Int) != 0) = true := by rw [bne_iff_ne]; omega
    clear hwhole hn a3
    go_enter Tryz.func116, Tryz.ntmps116
    go_wp2
    go_quiet (fail)
    go_wp2_with (fail)
    refine (HM.out _).mono ?_
    rintro e w1 ⟨rv1, rfl, h1, hs1⟩
    have H1 := Lib.hid h1
    have HS1 := Lib.hid ((Still.drewN (Still.refl R rv w) _).trans hs1)
    clear h1 hs1
    go_wp2
    go_ret
    rw [HWH.out]
    exact ⟨_, rfl, H1.out, HS1.out⟩

set_option maxHeartbeats 4000000 in
theorem rows_two {R M c : Nat} {A : Option Addr} {l : List Lx.Tk} {o : Nat} {sort : Bool} {g : FuncId} {p : Rl.St → Rl.Res} {ws : List ByteArray} {wd : ByteArray} (he : Rl.Ends l) (hl : l.length ≤ 1000000) (b : Nat) (cs : Array Value) (hcs : cs[0]? = some (.string wd))
    (hg : Rl.Good l o sort (Rl.rows l p ws)) (hm : RowsAll R M A c l g b cs (.slice (some ⟨b, 1, none⟩) 1 1) (Rl.rows l p ws) o) : RowsAll R M A c l g b cs (.slice (some ⟨b, 0, none⟩) 2 2) (Rl.rows l p (wd :: ws)) o := by
  intro s hpos hd ho w rv h hblk hsafe
  have hwhole : Rl.rows l p (wd :: ws) s = if (Rl.rows l p ws s).2 = 0 then Rl.loop l (Rl.rows l p ws) wd l.length (Rl.rows l p ws s).1 else Rl.rows l p ws s := rfl
  generalize Rl.rows l p (wd :: ws) s = whole at *
  generalize Rl.rows l p ws = more at *
  have hc : w.cell? ⟨b, 0, none⟩ = some (.string wd) := by rw [hblk.cell]; exact hcs
  have hM := fun m => hm s hpos hd ho (w.drewN m) rv (h.kept (below_drawn (Below.refl _ w) m)) (hblk.drewN m) hsafe
  obtain ⟨a1, a2, a3⟩ := hg s hpos hd ho
  have hblt := hblk.lt
  generalize more s = r at *
  obtain ⟨s1, n⟩ := r
  dsimp only at hM a1 a2 a3 hwhole
  have HM := Lib.hid hM
  have HBLK := Lib.hid hblk
  have HSAFE := Lib.hid hsafe
  have HMORE := Lib.hid hm
  clear hM h hblk hsafe hm hcs
  by_cases hn : n = 0
  · obtain ⟨b1, -, -⟩ := a3 hn
    subst hn
    rw [if_pos rfl] at hwhole
    have HWH := Lib.hid hwhole
    clear a3 hwhole
    go_enter Tryz.func116, Tryz.ntmps116
    go_wp2
    go_quiet (fail)
    go_wp2_with (fail)
    refine (HM.out _).mono ?_
    rintro e w1 ⟨rv1, rfl, h1, hs1⟩
    have hR : Round R M A c l o b cs rv w whole more wd s1 l.length rv1 w1 := ⟨h1, (Still.drewN (Still.refl R rv w) _).trans hs1, (hs1.block b HSAFE.out).trans HBLK.out, hs1.safe HSAFE.out, a1, b1, a2, by omega, HWH.out⟩
    have HR := Lib.hid hR
    clear h1 hs1 hR a1 a2 b1
    go_wp2
    go_loopw [10] (fun _ wr => ∃ (st : Rl.St) (k : Nat) (rvk : Value), Hid (Round R M A c l o b cs rv w whole more wd st k rvk wr)) (fun _ wr => l.length - rpos R wr)
    case atStart => exact ⟨_, _, _, HR.out⟩
    case round =>
      obtain ⟨st, k, rvk, HK⟩ := hrel
      have hpk := HK.out.pos
      obtain ⟨k, rfl⟩ : ∃ k', k = k' + 1 := ⟨k - 1, by have := HK.out.fuel; omega⟩
      have hp0 := rpos_of HK.out.rd
      have HP0 := Lib.hid hp0
      clear hp0
      cases hf : Rl.isN l st.pos wd
      · have htk := takes_no wd wr HK.out.rd hpk hl hf
        have HT := Lib.hid htk
        have HE := Lib.hid (HK.out.goal.trans (Rl.loop_no hf))
        clear htk hf
        go_wp2_with (fail)
        refine HT.out.mono ?_
        rintro e w2 ⟨rfl, h2, hs2⟩
        have H2 := Lib.hid h2
        have HS2 := Lib.hid hs2
        clear h2 hs2
        go_wp2
        go_ret
        rw [HE.out]
        exact ⟨_, rfl, H2.out, HK.out.still.trans HS2.out⟩
      · have htk := takes_yes wd wr HK.out.rd hpk hl hf
        have HT := Lib.hid htk
        have hlt := Rl.isN_lt he hf
        have hm2 := HMORE.out (Rl.adv st) hlt HK.out.deep HK.out.out
        obtain ⟨d1, d2, d3⟩ := hg (Rl.adv st) hlt HK.out.deep HK.out.out
        have e1 := fun h2 => Rl.loop_bad (n := k) (more := more) hf h2
        have e2 := fun h2 h3 => Rl.loop_full (n := k) (more := more) hf h2 h3
        have e3 := fun h2 h3 => Rl.loop_on (n := k) (more := more) hf h2 h3
        generalize more (Rl.adv st) = r2 at *
        obtain ⟨s2, n2⟩ := r2
        dsimp only at hm2 d1 d2 d3 e1 e2 e3
        have HM2 := Lib.hid hm2
        clear htk hf hm2
        by_cases hn2 : n2 = 0
        · obtain ⟨g1, g2, -⟩ := d3 hn2
          subst hn2
          obtain ⟨f1, f2, f3, -⟩ := Rl.put_good (Rl.opOf wd) s2 d2
          have hput := fun W rvp hW => put_any (R := R) (M := M) (A := A) (c := c) (l := l) (s := s2) (rv := rvp) wd W hW d2
          replace e2 := e2 rfl
          replace e3 := e3 rfl
          clear e1 d3
          generalize Rl.put (Rl.opOf wd) s2 = r3 at *
          obtain ⟨s3, n3⟩ := r3
          dsimp only at hput e2 e3 f1 f2 f3
          have HPUT := Lib.hid hput
          clear hput
          by_cases hn3 : n3 = 0
          · subst hn3
            have HE := Lib.hid (HK.out.goal.trans (e3 rfl))
            clear e2 e3
            go_wp2_with (fail)
            refine HT.out.mono ?_
            rintro e w2 ⟨rfl, h2, hs2⟩
            have hb2 := (hs2.block b HK.out.safe).trans HK.out.blk
            have hsf2 := hs2.safe HK.out.safe
            have hmm := HM2.out w2 rvk h2 hb2 hsf2
            have HMM := Lib.hid hmm
            have HS2 := Lib.hid hs2
            have HB2 := Lib.hid hb2
            have HF2 := Lib.hid hsf2
            clear h2 hs2 hb2 hsf2 hmm
            go_wp2_with (fail)
            refine HMM.out.mono ?_
            rintro e w3 ⟨rv3, rfl, h3, hs3⟩
            have hpp := HPUT.out w3 rv3 h3
            have HPP := Lib.hid hpp
            have HS3 := Lib.hid hs3
            clear h3 hs3 hpp
            go_wp2_with (fail)
            refine HPP.out.mono ?_
            rintro e w4 ⟨rv4, rfl, h4, hs4⟩
            have hs34 := HS3.out.trans hs4
            have hst : Still R rv rv4 w w4 := HK.out.still.trans (HS2.out.trans hs34)
            have hrd : Round R M A c l o b cs rv w whole more wd s3 k rv4 w4 := ⟨h4, hst, (hs34.block b HF2.out).trans HB2.out, hs34.safe HF2.out, by omega, by omega, f3, by have := HK.out.fuel; have g2' : st.pos + 1 < s2.pos := g2; omega, HE.out⟩
            have hp4 := rpos_of h4
            have HP4 := Lib.hid hp4
            have HRD := Lib.hid hrd
            clear h4 hs4 hs34 hst hrd hp4
            go_wp2
            go_roundw
            case rel => exact ⟨_, _, _, HRD⟩
            case measure => rw [HP4.out, HP0.out]; have g2' : st.pos + 1 < s2.pos := g2; omega
          · have hn4 : ((n3 : Int) != 0) = true := by rw [bne_iff_ne]; omega
            have HE := Lib.hid (HK.out.goal.trans (e2 hn3))
            clear e2 e3 hn3
            go_wp2_with (fail)
            refine HT.out.mono ?_
            rintro e w2 ⟨rfl, h2, hs2⟩
            have hmm := HM2.out w2 rvk h2 ((hs2.block b HK.out.safe).trans HK.out.blk) (hs2.safe HK.out.safe)
            have HMM := Lib.hid hmm
            have HS2 := Lib.hid hs2
            clear h2 hs2 hmm
            go_wp2_with (fail)
            refine HMM.out.mono ?_
            rintro e w3 ⟨rv3, rfl, h3, hs3⟩
            have hpp := HPUT.out w3 rv3 h3
            have HPP := Lib.hid hpp
            have HS3 := Lib.hid hs3
            clear h3 hs3 hpp
            go_wp2_with (fail)
            refine HPP.out.mono ?_
            rintro e w4 ⟨rv4, rfl, h4, hs4⟩
            have H4 := Lib.hid h4
            have HS4 := Lib.hid (HK.out.still.trans (HS2.out.trans (HS3.out.trans hs4)))
            clear h4 hs4
            go_wp2
            go_ret
            rw [HE.out]
            exact ⟨_, rfl, H4.out, HS4.out⟩
        · have hn4 : ((n2 : Int) != 0) = true := by rw [bne_iff_ne]; omega
          have HE := Lib.hid (HK.out.goal.trans (e1 hn2))
          clear e1 e2 e3 d3 hn2
          go_wp2_with (fail)
          refine HT.out.mono ?_
          rintro e w2 ⟨rfl, h2, hs2⟩
          have hmm := HM2.out w2 rvk h2 ((hs2.block b HK.out.safe).trans HK.out.blk) (hs2.safe HK.out.safe)
          have HMM := Lib.hid hmm
          have HS2 := Lib.hid hs2
          clear h2 hs2 hmm
          go_wp2_with (fail)
          refine HMM.out.mono ?_
          rintro e w3 ⟨rv3, rfl, h3, hs3⟩
          have H3 := Lib.hid h3
          have HS3 := Lib.hid (HK.out.still.trans (HS2.out.trans hs3))
          clear h3 hs3
          go_wp2
          go_ret
          rw [HE.out]
          exact ⟨_, rfl, H3.out, HS3.out⟩
  · rw [if_neg hn] at hwhole
    have HWH := Lib.hid hwhole
    have hn1 : ((n : Int) != 0) = true := by rw [bne_iff_ne]; omega
    clear hwhole hn a3
    go_enter Tryz.func116, Tryz.ntmps116
    go_wp2
    go_quiet (fail)
    go_wp2_with (fail)
    refine (HM.out _).mono ?_
    rintro e w1 ⟨rv1, rfl, h1, hs1⟩
    have H1 := Lib.hid h1
    have HS1 := Lib.hid ((Still.drewN (Still.refl R rv w) _).trans hs1)
    clear h1 hs1
    go_wp2
    go_ret
    rw [HWH.out]
    exact ⟨_, rfl, H1.out, HS1.out⟩
end Go.Proofs.YtggcmkpafpjnoaaGreatDoor

/- The walks of cond and of label, by the depth; and of From. -/
namespace Go.Proofs.YtggcmkpafpjnoaaGreatDoor
set_option maxRecDepth 100000
open Go.RowKit Go.Shelf
attribute [local go_sem] Oper.semAt_some

theorem Rd.new_safe {R M c : Nat} {A : Option Addr} {l : List Lx.Tk} {s : Rl.St} {rv : Value} {w : World} (h : Rd R M A c l s rv w) (o : Obj) : Safe R rv (w.alloc o) w.heap.size := by
  refine ⟨by simp, by have := h.lt; omega, fun e => ?_⟩
  have := (h.own.lt _ e.symm).2
  omega
theorem rows_both {R M c : Nat} {A : Option Addr} {l : List Lx.Tk} {o : Nat} {sort : Bool} {g : FuncId} {p : Rl.St → Rl.Res} (hen : ∀ args W, (callFunc g args).run Tryz.prog W = .ok (.enter g args) W) (he : Rl.Ends l) (hl : l.length ≤ 1000000) (w1 w2 : ByteArray)
    (hw : ∀ w ∈ [w1, w2], ∀ q, Rl.step q (Rl.opOf w) = Rl.two q sort sort) (hg : Rl.Good l o sort p) (hp : ParsesAll R M A c l g p o) (b : Nat) : RowsAll R M A c l g b #[.string w1, .string w2] (.slice (some ⟨b, 0, none⟩) 2 2) (Rl.rows l p [w1, w2]) o :=
  rows_two he hl b _ rfl (Rl.rows_good he hg [w2] fun w h => hw w (.tail _ h)) (rows_one he hl b _ rfl (Rl.rows_good he hg [] fun w h => by cases h) (rows_none hen hp b _ _ _))

set_option maxHeartbeats 1000000 in
theorem label_of {R M c : Nat} {A : Option Addr} {l : List Lx.Tk} {o : Nat} {p : Rl.St → Rl.Res} (he : Rl.Ends l) (hl : l.length ≤ 1000000) (hg : Rl.Good l o true p) (hp : ParsesAll R M A c l 118 p o) :
    ParsesAll R M A c l 92 (Rl.rows l p [Rl.wJoin, Rl.wMeet]) o := by
  intro s hpos hd ho w rv h
  have hmf : ∀ (fn : Fn) (first cap : Array Value) (w : World), (Instr.makeFunc fn first cap).run Tryz.prog w = .ok (.func fn first cap) w := fun _ _ _ _ => rfl
  have hst := (Still.refl R rv w).alloc (.cells #[.string Rl.wJoin, .string Rl.wMeet] 9)
  have hr := rows_both (sort := true) Tryz.call118 he hl Rl.wJoin Rl.wMeet Rl.word_join hg hp w.heap.size s hpos hd ho _ rv (h.kept ((Below.refl _ w).alloc (Nat.le_refl _) _)) (Blk.new w 9 #[.string Rl.wJoin, .string Rl.wMeet]) (h.new_safe _)
  have HR := Lib.hid hr
  have HST := Lib.hid hst
  clear hr hst h hp hg
  go_enter Tryz.func92, Tryz.ntmps92
  go_wp2_with (fail)
  refine HR.out.mono ?_
  rintro e w1 ⟨rv1, rfl, h1, hs1⟩
  have H1 := Lib.hid h1
  have HS1 := Lib.hid hs1
  clear h1 hs1
  go_wp2
  go_ret
  exact ⟨_, rfl, H1.out, HST.out.trans HS1.out⟩
set_option maxHeartbeats 1000000 in
theorem cond_of {R M c : Nat} {A : Option Addr} {l : List Lx.Tk} {o : Nat} {p : Rl.St → Rl.Res} (he : Rl.Ends l) (hl : l.length ≤ 1000000) (hg : Rl.Good l o false p) (hp : ParsesAll R M A c l 117 p o) :
    ParsesAll R M A c l 91 (Rl.rows l p [Rl.wOr, Rl.wAnd]) o := by
  intro s hpos hd ho w rv h
  have hmf : ∀ (fn : Fn) (first cap : Array Value) (w : World), (Instr.makeFunc fn first cap).run Tryz.prog w = .ok (.func fn first cap) w := fun _ _ _ _ => rfl
  have hst := (Still.refl R rv w).alloc (.cells #[.string Rl.wOr, .string Rl.wAnd] 9)
  have hr := rows_both (sort := false) Tryz.call117 he hl Rl.wOr Rl.wAnd Rl.word_or hg hp w.heap.size s hpos hd ho _ rv (h.kept ((Below.refl _ w).alloc (Nat.le_refl _) _)) (Blk.new w 9 #[.string Rl.wOr, .string Rl.wAnd]) (h.new_safe _)
  have HR := Lib.hid hr
  have HST := Lib.hid hst
  clear hr hst h hp hg
  go_enter Tryz.func91, Tryz.ntmps91
  go_wp2_with (fail)
  refine HR.out.mono ?_
  rintro e w1 ⟨rv1, rfl, h1, hs1⟩
  have H1 := Lib.hid h1
  have HS1 := Lib.hid hs1
  clear h1 hs1
  go_wp2
  go_ret
  exact ⟨_, rfl, H1.out, HST.out.trans HS1.out⟩

section
variable {R M c : Nat} {A : Option Addr} {l : List Lx.Tk}
theorem label_all (he : Rl.Ends l) (hl : l.length ≤ 1000000) : ∀ (d o : Nat), o + d = 12 → ParsesAll R M A c l 92 (Rl.label l (d + 1)) o
  | 0, o, h => label_of he hl (Rl.atom_good he (by omega) fun h2 => absurd h2 (by omega)) fun s hpos hd ho w rv hr =>
      atom_any w hr he hl hpos (by omega) ho (fun h2 => absurd h2 (by omega)) fun h2 => absurd h2 (by omega)
  | d + 1, o, h => label_of he hl (Rl.atom_good he (by omega) fun _ => Rl.label_good he d (o + 1) (by omega)) fun s hpos hd ho w rv hr =>
      atom_any w hr he hl hpos (by omega) ho
        (fun _ hn => by
          obtain ⟨g1, _, g3⟩ := Rl.label_good he d (o + 1) (by omega) (Rl.into s) (Rl.isN_lt he hn) (by show s.deep + 1 = _; omega) ho
          exact ⟨g1, fun hh => by rw [(g3 hh).1, hd]⟩)
        fun _ hn => label_all he hl d (o + 1) (by omega) (Rl.into s) (Rl.isN_lt he hn) (by show s.deep + 1 = _; omega) ho
theorem cond_all (he : Rl.Ends l) (hl : l.length ≤ 1000000) : ∀ (d o : Nat), o + d = 12 → ParsesAll R M A c l 91 (Rl.cond l (d + 1)) o
  | 0, o, h => cond_of he hl (Rl.prim_good he (by omega) (fun h2 => absurd h2 (by omega)) (Rl.label_good he 0 o h))
      (prim_any he hl (by omega) (Rl.label_good he 0 o h) (label_all he hl 0 o h) (fun h2 => absurd h2 (by omega)) fun h2 => absurd h2 (by omega))
  | d + 1, o, h => cond_of he hl (Rl.prim_good he (by omega) (fun _ => Rl.cond_good he d (o + 1) (by omega)) (Rl.label_good he (d + 1) o h))
      (prim_any he hl (by omega) (Rl.label_good he (d + 1) o h) (label_all he hl (d + 1) o h) (fun _ => Rl.cond_good he d (o + 1) (by omega)) fun _ => cond_all he hl d (o + 1) (by omega))
end

/-- A slice of numbers. -/
def IsInts (w : World) (B : Nat) (v : Value) (l : List Int) : Prop := ∃ A c, v = .slice A l.length c ∧ Row w B A (ints l) ∧ l.length ≤ c
theorem IsInts.below {w w' : World} {B : Nat} {v : Value} {l : List Int} (h : IsInts w B v l) (hb : Below B w w') : IsInts w' B v l := by
  obtain ⟨A, c, e, hr, hc⟩ := h
  exact ⟨A, c, e, hr.below hb, hc⟩
theorem IsInts.more {w : World} {B B' : Nat} {v : Value} {l : List Int} (h : IsInts w B v l) (hB : B ≤ B') : IsInts w B' v l := by
  obtain ⟨A, c, e, hr, hc⟩ := h
  exact ⟨A, c, e, hr.more hB, hc⟩
theorem IsInts.nil (w : World) (B : Nat) : IsInts w B (.slice none 0 0) [] := ⟨none, 0, rfl, Row.nil, Nat.le_refl _⟩
namespace Rl
/-- May tokens be read from a place on? -/
def may (l : List Lx.Tk) (i : Int) : Bool := decide (0 ≤ i ∧ i < l.length ∧ ∃ t, l[l.length - 1]? = some t ∧ t.kind = 0)
def told (r : Res) : List Int × Nat × Nat := if r.2 = 0 then (r.1.out, r.1.pos, 0) else ([], r.1.pos, r.2)
/-- What From answers. -/
def from_ (l : List Lx.Tk) (i : Int) (lab : Bool) : List Int × Nat × Nat := if may l i = true then told (read l lab i.toNat) else ([], 0, 1)
end Rl
def FromRes (w : World) (r : List Int × Nat × Nat) (e : Ending) (w' : World) : Prop :=
  ∃ v, e = .returned (.tuple #[v, .int .i64 (r.2.1 : Int), .int .i64 (r.2.2 : Int)]) ∧ IsInts w' w'.heap.size v r.1 ∧ Below w.heap.size w w'
/-- What From answers, in memory of its own. -/
def NewAt (B : Nat) (v : Value) : Prop := ∀ ad n c, v = .slice (some ad) n c → B ≤ ad.block
def FromNew (w : World) (r : List Int × Nat × Nat) (e : Ending) (w' : World) : Prop :=
  ∃ v, e = .returned (.tuple #[v, .int .i64 (r.2.1 : Int), .int .i64 (r.2.2 : Int)]) ∧ IsInts w' w'.heap.size v r.1 ∧ Below w.heap.size w w' ∧ NewAt w.heap.size v
theorem FromNew.res {w w' : World} {r : List Int × Nat × Nat} {e : Ending} (h : FromNew w r e w') : FromRes w r e w' := by
  obtain ⟨v, h1, h2, h3, _⟩ := h
  exact ⟨v, h1, h2, h3⟩
theorem own_new {W : World} {base sz n : Nat} {e : TypeId} {v : Value} {xs : List Value} (h : W.ownsRow base e sz v n xs) {B : Nat} (hB : B ≤ base) : NewAt B v := fun ad k c hv => by
  rcases h.2 with ⟨he, _⟩ | ⟨g, cap, cur, he, hb, _⟩
  · rw [hv] at he; cases he
  · rw [hv] at he
    injection he with e1 _ _
    injection e1 with e1
    subst e1
    exact Nat.le_trans hB hb
end Go.Proofs.YtggcmkpafpjnoaaGreatDoor

/- The walk of From. -/
namespace Go.Proofs.YtggcmkpafpjnoaaGreatDoor
set_option maxRecDepth 100000
open Go.RowKit Go.Shelf
attribute [local go_sem] Oper.semAt_some

theorem FromNew.bad {w w' : World} (a n : Nat) (hb : Below w.heap.size w w') : FromNew w ([], a, n) (.returned (.tuple #[.slice none 0 0, .int .i64 (a : Int), .int .i64 (n : Int)])) w' := ⟨_, rfl, IsInts.nil _ _, hb, fun _ _ _ e => by cases e⟩
/-- The world at which the reading begins. -/
def began (w : World) (A : Option Addr) (n c : Nat) (i : Nat) : World := (w.alloc (.map (putsTo 13) 13)).alloc (.cells #[.slice A n c, .int .i64 (i : Int), .int .i64 0, .slice none 0 0, .map (some w.heap.size)] 151)
theorem began_rd {A : Option Addr} {l : List Lx.Tk} {w : World} (c i : Nat) (h : Row w w.heap.size A (tcells l)) : Rd (w.heap.size + 1) w.heap.size A c l ⟨i, 0, []⟩ (.slice none 0 0) (began w A l.length c i) := by
  have hb : Below w.heap.size w (began w A l.length c i) := ((Below.refl _ w).alloc (Nat.le_refl _) _).alloc (by simp) _
  have hz : (began w A l.length c i).heap.size = w.heap.size + 2 := by unfold began; simp
  have hblk : Blk (began w A l.length c i) (w.heap.size + 1) 151 #[.slice A l.length c, .int .i64 (i : Int), .int .i64 0, .slice none 0 0, .map (some w.heap.size)] := by
    have := Blk.new (w.alloc (.map (putsTo 13) 13)) 151 #[.slice A l.length c, .int .i64 (i : Int), .int .i64 0, .slice none 0 0, .map (some w.heap.size)]
    rwa [World.size_alloc] at this
  refine ⟨hblk, World.ownsRow_nil _ _ _ _, fun hn => ?_, ?_, ⟨by rw [hz]; omega, by omega, fun e => by cases e⟩⟩
  · obtain ⟨ad, e, hk, hc⟩ := h hn
    exact ⟨ad, e, ⟨by rw [hz]; omega, by omega, fun e => by cases e⟩, fun j u hu => (hb.cell (by rw [add_block]; exact hk)).trans (hc j u hu)⟩
  · exact (Below.heap_alloc _ _ _ (by simp)).trans (World.alloc_heap_new w _)
theorem began_still {A : Option Addr} {w w' : World} {n c i : Nat} {rv : Value} (h : Still (w.heap.size + 1) (.slice none 0 0) rv (began w A n c i) w') : Below w.heap.size w w' := by
  have hb : Below w.heap.size w (began w A n c i) := ((Below.refl _ w).alloc (Nat.le_refl _) _).alloc (by simp) _
  refine hb.trans ⟨h.os, h.tape, h.output, h.size, fun k hk => h.block k ⟨?_, by omega, fun e => by cases e⟩⟩
  have := hb.size
  omega
theorem may_no {l : List Lx.Tk} {i : Int} {lab : Bool} (h : Rl.may l i = false) : Rl.from_ l i lab = ([], 0, 1) := by unfold Rl.from_; rw [h]; rfl
theorem may_yes {l : List Lx.Tk} {i : Int} {lab : Bool} (h : Rl.may l i = true) : Rl.from_ l i lab = Rl.told (Rl.read l lab i.toNat) := by unfold Rl.from_; rw [h]; rfl

set_option maxHeartbeats 2000000 in
theorem from_out {A : Option Addr} {l : List Lx.Tk} (c : Nat) (i : Int) (lab : Bool) (w : World) (h : ¬ (0 ≤ i ∧ i < l.length)) : Calls Tryz.prog 63 #[.slice A l.length c, .int .i64 i, .bool lab] w (FromNew w (Rl.from_ l i lab)) := by
  have hm : Rl.may l i = false := decide_eq_false fun hh => h ⟨hh.1, hh.2.1⟩
  rw [may_no hm]
  clear hm
  by_cases h0 : i < 0
  · clear h
    go_enter Tryz.func63, Tryz.ntmps63
    go_wp2
    go_ret3
    exact FromNew.bad 0 1 (Below.refl _ _)
  · have h1 : (l.length : Int) ≤ i := by omega
    clear h
    go_enter Tryz.func63, Tryz.ntmps63
    go_wp2
    go_ret3
    exact FromNew.bad 0 1 (Below.refl _ _)
set_option maxHeartbeats 2000000 in
theorem from_last {A : Option Addr} {l : List Lx.Tk} (c : Nat) (i : Int) (lab : Bool) (w : World) (hr : Row w w.heap.size A (tcells l)) (hl : l.length ≤ 1000000) (h0 : 0 ≤ i) (h1 : i < l.length) (hm : Rl.may l i = false) : Calls Tryz.prog 63 #[.slice A l.length c, .int .i64 i, .bool lab] w (FromNew w (Rl.from_ l i lab)) := by
  rw [may_no hm]
  obtain ⟨n, hn⟩ : ∃ n, l.length = n + 1 := ⟨l.length - 1, by omega⟩
  obtain ⟨ad, t, rfl, -, ht, c0, -, -⟩ := trow_at hr (show n < l.length by omega)
  have hk : t.kind ≠ 0 := fun hk => by
    have : Rl.may l i = true := decide_eq_true ⟨h0, h1, t, by rw [hn]; exact ht, hk⟩
    rw [this] at hm
    cases hm
  have hk0 : (t.kind != 0) = true := by rw [bne_iff_ne]; exact hk
  rw [hn] at h1 ⊢
  have h2 : i < (n : Int) + 1 := by omega
  have hnb : n ≤ 1000000 := by omega
  clear hm hr ht hk hn h1 hl
  go_enter Tryz.func63, Tryz.ntmps63
  go_wp2
  go_ret3
  exact FromNew.bad 0 1 (Below.refl _ _)
set_option maxHeartbeats 4000000 in
theorem from_good {A : Option Addr} {l : List Lx.Tk} (c : Nat) (i : Int) (lab : Bool) (w : World) (hr : Row w w.heap.size A (tcells l)) (hl : l.length ≤ 1000000) (hm : Rl.may l i = true) : Calls Tryz.prog 63 #[.slice A l.length c, .int .i64 i, .bool lab] w (FromNew w (Rl.from_ l i lab)) := by
  rw [may_yes hm]
  obtain ⟨h0, h1, t, ht, hk⟩ := of_decide_eq_true hm
  obtain ⟨k, rfl⟩ : ∃ k : Nat, i = k := ⟨i.toNat, by omega⟩
  rw [Int.toNat_natCast]
  have hmf : ∀ (fn : Fn) (first cap : Array Value) (w : World), (Instr.makeFunc fn first cap).run Tryz.prog w = .ok (.func fn first cap) w := fun _ _ _ _ => rfl
  have he := Rl.ends_of ht hk
  have hkl : k < l.length := by omega
  have hrd := began_rd c k hr
  have hlab := label_all (R := w.heap.size + 1) (M := w.heap.size) (A := A) (c := c) he hl 12 0 rfl ⟨k, 0, []⟩ hkl rfl (by simp) _ _ hrd
  have hcnd := cond_all (R := w.heap.size + 1) (M := w.heap.size) (A := A) (c := c) he hl 12 0 rfl ⟨k, 0, []⟩ hkl rfl (by simp) _ _ hrd
  have hbst := fun w' rv => began_still (A := A) (w := w) (w' := w') (n := l.length) (c := c) (i := k) (rv := rv)
  obtain ⟨n, hn⟩ : ∃ n, l.length = n + 1 := ⟨l.length - 1, by omega⟩
  obtain ⟨ad, t', rfl, -, ht', c0, -, -⟩ := trow_at hr (show n < l.length by omega)
  rw [hn, Nat.add_sub_cancel, ht'] at ht
  injection ht with ht
  subst ht
  rw [hk] at c0
  have hb0 := World.size_alloc w (.map (putsTo 13) 13)
  unfold began at hlab hcnd hbst
  rw [hn] at hlab hcnd hbst ⊢
  have hk1 : (k : Int) < (n : Int) + 1 := by omega
  have hnb : n ≤ 1000000 := by omega
  have HN : Hid (l.length = n + 1) := hn
  have HP := Lib.hid (puts_any w)
  have HBS := Lib.hid hbst
  cases lab
  · have hread : Rl.read l false k = Rl.cond l 13 ⟨k, 0, []⟩ := rfl
    rw [hread]
    clear hread hlab
    generalize Rl.cond l 13 ⟨k, 0, []⟩ = r at *
    obtain ⟨s1, m⟩ := r
    have HC := Lib.hid hcnd
    clear hcnd hm hr hk ht' hn h1 hrd hbst hb0
    by_cases hm0 : m = 0
    · subst hm0
      go_enter Tryz.func63, Tryz.ntmps63
      go_wp2_with (go_at_call 90; refine HP.out.mono ?_; rintro e w' ⟨rfl, rfl⟩)
      refine HC.out.mono ?_
      rintro e w1 ⟨rv1, rfl, h1, hs1⟩
      obtain ⟨⟨-, c1, -, c3, -⟩, -⟩ := h1.facts
      obtain ⟨A1, cap, rfl⟩ := ownT_slice h1.own
      have hfin : ∀ q, FromNew w (Rl.told (s1, 0)) (.returned (.tuple #[.slice A1 s1.out.length cap, .int .i64 s1.pos, .int .i64 0])) (w1.drewN q) := fun q =>
        ⟨_, rfl, ⟨A1, cap, rfl, (ownT_row h1.own).1, (ownT_row h1.own).2⟩, below_drawn (HBS.out _ _ hs1) q, own_new h1.own (by omega)⟩
      have HF := Lib.hid hfin
      clear h1 hs1 hfin
      go_wp2
      go_quiet (fail)
      go_wp2
      go_ret3
      exact HF.out _
    · have hn1 : ((m : Int) != 0) = true := by rw [bne_iff_ne]; omega
      go_enter Tryz.func63, Tryz.ntmps63
      go_wp2_with (go_at_call 90; refine HP.out.mono ?_; rintro e w' ⟨rfl, rfl⟩)
      refine HC.out.mono ?_
      rintro e w1 ⟨rv1, rfl, h1, hs1⟩
      obtain ⟨⟨-, c1, -, -, -⟩, -⟩ := h1.facts
      have hfin : ∀ q, FromNew w (Rl.told (s1, m)) (.returned (.tuple #[.slice none 0 0, .int .i64 s1.pos, .int .i64 m])) (w1.drewN q) := fun q => by
        unfold Rl.told
        rw [if_neg hm0]
        exact FromNew.bad _ _ (below_drawn (HBS.out _ _ hs1) q)
      have HF := Lib.hid hfin
      clear h1 hs1 hfin hm0
      go_wp2
      go_quiet (fail)
      go_wp2
      go_ret3
      exact HF.out _
  · have hread : Rl.read l true k = Rl.label l 13 ⟨k, 0, []⟩ := rfl
    rw [hread]
    clear hread hcnd
    generalize Rl.label l 13 ⟨k, 0, []⟩ = r at *
    obtain ⟨s1, m⟩ := r
    have HC := Lib.hid hlab
    clear hlab hm hr hk ht' hn h1 hrd hbst hb0
    by_cases hm0 : m = 0
    · subst hm0
      go_enter Tryz.func63, Tryz.ntmps63
      go_wp2_with (go_at_call 90; refine HP.out.mono ?_; rintro e w' ⟨rfl, rfl⟩)
      refine HC.out.mono ?_
      rintro e w1 ⟨rv1, rfl, h1, hs1⟩
      obtain ⟨⟨-, c1, -, c3, -⟩, -⟩ := h1.facts
      obtain ⟨A1, cap, rfl⟩ := ownT_slice h1.own
      have hfin : ∀ q, FromNew w (Rl.told (s1, 0)) (.returned (.tuple #[.slice A1 s1.out.length cap, .int .i64 s1.pos, .int .i64 0])) (w1.drewN q) := fun q =>
        ⟨_, rfl, ⟨A1, cap, rfl, (ownT_row h1.own).1, (ownT_row h1.own).2⟩, below_drawn (HBS.out _ _ hs1) q, own_new h1.own (by omega)⟩
      have HF := Lib.hid hfin
      clear h1 hs1 hfin
      go_wp2
      go_quiet (fail)
      go_wp2
      go_ret3
      exact HF.out _
    · have hn1 : ((m : Int) != 0) = true := by rw [bne_iff_ne]; omega
      go_enter Tryz.func63, Tryz.ntmps63
      go_wp2_with (go_at_call 90; refine HP.out.mono ?_; rintro e w' ⟨rfl, rfl⟩)
      refine HC.out.mono ?_
      rintro e w1 ⟨rv1, rfl, h1, hs1⟩
      obtain ⟨⟨-, c1, -, -, -⟩, -⟩ := h1.facts
      have hfin : ∀ q, FromNew w (Rl.told (s1, m)) (.returned (.tuple #[.slice none 0 0, .int .i64 s1.pos, .int .i64 m])) (w1.drewN q) := fun q => by
        unfold Rl.told
        rw [if_neg hm0]
        exact FromNew.bad _ _ (below_drawn (HBS.out _ _ hs1) q)
      have HF := Lib.hid hfin
      clear h1 hs1 hfin hm0
      go_wp2
      go_quiet (fail)
      go_wp2
      go_ret3
      exact HF.out _
theorem from_anyN {A : Option Addr} {l : List Lx.Tk} (c : Nat) (i : Int) (lab : Bool) (w : World) (hr : Row w w.heap.size A (tcells l)) (hl : l.length ≤ 1000000) : Calls Tryz.prog 63 #[.slice A l.length c, .int .i64 i, .bool lab] w (FromNew w (Rl.from_ l i lab)) := by
  by_cases h : 0 ≤ i ∧ i < l.length
  · cases hm : Rl.may l i
    · exact from_last c i lab w hr hl h.1 h.2 hm
    · exact from_good c i lab w hr hl hm
  · exact from_out c i lab w h
theorem from_any {A : Option Addr} {l : List Lx.Tk} (c : Nat) (i : Int) (lab : Bool) (w : World) (hr : Row w w.heap.size A (tcells l)) (hl : l.length ≤ 1000000) : Calls Tryz.prog 63 #[.slice A l.length c, .int .i64 i, .bool lab] w (FromRes w (Rl.from_ l i lab)) :=
  (from_anyN c i lab w hr hl).mono fun _ _ h => h.res
end Go.Proofs.YtggcmkpafpjnoaaGreatDoor

/- Walks of the reference: two, Made, Right, Has, Uses, Same. -/
namespace Go.Proofs.YtggcmkpafpjnoaaGreatDoor
set_option maxRecDepth 100000
open Go.RowKit Go.Shelf

/-- A pile, told by numbers. -/
def sortN (b : Bool) : Int := if b then 2 else 1
def sorts (q : List Bool) : List Int := q.map sortN
theorem sorts_length (q : List Bool) : (sorts q).length = q.length := by simp [sorts]
theorem sorts_snoc (q : List Bool) (b : Bool) : sorts (q ++ [b]) = sorts q ++ [sortN b] := by simp [sorts]
theorem sorts_take (q : List Bool) (k : Nat) : (ints (sorts q)).take k = ints (sorts (q.take k)) := by simp [sorts, ints, List.map_take]
def NPile (base : Nat) (W : World) (v : Value) (q : List Bool) : Prop := W.ownsRow base 3 1 v q.length (ints (sorts q))
/-- Are a pile's last two of a sort? -/
def lastTwo (q : List Bool) (b : Bool) : Bool := (Rl.two q b b).isSome
theorem two_eq (q : List Bool) (a b : Bool) : Rl.two q a b = if lastTwo q a = true then some (q.take (q.length - 2) ++ [b]) else none := by
  unfold lastTwo Rl.two
  by_cases h : 2 ≤ q.length ∧ q[q.length - 2]? = some a ∧ q[q.length - 1]? = some a
  · rw [if_pos h, if_pos h]; rfl
  · rw [if_neg h, if_neg h]; rfl
theorem sortN_inj {a b : Bool} (h : sortN a = sortN b) : a = b := by cases a <;> cases b <;> first | rfl | (exact absurd h (by decide))

set_option maxHeartbeats 1000000 in
theorem rTwo_any {base : Nat} {q : List Bool} {v : Value} (b : Bool) (w : World) (h : NPile base w v q) (hl : q.length ≤ 1000000) : Calls Tryz.prog 72 #[v, .int .i64 (sortN b)] w fun e w' => e = .returned (.bool (lastTwo q b)) ∧ w = w' := by
  by_cases hs : q.length < 2
  · have e : lastTwo q b = false := by unfold lastTwo; rw [two_few hs]; rfl
    rw [e]
    obtain ⟨A, cap, rfl⟩ := ownT_slice h
    have h0 : (q.length : Int) < 2 := by omega
    have h1 : ¬ (2 : Int) ≤ (q.length : Int) := by omega
    clear h e hs
    go_enter Tryz.func72, Tryz.ntmps72
    go_wp2
    go_ret
    exact ⟨rfl, rfl⟩
  · obtain ⟨n, hq⟩ : ∃ n, q.length = n + 2 := ⟨q.length - 2, by omega⟩
    obtain ⟨g, cap, rfl, -⟩ := own_addr h (by omega)
    have hx0 : q[n]? = some q[n] := List.getElem?_eq_getElem (by omega)
    have hx1 : q[n + 1]? = some q[n + 1] := List.getElem?_eq_getElem (by omega)
    obtain ⟨x0, e0⟩ : ∃ x, q[n] = x := ⟨_, rfl⟩
    obtain ⟨x1, e1⟩ : ∃ x, q[n + 1] = x := ⟨_, rfl⟩
    rw [e0] at hx0
    rw [e1] at hx1
    have c0 := own_cell h (j := n) (u := .int .i64 (sortN x0)) (by simp [ints, sorts, hx0])
    have c1 := own_cell h (j := n + 1) (u := .int .i64 (sortN x1)) (by simp [ints, sorts, hx1])
    have hr : lastTwo q b = decide (x0 = b ∧ x1 = b) := by
      unfold lastTwo
      by_cases hx : x0 = b ∧ x1 = b
      · rw [two_yes hq (by rw [hx0, hx.1]) (by rw [hx1, hx.2]), decide_eq_true hx]; rfl
      · rw [two_no hq (fun h1 => hx ⟨by have := h1.1; rw [hx0] at this; injection this, by have := h1.2; rw [hx1] at this; injection this⟩), decide_eq_false hx]; rfl
    have hnb : n ≤ 1000000 := by omega
    rw [hq, hr]
    clear h hx0 hx1 e0 e1 hs hl hq hr
    cases b <;> cases x0 <;> cases x1
    all_goals
      unfold sortN at c0 c1 ⊢
      go_enter Tryz.func72, Tryz.ntmps72
      go_wp2
      go_ret
      exact ⟨rfl, rfl⟩

/-- What holds at the head of Made's rounds. -/
structure RMadeAt (w : World) (rule : List Int) (v : Value) (k : Nat) (q : List Bool) (W : World) : Prop where
  own : NPile w.heap.size W v q
  below : Below w.heap.size w W
  go : Rl.pileOf [] rule = Rl.pileOf q (rule.drop k)
  len : q.length ≤ k
def soleN : List Bool → Int
  | [b] => sortN b
  | _ => 0
def madeN (rule : List Int) : Int := if rule.length ≤ 40 then (match Rl.pileOf [] rule with | some q => soleN q | none => 0) else 0
theorem madeN_none {rule : List Int} (h : Rl.pileOf [] rule = none) : madeN rule = 0 := by unfold madeN; rw [h]; split <;> rfl
theorem madeN_right (rule : List Int) : (Rl.right rule false = decide (madeN rule = 1)) ∧ (Rl.right rule true = decide (madeN rule = 2)) ∧ (Rl.made rule = decide (madeN rule ≠ 0)) := by
  have key : Rl.right rule false = decide (madeN rule = 1) ∧ Rl.right rule true = decide (madeN rule = 2) ∧ (madeN rule = 0 ∨ madeN rule = 1 ∨ madeN rule = 2) := by
    by_cases h40 : rule.length ≤ 40
    · cases hp : Rl.pileOf [] rule with
      | none => rw [right_none hp, right_none hp, madeN_none hp]; exact ⟨rfl, rfl, .inl rfl⟩
      | some q =>
        rw [right_some h40 hp, right_some h40 hp]
        unfold madeN
        rw [if_pos h40, hp]
        match q with
        | [] => exact ⟨rfl, rfl, .inl rfl⟩
        | [b] => cases b <;> exact ⟨rfl, rfl, by decide⟩
        | x :: y :: r => exact ⟨by simp [soleN], by simp [soleN], .inl rfl⟩
    · rw [right_long (by omega), right_long (by omega)]
      unfold madeN
      rw [if_neg h40]
      exact ⟨rfl, rfl, .inl rfl⟩
  obtain ⟨k1, k2, k3⟩ := key
  refine ⟨k1, k2, ?_⟩
  unfold Rl.made
  rw [k1, k2]
  rcases k3 with e | e | e <;> rw [e] <;> rfl
end Go.Proofs.YtggcmkpafpjnoaaGreatDoor

/- The walk of the reference's Made. -/
namespace Go.Proofs.YtggcmkpafpjnoaaGreatDoor
set_option maxRecDepth 100000
open Go.RowKit Go.Shelf

/-- A number is answered, and old memory stays. -/
def TellsN (w : World) (n : Int) (e : Ending) (w' : World) : Prop := e = .returned (.int .i64 n) ∧ Below w.heap.size w w'
theorem npile_two {base : Nat} {W : World} {v : Value} {q : List Bool} {b : Bool} (h : NPile base W v q) (ht : lastTwo q b = true) : ∃ g cap m, v = .slice (some ⟨g, 0, none⟩) (m + 2) cap ∧ q.length = m + 2 ∧ m + 2 ≤ cap ∧ q.take (m + 1) = q.take m ++ [b] := by
  have h2 : ¬ q.length < 2 := fun h2 => by unfold lastTwo at ht; rw [two_few h2] at ht; cases ht
  obtain ⟨m, hm⟩ : ∃ m, q.length = m + 2 := ⟨q.length - 2, by omega⟩
  have hx : q[m]? = some b := Classical.byContradiction fun hx => by unfold lastTwo at ht; rw [two_no hm (fun h1 => hx h1.1)] at ht; cases ht
  obtain ⟨g, cap, rfl, -⟩ := own_addr h (by omega)
  have hc := (ownT_row h).2
  exact ⟨g, cap, m, by rw [hm], hm, by omega, by rw [List.take_add_one, hx]; rfl⟩

set_option maxHeartbeats 8000000 in
theorem rMade_any {A : Option Addr} {rule : List Int} (c : Nat) (w : World) (h : Row w w.heap.size A (ints rule)) (hl : rule.length ≤ 100000) : Calls Tryz.prog 53 #[.slice A rule.length c] w (TellsN w (madeN rule)) := by
  obtain ⟨i0, hi, hz0, hz1, hz2⟩ := info_parts Tryz.infoInt
  have H := Lib.hid h
  have hstart : RMadeAt w rule (.slice (some ⟨w.heap.size, 0, none⟩) 0 0) 0 [] (w.alloc (.cells #[] 3)) := ⟨World.ownsRow_made w #[] 0 (Nat.le_refl _) (by decide) rfl, (Below.refl _ w).alloc (Nat.le_refl _) _, rfl, Nat.le_refl _⟩
  have HS := Lib.hid hstart
  clear h hstart
  go_enter Tryz.func53, Tryz.ntmps53
  go_wp2
  go_loopw [3, 10] (fun v i wr => ∃ (k : Nat) (q : List Bool), k ≤ rule.length ∧ i = .int .i64 k ∧ Hid (RMadeAt w rule v k q wr)) (fun _ i _ => rule.length - (intOf i).toNat)
  case atStart => exact ⟨0, [], Nat.zero_le _, rfl, HS⟩
  case round =>
    obtain ⟨k, q, hk, rfl, HK⟩ := hrel
    by_cases hlt : k < rule.length
    · obtain ⟨ad, hA, hb, c0⟩ := irow_at (H.out.below HK.out.below) hlt
      rw [hA]
      have hql : q.length ≤ 1000000 := by have := HK.out.len; omega
      have hsz := HK.out.below.size
      have hown : wr.ownsRow w.heap.size 3 1 _ q.length (ints (sorts q)) := HK.out.own
      obtain ⟨A1, cap1, rfl⟩ := ownT_slice hown
      have hgo := HK.out.go
      have hon := fun r hs => hgo.trans (pile_on (r := r) hlt hs)
      have hstop := fun hs => hgo.trans (pile_stop hlt hs)
      clear hA hgo
      generalize rule[k] = x at *
      by_cases x1 : x = 1 ∨ x = 2
      · have HE := Lib.hid (hon (q ++ [false]) (by unfold Rl.step; rw [if_pos x1]))
        clear hon hstop
        rcases x1 with rfl | rfl
        all_goals
          go_wp2_with (at_builtin; refine wpList_append_own _ rfl _ _ 41 rfl w.heap.size 3 i0 (.int .i64 0) 1 8 Tryz.underlying41 hi hz0 hz1 hz2 rfl (by decide) _ _ _ rfl (hown.alloc _) ⟨wr.heap.size, 0, none⟩ 1 1 [.int .i64 (1)] rfl rfl (cells_new _ _ _) (by simp [Value.oneCell']) (by unfold maxLen; omega) (by omega) (by simp; omega) ?_)
          intro v' w' hown' hgrow _
          have hnx : RMadeAt w rule v' (k + 1) (q ++ [false]) w' := ⟨by
            unfold NPile
            rw [sorts_snoc, ints_snoc, List.length_append]
            exact hown', (HK.out.below.alloc hsz _).grown hgrow (by simp; omega) (fun k he => (hown.lt k he).1), HE.out, by have := HK.out.len; simp; omega⟩
          have HNX := Lib.hid hnx
          clear hown hown' hgrow hnx
          go_wp2
          go_roundw
          case rel => exact ⟨k + 1, _, by omega, by go_num, HNX⟩
          case measure => simp [intOf]; omega
      · have n1 : (x == 1) = false := by rw [beq_eq_false_iff_ne]; omega
        have n2 : (x == 2) = false := by rw [beq_eq_false_iff_ne]; omega
        by_cases x6 : 6 ≤ x ∧ x ≤ 11
        · have HE := Lib.hid (hon (q ++ [true]) (by unfold Rl.step; rw [if_neg x1, if_pos x6]))
          obtain ⟨x6, x11⟩ := x6
          clear hon hstop x1
          go_wp2_with (at_builtin; refine wpList_append_own _ rfl _ _ 41 rfl w.heap.size 3 i0 (.int .i64 0) 1 8 Tryz.underlying41 hi hz0 hz1 hz2 rfl (by decide) _ _ _ rfl (hown.alloc _) ⟨wr.heap.size, 0, none⟩ 1 1 [.int .i64 (2)] rfl rfl (cells_new _ _ _) (by simp [Value.oneCell']) (by unfold maxLen; omega) (by omega) (by simp; omega) ?_)
          intro v' w' hown' hgrow _
          have hnx : RMadeAt w rule v' (k + 1) (q ++ [true]) w' := ⟨by
            unfold NPile
            rw [sorts_snoc, ints_snoc, List.length_append]
            exact hown', (HK.out.below.alloc hsz _).grown hgrow (by simp; omega) (fun k he => (hown.lt k he).1), HE.out, by have := HK.out.len; simp; omega⟩
          have HNX := Lib.hid hnx
          clear hown hown' hgrow hnx
          go_wp2
          go_roundw
          case rel => exact ⟨k + 1, _, by omega, by go_num, HNX⟩
          case measure => simp [intOf]; omega
        · by_cases x3 : x = 3 ∨ x = 4
          · have hs : Rl.step q x = Rl.two q false false := by unfold Rl.step; rw [if_neg x1, if_neg x6, if_pos x3]
            rw [two_eq] at hs
            have hc := rTwo_any false wr HK.out.own hql
            cases ht : lastTwo q false
            · rw [ht] at hs hc
              have HE := Lib.hid (hstop hs)
              have HC := Lib.hid hc
              clear hon hstop hs hc ht x1 x6 hown n1 n2
              rcases x3 with rfl | rfl
              all_goals
                go_wp2_with (fail)
                refine HC.out.mono ?_
                rintro e w1 ⟨rfl, rfl⟩
                go_wp2
                go_ret
                exact ⟨reti (madeN_none HE.out).symm, HK.out.below⟩
            · rw [ht] at hs hc
              obtain ⟨g, cap, m, hv, hqm, hcap, htk⟩ := npile_two HK.out.own ht
              have HE := Lib.hid (hon _ hs)
              have HC := Lib.hid hc
              injection hv with e1 e2 e3
              subst e1 e3
              have hown2 := own_take (k := m + 1) (by rw [hqm] at hown; exact hown) (by omega)
              rw [sorts_take, htk] at hown2
              have hnx : RMadeAt w rule (.slice (some ⟨g, 0, none⟩) (m + 1) cap1) (k + 1) (q.take (q.length - 2) ++ [false]) wr := ⟨by
                unfold NPile
                rw [hqm, Nat.add_sub_cancel, List.length_append, List.length_take, hqm, show min m (m + 2) = m by omega]
                exact hown2, HK.out.below, HE.out, by have := HK.out.len; rw [List.length_append, List.length_take]; simp; omega⟩
              have HNX := Lib.hid hnx
              have hmk : m ≤ 1000000 := by omega
              rw [hqm]
              rw [hqm] at HC
              clear hon hstop hs hc ht x1 x6 hown n1 n2 hown2 hnx htk e2 hqm
              rcases x3 with rfl | rfl
              all_goals
                go_wp2_with (fail)
                refine HC.out.mono ?_
                rintro e w1 ⟨rfl, rfl⟩
                go_wp2
                go_roundw
                case rel => exact ⟨k + 1, _, by omega, by go_num, HNX⟩
                case measure => simp [intOf]; omega
          · have n3 : (x == 3) = false := by rw [beq_eq_false_iff_ne]; omega
            have n4 : (x == 4) = false := by rw [beq_eq_false_iff_ne]; omega
            by_cases x5 : x = 5
            · have hs : Rl.step q x = Rl.two q true false := by unfold Rl.step; rw [if_neg x1, if_neg x6, if_neg x3, if_pos x5]
              rw [two_eq] at hs
              have hc := rTwo_any true wr HK.out.own hql
              cases ht : lastTwo q true
              · rw [ht] at hs hc
                have HE := Lib.hid (hstop hs)
                have HC := Lib.hid hc
                clear hon hstop hs hc ht x1 x3 x6 hown n1 n2 n3 n4
                subst x5
                go_wp2_with (fail)
                refine HC.out.mono ?_
                rintro e w1 ⟨rfl, rfl⟩
                go_wp2
                go_ret
                exact ⟨reti (madeN_none HE.out).symm, HK.out.below⟩
              · rw [ht] at hs hc
                obtain ⟨g, cap, m, hv, hqm, hcap, htk⟩ := npile_two HK.out.own ht
                have HE := Lib.hid (hon _ hs)
                have HC := Lib.hid hc
                injection hv with e1 e2 e3
                subst e1 e3
                have hown2 := own_take (k := m) (by rw [hqm] at hown; exact hown) (by omega)
                rw [sorts_take] at hown2
                have hmk : m ≤ 1000000 := by omega
                have HLM : Hid ((q.take (q.length - 2)).length = m) := by unfold Hid; rw [List.length_take]; omega
                have HQ2 : Hid (q.take (q.length - 2) = q.take m) := by unfold Hid; rw [hqm]; rfl
                have HQM := Lib.hid hqm
                rw [hqm]
                rw [hqm] at HC
                clear hon hstop hs hc ht x1 x3 x6 hown n1 n2 n3 n4 htk e2 hqm
                subst x5
                have hown := hown2
                clear hown2
                go_wp2_with (fail)
                refine HC.out.mono ?_
                rintro e w1 ⟨rfl, rfl⟩
                go_wp2_with (at_builtin; refine wpList_append_own _ rfl _ _ 41 rfl w.heap.size 3 i0 (.int .i64 0) 1 8 Tryz.underlying41 hi hz0 hz1 hz2 rfl (by decide) _ _ _ rfl (hown.alloc _) ⟨wr.heap.size, 0, none⟩ 1 1 [.int .i64 (1)] rfl rfl (cells_new _ _ _) (by simp [Value.oneCell']) (by unfold maxLen; omega) (by omega) (by simp; omega) ?_)
                intro v' w' hown' hgrow _
                have hnx : RMadeAt w rule v' (k + 1) (q.take (q.length - 2) ++ [false]) w' := ⟨by
                  unfold NPile
                  rw [sorts_snoc, ints_snoc, List.length_append, HLM.out, HQ2.out]
                  exact hown', (HK.out.below.alloc hsz _).grown hgrow (by simp; omega) (fun k he => (hown.lt k he).1), HE.out, by have := HK.out.len; rw [List.length_append, HLM.out]; have := HQM.out; simp; omega⟩
                have HNX := Lib.hid hnx
                clear hown hown' hgrow hnx
                go_wp2
                go_roundw
                case rel => exact ⟨k + 1, _, by omega, by go_num, HNX⟩
                case measure => simp [intOf]; omega
            · have n5 : (x == 5) = false := by rw [beq_eq_false_iff_ne]; exact x5
              by_cases x12 : x = 12 ∨ x = 13
              · have hs : Rl.step q x = Rl.two q true true := by unfold Rl.step; rw [if_neg x1, if_neg x6, if_neg x3, if_neg x5, if_pos x12]
                rw [two_eq] at hs
                have hc := rTwo_any true wr HK.out.own hql
                cases ht : lastTwo q true
                · rw [ht] at hs hc
                  have HE := Lib.hid (hstop hs)
                  have HC := Lib.hid hc
                  clear hon hstop hs hc ht x1 x3 x5 x6 hown n1 n2 n3 n4 n5
                  rcases x12 with rfl | rfl
                  all_goals
                    go_wp2_with (fail)
                    refine HC.out.mono ?_
                    rintro e w1 ⟨rfl, rfl⟩
                    go_wp2
                    go_ret
                    exact ⟨reti (madeN_none HE.out).symm, HK.out.below⟩
                · rw [ht] at hs hc
                  obtain ⟨g, cap, m, hv, hqm, hcap, htk⟩ := npile_two HK.out.own ht
                  have HE := Lib.hid (hon _ hs)
                  have HC := Lib.hid hc
                  injection hv with e1 e2 e3
                  subst e1 e3
                  have hown2 := own_take (k := m + 1) (by rw [hqm] at hown; exact hown) (by omega)
                  rw [sorts_take, htk] at hown2
                  have hnx : RMadeAt w rule (.slice (some ⟨g, 0, none⟩) (m + 1) cap1) (k + 1) (q.take (q.length - 2) ++ [true]) wr := ⟨by
                    unfold NPile
                    rw [hqm, Nat.add_sub_cancel, List.length_append, List.length_take, hqm, show min m (m + 2) = m by omega]
                    exact hown2, HK.out.below, HE.out, by have := HK.out.len; rw [List.length_append, List.length_take]; simp; omega⟩
                  have HNX := Lib.hid hnx
                  have hmk : m ≤ 1000000 := by omega
                  rw [hqm]
                  rw [hqm] at HC
                  clear hon hstop hs hc ht x1 x3 x5 x6 hown n1 n2 n3 n4 n5 hown2 hnx htk e2 hqm
                  rcases x12 with rfl | rfl
                  all_goals
                    go_wp2_with (fail)
                    refine HC.out.mono ?_
                    rintro e w1 ⟨rfl, rfl⟩
                    go_wp2
                    go_roundw
                    case rel => exact ⟨k + 1, _, by omega, by go_num, HNX⟩
                    case measure => simp [intOf]; omega
              · have n12 : (x == 12) = false := by rw [beq_eq_false_iff_ne]; omega
                have n13 : (x == 13) = false := by rw [beq_eq_false_iff_ne]; omega
                have HE := Lib.hid (hstop (by unfold Rl.step; rw [if_neg x1, if_neg x6, if_neg x3, if_neg x5, if_neg x12]))
                have x6' : x < 6 ∨ 11 < x := by omega
                clear hon hstop x1 x3 x5 x6 x12 hown
                rcases x6' with x6 | x6
                all_goals
                  go_wp2
                  go_ret
                  exact ⟨reti (madeN_none HE.out).symm, HK.out.below⟩
    · obtain rfl : k = rule.length := by omega
      have hgo := HK.out.go
      rw [List.drop_length] at hgo
      have hown : wr.ownsRow w.heap.size 3 1 _ q.length (ints (sorts q)) := HK.out.own
      have HB := Lib.hid HK.out.below
      have hmd : madeN rule = if rule.length ≤ 40 then soleN q else 0 := by unfold madeN; rw [hgo]; rfl
      have HM := Lib.hid hmd
      clear hgo hmd
      match q, HK, HM, hown with
      | [], HK, HM, hown =>
        obtain ⟨A1, cap, rfl⟩ := ownT_slice hown
        clear hown HK
        go_wp2
        go_ret
        exact ⟨reti (by rw [HM.out]; split <;> rfl), HB.out⟩
      | [x], HK, HM, hown =>
        obtain ⟨g, cap, rfl, -⟩ := own_addr hown (by simp)
        have c0 := own_cell hown (j := 0) (u := .int .i64 (sortN x)) rfl
        clear hown HK
        by_cases h40 : (40 : Int) < (rule.length : Int)
        · go_wp2
          go_ret
          exact ⟨reti (by rw [HM.out, if_neg (by omega)]), HB.out⟩
        · have hp40 : ((40 : Int) < (rule.length : Int)) = False := eq_false h40
          have HL : Hid (rule.length ≤ 40) := by unfold Hid; omega
          clear h40
          go_wp2
          go_ret
          exact ⟨reti (by rw [HM.out, if_pos HL.out]; rfl), HB.out⟩
      | x :: y :: r, HK, HM, hown =>
        obtain ⟨A1, cap, rfl⟩ := ownT_slice hown
        have hne : (((x :: y :: r).length : Int) != 1) = true := by rw [bne_iff_ne]; simp; omega
        generalize (x :: y :: r).length = n at *
        clear hown HK
        go_wp2
        go_ret
        exact ⟨reti (by rw [HM.out]; split <;> rfl), HB.out⟩
end Go.Proofs.YtggcmkpafpjnoaaGreatDoor

/- Walks of the reference's Right, Has, Uses, Same. -/
namespace Go.Proofs.YtggcmkpafpjnoaaGreatDoor
set_option maxRecDepth 100000
open Go.RowKit Go.Shelf

theorem rRight_any {A : Option Addr} {rule : List Int} (c : Nat) (lab : Bool) (w : World) (h : Row w w.heap.size A (ints rule)) (hl : rule.length ≤ 100000) : Calls Tryz.prog 35 #[.slice A rule.length c, .bool lab] w (Tells w (Rl.right rule lab)) := by
  have HC := Lib.hid (rMade_any c w h hl)
  obtain ⟨e1, e2, -⟩ := madeN_right rule
  cases lab
  · rw [e1]
    clear h e1 e2
    go_enter Tryz.func35, Tryz.ntmps35
    go_wp2_with (fail)
    refine HC.out.mono ?_
    rintro e w1 ⟨rfl, hb1⟩
    have HB1 := Lib.hid hb1
    clear hb1
    generalize madeN rule = x at *
    go_wp2
    go_ret
    exact ⟨retb (by first | rfl | simp [beq_eq_decide]), HB1.out⟩
  · rw [e2]
    clear h e1 e2
    go_enter Tryz.func35, Tryz.ntmps35
    go_wp2_with (fail)
    refine HC.out.mono ?_
    rintro e w1 ⟨rfl, hb1⟩
    have HB1 := Lib.hid hb1
    clear hb1
    generalize madeN rule = x at *
    go_wp2
    go_ret
    exact ⟨retb (by first | rfl | simp [beq_eq_decide]), HB1.out⟩

theorem mem_take_next {rule : List Int} {k : Nat} (hk : k < rule.length) (n : Int) : n ∈ rule.take (k + 1) ↔ n ∈ rule.take k ∨ n = rule[k] := by
  rw [take_next hk, List.mem_append, List.mem_singleton]
set_option maxHeartbeats 1000000 in
theorem has_any {A : Option Addr} {rule : List Int} (c j : Nat) (w : World) (h : Row w w.heap.size A (ints rule)) (hl : rule.length ≤ 100000) (hj : j ≤ 100) : Calls Tryz.prog 54 #[.slice A rule.length c, .int .i64 j] w fun e w' => e = .returned (.bool (decide ((8 + (j : Int)) ∈ rule))) ∧ w = w' := by
  have H := Lib.hid h
  clear h
  go_enter Tryz.func54, Tryz.ntmps54
  go_wp2
  go_loop [9] (fun i => ∃ k : Nat, k ≤ rule.length ∧ i = .int .i64 k ∧ Hid (¬ (8 + (j : Int)) ∈ rule.take k)) (fun i => rule.length - (intOf i).toNat)
  case atStart => exact ⟨0, Nat.zero_le _, rfl, by unfold Hid; simp⟩
  case round =>
    obtain ⟨k, hk, rfl, HK⟩ := hrel
    by_cases hlt : k < rule.length
    · obtain ⟨ad, hA, hb, c0⟩ := irow_at H.out hlt
      have HM := Lib.hid (mem_take_next hlt (8 + (j : Int)))
      have hin : rule[k] ∈ rule := List.getElem_mem hlt
      have HI := Lib.hid hin
      rw [hA]
      clear hA hin
      generalize rule[k] = x at *
      by_cases hx : x = 8 + (j : Int)
      · have HX := Lib.hid hx
        subst hx
        go_wp2
        go_ret
        exact ⟨retb (by symm; rw [decide_eq_true_eq]; exact HI.out), rfl⟩
      · have hx0 : (x == 8 + (j : Int)) = false := by rw [beq_eq_false_iff_ne]; exact hx
        have HX := Lib.hid hx
        clear hx
        go_wp2
        go_round
        case rel => exact ⟨k + 1, by omega, by go_num, by unfold Hid; rw [HM.out]; rintro (h1 | h1); exact HK.out h1; exact HX.out h1.symm⟩
        case measure => simp [intOf]; omega
    · obtain rfl : k = rule.length := by omega
      have hno := HK.out
      rw [List.take_length] at hno
      have HNO := Lib.hid hno
      clear hno
      go_wp2
      go_ret
      exact ⟨retb (by symm; rw [decide_eq_false_iff_not]; exact HNO.out), rfl⟩

def usesTo (r : List Int) : Nat → Nat
  | 0 => 0
  | n + 1 => usesTo r n + (if (8 + (n : Int)) ∈ r then 2 ^ n else 0)
theorem usesTo_four (r : List Int) : usesTo r 4 = Rl.usesOf r := by
  have e0 : (8 : Int) + ((0 : Nat) : Int) = 8 := by decide
  have e1 : (8 : Int) + ((1 : Nat) : Int) = 9 := by decide
  have e2 : (8 : Int) + ((2 : Nat) : Int) = 10 := by decide
  have e3 : (8 : Int) + ((3 : Nat) : Int) = 11 := by decide
  have p0 : (2 : Nat) ^ 0 = 1 := rfl
  have p1 : (2 : Nat) ^ 1 = 2 := rfl
  have p2 : (2 : Nat) ^ 2 = 4 := rfl
  have p3 : (2 : Nat) ^ 3 = 8 := rfl
  simp only [usesTo, Rl.usesOf, e0, e1, e2, e3, p0, p1, p2, p3]
  omega
theorem usesTo_lt (r : List Int) : ∀ j, usesTo r j < 2 ^ j
  | 0 => by simp [usesTo]
  | j + 1 => by
    have := usesTo_lt r j
    rw [usesTo, Nat.pow_succ]
    split <;> omega
set_option maxHeartbeats 2000000 in
theorem rRSame_any {A A2 : Option Addr} {xs ys : List Int} (c c2 : Nat) (w : World) (h : Row w w.heap.size A (ints xs)) (h2 : Row w w.heap.size A2 (ints ys)) (hb : xs.length ≤ 100000) :
    Calls Tryz.prog 23 #[.slice A xs.length c, .slice A2 ys.length c2] w (Tells w (decide (xs = ys))) := by
  by_cases hl : xs.length = ys.length
  · have H := Lib.hid h
    have H2 := Lib.hid h2
    have HL := Lib.hid hl
    rw [← hl]
    clear h h2 hl
    go_enter Tryz.func23, Tryz.ntmps23
    go_wp2
    go_loopw [13] (fun i wr => ∃ k m : Nat, k ≤ xs.length ∧ i = .int .i64 k ∧ wr = w.drewN m ∧ Hid (xs.take k = ys.take k)) (fun i _ => xs.length - (intOf i).toNat)
    case atStart => exact ⟨0, 0, Nat.zero_le _, rfl, rfl, rfl⟩
    case round =>
      obtain ⟨k, m, hk, rfl, rfl, HK⟩ := hrel
      by_cases hlt : k < xs.length
      · have hlt2 : k < ys.length := by have := HL.out; omega
        obtain ⟨ad, hA, hb, c0⟩ := irow_at H.out hlt
        obtain ⟨ad2, hA2, hb2, c02⟩ := irow_at H2.out hlt2
        have HN := Lib.hid (take_next hlt)
        have HN2 := Lib.hid (take_next hlt2)
        have hne : xs[k] ≠ ys[k] → xs ≠ ys := fun h e => by subst e; exact h rfl
        have HNE := Lib.hid hne
        rw [hA, hA2]
        clear hA hA2 hne
        generalize xs[k] = x at *
        generalize ys[k] = y at *
        have hi : (k : Int) < (xs.length : Int) := by omega
        by_cases hxy : x = y
        · have HX := Lib.hid hxy
          have hx0 : (x != y) = false := by rw [bne_eq_false_iff_eq]; exact hxy
          clear hxy
          go_wp2
          go_quiet (fail)
          go_wp2
          go_roundw
          case rel => exact ⟨k + 1, _, by omega, by go_num, rfl, by unfold Hid; rw [HN.out, HN2.out, HK.out, HX.out]⟩
          case measure => simp [intOf]; omega
        · have HX := Lib.hid hxy
          have hx0 : (x != y) = true := by rw [bne_iff_ne]; exact hxy
          clear hxy
          go_wp2
          go_quiet (fail)
          go_wp2
          go_ret
          exact ⟨retb (by symm; rw [decide_eq_false_iff_not]; exact HNE.out HX.out), below_drawn (below_drawn (Below.refl _ _) _) _⟩
      · obtain rfl : k = xs.length := by omega
        have he := HK.out
        rw [List.take_length, HL.out, List.take_length] at he
        have HE := Lib.hid he
        clear he
        go_wp2
        go_ret
        exact ⟨retb (by symm; rw [decide_eq_true_eq]; exact HE.out), below_drawn (Below.refl _ _) _⟩
  · have hn : ((xs.length : Int) != (ys.length : Int)) = true := by rw [bne_iff_ne]; omega
    have HE : Hid (¬ xs = ys) := fun e => hl (by rw [e])
    clear h h2 hl
    go_enter Tryz.func23, Tryz.ntmps23
    go_wp2
    go_ret
    exact ⟨retb (by symm; rw [decide_eq_false_iff_not]; exact HE.out), Below.refl _ _⟩
end Go.Proofs.YtggcmkpafpjnoaaGreatDoor

/- Tables over plain data: what may be, what a text tells; what is written is read. -/
namespace Go.Proofs.YtggcmkpafpjnoaaGreatDoor
set_option maxRecDepth 100000
namespace Tb
open Sh (Tree Ok post toks txt deep At)
open Lx (Tk kt pack)

/-- A row's rules. -/
structure PR where
  m : List Int
  r : List Int
  p : List Int
deriving DecidableEq
def PR.none : PR := ⟨[], [], []⟩
def PR.put (x : PR) (j : Nat) (v : List Int) : PR := if j = 0 then { x with m := v } else if j = 1 then { x with r := v } else { x with p := v }
def okRules (x : PR) : Bool := Rl.right x.m false && (Rl.right x.r true && Rl.right x.p true)
def useOf (l : List Int) : Nat := if Rl.made l = true then Rl.usesOf l else 0
def over (op : Nat) (l : List Int) : Bool := decide (useOf l / 2 ^ (1 + arity op) ≠ 0)
def labE (op : Nat) (x : PR) : Nat := if (over op x.m || (over op x.r || over op x.p)) = true then 7 else 0
def rowE (op : Nat) (x : PR) : Nat := if okRules x = true then labE op x else 1
def firstBad : Nat → List PR → Nat × Nat
  | _, [] => (0, 0)
  | op, x :: r => if rowE op x = 0 then firstBad (op + 1) r else (op, rowE op x)
def check (l : List PR) : Nat × Nat := if l.length = 13 then firstBad 0 l else (0, 1)

theorem firstBad_ok {l : List PR} {op : Nat} : firstBad op l = (0, 0) → ∀ k x, l[k]? = some x → rowE (op + k) x = 0 := by
  induction l generalizing op with
  | nil => intro _ k x h; simp at h
  | cons y r ih =>
    intro h k x hk
    unfold firstBad at h
    by_cases hy : rowE op y = 0
    · rw [if_pos hy] at h
      cases k with
      | zero =>
        simp only [List.getElem?_cons_zero, Option.some.injEq] at hk
        subst hk
        exact hy
      | succ k =>
        have := ih h k x (by simpa using hk)
        rwa [show op + (k + 1) = op + 1 + k by omega]
    · rw [if_neg hy] at h
      exact absurd (congrArg Prod.snd h) hy
theorem firstBad_of {l : List PR} {op : Nat} (h : ∀ k x, l[k]? = some x → rowE (op + k) x = 0) : firstBad op l = (0, 0) := by
  induction l generalizing op with
  | nil => rfl
  | cons y r ih =>
    unfold firstBad
    have h0 : rowE op y = 0 := h 0 y rfl
    rw [if_pos h0]
    exact ih fun k x hk => by
      have := h (k + 1) x (by simpa using hk)
      rwa [show op + (k + 1) = op + 1 + k by omega] at this
theorem check_ok {l : List PR} (h : check l = (0, 0)) : l.length = 13 ∧ ∀ k x, l[k]? = some x → rowE k x = 0 := by
  unfold check at h
  by_cases hl : l.length = 13
  · rw [if_pos hl] at h
    exact ⟨hl, fun k x hk => by have := firstBad_ok h k x hk; rwa [Nat.zero_add] at this⟩
  · rw [if_neg hl] at h
    exact absurd (congrArg Prod.snd h) (by decide)
theorem rowE_ok {op : Nat} {x : PR} (h : rowE op x = 0) : okRules x = true ∧ labE op x = 0 := by
  unfold rowE at h
  by_cases ho : okRules x = true
  · rw [if_pos ho] at h
    exact ⟨ho, h⟩
  · rw [if_neg ho] at h
    cases h

/-! What a text tells. -/
def tok (l : List Tk) (k : Nat) : Tk := l.getD k ⟨0, ByteArray.empty, 0⟩
def find (s : ByteArray) : Option Nat := (List.range 13).find? fun op => decide (word op = s)
structure St where
  pos : Nat
  rows : List PR
  had : List Bool
def wordP (l : List Tk) (s : St) : St × Nat × Nat :=
  if (tok l s.pos).kind = 1 then
    (match find (tok l s.pos).text with
      | none => (s, 0, 6)
      | some op => if s.had.getD op false = true then (s, 0, 6) else ({ s with had := s.had.set op true, pos := s.pos + 1 }, op, 0))
  else (s, 0, 4)
def markP (l : List Tk) (m : ByteArray) (s : St) : St × Nat := if (tok l s.pos).text = m then ({ s with pos := s.pos + 1 }, 0) else (s, 4)
def partP (l : List Tk) (op j : Nat) (s : St) : St × Nat :=
  if (Rl.from_ l s.pos (decide (j ≠ 0))).2.2 = 0 then
    markP l mSemi { s with pos := (Rl.from_ l s.pos (decide (j ≠ 0))).2.1, rows := s.rows.set op ((s.rows.getD op PR.none).put j (Rl.from_ l s.pos (decide (j ≠ 0))).1) }
  else ({ s with pos := (Rl.from_ l s.pos (decide (j ≠ 0))).2.1 }, (Rl.from_ l s.pos (decide (j ≠ 0))).2.2)
/-- Rules j to 2 of a row. -/
def partsP (l : List Tk) (op : Nat) : Nat → Nat → St → St × Nat
  | 0, _, s => (s, 0)
  | n + 1, j, s => if (partP l op j s).2 = 0 then partsP l op n (j + 1) (partP l op j s).1 else partP l op j s
def endP (op i : Nat) (r : St × Nat) : St × Nat :=
  if r.2 = 0 then (if labE op (r.1.rows.getD op PR.none) = 0 then r else ({ r.1 with pos := i }, 7)) else r
def rowP (l : List Tk) (s : St) : St × Nat :=
  if (wordP l s).2.2 = 0 then
    (if (markP l mColon (wordP l s).1).2 = 0 then endP (wordP l s).2.1 s.pos (partsP l (wordP l s).2.1 3 0 (markP l mColon (wordP l s).1).1)
     else markP l mColon (wordP l s).1)
  else ((wordP l s).1, (wordP l s).2.2)
def tableP (l : List Tk) : Nat → St → St × Nat
  | 0, s => (s, 0)
  | n + 1, s => if (tok l s.pos).kind = 0 then (if s.had.contains false = true then (s, 9) else (s, 0))
    else if (rowP l s).2 = 0 then tableP l n (rowP l s).1 else rowP l s
def start : St := ⟨0, List.replicate 13 PR.none, List.replicate 13 false⟩
def parseL (x : List Tk × Nat × Nat) : List PR × Int × Nat :=
  if x.2.2 = 0 then (if (tableP x.1 x.1.length start).2 = 0 then ((tableP x.1 x.1.length start).1.rows, 0, 0) else ([], (tok x.1 (tableP x.1 x.1.length start).1.pos).pos, (tableP x.1 x.1.length start).2))
  else ([], x.2.1, x.2.2)
def parse (s : List UInt8) : List PR × Int × Nat := parseL (Lx.lex s)

/-! What is written is read. -/
/-- A row's rules, out of trees. -/
def Row.pr (x : Row) : PR := ⟨post x.m, post x.r, post x.p⟩
/-- A row that may be, and is not too deep. -/
def Row.good (x : Row) : Prop := x.ok ∧ (post x.m).length ≤ 40 ∧ (post x.r).length ≤ 40 ∧ (post x.p).length ≤ 40 ∧ deep x.m ≤ 12 ∧ deep x.r ≤ 12 ∧ deep x.p ≤ 12 ∧ labE x.op x.pr = 0
/-- The last token is the end. -/
def Fine (l : List Tk) : Prop := ∃ p, l[l.length - 1]? = some ⟨0, ByteArray.empty, p⟩
theorem Fine.ends {l : List Tk} (h : Fine l) : Rl.Ends l := by
  obtain ⟨p, hp⟩ := h
  exact Rl.ends_of hp rfl
theorem Fine.may {l : List Tk} (h : Fine l) {i : Nat} (hi : i < l.length) : Rl.may l i = true := by
  obtain ⟨p, hp⟩ := h
  exact decide_eq_true ⟨by omega, by omega, _, hp, rfl⟩
theorem Fine.from_ {l : List Tk} (h : Fine l) {i : Nat} (hi : i < l.length) (b : Bool) : Rl.from_ l i b = Rl.told (Rl.read l b i) := by
  rw [Rl.from_, if_pos (h.may hi), Int.toNat_natCast]
theorem tok_at {l : List Tk} {k : Nat} {p : Int × ByteArray} (h : At l k [p]) : (tok l k).kind = p.1 ∧ (tok l k).text = p.2 ∧ k < l.length := by
  obtain ⟨t, ht, e⟩ := h.head
  have h1 := h.lt
  unfold tok
  rw [List.getD_eq_getElem?_getD, ht]
  subst e
  exact ⟨rfl, rfl, h1⟩
theorem find_word {op : Nat} (h : op < 13) : find (word op) = some op := by
  have h1 : ∀ op < 13, find (word op) = some op := by decide +kernel
  exact h1 op h
theorem find_some {s : ByteArray} {op : Nat} (h : find s = some op) : op < 13 ∧ word op = s := by
  have h1 := List.find?_some h
  have h2 := List.mem_of_find?_eq_some h
  exact ⟨List.mem_range.1 h2, of_decide_eq_true h1⟩
theorem from_at {t : Tree} {b : Bool} (h : Ok b t) (hl : (post t).length ≤ 40) (hd : deep t ≤ 12) {l : List Tk} {i : Nat} (hf : Fine l) (h1 : At l i (toks t)) (h2 : At l (i + (toks t).length) [(3, mSemi)]) :
    Rl.from_ l i b = (post t, i + (toks t).length, 0) := by
  have hi := (tok_at h2).2.2
  rw [hf.from_ (by omega), Sh.read_at h hl hd h1 fun w hw => ?_]
  · rfl
  · rw [h2.isN]
    rcases hw with rfl | rfl | rfl | rfl <;> decide
theorem partP_at {t : Tree} {j op : Nat} (h : Ok (decide (j ≠ 0)) t) (hl : (post t).length ≤ 40) (hd : deep t ≤ 12) {l : List Tk} {s : St} (hf : Fine l) (h1 : At l s.pos (toks t)) (h2 : At l (s.pos + (toks t).length) [(3, mSemi)]) :
    partP l op j s = (⟨s.pos + (toks t).length + 1, s.rows.set op ((s.rows.getD op PR.none).put j (post t)), s.had⟩, 0) := by
  unfold partP
  rw [from_at h hl hd hf h1 h2, if_pos rfl]
  unfold markP
  rw [if_pos (tok_at h2).2.1]
theorem set_getD (l : List PR) (op : Nat) (v : PR) (h : op < l.length) : (l.set op v).getD op PR.none = v := by
  rw [List.getD_eq_getElem?_getD, List.getElem?_set_self h]
  rfl
theorem rowP_at {x : Row} (h : x.good) {l : List Tk} {s : St} {rest : List (Int × ByteArray)} (hf : Fine l) (ha : At l s.pos (rowToks x ++ rest)) (hh : s.had.getD x.op false = false) (hr : s.rows.length = 13) :
    rowP l s = (⟨s.pos + (rowToks x).length, s.rows.set x.op x.pr, s.had.set x.op true⟩, 0) ∧ At l (s.pos + (rowToks x).length) rest := by
  obtain ⟨hok, l1, l2, l3, d1, d2, d3, hlab⟩ := h
  obtain ⟨a1, a2, a3, a4, a5, a6, a7, a8, a9, hlen⟩ := row_at hok ha
  obtain ⟨hop, o1, o2, o3⟩ := hok
  obtain ⟨k1, t1, -⟩ := tok_at a1
  have hw : wordP l s = (⟨s.pos + 1, s.rows, s.had.set x.op true⟩, x.op, 0) := by
    unfold wordP
    rw [if_pos k1, t1, find_word hop]
    dsimp only
    rw [if_neg (by rw [hh]; decide)]
  have hm : markP l mColon ⟨s.pos + 1, s.rows, s.had.set x.op true⟩ = (⟨s.pos + 2, s.rows, s.had.set x.op true⟩, 0) := by
    unfold markP
    rw [if_pos (tok_at a2).2.1]
  have p0 := partP_at (j := 0) (op := x.op) (t := x.m) o1 l1 d1 (s := ⟨s.pos + 2, s.rows, s.had.set x.op true⟩) hf a3 a4
  have p1 := partP_at (j := 1) (op := x.op) (t := x.r) o2 l2 d2 (s := ⟨s.pos + 2 + (toks x.m).length + 1, s.rows.set x.op ((s.rows.getD x.op PR.none).put 0 (post x.m)), s.had.set x.op true⟩) hf a5 a6
  have p2 := partP_at (j := 2) (op := x.op) (t := x.p) o3 l3 d3 (s := ⟨s.pos + 2 + (toks x.m).length + 1 + (toks x.r).length + 1, (s.rows.set x.op ((s.rows.getD x.op PR.none).put 0 (post x.m))).set x.op (((s.rows.set x.op ((s.rows.getD x.op PR.none).put 0 (post x.m))).getD x.op PR.none).put 1 (post x.r)), s.had.set x.op true⟩) hf a7 a8
  dsimp only at p0 p1 p2
  rw [set_getD _ _ _ (by omega), List.set_set] at p1 p2
  rw [set_getD _ _ _ (by omega), List.set_set] at p2
  have hpr : (((s.rows.getD x.op PR.none).put 0 (post x.m)).put 1 (post x.r)).put 2 (post x.p) = x.pr := rfl
  rw [hpr] at p2
  refine ⟨?_, by
    rw [hlen]
    have e : s.pos + (2 + (toks x.m).length + 1 + (toks x.r).length + 1 + (toks x.p).length + 1) = s.pos + 2 + (toks x.m).length + 1 + (toks x.r).length + 1 + (toks x.p).length + 1 := by omega
    rw [e]
    exact a9⟩
  unfold rowP
  rw [hw]
  dsimp only
  rw [if_pos rfl, hm]
  dsimp only
  rw [if_pos rfl]
  unfold partsP
  rw [p0]
  dsimp only
  rw [if_pos rfl]
  unfold partsP
  rw [p1]
  dsimp only
  rw [if_pos rfl]
  unfold partsP
  rw [p2]
  dsimp only
  rw [if_pos rfl]
  unfold partsP endP
  dsimp only
  rw [if_pos rfl, set_getD _ _ _ (by omega), if_pos hlab, hlen]
  congr 2
  omega
/-- Rows, laid where they belong. -/
def lay (xs : List Row) (r : List PR) : List PR := xs.foldl (fun r x => r.set x.op x.pr) r
theorem lay_length : ∀ (xs : List Row) (r : List PR), (lay xs r).length = r.length
  | [], _ => rfl
  | x :: xs, r => (lay_length xs (r.set x.op x.pr)).trans (List.length_set ..)
theorem lay_other : ∀ (xs : List Row) (r : List PR) (k : Nat), (∀ x ∈ xs, x.op ≠ k) → (lay xs r)[k]? = r[k]?
  | [], _, _, _ => rfl
  | x :: xs, _, k, h => (lay_other xs _ k fun y hy => h y (.tail _ hy)).trans (List.getElem?_set_ne (h x (.head _)))
theorem lay_at : ∀ (xs : List Row) (r : List PR) (x : Row), (xs.map (·.op)).Nodup → x ∈ xs → x.op < r.length → (lay xs r)[x.op]? = some x.pr
  | y :: xs, r, x, hn, hx, hl => by
    rw [List.map_cons, List.nodup_cons] at hn
    rcases List.mem_cons.1 hx with rfl | hx
    · refine (lay_other xs _ x.op fun z hz e => hn.1 ?_).trans (List.getElem?_set_self hl)
      rw [← e]
      exact List.mem_map_of_mem hz
    · exact lay_at xs _ x hn.2 hx (by rw [List.length_set]; exact hl)
theorem tableP_at {l : List Tk} (hf : Fine l) : ∀ (xs : List Row) (s : St) (n : Nat), (∀ x ∈ xs, x.good) → (xs.map (·.op)).Nodup → (∀ x ∈ xs, s.had.getD x.op false = false) → s.rows.length = 13 → s.had.length = 13 → xs.length < n →
    At l s.pos (allToks xs ++ [(0, ByteArray.empty)]) → (∀ k, k < 13 → s.had.getD k false = true ∨ ∃ x ∈ xs, x.op = k) → ∃ s', tableP l n s = (s', 0) ∧ s'.rows = lay xs s.rows
  | [], s, n + 1, _, _, _, _, hh, _, ha, hc => by
    have hk := (tok_at (p := (0, ByteArray.empty)) (by simpa [allToks] using ha)).1
    refine ⟨s, ?_, rfl⟩
    unfold tableP
    rw [if_pos hk, if_neg]
    intro hcon
    have hmem := List.contains_iff_mem.1 hcon
    obtain ⟨k, hk1, hk2⟩ := List.getElem_of_mem hmem
    rcases hc k (by omega) with h | ⟨x, hx, _⟩
    · rw [List.getD_eq_getElem?_getD, List.getElem?_eq_getElem hk1, hk2] at h
      cases h
    · cases hx
  | x :: xs, s, n + 1, hg, hn, hnot, hr, hh, hlt, ha, hc => by
    have e : allToks (x :: xs) ++ [(0, ByteArray.empty)] = rowToks x ++ (allToks xs ++ [(0, ByteArray.empty)]) := by simp [allToks]
    rw [e] at ha
    have hx := hg x (.head _)
    obtain ⟨r1, r2⟩ := rowP_at hx hf ha (hnot x (.head _)) hr
    have hk : (tok l s.pos).kind = 1 := (tok_at (p := (1, word x.op)) (row_at hx.1 ha).1).1
    rw [List.map_cons, List.nodup_cons] at hn
    have hlen : x.op < 13 := hx.1.1
    obtain ⟨s', h1, h2⟩ := tableP_at hf xs ⟨s.pos + (rowToks x).length, s.rows.set x.op x.pr, s.had.set x.op true⟩ n (fun y hy => hg y (.tail _ hy)) hn.2
      (fun y hy => by
        have hne : x.op ≠ y.op := fun e => hn.1 (by rw [e]; exact List.mem_map_of_mem hy)
        show (s.had.set x.op true).getD y.op false = false
        rw [List.getD_eq_getElem?_getD, List.getElem?_set_ne hne, ← List.getD_eq_getElem?_getD]
        exact hnot y (.tail _ hy))
      (by simpa using hr) (by simpa using hh) (by simp at hlt; omega) r2
      (fun k hk => by
        by_cases hkx : x.op = k
        · subst hkx
          left
          show (s.had.set x.op true).getD x.op false = true
          rw [List.getD_eq_getElem?_getD, List.getElem?_set_self (by omega)]
          rfl
        · rcases hc k hk with h | ⟨y, hy, ey⟩
          · left
            show (s.had.set x.op true).getD k false = true
            rw [List.getD_eq_getElem?_getD, List.getElem?_set_ne hkx, ← List.getD_eq_getElem?_getD]
            exact h
          · rcases List.mem_cons.1 hy with rfl | hy
            · exact absurd ey hkx
            · exact .inr ⟨y, hy, ey⟩)
    refine ⟨s', ?_, h2⟩
    unfold tableP
    rw [if_neg (by rw [hk]; decide), r1]
    dsimp only
    rw [if_pos rfl]
    exact h1
/-- Rows of all instructions, in any order, are read, or are too many bytes or tokens. -/
theorem parse_all {xs : List Row} {rows : List PR} (hg : ∀ x ∈ xs, x.good) (hn : (xs.map (·.op)).Nodup) (hl : rows.length = 13) (hx : ∀ k r, rows[k]? = some r → ∃ x ∈ xs, x.op = k ∧ x.pr = r) :
    (Lx.lex (allTxt xs) = ([], 0, 8) ∧ (2000 < (allTxt xs).length ∨ 200 < (allToks xs).length + 1) ∧ parse (allTxt xs) = ([], 0, 8)) ∨
    (∃ l, Lx.lex (allTxt xs) = (l, 0, 0) ∧ ¬ 2000 < (allTxt xs).length ∧ ¬ 200 < (allToks xs).length + 1 ∧ parse (allTxt xs) = (rows, 0, 0)) := by
  rcases lex_all (fun x hx => (hg x hx).1) with ⟨h1, h2⟩ | ⟨l, h1, h2, h3, h4⟩
  · left
    refine ⟨h1, h2, ?_⟩
    unfold parse parseL
    rw [h1]
    rfl
  · right
    refine ⟨_, h1, h3, h4, ?_⟩
    have hlen : l.length = (allToks xs).length := by rw [← h2, List.length_map]
    have hf : Fine (l ++ [⟨0, ByteArray.empty, ((allTxt xs).length : Nat)⟩]) := ⟨((allTxt xs).length : Nat), by simp⟩
    have hat : At (l ++ [⟨0, ByteArray.empty, ((allTxt xs).length : Nat)⟩]) 0 (allToks xs ++ [(0, ByteArray.empty)]) := fun j p hj => by
      rw [← h2] at hj
      have e : l.map kt ++ [(0, ByteArray.empty)] = (l ++ [(⟨0, ByteArray.empty, ((allTxt xs).length : Nat)⟩ : Tk)]).map kt := by simp [kt]
      rw [e, List.getElem?_map] at hj
      obtain ⟨t, h5, h6⟩ := Option.map_eq_some_iff.1 hj
      exact ⟨t, (congrArg (fun i => (l ++ [(⟨0, ByteArray.empty, ((allTxt xs).length : Nat)⟩ : Tk)])[i]?) (Nat.zero_add j)).trans h5, h6⟩
    have hlong : ∀ ys : List Row, ys.length ≤ (allToks ys).length := by
      intro ys
      induction ys with
      | nil => exact Nat.zero_le _
      | cons y ys ih =>
        have : (allToks (y :: ys)).length = (rowToks y).length + (allToks ys).length := by simp [allToks]
        have : 1 ≤ (rowToks y).length := by simp [rowToks]
        simp only [List.length_cons]
        omega
    obtain ⟨s', h5, h6⟩ := tableP_at hf xs start (l ++ [⟨0, ByteArray.empty, ((allTxt xs).length : Nat)⟩] : List Tk).length hg hn
      (fun x hx => by
        have := (hg x hx).1.1
        show (List.replicate 13 false).getD x.op false = false
        rw [List.getD_eq_getElem?_getD, List.getElem?_replicate, if_pos this]
        rfl)
      (by simp [start]) (by simp [start]) (by have := hlong xs; simp; omega) hat
      (fun k hk => by
        obtain ⟨x, hx1, hx2, _⟩ := hx k rows[k] (List.getElem?_eq_getElem (by omega))
        exact .inr ⟨x, hx1, hx2⟩)
    have hrows : lay xs start.rows = rows := by
      apply List.ext_getElem?
      intro k
      by_cases hk : k < 13
      · obtain ⟨x, hx1, rfl, hx3⟩ := hx k rows[k] (List.getElem?_eq_getElem (by omega))
        rw [lay_at xs _ x hn hx1 (by simpa [start] using hk), hx3, List.getElem?_eq_getElem]
      · rw [List.getElem?_eq_none (by rw [lay_length]; simp [start]; omega), List.getElem?_eq_none (by omega)]
    unfold parse parseL
    rw [h1]
    dsimp only
    rw [if_pos rfl, h5]
    dsimp only
    rw [if_pos rfl, h6, hrows]
end Tb
end Go.Proofs.YtggcmkpafpjnoaaGreatDoor

/- Tables over plain data: where a reading stands; what is read may be. -/
namespace Go.Proofs.YtggcmkpafpjnoaaGreatDoor
set_option maxRecDepth 100000
namespace Tb
open Lx (Tk kt pack)

theorem lex_fine {s : List UInt8} {l : List Tk} {a : Nat} (h : Lx.lex s = (l, a, 0)) : Fine l ∧ 0 < l.length ∧ l.length ≤ 200 ∧ a = 0 := by
  obtain ⟨ts, rfl, h2, _⟩ := Lx.lex_ok h
  refine ⟨⟨(s.length : Nat), by simp⟩, by simp, by simp; omega, ?_⟩
  unfold Lx.lex at h
  by_cases h1 : 2000 < s.length
  · rw [if_pos h1] at h
    exact absurd (show (8 : Nat) = 0 from congrArg (fun x => x.2.2) h) (by decide)
  · rw [if_neg h1] at h
    by_cases h3 : (Lx.toks s.length s 0).2 < s.length
    · rw [if_pos h3] at h
      exact absurd (show (4 : Nat) = 0 from congrArg (fun x => x.2.2) h) (by decide)
    · rw [if_neg h3] at h
      by_cases h4 : 200 < (Lx.toks s.length s 0).1.length + 1
      · rw [if_pos h4] at h
        exact absurd (show (8 : Nat) = 0 from congrArg (fun x => x.2.2) h) (by decide)
      · rw [if_neg h4] at h
        exact (congrArg (fun x => x.2.1) h).symm
theorem lex_err6 {s : List UInt8} (h : (Lx.lex s).2.2 ≠ 0) : (Lx.lex s).1 = [] := by
  unfold Lx.lex at h ⊢
  by_cases h1 : 2000 < s.length
  · rw [if_pos h1]
  · rw [if_neg h1] at h ⊢
    by_cases h2 : (Lx.toks s.length s 0).2 < s.length
    · rw [if_pos h2]
    · rw [if_neg h2] at h ⊢
      by_cases h3 : 200 < (Lx.toks s.length s 0).1.length + 1
      · rw [if_pos h3]
      · rw [if_neg h3] at h
        exact absurd rfl h
section
variable {l : List Tk}
/-- Where a reading stands. -/
structure Stand (l : List Tk) (s : St) : Prop where
  pos : s.pos < l.length
  rows : s.rows.length = 13
  had : s.had.length = 13
theorem tok_some {k : Nat} (h : k < l.length) : l[k]? = some (tok l k) := by
  unfold tok
  rw [List.getD_eq_getElem?_getD, List.getElem?_eq_getElem h]
  rfl
theorem tok_not_last (hf : Fine l) {k : Nat} (h : k < l.length) (hk : (tok l k).kind ≠ 0 ∨ (tok l k).text ≠ ByteArray.empty) : k + 1 < l.length := by
  obtain ⟨p, hp⟩ := hf
  by_cases e : k = l.length - 1
  · subst e
    rw [tok_some h] at hp
    injection hp with hp
    rw [hp] at hk
    rcases hk with h1 | h1 <;> exact absurd rfl h1
  · omega
theorem markP_stand (hf : Fine l) {m : ByteArray} (hm : m ≠ ByteArray.empty) {s : St} (h : Stand l s) : Stand l (markP l m s).1 := by
  unfold markP
  by_cases ht : (tok l s.pos).text = m
  · rw [if_pos ht]
    exact ⟨tok_not_last hf h.pos (.inr (by rw [ht]; exact hm)), h.rows, h.had⟩
  · rw [if_neg ht]
    exact h
theorem markP_ok {m : ByteArray} {s : St} (h : (markP l m s).2 = 0) : (markP l m s).1 = { s with pos := s.pos + 1 } := by
  unfold markP at h ⊢
  by_cases ht : (tok l s.pos).text = m
  · rw [if_pos ht]
  · rw [if_neg ht] at h
    cases h
theorem wordP_stand (hf : Fine l) {s : St} (h : Stand l s) : Stand l (wordP l s).1 := by
  unfold wordP
  by_cases hk : (tok l s.pos).kind = 1
  · rw [if_pos hk]
    cases find (tok l s.pos).text with
    | none => exact h
    | some op =>
      dsimp only
      by_cases hh : s.had.getD op false = true
      · rw [if_pos hh]; exact h
      · rw [if_neg hh]
        exact ⟨tok_not_last hf h.pos (.inl (by rw [hk]; decide)), h.rows, by rw [List.length_set]; exact h.had⟩
  · rw [if_neg hk]; exact h
theorem wordP_ok {s : St} (h : (wordP l s).2.2 = 0) : ∃ op, op < 13 ∧ s.had.getD op false = false ∧ wordP l s = (⟨s.pos + 1, s.rows, s.had.set op true⟩, op, 0) := by
  unfold wordP at h ⊢
  by_cases hk : (tok l s.pos).kind = 1
  · rw [if_pos hk] at h ⊢
    cases hq : find (tok l s.pos).text with
    | none => rw [hq] at h; cases h
    | some op =>
      rw [hq] at h
      dsimp only at h ⊢
      by_cases hh : s.had.getD op false = true
      · rw [if_pos hh] at h; cases h
      · rw [if_neg hh]
        exact ⟨op, (find_some hq).1, by simpa using hh, rfl⟩
  · rw [if_neg hk] at h; cases h
theorem from_lt (hf : Fine l) {i : Nat} (hi : i < l.length) (b : Bool) : (Rl.from_ l i b).2.1 < l.length ∧ (Rl.from_ l i b).1.length ≤ 40 := by
  have h1 := Rl.read_lt hf.ends b i hi
  rw [hf.from_ hi]
  unfold Rl.told
  split
  · exact h1
  · exact ⟨h1.1, Nat.zero_le _⟩
theorem from_ok (hf : Fine l) {i : Nat} (hi : i < l.length) (b : Bool) (h : (Rl.from_ l i b).2.2 = 0) : Rl.right (Rl.from_ l i b).1 b = true ∧ i < (Rl.from_ l i b).2.1 := by
  rw [hf.from_ hi] at h ⊢
  unfold Rl.told at h ⊢
  by_cases h0 : (Rl.read l b i).2 = 0
  · rw [if_pos h0]
    have := Rl.read_right hf.ends b i hi h0
    exact ⟨this.1, this.2.2.1⟩
  · rw [if_neg h0] at h
    exact absurd h h0
theorem semi_ne : mSemi ≠ ByteArray.empty := by decide
theorem colon_ne : mColon ≠ ByteArray.empty := by decide
theorem partP_stand (hf : Fine l) {op j : Nat} {s : St} (h : Stand l s) : Stand l (partP l op j s).1 := by
  have h1 := (from_lt hf h.pos (decide (j ≠ 0))).1
  unfold partP
  split
  · exact markP_stand hf semi_ne ⟨h1, by rw [List.length_set]; exact h.rows, h.had⟩
  · exact ⟨h1, h.rows, h.had⟩
theorem partP_ok (hf : Fine l) {op j : Nat} {s : St} (h : Stand l s) (h0 : (partP l op j s).2 = 0) : ∃ pos a, (partP l op j s).1 = ⟨pos, s.rows.set op ((s.rows.getD op PR.none).put j a), s.had⟩ ∧ Rl.right a (decide (j ≠ 0)) = true ∧ s.pos < pos := by
  have h1 := from_ok hf h.pos (decide (j ≠ 0))
  unfold partP at h0 ⊢
  by_cases he : (Rl.from_ l s.pos (decide (j ≠ 0))).2.2 = 0
  · rw [if_pos he] at h0 ⊢
    exact ⟨_, _, markP_ok h0, (h1 he).1, Nat.lt_succ_of_lt (h1 he).2⟩
  · rw [if_neg he] at h0
    exact absurd h0 he
theorem partsP_stand (hf : Fine l) {op : Nat} : ∀ (n j : Nat) (s : St), Stand l s → Stand l (partsP l op n j s).1
  | 0, _, _, h => h
  | n + 1, j, s, h => by
    unfold partsP
    split
    · exact partsP_stand hf n (j + 1) _ (partP_stand hf h)
    · exact partP_stand hf h
theorem partsP_ok (hf : Fine l) {op : Nat} (hop : op < 13) {s : St} (h : Stand l s) (h0 : (partsP l op 3 0 s).2 = 0) :
    ∃ pos x, (partsP l op 3 0 s).1 = ⟨pos, s.rows.set op x, s.had⟩ ∧ okRules x = true ∧ s.pos < pos := by
  unfold partsP at h0 ⊢
  by_cases e0 : (partP l op 0 s).2 = 0
  · rw [if_pos e0] at h0 ⊢
    obtain ⟨p0, a, q0, r0, l0⟩ := partP_ok hf h e0
    have g0 := partP_stand (op := op) (j := 0) hf h
    unfold partsP at h0 ⊢
    by_cases e1 : (partP l op (0 + 1) (partP l op 0 s).1).2 = 0
    · rw [if_pos e1] at h0 ⊢
      obtain ⟨p1, b, q1, r1, l1⟩ := partP_ok hf g0 e1
      have g1 := partP_stand (op := op) (j := 0 + 1) hf g0
      unfold partsP at h0 ⊢
      by_cases e2 : (partP l op (0 + 1 + 1) (partP l op (0 + 1) (partP l op 0 s).1).1).2 = 0
      · rw [if_pos e2] at h0 ⊢
        obtain ⟨p2, c, q2, r2, l2⟩ := partP_ok hf g1 e2
        unfold partsP
        rw [q2, q1, q0]
        rw [q0] at l1
        have l2 : p1 < p2 := by rw [q1] at l2; exact l2
        dsimp only at l0 l1 l2 ⊢
        have hrl := h.rows
        rw [set_getD _ _ _ (by simpa [hrl] using hop), List.set_set, set_getD _ _ _ (by simpa [hrl] using hop), List.set_set]
        refine ⟨p2, _, rfl, ?_, by omega⟩
        have hpr : (((s.rows.getD op PR.none).put 0 a).put (0 + 1) b).put (0 + 1 + 1) c = ⟨a, b, c⟩ := rfl
        rw [hpr]
        unfold okRules
        have x0 : Rl.right a false = true := r0
        have x1 : Rl.right b true = true := r1
        have x2 : Rl.right c true = true := r2
        rw [x0, x1, x2]
        rfl
      · rw [if_neg e2] at h0
        exact absurd h0 e2
    · rw [if_neg e1] at h0
      exact absurd h0 e1
  · rw [if_neg e0] at h0
    exact absurd h0 e0
theorem endP_stand {op i : Nat} {r : St × Nat} (h : Stand l r.1) (hi : i < l.length) : Stand l (endP op i r).1 := by
  unfold endP
  split
  · split
    · exact h
    · exact ⟨hi, h.rows, h.had⟩
  · exact h
theorem rowP_stand (hf : Fine l) {s : St} (h : Stand l s) : Stand l (rowP l s).1 := by
  have hw := wordP_stand hf h
  have hm := markP_stand hf colon_ne hw
  unfold rowP
  split
  · split
    · exact endP_stand (partsP_stand hf 3 0 _ hm) h.pos
    · exact hm
  · exact hw
theorem rowP_ok (hf : Fine l) {s : St} (h : Stand l s) (h0 : (rowP l s).2 = 0) : ∃ op x pos, op < 13 ∧ s.had.getD op false = false ∧ rowE op x = 0 ∧ (rowP l s).1 = ⟨pos, s.rows.set op x, s.had.set op true⟩ ∧ s.pos < pos := by
  have hw := wordP_stand hf h
  have hm := markP_stand hf colon_ne hw
  unfold rowP at h0 ⊢
  by_cases e0 : (wordP l s).2.2 = 0
  · rw [if_pos e0] at h0 ⊢
    obtain ⟨op, hop, hh, e⟩ := wordP_ok e0
    by_cases e1 : (markP l mColon (wordP l s).1).2 = 0
    · rw [if_pos e1] at h0 ⊢
      have e2 := markP_ok e1
      by_cases e3 : (partsP l (wordP l s).2.1 3 0 (markP l mColon (wordP l s).1).1).2 = 0
      · obtain ⟨pos, x, q, r, lt⟩ := partsP_ok hf (op := (wordP l s).2.1) (by rw [e]; exact hop) hm e3
        unfold endP at h0 ⊢
        rw [if_pos e3] at h0 ⊢
        have e4 : (partsP l (wordP l s).2.1 3 0 (markP l mColon (wordP l s).1).1).1 = ⟨pos, s.rows.set op x, s.had.set op true⟩ := by
          rw [q, e2, e]
        by_cases e5 : labE (wordP l s).2.1 ((partsP l (wordP l s).2.1 3 0 (markP l mColon (wordP l s).1).1).1.rows.getD (wordP l s).2.1 PR.none) = 0
        · rw [if_pos e5] at h0 ⊢
          refine ⟨op, x, pos, hop, hh, ?_, e4, ?_⟩
          · rw [e4, e] at e5
            dsimp only at e5
            rw [set_getD _ _ _ (by rw [h.rows]; exact hop)] at e5
            unfold rowE
            rw [if_pos r]
            exact e5
          · rw [e2, e] at lt
            dsimp only at lt
            omega
        · rw [if_neg e5] at h0
          exact absurd (show (7 : Nat) = 0 from h0) (by decide)
      · unfold endP at h0
        rw [if_neg e3] at h0
        exact absurd h0 e3
    · rw [if_neg e1] at h0
      exact absurd h0 e1
  · rw [if_neg e0] at h0
    exact absurd h0 e0
/-- What was had may be. -/
def Had (s : St) : Prop := ∀ k, s.had.getD k false = true → rowE k (s.rows.getD k PR.none) = 0
theorem tableP_ok (hf : Fine l) : ∀ (n : Nat) (s : St), Stand l s → Had s → l.length ≤ n + s.pos → Stand l (tableP l n s).1 ∧ ((tableP l n s).2 = 0 → Had (tableP l n s).1 ∧ (tableP l n s).1.had.contains false = false)
  | 0, s, h, _, hn => absurd h.pos (by omega)
  | n + 1, s, h, hh, hn => by
    unfold tableP
    by_cases h0 : (tok l s.pos).kind = 0
    · rw [if_pos h0]
      by_cases h1 : s.had.contains false = true
      · rw [if_pos h1]
        exact ⟨h, fun e => by cases e⟩
      · rw [if_neg h1]
        exact ⟨h, fun _ => ⟨hh, by simpa using h1⟩⟩
    · rw [if_neg h0]
      by_cases h1 : (rowP l s).2 = 0
      · rw [if_pos h1]
        obtain ⟨op, x, pos, hop, ho, hr, e, lt⟩ := rowP_ok hf h h1
        refine tableP_ok hf n _ (rowP_stand hf h) ?_ (by rw [e]; dsimp only; omega)
        rw [e]
        intro k hk
        dsimp only at hk ⊢
        by_cases hko : op = k
        · subst hko
          rw [set_getD _ _ _ (by rw [h.rows]; exact hop)]
          exact hr
        · rw [List.getD_eq_getElem?_getD, List.getElem?_set_ne hko, ← List.getD_eq_getElem?_getD] at hk ⊢
          exact hh k hk
      · rw [if_neg h1]
        exact ⟨rowP_stand hf h, fun e => absurd e h1⟩
end
theorem start_stand {l : List Tk} (h : 0 < l.length) : Stand l start := ⟨h, by simp [start], by simp [start]⟩
theorem start_had : Had start := fun k hk => by
  have : start.had.getD k false = false := by
    show (List.replicate 13 false).getD k false = false
    rw [List.getD_eq_getElem?_getD, List.getElem?_replicate]
    split <;> rfl
  rw [this] at hk
  cases hk
/-- What is read may be. -/
theorem parse_check {s : List UInt8} (h : (parse s).2.2 = 0) : check (parse s).1 = (0, 0) := by
  unfold parse parseL at h ⊢
  obtain ⟨⟨l, a, e⟩, hl⟩ : ∃ x, Lx.lex s = x := ⟨_, rfl⟩
  rw [hl] at h ⊢
  dsimp only at h ⊢
  by_cases he : e = 0
  · subst he
    rw [if_pos rfl] at h ⊢
    obtain ⟨hf, h0, _⟩ := lex_fine hl
    obtain ⟨hs, hk⟩ := tableP_ok hf l.length start (start_stand h0) start_had (by omega)
    by_cases h1 : (tableP l l.length start).2 = 0
    · rw [if_pos h1]
      obtain ⟨k1, k2⟩ := hk h1
      dsimp only
      unfold check
      rw [if_pos hs.rows]
      refine firstBad_of fun k x hx => ?_
      have hklt := (List.getElem?_eq_some_iff.1 hx).1
      have := k1 k (by
        rw [List.getD_eq_getElem?_getD, List.getElem?_eq_getElem (by rw [hs.had, ← hs.rows]; exact hklt)]
        by_cases hb : (tableP l l.length start).1.had[k]'(by rw [hs.had, ← hs.rows]; exact hklt) = true
        · exact hb
        · exfalso
          have h2 : false ∈ (tableP l l.length start).1.had := by
            rw [← (Bool.not_eq_true _).mp hb]
            exact List.getElem_mem _
          rw [List.contains_iff_mem.2 h2] at k2
          cases k2)
      rw [List.getD_eq_getElem?_getD, hx] at this
      rw [Nat.zero_add]
      exact this
    · rw [if_neg h1] at h
      exact absurd h h1
  · rw [if_neg he] at h
    exact absurd h he
theorem parse_none {s : List UInt8} (h : (parse s).2.2 ≠ 0) : (parse s).1 = [] := by
  unfold parse parseL at h ⊢
  split
  · split
    · rename_i h1 h2
      rw [if_pos h1, if_pos h2] at h
      exact absurd rfl h
    · rfl
  · rfl
end Tb
end Go.Proofs.YtggcmkpafpjnoaaGreatDoor
