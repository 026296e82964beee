/- Walks of flow and of prim. -/
import Derived.Test.YtflagbglbhmheaaDoorRulD
namespace Go.Proofs.YtflagbglbhmheaaDoor
set_option maxRecDepth 100000
open Go.RowKit Go.Shelf
attribute [local go_sem] Oper.semAt_some

/-- A part read at a depth, wherever it begins. -/
def ParsesAll (R M : Nat) (A : Option Addr) (c : Nat) (l : List Lx.Tk) (g : FuncId) (p : Rl.St → Rl.Res) (o : Nat) : Prop :=
  ∀ s : Rl.St, s.pos < l.length → s.deep = o → s.out.length ≤ 40 → Parses R M A c l g p s

set_option maxHeartbeats 1000000 in
theorem flow_any {R M c : Nat} {A : Option Addr} {l : List Lx.Tk} {o : Nat} {lab : Rl.St → Rl.Res} (he : Rl.Ends l) (hl : l.length ≤ 1000000) (hg : Rl.Good l o true lab) (hlab : ParsesAll R M A c l 24 lab o) :
    ParsesAll R M A c l 65 (Rl.flow l lab) o := by
  intro s hpos hd ho w rv h
  have hL := hlab s hpos hd ho w rv h
  obtain ⟨a1, a2, a3⟩ := hg s hpos hd ho
  have hdef : Rl.flow l lab s = if (lab s).2 = 0 then (if Rl.isN l (lab s).1.pos Rl.wFlows = true then (if (lab (Rl.adv (lab s).1)).2 = 0 then Rl.put 5 (lab (Rl.adv (lab s).1)).1 else lab (Rl.adv (lab s).1)) else ((lab s).1, 4)) else lab s := rfl
  rw [hdef]
  generalize lab s = r at *
  obtain ⟨s1, n⟩ := r
  dsimp only at hL a1 a2 a3 ⊢
  have HL := Lib.hid hL
  clear hdef hL h
  by_cases hn : n = 0
  · obtain ⟨b1, -, -⟩ := a3 hn
    subst hn
    rw [if_pos rfl]
    clear a3
    cases hf : Rl.isN l s1.pos Rl.wFlows
    · rw [if_neg (by decide)]
      have HF := Lib.hid hf
      clear hf hlab
      go_enter Tryd.func65, Tryd.ntmps65
      go_wp2_with (fail)
      refine HL.out.mono ?_
      rintro e w1 ⟨rv1, rfl, h1, hs1⟩
      have htk := takes_no Rl.wFlows w1 h1 a1 hl HF.out
      have HT := Lib.hid htk
      have HS1 := Lib.hid hs1
      clear htk hs1 h1
      go_wp2_with (fail)
      refine HT.out.mono ?_
      rintro e w2 ⟨rfl, h2, hs2⟩
      have H2 := Lib.hid h2
      have HS2 := Lib.hid hs2
      clear h2 hs2
      go_wp2
      go_ret
      exact ⟨_, rfl, H2.out, HS1.out.trans HS2.out⟩
    · rw [if_pos rfl]
      have hlt := Rl.isN_lt he hf
      have hL2 : ∀ (W : World) (rv : Value), Rd R M A c l (Rl.adv s1) rv W → Calls Tryd.prog 24 #[.pointer (some ⟨R, 0, none⟩)] W (Told R M A c l rv W (lab (Rl.adv s1))) := hlab (Rl.adv s1) hlt b1 a2
      obtain ⟨d1, d2, d3⟩ := hg (Rl.adv s1) hlt b1 a2
      generalize lab (Rl.adv s1) = r2 at *
      obtain ⟨s2, n2⟩ := r2
      have HF := Lib.hid hf
      dsimp only at d2 hL2 ⊢
      have HL2 := Lib.hid hL2
      clear hf hlab hL2
      by_cases hn2 : n2 = 0
      · subst hn2
        rw [if_pos rfl]
        go_enter Tryd.func65, Tryd.ntmps65
        go_wp2_with (fail)
        refine HL.out.mono ?_
        rintro e w1 ⟨rv1, rfl, h1, hs1⟩
        have htk := takes_yes Rl.wFlows w1 h1 a1 hl HF.out
        have HT := Lib.hid htk
        have HS1 := Lib.hid hs1
        clear htk hs1 h1
        go_wp2_with (fail)
        refine HT.out.mono ?_
        rintro e w2 ⟨rfl, h2, hs2⟩
        have H2 := Lib.hid h2
        have HS2 := Lib.hid hs2
        clear h2 hs2
        go_wp2_with (fail)
        refine (HL2.out _ _ H2.out).mono ?_
        rintro e w3 ⟨rv3, rfl, h3, hs3⟩
        have hput := put_any Rl.wFlows w3 h3 d2
        rw [Rl.op_flows] at hput
        have HP := Lib.hid hput
        have HS3 := Lib.hid hs3
        clear h3 hs3 hput
        go_wp2_with (fail)
        refine HP.out.mono ?_
        rintro e w4 ⟨rv4, rfl, h4, hs4⟩
        have H4 := Lib.hid h4
        have HS4 := Lib.hid hs4
        clear h4 hs4
        go_wp2
        go_ret
        exact ⟨_, rfl, H4.out, HS1.out.trans (HS2.out.trans (HS3.out.trans HS4.out))⟩
      · rw [if_neg hn2]
        have hn3 : ((n2 : Int) != 0) = true := by rw [bne_iff_ne]; omega
        clear hn2
        go_enter Tryd.func65, Tryd.ntmps65
        go_wp2_with (fail)
        refine HL.out.mono ?_
        rintro e w1 ⟨rv1, rfl, h1, hs1⟩
        have htk := takes_yes Rl.wFlows w1 h1 a1 hl HF.out
        have HT := Lib.hid htk
        have HS1 := Lib.hid hs1
        clear htk hs1 h1
        go_wp2_with (fail)
        refine HT.out.mono ?_
        rintro e w2 ⟨rfl, h2, hs2⟩
        have H2 := Lib.hid h2
        have HS2 := Lib.hid hs2
        clear h2 hs2
        go_wp2_with (fail)
        refine (HL2.out _ _ H2.out).mono ?_
        rintro e w3 ⟨rv3, rfl, h3, hs3⟩
        have H3 := Lib.hid h3
        have HS3 := Lib.hid hs3
        clear h3 hs3
        go_wp2
        go_ret
        exact ⟨_, rfl, H3.out, HS1.out.trans (HS2.out.trans HS3.out)⟩
  · rw [if_neg hn]
    have hn1 : ((n : Int) != 0) = true := by rw [bne_iff_ne]; omega
    clear hn hlab a3
    go_enter Tryd.func65, Tryd.ntmps65
    go_wp2_with (fail)
    refine HL.out.mono ?_
    rintro e w1 ⟨rv1, rfl, h1, hs1⟩
    have H1 := Lib.hid h1
    have HS1 := Lib.hid hs1
    clear h1 hs1
    go_wp2
    go_ret
    exact ⟨_, rfl, H1.out, HS1.out⟩

set_option maxHeartbeats 2000000 in
theorem prim_any {R M c : Nat} {A : Option Addr} {l : List Lx.Tk} {o : Nat} {cnd lab : Rl.St → Rl.Res} (he : Rl.Ends l) (hl : l.length ≤ 1000000) (hd12 : o ≤ 12) (hg : Rl.Good l o true lab) (hlab : ParsesAll R M A c l 24 lab o)
    (hgc : o < 12 → Rl.Good l (o + 1) false cnd) (hcnd : o < 12 → ParsesAll R M A c l 23 cnd (o + 1)) : ParsesAll R M A c l 42 (Rl.prim l cnd lab) o := by
  intro s hpos hd ho w rv h
  have hmf : ∀ (fn : Fn) (first cap : Array Value) (w : World), (Instr.makeFunc fn first cap).run Tryd.prog w = .ok (.func fn first cap) w := fun _ _ _ _ => rfl
  cases t1 : Rl.isN l s.pos Rl.wTrue
  · have k1 := takes_no Rl.wTrue w h hpos hl t1
    have K1 := Lib.hid k1
    cases t2 : Rl.isN l s.pos Rl.wFalse
    · have K2 := Lib.hid (fun W (hW : Rd R M A c l s rv W) => takes_no Rl.wFalse W hW hpos hl t2)
      have hnx := fun W (hW : Rd R M A c l s rv W) => isNext_any Rl.wOpen W hW hpos hl
      cases t3 : Rl.isN l s.pos Rl.wOpen
      · have ed : Rl.prim l cnd lab s = Rl.flow l lab s := by rw [Rl.prim, t1, t2, t3]; rfl
        rw [ed]
        rw [t3] at hnx
        have K3 := Lib.hid hnx
        have K4 := Lib.hid (flow_any he hl hg hlab s hpos hd ho)
        clear ed hnx t1 t2 t3 k1 h hlab hcnd hgc hg
        go_enter Tryd.func42, Tryd.ntmps42
        go_wp2_with (fail)
        refine K1.out.mono ?_
        rintro e w1 ⟨rfl, h1, hs1⟩
        have H1 := Lib.hid h1
        have HS1 := Lib.hid hs1
        clear h1 hs1
        go_wp2_with (fail)
        refine (K2.out _ H1.out).mono ?_
        rintro e w2 ⟨rfl, h2, hs2⟩
        have H2 := Lib.hid h2
        have HS2 := Lib.hid hs2
        clear h2 hs2
        go_wp2_with (fail)
        refine (K3.out _ H2.out).mono ?_
        rintro e w3 ⟨rfl, hb3⟩
        have HB3 := Lib.hid hb3
        clear hb3
        go_wp2_with (fail)
        refine (K4.out _ _ (H2.out.kept HB3.out)).mono ?_
        rintro e w4 ⟨rv4, rfl, h4, hs4⟩
        have H4 := Lib.hid h4
        have HS4 := Lib.hid hs4
        clear h4 hs4
        go_wp2
        go_ret
        exact ⟨_, rfl, H4.out, HS1.out.trans (HS2.out.trans ((Still.below HB3.out rv).trans HS4.out))⟩
      · have ed : Rl.prim l cnd lab s = Rl.inside l cnd Rl.wShut s := by rw [Rl.prim, t1, t2, t3]; rfl
        rw [ed]
        rw [t3] at hnx
        have hlt := Rl.isN_lt he t3
        have K3 := Lib.hid hnx
        have K4 := Lib.hid (fun W (hW : Rd R M A c l s rv W) => inside_any (g := 23) (p := cnd) Tryd.call23 Rl.wShut W hW hl hlt (by omega)
          (fun h1 => by
            obtain ⟨g1, g2, g3⟩ := hgc (by omega) (Rl.into s) hlt (by show s.deep + 1 = _; omega) ho
            exact ⟨g1, fun hh => by rw [(g3 hh).1, hd]⟩)
          (fun h1 => hcnd (by omega) (Rl.into s) hlt (by show s.deep + 1 = _; omega) ho))
        clear ed hnx t1 t2 t3 k1 h hlab hcnd hgc hg
        go_enter Tryd.func42, Tryd.ntmps42
        go_wp2_with (fail)
        refine K1.out.mono ?_
        rintro e w1 ⟨rfl, h1, hs1⟩
        have H1 := Lib.hid h1
        have HS1 := Lib.hid hs1
        clear h1 hs1
        go_wp2_with (fail)
        refine (K2.out _ H1.out).mono ?_
        rintro e w2 ⟨rfl, h2, hs2⟩
        have H2 := Lib.hid h2
        have HS2 := Lib.hid hs2
        clear h2 hs2
        go_wp2_with (fail)
        refine (K3.out _ H2.out).mono ?_
        rintro e w3 ⟨rfl, hb3⟩
        have HB3 := Lib.hid hb3
        clear hb3
        go_wp2_with (fail)
        refine (K4.out _ (H2.out.kept HB3.out)).mono ?_
        rintro e w4 ⟨rv4, rfl, h4, hs4⟩
        have H4 := Lib.hid h4
        have HS4 := Lib.hid hs4
        clear h4 hs4
        go_wp2
        go_ret
        exact ⟨_, rfl, H4.out, HS1.out.trans (HS2.out.trans ((Still.below HB3.out rv).trans HS4.out))⟩
    · have ed : Rl.prim l cnd lab s = Rl.put 2 (Rl.adv s) := by rw [Rl.prim, t1, t2]; rfl
      rw [ed]
      have K2 := Lib.hid (fun W (hW : Rd R M A c l s rv W) => takes_yes Rl.wFalse W hW hpos hl t2)
      have hput := fun W (hW : Rd R M A c l (Rl.adv s) rv W) => put_any Rl.wFalse W hW ho
      rw [Rl.op_false] at hput
      have K3 := Lib.hid hput
      clear ed t1 t2 k1 h hlab hcnd hgc hg hput
      go_enter Tryd.func42, Tryd.ntmps42
      go_wp2_with (fail)
      refine K1.out.mono ?_
      rintro e w1 ⟨rfl, h1, hs1⟩
      have H1 := Lib.hid h1
      have HS1 := Lib.hid hs1
      clear h1 hs1
      go_wp2_with (fail)
      refine (K2.out _ H1.out).mono ?_
      rintro e w2 ⟨rfl, h2, hs2⟩
      have H2 := Lib.hid h2
      have HS2 := Lib.hid hs2
      clear h2 hs2
      go_wp2_with (fail)
      refine (K3.out _ H2.out).mono ?_
      rintro e w4 ⟨rv4, rfl, h4, hs4⟩
      have H4 := Lib.hid h4
      have HS4 := Lib.hid hs4
      clear h4 hs4
      go_wp2
      go_ret
      exact ⟨_, rfl, H4.out, HS1.out.trans (HS2.out.trans HS4.out)⟩
  · have ed : Rl.prim l cnd lab s = Rl.put 1 (Rl.adv s) := by rw [Rl.prim, t1]; rfl
    rw [ed]
    have K1 := Lib.hid (takes_yes Rl.wTrue w h hpos hl t1)
    have hput := fun W (hW : Rd R M A c l (Rl.adv s) rv W) => put_any Rl.wTrue W hW ho
    rw [Rl.op_true] at hput
    have K3 := Lib.hid hput
    clear ed t1 h hlab hcnd hgc hg hput
    go_enter Tryd.func42, Tryd.ntmps42
    go_wp2_with (fail)
    refine K1.out.mono ?_
    rintro e w1 ⟨rfl, h1, hs1⟩
    have H1 := Lib.hid h1
    have HS1 := Lib.hid hs1
    clear h1 hs1
    go_wp2_with (fail)
    refine (K3.out _ H1.out).mono ?_
    rintro e w4 ⟨rv4, rfl, h4, hs4⟩
    have H4 := Lib.hid h4
    have HS4 := Lib.hid hs4
    clear h4 hs4
    go_wp2
    go_ret
    exact ⟨_, rfl, H4.out, HS1.out.trans HS4.out⟩
end Go.Proofs.YtflagbglbhmheaaDoor
