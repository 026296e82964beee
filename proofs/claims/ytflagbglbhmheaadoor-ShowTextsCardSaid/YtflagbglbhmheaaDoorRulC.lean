/- The walk of what stands between brackets. -/
import Derived.Test.YtflagbglbhmheaaDoorRulB
namespace Go.Proofs.YtflagbglbhmheaaDoor
set_option maxRecDepth 100000
open Go.RowKit Go.Shelf

/-- A part of the grammar, read by a function that is bound to the reader. -/
def Parses (R M : Nat) (A : Option Addr) (c : Nat) (l : List Lx.Tk) (g : FuncId) (p : Rl.St → Rl.Res) (s : Rl.St) : Prop :=
  ∀ (W : World) (rv : Value), Rd R M A c l s rv W → Calls Tryd.prog g #[.pointer (some ⟨R, 0, none⟩)] W (Told R M A c l rv W (p s))

set_option maxHeartbeats 1000000 in
theorem inside_any {R M c : Nat} {A : Option Addr} {l : List Lx.Tk} {s : Rl.St} {rv : Value} {g : FuncId} {p : Rl.St → Rl.Res} (hen : ∀ args W, (callFunc g args).run Tryd.prog W = .ok (.enter g args) W)
    (fin : ByteArray) (w : World) (h : Rd R M A c l s rv w) (hl : l.length ≤ 1000000) (hpos : s.pos + 1 < l.length) (hd : s.deep ≤ 12)
    (hgood : s.deep < 12 → (p (Rl.into s)).1.pos < l.length ∧ ((p (Rl.into s)).2 = 0 → (p (Rl.into s)).1.deep = s.deep + 1)) (hpart : s.deep < 12 → Parses R M A c l g p (Rl.into s)) :
    Calls Tryd.prog 64 #[.pointer (some ⟨R, 0, none⟩), .func (.func g) #[.pointer (some ⟨R, 0, none⟩)] #[], .string fin] w (Told R M A c l rv w (Rl.inside l p fin s)) := by
  obtain ⟨⟨c0, c1, c2, c3, c4⟩, f1, f2, f3⟩ := h.facts
  by_cases h12 : s.deep = 12
  · have e : Rl.inside l p fin s = (s, 5) := by rw [Rl.inside, if_pos h12]
    rw [e]
    have H := Lib.hid h
    have hb : ((s.deep : Int) == 12) = true := by rw [beq_iff_eq]; omega
    clear e h12 hgood hpart h c0 c1 c3 c4
    go_enter Tryd.func64, Tryd.ntmps64
    go_wp2
    go_ret
    exact ⟨_, rfl, H.out, Still.refl _ _ _⟩
  · have hlt : s.deep < 12 := by omega
    have hP := hpart hlt _ rv ((h.set_ (i := 2) (u := .int .i64 ((s.deep : Int) + 1)) (s' := { s with deep := s.deep + 1 }) rfl rfl).set_ (i := 1) (u := .int .i64 ((s.pos : Int) + 1)) (s' := Rl.into s) rfl rfl)
    have hst : Still R rv rv w ((w.setCell ⟨R, 2, none⟩ (.int .i64 ((s.deep : Int) + 1))).setCell ⟨R, 1, none⟩ (.int .i64 ((s.pos : Int) + 1))) := ((Still.refl R rv w).setR (p := ⟨R, 2, none⟩) rfl _).setR (p := ⟨R, 1, none⟩) rfl _
    obtain ⟨hg1, hg2⟩ := hgood hlt
    have hdef : Rl.inside l p fin s = if (p (Rl.into s)).2 = 0 then (if Rl.isN l (p (Rl.into s)).1.pos fin = true then (Rl.outof (p (Rl.into s)).1, 0) else ((p (Rl.into s)).1, 4)) else p (Rl.into s) := by rw [Rl.inside, if_neg h12]
    rw [hdef]
    generalize p (Rl.into s) = r at *
    obtain ⟨s1, n⟩ := r
    dsimp only at hP hg1 hg2 ⊢
    have HP := Lib.hid hP
    have HST := Lib.hid hst
    have hb : ((s.deep : Int) == 12) = false := by rw [beq_eq_false_iff_ne]; omega
    clear hdef hgood hpart h12 h hP hst c0 c3 c4
    by_cases hn : n = 0
    · have hd1 := hg2 hn
      have HD := Lib.hid hd1
      subst hn
      rw [if_pos rfl]
      clear hg2 hd1
      cases hf : Rl.isN l s1.pos fin
      · rw [if_neg (by decide)]
        have HF := Lib.hid hf
        clear hf
        go_enter Tryd.func64, Tryd.ntmps64
        go_wp2_with (fail)
        refine HP.out.mono ?_
        rintro e w1 ⟨rv1, rfl, h1, hs1⟩
        have htk := takes_no fin w1 h1 hg1 hl HF.out
        have HT := Lib.hid htk
        have HS1 := Lib.hid hs1
        clear htk hs1 h1
        go_wp2_with (fail)
        refine HT.out.mono ?_
        rintro e w2 ⟨rfl, h2, hs2⟩
        have H2 := Lib.hid h2
        have HS2 := Lib.hid hs2
        clear h2 hs2
        go_wp2
        go_ret
        exact ⟨_, rfl, H2.out, HST.out.trans (HS1.out.trans HS2.out)⟩
      · rw [if_pos rfl]
        have HF := Lib.hid hf
        clear hf
        go_enter Tryd.func64, Tryd.ntmps64
        go_wp2_with (fail)
        refine HP.out.mono ?_
        rintro e w1 ⟨rv1, rfl, h1, hs1⟩
        have htk := takes_yes fin w1 h1 hg1 hl HF.out
        have HT := Lib.hid htk
        have HS1 := Lib.hid hs1
        clear htk hs1 h1 f1 f2 f3 c1 c2
        go_wp2_with (fail)
        refine HT.out.mono ?_
        rintro e w2 ⟨rfl, h2, hs2⟩
        obtain ⟨⟨-, -, c2, -, -⟩, -, f2, -⟩ := h2.facts
        have hdc : (((Rl.adv s1).deep : Nat) : Int) = (s.deep : Int) + 1 := by show ((s1.deep : Nat) : Int) = _; rw [HD.out]; rfl
        rw [hdc] at c2
        have H2 := Lib.hid h2
        have HS2 := Lib.hid hs2
        clear h2 hs2 hdc
        go_wp2
        go_ret
        refine ⟨rv1, rfl, H2.out.set_ (i := 2) (s' := Rl.outof s1) ?_ rfl, (HST.out.trans (HS1.out.trans HS2.out)).setR (p := ⟨R, 2, none⟩) rfl _⟩
        have hdd : (((Rl.outof s1).deep : Nat) : Int) = (s.deep : Int) := by show ((s1.deep - 1 : Nat) : Int) = _; rw [HD.out]; simp
        rw [hdd]
        rfl
    · rw [if_neg hn]
      have hn1 : ((n : Int) != 0) = true := by rw [bne_iff_ne]; omega
      clear hn hg2
      go_enter Tryd.func64, Tryd.ntmps64
      go_wp2_with (fail)
      refine HP.out.mono ?_
      rintro e w1 ⟨rv1, rfl, h1, hs1⟩
      have H1 := Lib.hid h1
      have HS1 := Lib.hid hs1
      clear h1 hs1
      go_wp2
      go_ret
      exact ⟨rv1, rfl, H1.out, HST.out.trans HS1.out⟩
end Go.Proofs.YtflagbglbhmheaaDoor
