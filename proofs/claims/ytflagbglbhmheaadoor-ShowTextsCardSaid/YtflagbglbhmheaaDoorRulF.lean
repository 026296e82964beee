/- The walk of rows: parts with words between them. -/
import Derived.Test.YtflagbglbhmheaaDoorRulE
import Derived.Test.YtflagbglbhmheaaDoorLexD
namespace Go.Proofs.YtflagbglbhmheaaDoor
set_option maxRecDepth 100000
open Go.RowKit Go.Shelf

namespace Rl
theorem loop_no {l : List Lx.Tk} {more : St → Res} {w : ByteArray} {n : Nat} {s : St} (h : isN l s.pos w = false) : loop l more w n s = (s, 0) := by
  cases n with
  | zero => rfl
  | succ n => rw [loop, if_neg (by rw [h]; decide)]
theorem loop_bad {l : List Lx.Tk} {more : St → Res} {w : ByteArray} {n : Nat} {s : St} (h : isN l s.pos w = true) (h2 : (more (adv s)).2 ≠ 0) : loop l more w (n + 1) s = more (adv s) := by rw [loop, if_pos h, if_neg h2]
theorem loop_full {l : List Lx.Tk} {more : St → Res} {w : ByteArray} {n : Nat} {s : St} (h : isN l s.pos w = true) (h2 : (more (adv s)).2 = 0) (h3 : (put (opOf w) (more (adv s)).1).2 ≠ 0) : loop l more w (n + 1) s = put (opOf w) (more (adv s)).1 := by rw [loop, if_pos h, if_pos h2, if_neg h3]
theorem loop_on {l : List Lx.Tk} {more : St → Res} {w : ByteArray} {n : Nat} {s : St} (h : isN l s.pos w = true) (h2 : (more (adv s)).2 = 0) (h3 : (put (opOf w) (more (adv s)).1).2 = 0) : loop l more w (n + 1) s = loop l more w n (put (opOf w) (more (adv s)).1).1 := by rw [loop, if_pos h, if_pos h2, if_pos h3]
end Rl

/-- Rows of parts, read with words that lie in a block. -/
def RowsAll (R M : Nat) (A : Option Addr) (c : Nat) (l : List Lx.Tk) (g : FuncId) (b : Nat) (cs : Array Value) (v : Value) (p : Rl.St → Rl.Res) (o : Nat) : Prop :=
  ∀ s : Rl.St, s.pos < l.length → s.deep = o → s.out.length ≤ 40 → ∀ (W : World) (rv : Value), Rd R M A c l s rv W → Blk W b 9 cs → Safe R rv W b →
    Calls Tryd.prog 41 #[.pointer (some ⟨R, 0, none⟩), .func (.func g) #[.pointer (some ⟨R, 0, none⟩)] #[], v] W (Told R M A c l rv W (p s))

theorem rows_none {R M c : Nat} {A : Option Addr} {l : List Lx.Tk} {o : Nat} {g : FuncId} {p : Rl.St → Rl.Res} (hen : ∀ args W, (callFunc g args).run Tryd.prog W = .ok (.enter g args) W) (hp : ParsesAll R M A c l g p o) (b : Nat) (cs : Array Value) (B : Option Addr) (cb : Nat) :
    RowsAll R M A c l g b cs (.slice B 0 cb) p o := by
  intro s hpos hd ho w rv h _ _
  have hP := hp s hpos hd ho w rv h
  have HP := Lib.hid hP
  clear hP h hp
  go_enter Tryd.func41, Tryd.ntmps41
  go_wp2_with (fail)
  refine HP.out.mono ?_
  rintro e w1 ⟨rv1, rfl, h1, hs1⟩
  have H1 := Lib.hid h1
  have HS1 := Lib.hid hs1
  clear h1 hs1
  go_wp2
  go_ret
  exact ⟨_, rfl, H1.out, HS1.out⟩

/-- What holds at the head of the rounds. -/
structure Round (R M : Nat) (A : Option Addr) (c : Nat) (l : List Lx.Tk) (o : Nat) (b : Nat) (cs : Array Value) (rv0 : Value) (w0 : World) (whole : Rl.Res) (more : Rl.St → Rl.Res) (wd : ByteArray) (s : Rl.St) (n : Nat) (rv : Value) (W : World) : Prop where
  rd : Rd R M A c l s rv W
  still : Still R rv0 rv w0 W
  blk : Blk W b 9 cs
  safe : Safe R rv W b
  pos : s.pos < l.length
  deep : s.deep = o
  out : s.out.length ≤ 40
  fuel : l.length ≤ n + s.pos
  goal : whole = Rl.loop l more wd n s
def rpos (R : Nat) (W : World) : Nat := (intOf ((W.cell? ⟨R, 1, none⟩).getD (.int .i64 0))).toNat
theorem rpos_of {R M c : Nat} {A : Option Addr} {l : List Lx.Tk} {s : Rl.St} {rv : Value} {W : World} (h : Rd R M A c l s rv W) : rpos R W = s.pos := by
  unfold rpos
  rw [h.facts.1.2.1]
  rfl

set_option maxHeartbeats 4000000 in
theorem rows_one {R M c : Nat} {A : Option Addr} {l : List Lx.Tk} {o : Nat} {sort : Bool} {g : FuncId} {p : Rl.St → Rl.Res} {ws : List ByteArray} {wd : ByteArray} (he : Rl.Ends l) (hl : l.length ≤ 1000000) (b : Nat) (cs : Array Value) (hcs : cs[1]? = some (.string wd))
    (hg : Rl.Good l o sort (Rl.rows l p ws)) (hm : RowsAll R M A c l g b cs (.slice (some ⟨b, 1, none⟩) 0 0) (Rl.rows l p ws) o) : RowsAll R M A c l g b cs (.slice (some ⟨b, 1, none⟩) 1 1) (Rl.rows l p (wd :: ws)) o := by
  intro s hpos hd ho w rv h hblk hsafe
  have hwhole : Rl.rows l p (wd :: ws) s = if (Rl.rows l p ws s).2 = 0 then Rl.loop l (Rl.rows l p ws) wd l.length (Rl.rows l p ws s).1 else Rl.rows l p ws s := rfl
  generalize Rl.rows l p (wd :: ws) s = whole at *
  generalize Rl.rows l p ws = more at *
  have hc : w.cell? ⟨b, 1, none⟩ = some (.string wd) := by rw [hblk.cell]; exact hcs
  have hM := fun m => hm s hpos hd ho (w.drewN m) rv (h.kept (below_drawn (Below.refl _ w) m)) (hblk.drewN m) hsafe
  obtain ⟨a1, a2, a3⟩ := hg s hpos hd ho
  have hblt := hblk.lt
  generalize more s = r at *
  obtain ⟨s1, n⟩ := r
  dsimp only at hM a1 a2 a3 hwhole
  have HM := Lib.hid hM
  have HBLK := Lib.hid hblk
  have HSAFE := Lib.hid hsafe
  have HMORE := Lib.hid hm
  clear hM h hblk hsafe hm hcs
  by_cases hn : n = 0
  · obtain ⟨b1, -, -⟩ := a3 hn
    subst hn
    rw [if_pos rfl] at hwhole
    have HWH := Lib.hid hwhole
    clear a3 hwhole
    go_enter Tryd.func41, Tryd.ntmps41
    go_wp2
    go_quiet (fail)
    go_wp2_with (fail)
    refine (HM.out _).mono ?_
    rintro e w1 ⟨rv1, rfl, h1, hs1⟩
    have hR : Round R M A c l o b cs rv w whole more wd s1 l.length rv1 w1 := ⟨h1, (Still.drewN (Still.refl R rv w) _).trans hs1, (hs1.block b HSAFE.out).trans HBLK.out, hs1.safe HSAFE.out, a1, b1, a2, by omega, HWH.out⟩
    have HR := Lib.hid hR
    clear h1 hs1 hR a1 a2 b1
    go_wp2
    go_loopw [10] (fun _ wr => ∃ (st : Rl.St) (k : Nat) (rvk : Value), Hid (Round R M A c l o b cs rv w whole more wd st k rvk wr)) (fun _ wr => l.length - rpos R wr)
    case atStart => exact ⟨_, _, _, HR.out⟩
    case round =>
      obtain ⟨st, k, rvk, HK⟩ := hrel
      have hpk := HK.out.pos
      obtain ⟨k, rfl⟩ : ∃ k', k = k' + 1 := ⟨k - 1, by have := HK.out.fuel; omega⟩
      have hp0 := rpos_of HK.out.rd
      have HP0 := Lib.hid hp0
      clear hp0
      cases hf : Rl.isN l st.pos wd
      · have htk := takes_no wd wr HK.out.rd hpk hl hf
        have HT := Lib.hid htk
        have HE := Lib.hid (HK.out.goal.trans (Rl.loop_no hf))
        clear htk hf
        go_wp2_with (fail)
        refine HT.out.mono ?_
        rintro e w2 ⟨rfl, h2, hs2⟩
        have H2 := Lib.hid h2
        have HS2 := Lib.hid hs2
        clear h2 hs2
        go_wp2
        go_ret
        rw [HE.out]
        exact ⟨_, rfl, H2.out, HK.out.still.trans HS2.out⟩
      · have htk := takes_yes wd wr HK.out.rd hpk hl hf
        have HT := Lib.hid htk
        have hlt := Rl.isN_lt he hf
        have hm2 := HMORE.out (Rl.adv st) hlt HK.out.deep HK.out.out
        obtain ⟨d1, d2, d3⟩ := hg (Rl.adv st) hlt HK.out.deep HK.out.out
        have e1 := fun h2 => Rl.loop_bad (n := k) (more := more) hf h2
        have e2 := fun h2 h3 => Rl.loop_full (n := k) (more := more) hf h2 h3
        have e3 := fun h2 h3 => Rl.loop_on (n := k) (more := more) hf h2 h3
        generalize more (Rl.adv st) = r2 at *
        obtain ⟨s2, n2⟩ := r2
        dsimp only at hm2 d1 d2 d3 e1 e2 e3
        have HM2 := Lib.hid hm2
        clear htk hf hm2
        by_cases hn2 : n2 = 0
        · obtain ⟨g1, g2, -⟩ := d3 hn2
          subst hn2
          obtain ⟨f1, f2, f3, -⟩ := Rl.put_good (Rl.opOf wd) s2 d2
          have hput := fun W rvp hW => put_any (R := R) (M := M) (A := A) (c := c) (l := l) (s := s2) (rv := rvp) wd W hW d2
          replace e2 := e2 rfl
          replace e3 := e3 rfl
          clear e1 d3
          generalize Rl.put (Rl.opOf wd) s2 = r3 at *
          obtain ⟨s3, n3⟩ := r3
          dsimp only at hput e2 e3 f1 f2 f3
          have HPUT := Lib.hid hput
          clear hput
          by_cases hn3 : n3 = 0
          · subst hn3
            have HE := Lib.hid (HK.out.goal.trans (e3 rfl))
            clear e2 e3
            go_wp2_with (fail)
            refine HT.out.mono ?_
            rintro e w2 ⟨rfl, h2, hs2⟩
            have hb2 := (hs2.block b HK.out.safe).trans HK.out.blk
            have hsf2 := hs2.safe HK.out.safe
            have hmm := HM2.out w2 rvk h2 hb2 hsf2
            have HMM := Lib.hid hmm
            have HS2 := Lib.hid hs2
            have HB2 := Lib.hid hb2
            have HF2 := Lib.hid hsf2
            clear h2 hs2 hb2 hsf2 hmm
            go_wp2_with (fail)
            refine HMM.out.mono ?_
            rintro e w3 ⟨rv3, rfl, h3, hs3⟩
            have hpp := HPUT.out w3 rv3 h3
            have HPP := Lib.hid hpp
            have HS3 := Lib.hid hs3
            clear h3 hs3 hpp
            go_wp2_with (fail)
            refine HPP.out.mono ?_
            rintro e w4 ⟨rv4, rfl, h4, hs4⟩
            have hs34 := HS3.out.trans hs4
            have hst : Still R rv rv4 w w4 := HK.out.still.trans (HS2.out.trans hs34)
            have hrd : Round R M A c l o b cs rv w whole more wd s3 k rv4 w4 := ⟨h4, hst, (hs34.block b HF2.out).trans HB2.out, hs34.safe HF2.out, by omega, by omega, f3, by have := HK.out.fuel; have g2' : st.pos + 1 < s2.pos := g2; omega, HE.out⟩
            have hp4 := rpos_of h4
            have HP4 := Lib.hid hp4
            have HRD := Lib.hid hrd
            clear h4 hs4 hs34 hst hrd hp4
            go_wp2
            go_roundw
            case rel => exact ⟨_, _, _, HRD⟩
            case measure => rw [HP4.out, HP0.out]; have g2' : st.pos + 1 < s2.pos := g2; omega
          · have hn4 : ((n3 : Int) != 0) = true := by rw [bne_iff_ne]; omega
            have HE := Lib.hid (HK.out.goal.trans (e2 hn3))
            clear e2 e3 hn3
            go_wp2_with (fail)
            refine HT.out.mono ?_
            rintro e w2 ⟨rfl, h2, hs2⟩
            have hmm := HM2.out w2 rvk h2 ((hs2.block b HK.out.safe).trans HK.out.blk) (hs2.safe HK.out.safe)
            have HMM := Lib.hid hmm
            have HS2 := Lib.hid hs2
            clear h2 hs2 hmm
            go_wp2_with (fail)
            refine HMM.out.mono ?_
            rintro e w3 ⟨rv3, rfl, h3, hs3⟩
            have hpp := HPUT.out w3 rv3 h3
            have HPP := Lib.hid hpp
            have HS3 := Lib.hid hs3
            clear h3 hs3 hpp
            go_wp2_with (fail)
            refine HPP.out.mono ?_
            rintro e w4 ⟨rv4, rfl, h4, hs4⟩
            have H4 := Lib.hid h4
            have HS4 := Lib.hid (HK.out.still.trans (HS2.out.trans (HS3.out.trans hs4)))
            clear h4 hs4
            go_wp2
            go_ret
            rw [HE.out]
            exact ⟨_, rfl, H4.out, HS4.out⟩
        · have hn4 : ((n2 : Int) != 0) = true := by rw [bne_iff_ne]; omega
          have HE := Lib.hid (HK.out.goal.trans (e1 hn2))
          clear e1 e2 e3 d3 hn2
          go_wp2_with (fail)
          refine HT.out.mono ?_
          rintro e w2 ⟨rfl, h2, hs2⟩
          have hmm := HM2.out w2 rvk h2 ((hs2.block b HK.out.safe).trans HK.out.blk) (hs2.safe HK.out.safe)
          have HMM := Lib.hid hmm
          have HS2 := Lib.hid hs2
          clear h2 hs2 hmm
          go_wp2_with (fail)
          refine HMM.out.mono ?_
          rintro e w3 ⟨rv3, rfl, h3, hs3⟩
          have H3 := Lib.hid h3
          have HS3 := Lib.hid (HK.out.still.trans (HS2.out.trans hs3))
          clear h3 hs3
          go_wp2
          go_ret
          rw [HE.out]
          exact ⟨_, rfl, H3.out, HS3.out⟩
  · rw [if_neg hn] at hwhole
    have HWH := Lib.hid hwhole
    have hn1 : ((n : Int) != 0) = true := by rw [bne_iff_ne]; omega
    clear hwhole hn a3
    go_enter Tryd.func41, Tryd.ntmps41
    go_wp2
    go_quiet (fail)
    go_wp2_with (fail)
    refine (HM.out _).mono ?_
    rintro e w1 ⟨rv1, rfl, h1, hs1⟩
    have H1 := Lib.hid h1
    have HS1 := Lib.hid ((Still.drewN (Still.refl R rv w) _).trans hs1)
    clear h1 hs1
    go_wp2
    go_ret
    rw [HWH.out]
    exact ⟨_, rfl, H1.out, HS1.out⟩

set_option maxHeartbeats 4000000 in
theorem rows_two {R M c : Nat} {A : Option Addr} {l : List Lx.Tk} {o : Nat} {sort : Bool} {g : FuncId} {p : Rl.St → Rl.Res} {ws : List ByteArray} {wd : ByteArray} (he : Rl.Ends l) (hl : l.length ≤ 1000000) (b : Nat) (cs : Array Value) (hcs : cs[0]? = some (.string wd))
    (hg : Rl.Good l o sort (Rl.rows l p ws)) (hm : RowsAll R M A c l g b cs (.slice (some ⟨b, 1, none⟩) 1 1) (Rl.rows l p ws) o) : RowsAll R M A c l g b cs (.slice (some ⟨b, 0, none⟩) 2 2) (Rl.rows l p (wd :: ws)) o := by
  intro s hpos hd ho w rv h hblk hsafe
  have hwhole : Rl.rows l p (wd :: ws) s = if (Rl.rows l p ws s).2 = 0 then Rl.loop l (Rl.rows l p ws) wd l.length (Rl.rows l p ws s).1 else Rl.rows l p ws s := rfl
  generalize Rl.rows l p (wd :: ws) s = whole at *
  generalize Rl.rows l p ws = more at *
  have hc : w.cell? ⟨b, 0, none⟩ = some (.string wd) := by rw [hblk.cell]; exact hcs
  have hM := fun m => hm s hpos hd ho (w.drewN m) rv (h.kept (below_drawn (Below.refl _ w) m)) (hblk.drewN m) hsafe
  obtain ⟨a1, a2, a3⟩ := hg s hpos hd ho
  have hblt := hblk.lt
  generalize more s = r at *
  obtain ⟨s1, n⟩ := r
  dsimp only at hM a1 a2 a3 hwhole
  have HM := Lib.hid hM
  have HBLK := Lib.hid hblk
  have HSAFE := Lib.hid hsafe
  have HMORE := Lib.hid hm
  clear hM h hblk hsafe hm hcs
  by_cases hn : n = 0
  · obtain ⟨b1, -, -⟩ := a3 hn
    subst hn
    rw [if_pos rfl] at hwhole
    have HWH := Lib.hid hwhole
    clear a3 hwhole
    go_enter Tryd.func41, Tryd.ntmps41
    go_wp2
    go_quiet (fail)
    go_wp2_with (fail)
    refine (HM.out _).mono ?_
    rintro e w1 ⟨rv1, rfl, h1, hs1⟩
    have hR : Round R M A c l o b cs rv w whole more wd s1 l.length rv1 w1 := ⟨h1, (Still.drewN (Still.refl R rv w) _).trans hs1, (hs1.block b HSAFE.out).trans HBLK.out, hs1.safe HSAFE.out, a1, b1, a2, by omega, HWH.out⟩
    have HR := Lib.hid hR
    clear h1 hs1 hR a1 a2 b1
    go_wp2
    go_loopw [10] (fun _ wr => ∃ (st : Rl.St) (k : Nat) (rvk : Value), Hid (Round R M A c l o b cs rv w whole more wd st k rvk wr)) (fun _ wr => l.length - rpos R wr)
    case atStart => exact ⟨_, _, _, HR.out⟩
    case round =>
      obtain ⟨st, k, rvk, HK⟩ := hrel
      have hpk := HK.out.pos
      obtain ⟨k, rfl⟩ : ∃ k', k = k' + 1 := ⟨k - 1, by have := HK.out.fuel; omega⟩
      have hp0 := rpos_of HK.out.rd
      have HP0 := Lib.hid hp0
      clear hp0
      cases hf : Rl.isN l st.pos wd
      · have htk := takes_no wd wr HK.out.rd hpk hl hf
        have HT := Lib.hid htk
        have HE := Lib.hid (HK.out.goal.trans (Rl.loop_no hf))
        clear htk hf
        go_wp2_with (fail)
        refine HT.out.mono ?_
        rintro e w2 ⟨rfl, h2, hs2⟩
        have H2 := Lib.hid h2
        have HS2 := Lib.hid hs2
        clear h2 hs2
        go_wp2
        go_ret
        rw [HE.out]
        exact ⟨_, rfl, H2.out, HK.out.still.trans HS2.out⟩
      · have htk := takes_yes wd wr HK.out.rd hpk hl hf
        have HT := Lib.hid htk
        have hlt := Rl.isN_lt he hf
        have hm2 := HMORE.out (Rl.adv st) hlt HK.out.deep HK.out.out
        obtain ⟨d1, d2, d3⟩ := hg (Rl.adv st) hlt HK.out.deep HK.out.out
        have e1 := fun h2 => Rl.loop_bad (n := k) (more := more) hf h2
        have e2 := fun h2 h3 => Rl.loop_full (n := k) (more := more) hf h2 h3
        have e3 := fun h2 h3 => Rl.loop_on (n := k) (more := more) hf h2 h3
        generalize more (Rl.adv st) = r2 at *
        obtain ⟨s2, n2⟩ := r2
        dsimp only at hm2 d1 d2 d3 e1 e2 e3
        have HM2 := Lib.hid hm2
        clear htk hf hm2
        by_cases hn2 : n2 = 0
        · obtain ⟨g1, g2, -⟩ := d3 hn2
          subst hn2
          obtain ⟨f1, f2, f3, -⟩ := Rl.put_good (Rl.opOf wd) s2 d2
          have hput := fun W rvp hW => put_any (R := R) (M := M) (A := A) (c := c) (l := l) (s := s2) (rv := rvp) wd W hW d2
          replace e2 := e2 rfl
          replace e3 := e3 rfl
          clear e1 d3
          generalize Rl.put (Rl.opOf wd) s2 = r3 at *
          obtain ⟨s3, n3⟩ := r3
          dsimp only at hput e2 e3 f1 f2 f3
          have HPUT := Lib.hid hput
          clear hput
          by_cases hn3 : n3 = 0
          · subst hn3
            have HE := Lib.hid (HK.out.goal.trans (e3 rfl))
            clear e2 e3
            go_wp2_with (fail)
            refine HT.out.mono ?_
            rintro e w2 ⟨rfl, h2, hs2⟩
            have hb2 := (hs2.block b HK.out.safe).trans HK.out.blk
            have hsf2 := hs2.safe HK.out.safe
            have hmm := HM2.out w2 rvk h2 hb2 hsf2
            have HMM := Lib.hid hmm
            have HS2 := Lib.hid hs2
            have HB2 := Lib.hid hb2
            have HF2 := Lib.hid hsf2
            clear h2 hs2 hb2 hsf2 hmm
            go_wp2_with (fail)
            refine HMM.out.mono ?_
            rintro e w3 ⟨rv3, rfl, h3, hs3⟩
            have hpp := HPUT.out w3 rv3 h3
            have HPP := Lib.hid hpp
            have HS3 := Lib.hid hs3
            clear h3 hs3 hpp
            go_wp2_with (fail)
            refine HPP.out.mono ?_
            rintro e w4 ⟨rv4, rfl, h4, hs4⟩
            have hs34 := HS3.out.trans hs4
            have hst : Still R rv rv4 w w4 := HK.out.still.trans (HS2.out.trans hs34)
            have hrd : Round R M A c l o b cs rv w whole more wd s3 k rv4 w4 := ⟨h4, hst, (hs34.block b HF2.out).trans HB2.out, hs34.safe HF2.out, by omega, by omega, f3, by have := HK.out.fuel; have g2' : st.pos + 1 < s2.pos := g2; omega, HE.out⟩
            have hp4 := rpos_of h4
            have HP4 := Lib.hid hp4
            have HRD := Lib.hid hrd
            clear h4 hs4 hs34 hst hrd hp4
            go_wp2
            go_roundw
            case rel => exact ⟨_, _, _, HRD⟩
            case measure => rw [HP4.out, HP0.out]; have g2' : st.pos + 1 < s2.pos := g2; omega
          · have hn4 : ((n3 : Int) != 0) = true := by rw [bne_iff_ne]; omega
            have HE := Lib.hid (HK.out.goal.trans (e2 hn3))
            clear e2 e3 hn3
            go_wp2_with (fail)
            refine HT.out.mono ?_
            rintro e w2 ⟨rfl, h2, hs2⟩
            have hmm := HM2.out w2 rvk h2 ((hs2.block b HK.out.safe).trans HK.out.blk) (hs2.safe HK.out.safe)
            have HMM := Lib.hid hmm
            have HS2 := Lib.hid hs2
            clear h2 hs2 hmm
            go_wp2_with (fail)
            refine HMM.out.mono ?_
            rintro e w3 ⟨rv3, rfl, h3, hs3⟩
            have hpp := HPUT.out w3 rv3 h3
            have HPP := Lib.hid hpp
            have HS3 := Lib.hid hs3
            clear h3 hs3 hpp
            go_wp2_with (fail)
            refine HPP.out.mono ?_
            rintro e w4 ⟨rv4, rfl, h4, hs4⟩
            have H4 := Lib.hid h4
            have HS4 := Lib.hid (HK.out.still.trans (HS2.out.trans (HS3.out.trans hs4)))
            clear h4 hs4
            go_wp2
            go_ret
            rw [HE.out]
            exact ⟨_, rfl, H4.out, HS4.out⟩
        · have hn4 : ((n2 : Int) != 0) = true := by rw [bne_iff_ne]; omega
          have HE := Lib.hid (HK.out.goal.trans (e1 hn2))
          clear e1 e2 e3 d3 hn2
          go_wp2_with (fail)
          refine HT.out.mono ?_
          rintro e w2 ⟨rfl, h2, hs2⟩
          have hmm := HM2.out w2 rvk h2 ((hs2.block b HK.out.safe).trans HK.out.blk) (hs2.safe HK.out.safe)
          have HMM := Lib.hid hmm
          have HS2 := Lib.hid hs2
          clear h2 hs2 hmm
          go_wp2_with (fail)
          refine HMM.out.mono ?_
          rintro e w3 ⟨rv3, rfl, h3, hs3⟩
          have H3 := Lib.hid h3
          have HS3 := Lib.hid (HK.out.still.trans (HS2.out.trans hs3))
          clear h3 hs3
          go_wp2
          go_ret
          rw [HE.out]
          exact ⟨_, rfl, H3.out, HS3.out⟩
  · rw [if_neg hn] at hwhole
    have HWH := Lib.hid hwhole
    have hn1 : ((n : Int) != 0) = true := by rw [bne_iff_ne]; omega
    clear hwhole hn a3
    go_enter Tryd.func41, Tryd.ntmps41
    go_wp2
    go_quiet (fail)
    go_wp2_with (fail)
    refine (HM.out _).mono ?_
    rintro e w1 ⟨rv1, rfl, h1, hs1⟩
    have H1 := Lib.hid h1
    have HS1 := Lib.hid ((Still.drewN (Still.refl R rv w) _).trans hs1)
    clear h1 hs1
    go_wp2
    go_ret
    rw [HWH.out]
    exact ⟨_, rfl, H1.out, HS1.out⟩
end Go.Proofs.YtflagbglbhmheaaDoor
