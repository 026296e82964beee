/- Walks of instruction (a word's), program. -/
import Derived.Test.YtipbilmnknmhmaaGreatDoorGNotG
import Derived.Test.YtipbilmnknmhmaaGreatDoorGRefJ
import Derived.Test.YtipbilmnknmhmaaGreatDoorGLexD
import Derived.Test.YtipbilmnknmhmaaGreatDoorGCodA
import Derived.Test.YtipbilmnknmhmaaGreatDoorGFew
namespace Go.Proofs.YtipbilmnknmhmaaGreatDoor
set_option maxRecDepth 100000
open Go.RowKit Go.Shelf Go.Sort
attribute [local go_sem] Oper.semAt_some
def opN : Option Nat → Nat
  | some k => k
  | none => 0
/-- What instruction answers. -/
def TellsO (w : World) (o : Option Nat) (e : Ending) (w' : World) : Prop := e = .returned (.tuple #[.int .i64 (opN o : Nat), .bool o.isSome]) ∧ Below w.heap.size w w'
set_option maxHeartbeats 4000000 in
theorem cword_any (t : Lx.Tk) (w : World) (hi : Ins w) : Calls Tryz.prog 127 #[tkv t] w (TellsO w (if t.kind = 1 then Tb.find t.text else none)) := by
  obtain ⟨kd, s, ps⟩ := t
  unfold tkv
  dsimp only
  have hi1 := hi.below ((Below.refl _ w).alloc (Nat.le_refl _) (.cells #[.int .i64 kd, .string s, .int .i64 ps] 94)) hi.lt
  have hb0 := (Below.refl _ w).alloc (Nat.le_refl _) (.cells #[.int .i64 kd, .string s, .int .i64 ps] 94)
  have hbk := Blk.new w 94 #[.int .i64 kd, .string s, .int .i64 ps]
  have HG := hi.lt
  by_cases hk : kd = 1
  · subst hk
    rw [if_pos rfl]
    obtain ⟨res, hres⟩ : ∃ res, Tb.find s = res := ⟨_, rfl⟩
    rw [hres]
    have HRES := Lib.hid hres
    have HI := Lib.hid hi1
    have HBK := Lib.hid hbk
    have HB0 := Lib.hid hb0
    clear hres hi hi1 hb0 hbk
    go_enter Tryz.func127, Tryz.ntmps127
    go_wp2
    go_loopw [10] (fun i wr => ∃ k : Nat, k ≤ 13 ∧ i = .int .i64 k ∧ Hid (∀ j : Nat, j < k → Tb.word j ≠ s) ∧ Hid (Below w.heap.size w wr) ∧ Hid (Ins wr) ∧ Hid (Blk wr w.heap.size 94 #[.int .i64 1, .string s, .int .i64 ps])) (fun i _ => 13 - (intOf i).toNat)
    case atStart => exact ⟨0, by decide, rfl, Lib.hid (fun j h1 => absurd h1 (by omega)), HB0, HI, HBK⟩
    case round =>
      obtain ⟨k, hk, rfl, HK, HB, HI, HBK⟩ := hrel
      by_cases hlt : k < 13
      · have HC := Lib.hid (name_yes k hlt wr HI.out)
        obtain ⟨x, hx⟩ : ∃ x, Tb.word k = x := ⟨_, rfl⟩
        rw [hx] at HC
        have HX := Lib.hid hx
        clear hx
        by_cases he : x = s
        · subst he
          have HF := Lib.hid (show some k = res by rw [← HRES.out, find_is hlt HX.out])
          have hbe : (x.toList == x.toList) = true := by simp
          go_wp2_with (fail)
          refine HC.out.mono ?_
          rintro e w2 ⟨rfl, hb2⟩
          have hbk2 := HBK.out.below hb2 HBK.out.lt
          have t1 : w2.cell? ⟨w.heap.size, 1, none⟩ = some (.string x) := hbk2.cell 1
          have HB2 := Lib.hid (HB.out.trans (hb2.mono HB.out.size))
          clear hb2 hbk2
          go_wp2
          go_ret2
          rw [← HF.out]
          exact ⟨rfl, HB2.out⟩
        · have hbe : (x.toList == s.toList) = false := by rw [str_beq, decide_eq_false_iff_not]; exact he
          have HE := Lib.hid he
          clear he
          go_wp2_with (fail)
          refine HC.out.mono ?_
          rintro e w2 ⟨rfl, hb2⟩
          have hbk2 := HBK.out.below hb2 HBK.out.lt
          have t1 : w2.cell? ⟨w.heap.size, 1, none⟩ = some (.string s) := hbk2.cell 1
          have HBK2 := Lib.hid hbk2
          have HI2 := Lib.hid (HI.out.below hb2 HI.out.lt)
          have HB2 := Lib.hid (HB.out.trans (hb2.mono HB.out.size))
          clear hb2 hbk2
          go_wp2
          go_roundw
          case rel => exact ⟨k + 1, by omega, by go_num, Lib.hid fun j h1 => by
            by_cases e : j = k
            · subst e; rw [HX.out]; exact HE.out
            · exact HK.out j (by omega), HB2, HI2, HBK2⟩
          case measure => simp [intOf]; omega
      · obtain rfl : k = 13 := by omega
        have HT := Lib.hid (show none = res by rw [← HRES.out, find_not HK.out])
        go_wp2
        go_ret2
        rw [← HT.out]
        exact ⟨rfl, HB.out⟩
  · rw [if_neg hk]
    have hk1 : (kd != 1) = true := by rw [bne_iff_ne]; exact hk
    clear hk hi hi1 hbk
    go_enter Tryz.func127, Tryz.ntmps127
    go_wp2
    go_ret2
    exact ⟨rfl, hb0⟩
/-- How many instructions the reader has. -/
def clen (Q : Nat) (w : World) : Nat := match w.cell? ⟨Q, 2, none⟩ with
  | some (.slice _ n _) => n
  | _ => 0
section
variable {R Q M c1 c2 ct p q : Nat} {N U A : Option Addr} {names : List ByteArray} {up : List Nat} {l : List Lx.Tk} {rv : Value} {out : List Cd.In} {w w' W : World}
theorem CRd.clen (h : CRd R Q M N U A c1 c2 ct names up l p rv out w) : clen Q w = out.length := by
  obtain ⟨A1, c, e⟩ := ownT_slice h.own
  unfold Go.Proofs.YtipbilmnknmhmaaGreatDoor.clen
  rw [h.p2, e]
/-- What program answers. -/
def CEnd (R Q M : Nat) (N U A : Option Addr) (c1 c2 ct : Nat) (names : List ByteArray) (up : List Nat) (l : List Lx.Tk) (w : World) (r : List Cd.In × Nat × Nat) (e : Ending) (w' : World) : Prop :=
  ∃ rv out, e = .returned (.int .i64 (r.2.2 : Nat)) ∧ CRd R Q M N U A c1 c2 ct names up l r.2.1 rv out w' ∧ (r.2.2 = 0 → out = r.1) ∧ Below R w w'
theorem fromP_step (names : List ByteArray) (k : Nat) (l : List Lx.Tk) {out : List Cd.In} {p op : Nat} (hl : out.length < 12) (ho : Cd.opAt l p = some op) (h0 : (Cd.oneP names k op l p).2.2 = 0) :
    Cd.fromP names k l (13 - out.length) out p = Cd.fromP names k l (13 - (out ++ [(Cd.oneP names k op l p).1]).length) (out ++ [(Cd.oneP names k op l p).1]) (Cd.oneP names k op l p).2.1 := by
  rw [show 13 - out.length = (12 - out.length) + 1 by omega]
  conv => lhs; unfold Cd.fromP
  rw [ho]
  dsimp only
  rw [if_neg (by omega), if_pos h0, List.length_append]
  congr 1
  simp only [List.length_cons, List.length_nil]
  omega
theorem fromP_none (names : List ByteArray) (k : Nat) (l : List Lx.Tk) {out : List Cd.In} {p : Nat} (hl : out.length ≤ 12) (ho : Cd.opAt l p = none) : Cd.fromP names k l (13 - out.length) out p = (out, p, 0) := by
  rw [show 13 - out.length = (12 - out.length) + 1 by omega]
  unfold Cd.fromP
  rw [ho]
theorem fromP_many (names : List ByteArray) (k : Nat) (l : List Lx.Tk) {out : List Cd.In} {p op : Nat} (hl : out.length = 12) (ho : Cd.opAt l p = some op) : Cd.fromP names k l (13 - out.length) out p = ([], p, 8) := by
  rw [show 13 - out.length = (12 - out.length) + 1 by omega]
  unfold Cd.fromP
  rw [ho]
  dsimp only
  rw [if_pos hl]
theorem fromP_err (names : List ByteArray) (k : Nat) (l : List Lx.Tk) {out : List Cd.In} {p op : Nat} (hl : out.length < 12) (ho : Cd.opAt l p = some op) (h0 : (Cd.oneP names k op l p).2.2 ≠ 0) :
    Cd.fromP names k l (13 - out.length) out p = ([], (Cd.oneP names k op l p).2.1, (Cd.oneP names k op l p).2.2) := by
  rw [show 13 - out.length = (12 - out.length) + 1 by omega]
  unfold Cd.fromP
  rw [ho]
  dsimp only
  rw [if_neg (by omega), if_neg h0]
set_option maxHeartbeats 8000000 in
theorem cprogram_any (hf : Tb.Fine l) (hz : checkN names up = 0) (w : World) (h : CRd R Q M N U A c1 c2 ct names up l p rv [] w) :
    Calls Tryz.prog 104 #[.pointer (some ⟨Q, 0, none⟩)] w (CEnd R Q M N U A c1 c2 ct names up l w (Cd.fromP names up.length l 13 [] p)) := by
  obtain ⟨res, hres⟩ : ∃ res, Cd.fromP names up.length l 13 [] p = res := ⟨_, rfl⟩
  rw [hres]
  have HRES : Hid (Cd.fromP names up.length l (13 - ([] : List Cd.In).length) [] p = res) := Lib.hid hres
  have H := Lib.hid h
  have HB := Lib.hid (Below.refl R w)
  clear hres h
  go_enter Tryz.func104, Tryz.ntmps104
  go_wp2
  go_loopw [6] (fun _ wr => ∃ (out : List Cd.In) (p : Nat) (rv : Value), out.length ≤ 12 ∧ Hid (CRd R Q M N U A c1 c2 ct names up l p rv out wr) ∧ Hid (Below R w wr) ∧ Hid (Cd.fromP names up.length l (13 - out.length) out p = res)) (fun _ wr => 13 - clen Q wr)
  case atStart => exact ⟨[], p, rv, by simp, H, HB, HRES⟩
  case round =>
    clear H HB HRES
    obtain ⟨out, p, rv, hout, H, HB, HRES⟩ := hrel
    have HNX := Lib.hid (cnext_any wr H.out)
    have q0 := H.out.p0
    have hQ0 := H.out.ltQ
    go_wp2_with (fail)
    refine HNX.out.mono ?_
    rintro e w1 ⟨rfl, hb1⟩
    have H1 := Lib.hid (H.out.keep hb1)
    have HB1 := Lib.hid (HB.out.trans (hb1.mono (Nat.le_of_lt H.out.lt)))
    have hw := cword_any (Tb.tok l p) w1 H1.out.ins
    clear hb1 HNX q0 hQ0
    cases ho : Cd.opAt l p with
    | none =>
      rw [show (if (Tb.tok l p).kind = 1 then Tb.find (Tb.tok l p).text else none) = none from ho] at hw
      have HW := Lib.hid hw
      have HF := Lib.hid (show (out, p, 0) = res by rw [← HRES.out, fromP_none names up.length l hout ho])
      clear hw ho
      go_wp2_with (fail)
      refine HW.out.mono ?_
      rintro e w2 ⟨rfl, hb2⟩
      have H2 := Lib.hid (H1.out.keep hb2)
      have HB2 := Lib.hid (HB1.out.trans (hb2.mono (Nat.le_of_lt H1.out.lt)))
      clear hb2 HW
      go_wp2
      go_ret
      rw [← HF.out]
      exact ⟨rv, out, rfl, H2.out, fun _ => rfl, HB2.out⟩
    | some op =>
      rw [show (if (Tb.tok l p).kind = 1 then Tb.find (Tb.tok l p).text else none) = some op from ho] at hw
      have hop := Cd.opAt_lt ho
      have hk := (Cd.opAt_kind ho).1
      have HW := Lib.hid hw
      have HO := Lib.hid ho
      have HKD := Lib.hid hk
      clear hw ho hk
      go_wp2_with (fail)
      refine HW.out.mono ?_
      rintro e w2 ⟨rfl, hb2⟩
      have h2 := H1.out.keep hb2
      have c5 := h2.p2
      obtain ⟨A1, cap, hrv⟩ := ownT_slice h2.own
      have HB2 := Lib.hid (HB1.out.trans (hb2.mono (Nat.le_of_lt H1.out.lt)))
      have H2 := Lib.hid h2
      have hR2 := h2.ltQ
      rw [hrv] at c5
      clear hb2 HW h2 hrv
      unfold opN
      dsimp only
      by_cases h12 : out.length = 12
      · have HF := Lib.hid (show ([], p, 8) = res by rw [← HRES.out, fromP_many names up.length l h12 HO.out])
        go_wp2
        go_ret
        rw [← HF.out]
        exact ⟨rv, out, rfl, H2.out, fun h => absurd h (show ¬ (8 : Nat) = 0 by decide), HB2.out⟩
      · have hne : ((out.length : Int) == 12) = false := by rw [beq_eq_false_iff_ne]; omega
        have hin := cinstr_any hf hz op hop HKD.out w2 H2.out hout
        have hs := fromP_step names up.length l (out := out) (by omega) HO.out
        have he := fromP_err names up.length l (out := out) (by omega) HO.out
        obtain ⟨⟨x, q, er⟩, hr⟩ : ∃ r, Cd.oneP names up.length op l p = r := ⟨_, rfl⟩
        rw [hr] at hin hs he
        dsimp only at hs he
        have HIN := Lib.hid hin
        by_cases her : er = 0
        · subst her
          have HS := Lib.hid (hs rfl)
          clear hs he hin hr
          go_wp2_with (fail)
          refine HIN.out.mono ?_
          rintro e w3 ⟨rv3, rfl, h3, hb3⟩
          rw [if_pos rfl] at h3
          have H3 := Lib.hid h3
          have HB3 := Lib.hid (HB2.out.trans hb3)
          have hcl := h3.clen
          have hcl0 := H.out.clen
          clear h3 hb3 c5
          go_wp2
          go_roundw
          case rel => exact ⟨out ++ [x], q, rv3, by simp; omega, H3, HB3, Lib.hid (HS.out.symm.trans HRES.out)⟩
          case measure =>
            rw [hcl, hcl0, List.length_append]
            simp
            omega
        · have HE := Lib.hid (show ([], q, er) = res by rw [← HRES.out, he her])
          have hz1 : ((er : Int) != 0) = true := by rw [bne_iff_ne]; omega
          have HER := Lib.hid her
          clear hs he hin hr her
          go_wp2_with (fail)
          refine HIN.out.mono ?_
          rintro e w3 ⟨rv3, rfl, h3, hb3⟩
          rw [if_neg HER.out] at h3
          have H3 := Lib.hid h3
          have HB3 := Lib.hid (HB2.out.trans hb3)
          clear h3 hb3 c5
          go_wp2
          go_ret
          rw [← HE.out]
          exact ⟨rv3, out, rfl, H3.out, fun h => absurd h HER.out, HB3.out⟩
end
end Go.Proofs.YtipbilmnknmhmaaGreatDoor

/- Walks of notation.From and code.From (of a lattice and a place that may be). -/
namespace Go.Proofs.YtipbilmnknmhmaaGreatDoor
set_option maxRecDepth 100000
open Go.RowKit Go.Shelf Go.Sort
attribute [local go_sem] Oper.semAt_some
/-- A slice of instructions. -/
def IsIns (w : World) (B : Nat) (v : Value) (l : List Cd.In) : Prop := ∃ A c, v = .slice A l.length c ∧ Row w B A (icells l) ∧ l.length ≤ c
theorem IsIns.below {w w' : World} {B : Nat} {v : Value} {l : List Cd.In} (h : IsIns w B v l) (hb : Below B w w') : IsIns w' B v l := by
  obtain ⟨A, c, e, hr, hc⟩ := h
  exact ⟨A, c, e, hr.below hb, hc⟩
theorem IsIns.more {w : World} {B B' : Nat} {v : Value} {l : List Cd.In} (h : IsIns w B v l) (hB : B ≤ B') : IsIns w B' v l := by
  obtain ⟨A, c, e, hr, hc⟩ := h
  exact ⟨A, c, e, hr.more hB, hc⟩
theorem IsIns.nil (w : World) (B : Nat) : IsIns w B (.slice none 0 0) [] := ⟨none, 0, rfl, Row.nil, Nat.le_refl _⟩
theorem IsIns.own {w : World} {base sz : Nat} {e : TypeId} {v : Value} {l : List Cd.In} (h : w.ownsRow base e sz v l.length (icells l)) : IsIns w w.heap.size v l := by
  obtain ⟨A, c, rfl⟩ := ownT_slice h
  obtain ⟨hr, hc⟩ := ownT_row h
  exact ⟨A, c, rfl, hr, hc⟩
theorem fromP_nil (names : List ByteArray) (k : Nat) (l : List Lx.Tk) : ∀ (n : Nat) (out : List Cd.In) (p : Nat), (Cd.fromP names k l n out p).2.2 ≠ 0 → (Cd.fromP names k l n out p).1 = []
  | 0, _, _, h => absurd rfl h
  | n + 1, out, p, h => by
    unfold Cd.fromP at h ⊢
    cases ho : Cd.opAt l p with
    | none => rw [ho] at h; exact absurd rfl h
    | some op =>
      rw [ho] at h
      dsimp only at h ⊢
      split
      · rfl
      · rename_i h1
        rw [if_neg h1] at h
        split
        · rename_i h2
          rw [if_pos h2] at h
          exact fromP_nil names k l n _ _ h
        · rfl
/-- What notation.From answers: a reader. -/
def NFromR (N U A : Option Addr) (c1 c2 ct : Nat) (names : List ByteArray) (up : List Nat) (l : List Lx.Tk) (p : Nat) (w : World) (e : Ending) (w' : World) : Prop :=
  ∃ R, e = .returned (.tuple #[.pointer (some ⟨R, 0, none⟩), .int .i64 0]) ∧ w.heap.size ≤ R ∧ NRd R N U A c1 c2 ct names up l p w' ∧ Below w.heap.size w w'
set_option maxHeartbeats 8000000 in
theorem nfrom_any {names : List ByteArray} {up : List Nat} {N U A : Option Addr} {c1 c2 : Nat} {l : List Lx.Tk} {p : Nat} (ct : Nat) (hf : Tb.Fine l) (hp : p < l.length) (hl : l.length ≤ 100000) (hz : checkN names up = 0) (w : World) (h : IsLat w w.heap.size (.agg #[.slice N names.length c1, .slice U up.length c2]) names up) (hr : Row w w.heap.size A (tcells l)) :
    Calls Tryz.prog 84 #[.agg #[.slice N names.length c1, .slice U up.length c2], .slice A l.length ct, .int .i64 (p : Int)] w (NFromR N U A c1 c2 ct names up l p w) := by
  have hch := check_any _ (h.boxed (.cells #[.slice N names.length c1, .slice U up.length c2] 25))
  rw [hz] at hch
  have hb0 : Below w.heap.size w (w.alloc (.cells #[.slice N names.length c1, .slice U up.length c2] 25)) := (Below.refl _ w).alloc (Nat.le_refl _) _
  have p0 : Blk (w.alloc (.cells #[.slice N names.length c1, .slice U up.length c2] 25)) w.heap.size 25 #[.slice N names.length c1, .slice U up.length c2] := Blk.new _ _ _
  have P0 := Lib.hid p0
  have HB0 := Lib.hid hb0
  have H := Lib.hid h
  have HR := Lib.hid hr
  have HCH := Lib.hid hch
  clear h hr p0 hb0 hch
  go_enter Tryz.func84, Tryz.ntmps84
  go_wp2_with (go_at_call 27; refine HCH.out.mono ?_)
  rintro e w1 ⟨rfl, hb1⟩
  have hp1 := P0.out.below hb1 (by simp)
  have hc0 : w1.cell? ⟨w.heap.size, 0, none⟩ = some (.slice N names.length c1) := by rw [hp1.cell]; rfl
  have hc1 : w1.cell? ⟨w.heap.size, 1, none⟩ = some (.slice U up.length c2) := by rw [hp1.cell]; rfl
  have hbw : Below w.heap.size w w1 := HB0.out.trans (hb1.mono (by simp))
  obtain ⟨ad, t, rfl, hab, ht, t0, t1, t2⟩ := trow_at ((HR.out.below hbw).more hbw.size) (show l.length - 1 < l.length by omega)
  have htk : t.kind = 0 := by
    obtain ⟨p, hp⟩ := hf
    rw [ht] at hp
    injection hp with hp
    rw [hp]
  rw [htk] at t0
  have hab2 : (ad.add ((l.length - 1) * 3)).block < w1.heap.size := by rw [add_block]; exact hab
  have hl1 : ((l.length : Int) - 1) = ((l.length - 1 : Nat) : Int) := by omega
  have hal : Below w1.heap.size w1 (w1.alloc (.cells #[.slice N names.length c1, .slice U up.length c2, .slice (some ad) l.length ct, .int .i64 (p : Int)] 126)) := (Below.refl _ w1).alloc (Nat.le_refl _) _
  have hnrd : NRd w1.heap.size N U (some ad) c1 c2 ct names up l p (w1.alloc (.cells #[.slice N names.length c1, .slice U up.length c2, .slice (some ad) l.length ct, .int .i64 (p : Int)] 126)) :=
    ⟨Blk.new _ _ _, ⟨((H.out.below hbw).more hbw.size).below hal, ((HR.out.below hbw).more hbw.size).below hal, hl⟩, hp⟩
  have HNRD := Lib.hid hnrd
  have HBW := Lib.hid (hbw.trans (hal.mono hbw.size))
  have HSZ := Lib.hid hbw.size
  clear hb1 hp1 hbw ht t1 t2 htk hal hnrd
  have hl2 : (l.length - 1 : Nat) < l.length := by omega
  obtain ⟨n1, hn1⟩ : ∃ n1, l.length - 1 = n1 := ⟨_, rfl⟩
  rw [hn1] at t0 hab2 hl1 hl2
  have hl3 : l.length = n1 + 1 := by omega
  have HL3 := Lib.hid hl3
  clear hn1 hl3
  have h0f : ((l.length : Int) ≤ (p : Int)) = False := eq_false (by omega)
  have h0g : (l.length ≤ p) = False := eq_false (by omega)
  go_wp2
  go_ret2
  exact ⟨_, rfl, HSZ.out, HNRD.out, HBW.out⟩
/-- What From answers, in a new block. -/
def FromN (w : World) (r : List Cd.In × Nat × Nat) (e : Ending) (w' : World) : Prop :=
  ∃ v, e = .returned (.tuple #[v, .int .i64 (r.2.1 : Nat), .int .i64 (r.2.2 : Nat)]) ∧ KN ivs w.heap.size w' v r.1 ∧ Below w.heap.size w w'
set_option maxHeartbeats 8000000 in
theorem cfrom_new {v : Value} {names : List ByteArray} {up : List Nat} {A : Option Addr} {l : List Lx.Tk} {p : Nat} (ct : Nat) (hf : Tb.Fine l) (hp : p < l.length) (hl : l.length ≤ 100000) (hz : checkN names up = 0) (w : World) (h : IsLat w w.heap.size v names up) (hr : Row w w.heap.size A (tcells l)) (hi : Ins w) :
    Calls Tryz.prog 79 #[v, .slice A l.length ct, .int .i64 (p : Int)] w (FromN w (Cd.fromP names up.length l 13 [] p)) := by
  obtain ⟨⟨N, U, c1, c2, rfl, hN, hU⟩, hsh, hfew, hcaps⟩ := id h
  obtain ⟨⟨o, q, er⟩, hres⟩ : ∃ r, Cd.fromP names up.length l 13 [] p = r := ⟨_, rfl⟩
  have hnil := fromP_nil names up.length l 13 [] p
  rw [hres] at hnil ⊢
  have HNIL : Hid (er ≠ 0 → o = []) := Lib.hid hnil
  have HRES := Lib.hid hres
  clear hres hnil
  have hb0 : Below w.heap.size w (w.alloc (.cells #[.slice N names.length c1, .slice U up.length c2] 25)) := (Below.refl _ w).alloc (Nat.le_refl _) _
  have p0 : Blk (w.alloc (.cells #[.slice N names.length c1, .slice U up.length c2] 25)) w.heap.size 25 #[.slice N names.length c1, .slice U up.length c2] := Blk.new _ _ _
  have HNF := Lib.hid (nfrom_any ct hf hp hl hz _ ((h.below hb0).more hb0.size) ((hr.below hb0).more hb0.size))
  have P0 := Lib.hid p0
  have HB0 := Lib.hid hb0
  have H := Lib.hid h
  have HR := Lib.hid hr
  have HI := Lib.hid hi
  have HCK := Lib.hid (fun W (h : IsLat W W.heap.size (.agg #[.slice N names.length c1, .slice U up.length c2]) names up) => cChecks_any W h)
  clear h hr hi hN hU p0 hb0
  go_enter Tryz.func79, Tryz.ntmps79
  go_wp2_with (fail)
  refine HNF.out.mono ?_
  rintro e w1 ⟨R, rfl, hRw, hrd, hb1⟩
  have hp1 := P0.out.below hb1 (by simp)
  have hc0 : w1.cell? ⟨w.heap.size, 0, none⟩ = some (.slice N names.length c1) := by rw [hp1.cell]; rfl
  have hc1 : w1.cell? ⟨w.heap.size, 1, none⟩ = some (.slice U up.length c2) := by rw [hp1.cell]; rfl
  have hbw : Below w.heap.size w w1 := HB0.out.trans (hb1.mono (by simp))
  have HRW : Hid (w.heap.size < R) := Lib.hid (by have := hRw; simp at this; omega)
  have HCKD := Lib.hid (HCK.out w1 ((H.out.below hbw).more hbw.size))
  have HBW := Lib.hid hbw
  have HRD := Lib.hid hrd
  clear hb1 hp1 hbw hrd hRw HNF HCK
  go_wp2_with (fail)
  refine HCKD.out.mono ?_
  rintro e w2 ⟨M, rfl, hchk, hb2, hM⟩
  have hbw2 : Below w.heap.size w w2 := HBW.out.trans (hb2.mono HBW.out.size)
  have hal : Below w2.heap.size w2 (w2.alloc (.cells #[.pointer (some ⟨R, 0, none⟩), .map (some M), .slice none 0 0] 153)) := (Below.refl _ w2).alloc (Nat.le_refl _) _
  have hRl : R < w2.heap.size := Nat.lt_of_lt_of_le HRD.out.lt hb2.size
  have hcrd : CRd R w2.heap.size M N U A c1 c2 ct names up l p (.slice none 0 0) [] (w2.alloc (.cells #[.pointer (some ⟨R, 0, none⟩), .map (some M), .slice none 0 0] 153)) :=
    ⟨(HRD.out.keep hb2).keep hal, Blk.new _ _ _, ⟨rfl, .inl ⟨rfl, rfl⟩⟩, hchk.below hal, (HI.out.below hbw2 HI.out.lt).below (hal.mono hbw2.size) HI.out.lt, Nat.lt_trans HI.out.lt HRW.out, hRl⟩
  have HPG := Lib.hid (cprogram_any hf hz _ hcrd)
  have HW2 := Lib.hid (hbw2.trans (hal.mono hbw2.size))
  rw [HRES.out] at HPG
  have HRS := Lib.hid hbw2.size
  clear hcrd hal hbw2 hb2 hchk hc0 hc1 hM
  go_wp2_with (fail)
  refine HPG.out.mono ?_
  rintro e w7 ⟨rv, out, rfl, h7, hout, hb7⟩
  have c4 := h7.rd.c3
  have c5 := h7.p2
  have c6 := h7.p0
  have hR7 := h7.lt
  have hQ7 := h7.ltQ
  have HOWN := Lib.hid (KN.less (B' := w.heap.size) (KN.own (f := ivs) h7.own) (by have := HBW.out.size; have := HRW.out; have := h7.rq; omega))
  have HB7 := Lib.hid (HW2.out.trans (hb7.mono (Nat.le_of_lt HRW.out)))
  clear h7 hb7 HPG
  by_cases her : er = 0
  · have HOUT : Hid (out = o) := Lib.hid (hout her)
    subst her
    clear hout
    go_wp2
    go_quiet (fail)
    all_goals
      go_wp2
      go_ret3
      exact ⟨rv, rfl, by rw [← HOUT.out]; exact HOWN.out.below ⟨rfl, rfl, rfl, Nat.le_refl _, fun _ _ => rfl⟩, below_drawn HB7.out _⟩
  · have hz1 : ((er : Int) != 0) = true := by rw [bne_iff_ne]; omega
    have HO : Hid (o = []) := Lib.hid (HNIL.out her)
    clear hout her
    go_wp2
    go_quiet (fail)
    all_goals
      go_wp2
      go_ret3
      exact ⟨_, rfl, by rw [HO.out]; exact KN.nil _ _ _, below_drawn HB7.out _⟩
end Go.Proofs.YtipbilmnknmhmaaGreatDoor

/- Walks of Whole (of programs) and code.Parse. -/
namespace Go.Proofs.YtipbilmnknmhmaaGreatDoor
set_option maxRecDepth 100000
open Go.RowKit Go.Shelf Go.Sort
attribute [local go_sem] Oper.semAt_some
/-- What Parse answers. -/
def CPRes (w : World) (r : List Cd.In × Int × Nat) (e : Ending) (w' : World) : Prop :=
  ∃ v, e = .returned (.tuple #[v, .int .i64 r.2.1, .int .i64 (r.2.2 : Nat)]) ∧ IsIns w' w'.heap.size v r.1 ∧ Below w.heap.size w w'
theorem CPRes.no {w w' : World} (a : Int) (n : Nat) (hb : Below w.heap.size w w') : CPRes w ([], a, n) (.returned (.tuple #[.slice none 0 0, .int .i64 a, .int .i64 (n : Nat)])) w' := ⟨_, rfl, IsIns.nil _ _, hb⟩
theorem itok_at {w : World} {A : Option Addr} {l : List Lx.Tk} {p : Nat} (h : Row w w.heap.size A (tcells l)) (hp : p < l.length) : ∃ ad, A = some ad ∧ (ad.add (p * 3)).block < w.heap.size ∧ w.cell? (ad.add (p * 3)) = some (.int .i64 (Tb.tok l p).kind) ∧
    w.cell? ⟨(ad.add (p * 3)).block, (ad.add (p * 3)).off + 2, none⟩ = some (.int .i64 (Tb.tok l p).pos) := by
  obtain ⟨ad, t, e, hb, ht, c0, c1, c2⟩ := trow_at h hp
  have e2 := Tb.tok_some hp
  rw [ht] at e2
  injection e2 with e2
  subst e2
  exact ⟨ad, e, by rw [add_block]; exact hb, c0, c2⟩
end Go.Proofs.YtipbilmnknmhmaaGreatDoor

/- Walk of the laws' alive. -/
namespace Go.Proofs.YtipbilmnknmhmaaGreatDoor
set_option maxRecDepth 100000
open Go.RowKit Go.Shelf Go.Sort
attribute [local go_sem] Oper.semAt_some

def bNames8 : List ByteArray := [⟨#[97]⟩, ⟨#[98]⟩]
def bUp8 : List Nat := [3, 2]
theorem alive8_lat (w : World) : IsLat (((w.alloc (.cells #[.string ⟨#[97]⟩, .string ⟨#[98]⟩] 9)).alloc (.cells #[.int .u32 3, .int .u32 2] 63)).alloc (.cells #[.slice (some ⟨w.heap.size, 0, none⟩) 2 2, .slice (some ⟨w.heap.size + 1, 0, none⟩) 2 2] 25)) (w.heap.size + 3)
    (.agg #[.slice (some ⟨w.heap.size, 0, none⟩) 2 2, .slice (some ⟨w.heap.size + 1, 0, none⟩) 2 2]) bNames8 bUp8 := by
  have h0 := ((Blk.new w 9 (strs bNames8).toArray).alloc (.cells #[.int .u32 3, .int .u32 2] 63)).alloc (.cells #[.slice (some ⟨w.heap.size, 0, none⟩) 2 2, .slice (some ⟨w.heap.size + 1, 0, none⟩) 2 2] 25)
  have h1 := (Blk.new' (w.alloc (.cells (strs bNames8).toArray 9)) 63 (u32s bUp8).toArray (w.heap.size + 1) (by simp)).alloc (.cells #[.slice (some ⟨w.heap.size, 0, none⟩) 2 2, .slice (some ⟨w.heap.size + 1, 0, none⟩) 2 2] 25)
  refine ⟨⟨some ⟨w.heap.size, 0, none⟩, some ⟨w.heap.size + 1, 0, none⟩, 2, 2, rfl, h0.row.more (by omega), h1.row.more (by omega), ?_⟩, ?_, by decide, ?_⟩
  · intro k x hx
    unfold bUp8 at hx
    have := List.mem_of_getElem? hx
    simp at this
    omega
  · intro s hs
    unfold bNames8 at hs
    simp at hs
    unfold maxLen
    rcases hs with rfl | rfl <;> decide
  · intro A1 n1 c1 A2 n2 c2 he
    injection he with he
    injection he with he
    injection he with e1 he
    injection he with e2 he
    injection e1 with _ e11 e12
    injection e2 with _ e21 e22
    omega

end Go.Proofs.YtipbilmnknmhmaaGreatDoor
