/- The reference's From (by gen_stmr.py). -/
import Derived.Test.YtipbilmnknmhmaaGreatDoorGCodE
import Derived.Test.YtipbilmnknmhmaaGreatDoorGStmM
import Derived.Test.YtipbilmnknmhmaaGreatDoorGStmF
import Derived.Test.YtipbilmnknmhmaaGreatDoorGCodF
namespace Go.Proofs.YtipbilmnknmhmaaGreatDoor
set_option maxRecDepth 100000
open Go.RowKit Go.Shelf Go.Sort
attribute [local go_sem] Oper.semAt_some
/-- A state is answered, in new blocks. -/
def RFRes9 (w : World) (r : St.State × Nat × Nat) (e : Ending) (w' : World) : Prop :=
  ∃ cv mv sv ov, e = .returned (.agg #[.int .i64 r.1.pc.v, .int .i64 r.1.pc.l, cv, mv, sv, ov, .int .i64 (r.2.1 : Nat), .int .i64 (r.2.2 : Nat)]) ∧
    (KN ivs w.heap.size w' cv r.1.code ∧ KN avs w.heap.size w' mv r.1.mem ∧ KN svs w.heap.size w' sv r.1.stack ∧ KN avs w.heap.size w' ov r.1.out) ∧ Below w.heap.size w w'
theorem RFRes9.nil {w W : World} {j e : Nat} (h : Below w.heap.size w W) : RFRes9 w (St.zero, j, e) (.returned (.agg #[.int .i64 0, .int .i64 0, .slice none 0 0, .slice none 0 0, .slice none 0 0, .slice none 0 0, .int .i64 (j : Nat), .int .i64 (e : Nat)])) W :=
  ⟨_, _, _, _, rfl, ⟨KN.nil _ _ _, KN.nil _ _ _, KN.nil _ _ _, KN.nil _ _ _⟩, h⟩
set_option maxHeartbeats 32000000 in
theorem rFrom9_any {v : Value} {names : List ByteArray} {up : List Nat} {A : Option Addr} {l : List Lx.Tk} (c i0 : Nat) (w : World) (hla : IsLat w w.heap.size v names up) (h : Row w w.heap.size A (tcells l)) (hf : Tb.Fine l) (hp : i0 < l.length) (hl : l.length ≤ 100000) :
    Calls Tryz.prog 62 #[v, .slice A l.length c, .int .i64 (i0 : Int)] w (RFRes9 w (St.fromR names up.length l i0)) := by
  obtain ⟨⟨N, U, c1, c2, rfl, hN, hU⟩, hsh, hfew, hcaps⟩ := id hla
  obtain ⟨res, hres⟩ : ∃ res, St.fromR names up.length l i0 = res := ⟨_, rfl⟩
  rw [hres]
  unfold St.fromR at hres
  have HLA := Lib.hid hla
  have H := Lib.hid h
  have HF := Lib.hid hf
  have HLN : Hid (l.length ≤ 100000) := Lib.hid hl
  have HP0 : Hid ((⟨i0, ⟨0, 0⟩, 0⟩ : St.Rp).i < l.length) := Lib.hid hp
  obtain ⟨ln, hln⟩ : ∃ ln, l.length = ln := ⟨_, rfl⟩
  have HLE := Lib.hid hln
  rw [hln]
  have hib : i0 < 100000 := by omega
  obtain ⟨W0, hW0⟩ : ∃ W0, (w.alloc (.cells #[.slice N names.length c1, .slice U up.length c2] 25)).alloc (.cells #[.int .i64 0, .int .i64 0, .slice none 0 0, .slice none 0 0, .slice none 0 0, .slice none 0 0, .int .i64 0, .int .i64 0] 52) = W0 := ⟨_, rfl⟩
  have hl0 : Blk W0 (w.heap.size) 25 #[.slice N names.length c1, .slice U up.length c2] := hW0 ▸ (Blk.new _ _ _).alloc _
  have hr0 : Blk W0 (w.heap.size + 1) 52 #[.int .i64 0, .int .i64 0, .slice none 0 0, .slice none 0 0, .slice none 0 0, .slice none 0 0, .int .i64 0, .int .i64 0] := by
    have h1 := Blk.new (w.alloc (.cells #[.slice N names.length c1, .slice U up.length c2] 25)) 52 #[.int .i64 0, .int .i64 0, .slice none 0 0, .slice none 0 0, .slice none 0 0, .slice none 0 0, .int .i64 0, .int .i64 0]
    simp only [World.size_alloc] at h1
    rw [← hW0]; exact h1
  have HBW := Lib.hid (hW0 ▸ two_new w _ _ : Below w.heap.size w W0)
  have Hl := Lib.hid hl0
  have Hr := Lib.hid hr0
  clear hl0 hr0 hN hU hsh hcaps hla h hf hp hln
  have hqi := mustR_i (p := ⟨i0, ⟨0, 0⟩, 0⟩) HF.out HP0.out (show (1 : Int) ≠ 0 by decide) St.bPc
  have M1 : Hid (∀ W, Below w.heap.size w W → Calls Tryz.prog 88 #[.slice A ln c, .agg #[.int .i64 (i0 : Int), .int .i64 0, .int .i64 0, .int .i64 0], .int .i64 1, .string { data := #[112, 99] }] W (Told9 W (St.mustR l ⟨i0, ⟨0, 0⟩, 0⟩ 1 St.bPc))) := Lib.hid fun W hb => by
    have h := rMust_any c 1 St.bPc ⟨i0, ⟨0, 0⟩, 0⟩ W ((H.out.below hb).more hb.size) HP0.out HLN.out
    rw [HLE.out] at h
    exact h
  generalize St.mustR l ⟨i0, ⟨0, 0⟩, 0⟩ 1 St.bPc = q_ at *
  obtain ⟨ai, ⟨av, al⟩, ae⟩ := q_
  dsimp only at hqi
  have HIa := Lib.hid hqi
  clear hqi
  have h_ : ∀ W, Below w.heap.size w W → Calls Tryz.prog 88 #[.slice A ln c, .agg #[.int .i64 (i0 : Int), .int .i64 0, .int .i64 0, .int .i64 0], .int .i64 1, .string { data := #[112, 99] }] W (fun e w' => e = .returned (.agg #[.int .i64 (ai : Int), .int .i64 av, .int .i64 al, .int .i64 (ae : Int)]) ∧ Below W.heap.size W w') := M1.out
  clear M1
  have M1 := Lib.hid h_
  clear h_
  have hqi := atomR_i (p := ⟨ai, ⟨av, al⟩, ae⟩) (names := names) HF.out HIa.out
  have M2 : Hid (∀ W, Below w.heap.size w W → Calls Tryz.prog 89 #[.agg #[.slice N names.length c1, .slice U up.length c2], .slice A ln c, .agg #[.int .i64 (ai : Int), .int .i64 av, .int .i64 al, .int .i64 (ae : Int)]] W (Told9 W (St.atomR names l ⟨ai, ⟨av, al⟩, ae⟩))) := Lib.hid fun W hb => by
    have h := rAtom_any c ⟨ai, ⟨av, al⟩, ae⟩ W ((HLA.out.below hb).more hb.size) ((H.out.below hb).more hb.size) HF.out HIa.out HLN.out
    rw [HLE.out] at h
    exact h
  generalize St.atomR names l ⟨ai, ⟨av, al⟩, ae⟩ = q_ at *
  obtain ⟨bi, ⟨bv, bl⟩, be⟩ := q_
  dsimp only at hqi
  have HIb := Lib.hid hqi
  clear hqi
  have h_ : ∀ W, Below w.heap.size w W → Calls Tryz.prog 89 #[.agg #[.slice N names.length c1, .slice U up.length c2], .slice A ln c, .agg #[.int .i64 (ai : Int), .int .i64 av, .int .i64 al, .int .i64 (ae : Int)]] W (fun e w' => e = .returned (.agg #[.int .i64 (bi : Int), .int .i64 bv, .int .i64 bl, .int .i64 (be : Int)]) ∧ Below W.heap.size W w') := M2.out
  clear M2
  have M2 := Lib.hid h_
  clear h_
  have hqi := mustR_i (p := ⟨bi, ⟨bv, bl⟩, be⟩) HF.out HIb.out (show (3 : Int) ≠ 0 by decide) Cd.bSemi
  have M3 : Hid (∀ W, Below w.heap.size w W → Calls Tryz.prog 88 #[.slice A ln c, .agg #[.int .i64 (bi : Int), .int .i64 bv, .int .i64 bl, .int .i64 (be : Int)], .int .i64 3, .string { data := #[59] }] W (Told9 W (St.mustR l ⟨bi, ⟨bv, bl⟩, be⟩ 3 Cd.bSemi))) := Lib.hid fun W hb => by
    have h := rMust_any c 3 Cd.bSemi ⟨bi, ⟨bv, bl⟩, be⟩ W ((H.out.below hb).more hb.size) HIb.out HLN.out
    rw [HLE.out] at h
    exact h
  generalize St.mustR l ⟨bi, ⟨bv, bl⟩, be⟩ 3 Cd.bSemi = q_ at *
  obtain ⟨pi, ⟨pv, pl⟩, pe⟩ := q_
  dsimp only at hqi
  have HIp := Lib.hid hqi
  clear hqi
  have h_ : ∀ W, Below w.heap.size w W → Calls Tryz.prog 88 #[.slice A ln c, .agg #[.int .i64 (bi : Int), .int .i64 bv, .int .i64 bl, .int .i64 (be : Int)], .int .i64 3, .string { data := #[59] }] W (fun e w' => e = .returned (.agg #[.int .i64 (pi : Int), .int .i64 pv, .int .i64 pl, .int .i64 (pe : Int)]) ∧ Below W.heap.size W w') := M3.out
  clear M3
  have M3 := Lib.hid h_
  clear h_
  have hqi := mustR_i (p := ⟨pi, ⟨pv, pl⟩, pe⟩) HF.out HIp.out (show (1 : Int) ≠ 0 by decide) St.bCode
  have M4 : Hid (∀ W, Below w.heap.size w W → Calls Tryz.prog 88 #[.slice A ln c, .agg #[.int .i64 (pi : Int), .int .i64 pv, .int .i64 pl, .int .i64 (pe : Int)], .int .i64 1, .string { data := #[99, 111, 100, 101] }] W (Told9 W (St.mustR l ⟨pi, ⟨pv, pl⟩, pe⟩ 1 St.bCode))) := Lib.hid fun W hb => by
    have h := rMust_any c 1 St.bCode ⟨pi, ⟨pv, pl⟩, pe⟩ W ((H.out.below hb).more hb.size) HIp.out HLN.out
    rw [HLE.out] at h
    exact h
  generalize St.mustR l ⟨pi, ⟨pv, pl⟩, pe⟩ 1 St.bCode = q_ at *
  obtain ⟨di, ⟨dv, dl⟩, de⟩ := q_
  dsimp only at hqi
  have HId := Lib.hid hqi
  clear hqi
  have h_ : ∀ W, Below w.heap.size w W → Calls Tryz.prog 88 #[.slice A ln c, .agg #[.int .i64 (pi : Int), .int .i64 pv, .int .i64 pl, .int .i64 (pe : Int)], .int .i64 1, .string { data := #[99, 111, 100, 101] }] W (fun e w' => e = .returned (.agg #[.int .i64 (di : Int), .int .i64 dv, .int .i64 dl, .int .i64 (de : Int)]) ∧ Below W.heap.size W w') := M4.out
  clear M4
  have M4 := Lib.hid h_
  clear h_
  dsimp only at hres
  by_cases hd : de = 0
  · subst hd
    rw [if_pos rfl, if_pos rfl] at hres
    have hqi := Cd.fromP_lt HF.out names up.length 13 [] di HId.out
    have hql := fromP_len names up.length l di
    have C1 : Hid (∀ W, Below w.heap.size w W → Calls Tryz.prog 90 #[.agg #[.slice N names.length c1, .slice U up.length c2], .slice A ln c, .int .i64 (di : Int)] W (RFRes W (Cd.fromP names up.length l 13 [] di))) := Lib.hid fun W hb => by
      have h := rFrom8_any c di W ((HLA.out.below hb).more hb.size) ((H.out.below hb).more hb.size) HF.out HId.out HLN.out
      rw [HLE.out] at h
      exact h
    generalize Cd.fromP names up.length l 13 [] di = q_ at *
    obtain ⟨cL, ci, ce⟩ := q_
    dsimp only at hqi hql hres
    have HIc := Lib.hid (show (⟨ci, ⟨dv, dl⟩, ce⟩ : St.Rp).i < l.length from hqi)
    have HLc := Lib.hid hql
    clear hqi hql
    have h_ : ∀ W, Below w.heap.size w W → Calls Tryz.prog 90 #[.agg #[.slice N names.length c1, .slice U up.length c2], .slice A ln c, .int .i64 (di : Int)] W (fun e w' => ∃ x, e = .returned (.agg #[x, .int .i64 (ci : Int), .int .i64 (ce : Int)]) ∧ KN ivs W.heap.size w' x cL ∧ Below W.heap.size W w') := C1.out
    clear C1
    have C1 := Lib.hid h_
    clear h_
    have h_ : ∀ W, Below w.heap.size w W → Calls Tryz.prog 88 #[.slice A ln c, .agg #[.int .i64 (pi : Int), .int .i64 pv, .int .i64 pl, .int .i64 (pe : Int)], .int .i64 1, .string { data := #[99, 111, 100, 101] }] W (fun e w' => e = .returned (.agg #[.int .i64 (di : Int), .int .i64 dv, .int .i64 dl, .int .i64 0]) ∧ Below W.heap.size W w') := M4.out
    clear M4
    have M4 := Lib.hid h_
    clear h_
    unfold St.tailR at hres
    have hqi := rowR_lt (p := ⟨ci, ⟨dv, dl⟩, ce⟩) (names := names) (word := St.bMem) (most := 6) (rets := false) HF.out HIc.out
    have hql := rowR_len (names := names) (l := l) (p := ⟨ci, ⟨dv, dl⟩, ce⟩) (word := St.bMem) (most := 6) (rets := false)
    have R1 : Hid (∀ W, Below w.heap.size w W → Calls Tryz.prog 91 #[.agg #[.slice N names.length c1, .slice U up.length c2], .slice A ln c, .agg #[.int .i64 (ci : Int), .int .i64 dv, .int .i64 dl, .int .i64 (ce : Int)], .string { data := #[109, 101, 109] }, .int .i64 6, .bool false] W (RowRes W (St.rowR names l ⟨ci, ⟨dv, dl⟩, ce⟩ St.bMem 6 false))) := Lib.hid fun W hb => by
      have h := rRow9_any c ⟨ci, ⟨dv, dl⟩, ce⟩ St.bMem 6 false (by decide) W ((HLA.out.below hb).more hb.size) ((H.out.below hb).more hb.size) HF.out HIc.out HLN.out
      rw [HLE.out] at h
      exact h
    generalize St.rowR names l ⟨ci, ⟨dv, dl⟩, ce⟩ St.bMem 6 false = q_ at *
    obtain ⟨⟨mi, ⟨mv, ml⟩, me⟩, mL⟩ := q_
    dsimp only at hqi hql
    have HIm := Lib.hid hqi
    have HLm := Lib.hid hql
    clear hqi hql
    have h_ : ∀ W, Below w.heap.size w W → Calls Tryz.prog 91 #[.agg #[.slice N names.length c1, .slice U up.length c2], .slice A ln c, .agg #[.int .i64 (ci : Int), .int .i64 dv, .int .i64 dl, .int .i64 (ce : Int)], .string { data := #[109, 101, 109] }, .int .i64 6, .bool false] W (fun e w' => ∃ x, e = .returned (.agg #[.int .i64 (mi : Int), .int .i64 mv, .int .i64 ml, .int .i64 (me : Int), x]) ∧ KN svs W.heap.size w' x mL ∧ Below W.heap.size W w') := R1.out
    clear R1
    have R1 := Lib.hid h_
    clear h_
    have hqi := rowR_lt (p := ⟨mi, ⟨mv, ml⟩, me⟩) (names := names) (word := St.bStack) (most := 12) (rets := true) HF.out HIm.out
    have hql := rowR_len (names := names) (l := l) (p := ⟨mi, ⟨mv, ml⟩, me⟩) (word := St.bStack) (most := 12) (rets := true)
    have R2 : Hid (∀ W, Below w.heap.size w W → Calls Tryz.prog 91 #[.agg #[.slice N names.length c1, .slice U up.length c2], .slice A ln c, .agg #[.int .i64 (mi : Int), .int .i64 mv, .int .i64 ml, .int .i64 (me : Int)], .string { data := #[115, 116, 97, 99, 107] }, .int .i64 12, .bool true] W (RowRes W (St.rowR names l ⟨mi, ⟨mv, ml⟩, me⟩ St.bStack 12 true))) := Lib.hid fun W hb => by
      have h := rRow9_any c ⟨mi, ⟨mv, ml⟩, me⟩ St.bStack 12 true (by decide) W ((HLA.out.below hb).more hb.size) ((H.out.below hb).more hb.size) HF.out HIm.out HLN.out
      rw [HLE.out] at h
      exact h
    generalize St.rowR names l ⟨mi, ⟨mv, ml⟩, me⟩ St.bStack 12 true = q_ at *
    obtain ⟨⟨si, ⟨sv, sl⟩, se⟩, sL⟩ := q_
    dsimp only at hqi hql
    have HIs := Lib.hid hqi
    have HLs := Lib.hid hql
    clear hqi hql
    have h_ : ∀ W, Below w.heap.size w W → Calls Tryz.prog 91 #[.agg #[.slice N names.length c1, .slice U up.length c2], .slice A ln c, .agg #[.int .i64 (mi : Int), .int .i64 mv, .int .i64 ml, .int .i64 (me : Int)], .string { data := #[115, 116, 97, 99, 107] }, .int .i64 12, .bool true] W (fun e w' => ∃ x, e = .returned (.agg #[.int .i64 (si : Int), .int .i64 sv, .int .i64 sl, .int .i64 (se : Int), x]) ∧ KN svs W.heap.size w' x sL ∧ Below W.heap.size W w') := R2.out
    clear R2
    have R2 := Lib.hid h_
    clear h_
    have hqi := rowR_lt (p := ⟨si, ⟨sv, sl⟩, se⟩) (names := names) (word := St.bOut) (most := 8) (rets := false) HF.out HIs.out
    have hql := rowR_len (names := names) (l := l) (p := ⟨si, ⟨sv, sl⟩, se⟩) (word := St.bOut) (most := 8) (rets := false)
    have R3 : Hid (∀ W, Below w.heap.size w W → Calls Tryz.prog 91 #[.agg #[.slice N names.length c1, .slice U up.length c2], .slice A ln c, .agg #[.int .i64 (si : Int), .int .i64 sv, .int .i64 sl, .int .i64 (se : Int)], .string { data := #[111, 117, 116] }, .int .i64 8, .bool false] W (RowRes W (St.rowR names l ⟨si, ⟨sv, sl⟩, se⟩ St.bOut 8 false))) := Lib.hid fun W hb => by
      have h := rRow9_any c ⟨si, ⟨sv, sl⟩, se⟩ St.bOut 8 false (by decide) W ((HLA.out.below hb).more hb.size) ((H.out.below hb).more hb.size) HF.out HIs.out HLN.out
      rw [HLE.out] at h
      exact h
    generalize St.rowR names l ⟨si, ⟨sv, sl⟩, se⟩ St.bOut 8 false = q_ at *
    obtain ⟨⟨oi, ⟨ov, ol⟩, oe⟩, oL⟩ := q_
    dsimp only at hqi hql
    have HIo := Lib.hid hqi
    have HLo := Lib.hid hql
    clear hqi hql
    have h_ : ∀ W, Below w.heap.size w W → Calls Tryz.prog 91 #[.agg #[.slice N names.length c1, .slice U up.length c2], .slice A ln c, .agg #[.int .i64 (si : Int), .int .i64 sv, .int .i64 sl, .int .i64 (se : Int)], .string { data := #[111, 117, 116] }, .int .i64 8, .bool false] W (fun e w' => ∃ x, e = .returned (.agg #[.int .i64 (oi : Int), .int .i64 ov, .int .i64 ol, .int .i64 (oe : Int), x]) ∧ KN svs W.heap.size w' x oL ∧ Below W.heap.size W w') := R3.out
    clear R3
    have R3 := Lib.hid h_
    clear h_
    dsimp only at hres
    by_cases ho : oe = 0
    · subst ho
      rw [if_pos rfl] at hres
      have h_ : ∀ W, Below w.heap.size w W → Calls Tryz.prog 91 #[.agg #[.slice N names.length c1, .slice U up.length c2], .slice A ln c, .agg #[.int .i64 (si : Int), .int .i64 sv, .int .i64 sl, .int .i64 (se : Int)], .string { data := #[111, 117, 116] }, .int .i64 8, .bool false] W (fun e w' => ∃ x, e = .returned (.agg #[.int .i64 (oi : Int), .int .i64 ov, .int .i64 ol, .int .i64 0, x]) ∧ KN svs W.heap.size w' x oL ∧ Below W.heap.size W w') := R3.out
      clear R3
      have R3 := Lib.hid h_
      clear h_
      unfold St.endS at hres
      have HSM : Hid (SmallS ⟨⟨bv, bl⟩, cL, mL.map St.toAtom, sL, oL.map St.toAtom⟩) := Lib.hid ⟨HLc.out, by rw [List.length_map]; have := HLm.out; omega, by have := HLs.out; dsimp only; omega, by rw [List.length_map]; have := HLo.out; omega⟩
      have HRT : Hid (∀ W, Below w.heap.size w W → ∀ sv, IsSt W W.heap.size sv ⟨⟨bv, bl⟩, cL, mL.map St.toAtom, sL, oL.map St.toAtom⟩ → Calls Tryz.prog 19 #[.agg #[.slice N names.length c1, .slice U up.length c2], sv] W (Tells W (St.rightB up.length ⟨⟨bv, bl⟩, cL, mL.map St.toAtom, sL, oL.map St.toAtom⟩))) := Lib.hid fun W hb sv hs => rRight9_any W ((HLA.out.below hb).more hb.size) hs HSM.out
      generalize St.rightB up.length ⟨⟨bv, bl⟩, cL, mL.map St.toAtom, sL, oL.map St.toAtom⟩ = br at *
      have HRES := Lib.hid hres
      clear hres
      go_enter Tryz.func62, Tryz.ntmps62
      have hy1_l := Hl.out.lt
      have hy1_r := Hr.out.lt
      go_wp2_with (fail)
      refine (M1.out W0 HBW.out).mono ?_
      rintro e' w1 ⟨rfl, hb⟩
      replace Hl := bk1 Hl hb
      replace Hr := bk1 Hr hb
      replace HBW := bw1 HBW hb
      clear hb
      clear M1
      dsimp only
      obtain ⟨X2, hX2⟩ : ∃ X2, w1.alloc (.cells #[.int .i64 (ai : Int), .int .i64 av, .int .i64 al, .int .i64 (ae : Int)] 130) = X2 := ⟨_, rfl⟩
      have hal := alw hX2
      have hz2_l := Hl.out.lt
      have hz2_r := Hr.out.lt
      have hzb2 := HBW.out.size
      replace Hl := bk1 Hl hal
      replace Hr := bk1 Hr hal
      replace HBW := bw1 HBW hal
      have Hp := bka hX2
      clear hal
      obtain ⟨u3_0, u3_1⟩ := cel2 Hl
      obtain ⟨u4_0, u4_1, u4_2, u4_3⟩ := cel4 Hp
      have hy5_l := Hl.out.lt
      have hy5_r := Hr.out.lt
      have hy5_p := Hp.out.lt
      go_wp2_with (fail)
      refine (M2.out X2 HBW.out).mono ?_
      rintro e' w2 ⟨rfl, hb⟩
      replace Hl := bk1 Hl hb
      replace Hr := bk1 Hr hb
      replace Hp := bk1 Hp hb
      replace HBW := bw1 HBW hb
      clear hb
      clear u3_0 u3_1 u4_0 u4_1 u4_2 u4_3
      clear M2
      dsimp only
      obtain ⟨X6, hX6⟩ : ∃ X6, ((((w2.setCell ⟨w1.heap.size, 0, none⟩ (.int .i64 (bi : Int))).setCell ⟨w1.heap.size, 1, none⟩ (.int .i64 bv)).setCell ⟨w1.heap.size, 2, none⟩ (.int .i64 bl)).setCell ⟨w1.heap.size, 3, none⟩ (.int .i64 (be : Int))) = X6 := ⟨_, rfl⟩
      have hs_ := kp4 hX6
      obtain ⟨o6_0, o6_1, o6_2, o6_3⟩ := cel4 Hp
      obtain ⟨r6_0, r6_1, r6_2, r6_3⟩ := fro4 Hp
      replace Hp := put4_4 Hp hX6
      replace Hl := bk2 Hl hs_ (by omega)
      replace Hr := bk2 Hr hs_ (by omega)
      replace HBW := bw2 HBW hs_ (by omega)
      clear hs_
      obtain ⟨u7_0, u7_1, u7_2, u7_3⟩ := cel4 Hp
      obtain ⟨X8, hX8⟩ : ∃ X8, X6.alloc (.cells #[.int .i64 bv, .int .i64 bl, .slice none 0 0, .slice none 0 0, .slice none 0 0, .slice none 0 0] 42) = X8 := ⟨_, rfl⟩
      have hal := alw hX8
      have hz8_l := Hl.out.lt
      have hz8_r := Hr.out.lt
      have hz8_p := Hp.out.lt
      have hzb8 := HBW.out.size
      replace Hl := bk1 Hl hal
      replace Hr := bk1 Hr hal
      replace Hp := bk1 Hp hal
      replace HBW := bw1 HBW hal
      have Hs := bka hX8
      clear hal
      have HEX8 := Lib.hid hX8
      clear hX8
      have hy9_l := Hl.out.lt
      have hy9_r := Hr.out.lt
      have hy9_p := Hp.out.lt
      have hy9_s := Hs.out.lt
      go_wp2_with (fail)
      rw [HEX8.out]
      refine (M3.out X8 HBW.out).mono ?_
      rintro e' w3 ⟨rfl, hb⟩
      replace Hl := bk1 Hl hb
      replace Hr := bk1 Hr hb
      replace Hp := bk1 Hp hb
      replace Hs := bk1 Hs hb
      replace HBW := bw1 HBW hb
      clear hb
      clear o6_0 r6_0 o6_1 r6_1 o6_2 r6_2 o6_3 r6_3 u7_0 u7_1 u7_2 u7_3
      clear M3
      dsimp only
      obtain ⟨X10, hX10⟩ : ∃ X10, ((((w3.setCell ⟨w1.heap.size, 0, none⟩ (.int .i64 (pi : Int))).setCell ⟨w1.heap.size, 1, none⟩ (.int .i64 pv)).setCell ⟨w1.heap.size, 2, none⟩ (.int .i64 pl)).setCell ⟨w1.heap.size, 3, none⟩ (.int .i64 (pe : Int))) = X10 := ⟨_, rfl⟩
      have hs_ := kp4 hX10
      obtain ⟨o10_0, o10_1, o10_2, o10_3⟩ := cel4 Hp
      obtain ⟨r10_0, r10_1, r10_2, r10_3⟩ := fro4 Hp
      replace Hp := put4_4 Hp hX10
      replace Hl := bk2 Hl hs_ (by omega)
      replace Hr := bk2 Hr hs_ (by omega)
      replace Hs := bk2 Hs hs_ (by omega)
      replace HBW := bw2 HBW hs_ (by omega)
      clear hs_
      obtain ⟨u11_0, u11_1, u11_2, u11_3⟩ := cel4 Hp
      have hy12_l := Hl.out.lt
      have hy12_r := Hr.out.lt
      have hy12_p := Hp.out.lt
      have hy12_s := Hs.out.lt
      go_wp2_with (fail)
      refine (M4.out X10 HBW.out).mono ?_
      rintro e' w4 ⟨rfl, hb⟩
      replace Hl := bk1 Hl hb
      replace Hr := bk1 Hr hb
      replace Hp := bk1 Hp hb
      replace Hs := bk1 Hs hb
      replace HBW := bw1 HBW hb
      clear hb
      clear o10_0 r10_0 o10_1 r10_1 o10_2 r10_2 o10_3 r10_3 u11_0 u11_1 u11_2 u11_3
      clear M4
      dsimp only
      obtain ⟨X13, hX13⟩ : ∃ X13, ((((w4.setCell ⟨w1.heap.size, 0, none⟩ (.int .i64 (di : Int))).setCell ⟨w1.heap.size, 1, none⟩ (.int .i64 dv)).setCell ⟨w1.heap.size, 2, none⟩ (.int .i64 dl)).setCell ⟨w1.heap.size, 3, none⟩ (.int .i64 0)) = X13 := ⟨_, rfl⟩
      have hs_ := kp4 hX13
      obtain ⟨o13_0, o13_1, o13_2, o13_3⟩ := cel4 Hp
      obtain ⟨r13_0, r13_1, r13_2, r13_3⟩ := fro4 Hp
      replace Hp := put4_4 Hp hX13
      replace Hl := bk2 Hl hs_ (by omega)
      replace Hr := bk2 Hr hs_ (by omega)
      replace Hs := bk2 Hs hs_ (by omega)
      replace HBW := bw2 HBW hs_ (by omega)
      clear hs_
      obtain ⟨u14_0, u14_1, u14_2, u14_3⟩ := cel4 Hp
      obtain ⟨u15_0, u15_1⟩ := cel2 Hl
      have hy16_l := Hl.out.lt
      have hy16_r := Hr.out.lt
      have hy16_p := Hp.out.lt
      have hy16_s := Hs.out.lt
      go_wp2_with (fail)
      refine (C1.out X13 HBW.out).mono ?_
      rintro e' w5 ⟨x_, rfl, hk_, hb⟩
      replace Hl := bk1 Hl hb
      replace Hr := bk1 Hr hb
      replace Hp := bk1 Hp hb
      replace Hs := bk1 Hs hb
      replace HBW := bw1 HBW hb
      clear hb
      clear o13_0 r13_0 o13_1 r13_1 o13_2 r13_2 o13_3 r13_3 u14_0 u14_1 u14_2 u14_3 u15_0 u15_1
      clear C1
      obtain ⟨Ac, cc, hx_⟩ : ∃ A c, x_ = Value.slice A cL.length c := by
        obtain ⟨A, c, e, -⟩ := hk_
        exact ⟨A, c, e⟩
      subst hx_
      have Kc := Lib.hid hk_
      clear hk_
      dsimp only
      obtain ⟨X17, hX17⟩ : ∃ X17, w5.alloc (.cells #[.slice Ac cL.length cc, .int .i64 (ci : Int), .int .i64 (ce : Int)] 134) = X17 := ⟨_, rfl⟩
      have hal := alw hX17
      have hz17_l := Hl.out.lt
      have hz17_r := Hr.out.lt
      have hz17_p := Hp.out.lt
      have hz17_s := Hs.out.lt
      have hzb17 := HBW.out.size
      replace Hl := bk1 Hl hal
      replace Hr := bk1 Hr hal
      replace Hp := bk1 Hp hal
      replace Hs := bk1 Hs hal
      replace Kc := kn1 Kc hal
      replace HBW := bw1 HBW hal
      have Hc := bka hX17
      clear hal
      obtain ⟨u18_0, u18_1, u18_2⟩ := cel3 Hc
      obtain ⟨X19, hX19⟩ : ∃ X19, (X17.setCell ⟨X6.heap.size, 2, none⟩ (.slice Ac cL.length cc)) = X19 := ⟨_, rfl⟩
      have hs_ := kp1 hX19
      have o19_2 := c6_2 Hs
      have r19_2 := f6_2 Hs
      replace Hs := p6_2 Hs hX19
      replace Hl := bk2 Hl hs_ (by omega)
      replace Hr := bk2 Hr hs_ (by omega)
      replace Hp := bk2 Hp hs_ (by omega)
      replace Hc := bk2 Hc hs_ (by omega)
      replace Kc := kn2 Kc hs_ (by omega)
      replace HBW := bw2 HBW hs_ (by omega)
      clear hs_
      obtain ⟨u20_0, u20_1, u20_2⟩ := cel3 Hc
      obtain ⟨X21, hX21⟩ : ∃ X21, (X19.setCell ⟨w1.heap.size, 0, none⟩ (.int .i64 (ci : Int))) = X21 := ⟨_, rfl⟩
      have hs_ := kp1 hX21
      have o21_0 := c4_0 Hp
      have r21_0 := f4_0 Hp
      replace Hp := p4_0 Hp hX21
      replace Hl := bk2 Hl hs_ (by omega)
      replace Hr := bk2 Hr hs_ (by omega)
      replace Hs := bk2 Hs hs_ (by omega)
      replace Hc := bk2 Hc hs_ (by omega)
      replace Kc := kn2 Kc hs_ (by omega)
      replace HBW := bw2 HBW hs_ (by omega)
      clear hs_
      obtain ⟨u22_0, u22_1, u22_2⟩ := cel3 Hc
      obtain ⟨X23, hX23⟩ : ∃ X23, (X21.setCell ⟨w1.heap.size, 3, none⟩ (.int .i64 (ce : Int))) = X23 := ⟨_, rfl⟩
      have hs_ := kp1 hX23
      have o23_3 := c4_3 Hp
      have r23_3 := f4_3 Hp
      replace Hp := p4_3 Hp hX23
      replace Hl := bk2 Hl hs_ (by omega)
      replace Hr := bk2 Hr hs_ (by omega)
      replace Hs := bk2 Hs hs_ (by omega)
      replace Hc := bk2 Hc hs_ (by omega)
      replace Kc := kn2 Kc hs_ (by omega)
      replace HBW := bw2 HBW hs_ (by omega)
      clear hs_
      obtain ⟨u24_0, u24_1⟩ := cel2 Hl
      obtain ⟨u25_0, u25_1, u25_2, u25_3⟩ := cel4 Hp
      have hy26_l := Hl.out.lt
      have hy26_r := Hr.out.lt
      have hy26_p := Hp.out.lt
      have hy26_s := Hs.out.lt
      have hy26_c := Hc.out.lt
      go_wp2_with (fail)
      refine (R1.out X23 HBW.out).mono ?_
      rintro e' w6 ⟨x_, rfl, hk_, hb⟩
      replace Hl := bk1 Hl hb
      replace Hr := bk1 Hr hb
      replace Hp := bk1 Hp hb
      replace Hs := bk1 Hs hb
      replace Hc := bk1 Hc hb
      replace Kc := kn1 Kc hb
      replace HBW := bw1 HBW hb
      clear hb
      clear u18_0 u18_1 u18_2 o19_2 r19_2 u20_0 u20_1 u20_2 o21_0 r21_0 u22_0 u22_1 u22_2 o23_3 r23_3 u24_0 u24_1 u25_0 u25_1 u25_2 u25_3
      clear R1
      obtain ⟨Am, cm, hx_⟩ : ∃ A c, x_ = Value.slice A mL.length c := by
        obtain ⟨A, c, e, -⟩ := hk_
        exact ⟨A, c, e⟩
      subst hx_
      have Km := Lib.hid hk_
      clear hk_
      dsimp only
      obtain ⟨X27, hX27⟩ : ∃ X27, w6.alloc (.cells #[.int .i64 (mi : Int), .int .i64 mv, .int .i64 ml, .int .i64 (me : Int), .slice Am mL.length cm] 137) = X27 := ⟨_, rfl⟩
      have hal := alw hX27
      have hz27_l := Hl.out.lt
      have hz27_r := Hr.out.lt
      have hz27_p := Hp.out.lt
      have hz27_s := Hs.out.lt
      have hz27_c := Hc.out.lt
      have hzb27 := HBW.out.size
      replace Hl := bk1 Hl hal
      replace Hr := bk1 Hr hal
      replace Hp := bk1 Hp hal
      replace Hs := bk1 Hs hal
      replace Hc := bk1 Hc hal
      replace Kc := kn1 Kc hal
      replace Km := kn1 Km hal
      replace HBW := bw1 HBW hal
      have Hm := bka hX27
      clear hal
      obtain ⟨u28_0, u28_1⟩ := cel2 Hl
      obtain ⟨u29_0, u29_1, u29_2, u29_3, u29_4⟩ := cel5 Hm
      have hy30_l := Hl.out.lt
      have hy30_r := Hr.out.lt
      have hy30_p := Hp.out.lt
      have hy30_s := Hs.out.lt
      have hy30_c := Hc.out.lt
      have hy30_m := Hm.out.lt
      go_wp2_with (fail)
      refine (R2.out X27 HBW.out).mono ?_
      rintro e' w7 ⟨x_, rfl, hk_, hb⟩
      replace Hl := bk1 Hl hb
      replace Hr := bk1 Hr hb
      replace Hp := bk1 Hp hb
      replace Hs := bk1 Hs hb
      replace Hc := bk1 Hc hb
      replace Hm := bk1 Hm hb
      replace Kc := kn1 Kc hb
      replace Km := kn1 Km hb
      replace HBW := bw1 HBW hb
      clear hb
      clear u28_0 u28_1 u29_0 u29_1 u29_2 u29_3 u29_4
      clear R2
      obtain ⟨As, cs, hx_⟩ : ∃ A c, x_ = Value.slice A sL.length c := by
        obtain ⟨A, c, e, -⟩ := hk_
        exact ⟨A, c, e⟩
      subst hx_
      have Kk := Lib.hid hk_
      clear hk_
      dsimp only
      obtain ⟨X31, hX31⟩ : ∃ X31, w7.alloc (.cells #[.int .i64 (si : Int), .int .i64 sv, .int .i64 sl, .int .i64 (se : Int), .slice As sL.length cs] 137) = X31 := ⟨_, rfl⟩
      have hal := alw hX31
      have hz31_l := Hl.out.lt
      have hz31_r := Hr.out.lt
      have hz31_p := Hp.out.lt
      have hz31_s := Hs.out.lt
      have hz31_c := Hc.out.lt
      have hz31_m := Hm.out.lt
      have hzb31 := HBW.out.size
      replace Hl := bk1 Hl hal
      replace Hr := bk1 Hr hal
      replace Hp := bk1 Hp hal
      replace Hs := bk1 Hs hal
      replace Hc := bk1 Hc hal
      replace Hm := bk1 Hm hal
      replace Kc := kn1 Kc hal
      replace Km := kn1 Km hal
      replace Kk := kn1 Kk hal
      replace HBW := bw1 HBW hal
      have Hk := bka hX31
      clear hal
      obtain ⟨u32_0, u32_1⟩ := cel2 Hl
      obtain ⟨u33_0, u33_1, u33_2, u33_3, u33_4⟩ := cel5 Hk
      have hy34_l := Hl.out.lt
      have hy34_r := Hr.out.lt
      have hy34_p := Hp.out.lt
      have hy34_s := Hs.out.lt
      have hy34_c := Hc.out.lt
      have hy34_m := Hm.out.lt
      have hy34_k := Hk.out.lt
      go_wp2_with (fail)
      refine (R3.out X31 HBW.out).mono ?_
      rintro e' w8 ⟨x_, rfl, hk_, hb⟩
      replace Hl := bk1 Hl hb
      replace Hr := bk1 Hr hb
      replace Hp := bk1 Hp hb
      replace Hs := bk1 Hs hb
      replace Hc := bk1 Hc hb
      replace Hm := bk1 Hm hb
      replace Hk := bk1 Hk hb
      replace Kc := kn1 Kc hb
      replace Km := kn1 Km hb
      replace Kk := kn1 Kk hb
      replace HBW := bw1 HBW hb
      clear hb
      clear u32_0 u32_1 u33_0 u33_1 u33_2 u33_3 u33_4
      clear R3
      obtain ⟨Ao, co, hx_⟩ : ∃ A c, x_ = Value.slice A oL.length c := by
        obtain ⟨A, c, e, -⟩ := hk_
        exact ⟨A, c, e⟩
      subst hx_
      have Ko := Lib.hid hk_
      clear hk_
      dsimp only
      obtain ⟨X35, hX35⟩ : ∃ X35, w8.alloc (.cells #[.int .i64 (oi : Int), .int .i64 ov, .int .i64 ol, .int .i64 0, .slice Ao oL.length co] 137) = X35 := ⟨_, rfl⟩
      have hal := alw hX35
      have hz35_l := Hl.out.lt
      have hz35_r := Hr.out.lt
      have hz35_p := Hp.out.lt
      have hz35_s := Hs.out.lt
      have hz35_c := Hc.out.lt
      have hz35_m := Hm.out.lt
      have hz35_k := Hk.out.lt
      have hzb35 := HBW.out.size
      replace Hl := bk1 Hl hal
      replace Hr := bk1 Hr hal
      replace Hp := bk1 Hp hal
      replace Hs := bk1 Hs hal
      replace Hc := bk1 Hc hal
      replace Hm := bk1 Hm hal
      replace Hk := bk1 Hk hal
      replace Kc := kn1 Kc hal
      replace Km := kn1 Km hal
      replace Kk := kn1 Kk hal
      replace Ko := kn1 Ko hal
      replace HBW := bw1 HBW hal
      have Ho := bka hX35
      clear hal
      obtain ⟨u36_0, u36_1⟩ := cel2 Hl
      obtain ⟨u37_0, u37_1, u37_2, u37_3, u37_4⟩ := cel5 Ho
      obtain ⟨u38_0, u38_1, u38_2, u38_3, u38_4⟩ := cel5 Ho
      obtain ⟨u39_0, u39_1, u39_2, u39_3, u39_4⟩ := cel5 Hm
      have ham := rAtoms9_any (l := mL) cm X35 (by obtain ⟨A_, c_, e_, h_, -⟩ := Km.out.row; injection e_ with e1 e2 e3; subst e1; exact h_) (by have := HLm.out; omega)
      have HAM := Lib.hid ham
      clear ham
      have hy40_l := Hl.out.lt
      have hy40_r := Hr.out.lt
      have hy40_p := Hp.out.lt
      have hy40_s := Hs.out.lt
      have hy40_c := Hc.out.lt
      have hy40_m := Hm.out.lt
      have hy40_k := Hk.out.lt
      have hy40_o := Ho.out.lt
      go_wp2_with (fail)
      refine (HAM.out).mono ?_
      rintro e' w9 ⟨x_, rfl, hk_, hb⟩
      replace Hl := bk1 Hl hb
      replace Hr := bk1 Hr hb
      replace Hp := bk1 Hp hb
      replace Hs := bk1 Hs hb
      replace Hc := bk1 Hc hb
      replace Hm := bk1 Hm hb
      replace Hk := bk1 Hk hb
      replace Ho := bk1 Ho hb
      replace Kc := kn1 Kc hb
      replace Km := kn1 Km hb
      replace Kk := kn1 Kk hb
      replace Ko := kn1 Ko hb
      replace HBW := bw1 HBW hb
      clear hb
      clear u36_0 u36_1 u37_0 u37_1 u37_2 u37_3 u37_4 u38_0 u38_1 u38_2 u38_3 u38_4 u39_0 u39_1 u39_2 u39_3 u39_4
      clear HAM
      obtain ⟨Aa, ca, hx_⟩ : ∃ A c, x_ = Value.slice A mL.length c := by
        obtain ⟨A, c, e, -⟩ := hk_
        exact ⟨A, c, by rw [e, List.length_map]⟩
      subst hx_
      have Ka := Lib.hid hk_
      clear hk_
      dsimp only
      obtain ⟨X41, hX41⟩ : ∃ X41, (w9.setCell ⟨X6.heap.size, 3, none⟩ (.slice Aa mL.length ca)) = X41 := ⟨_, rfl⟩
      have hs_ := kp1 hX41
      have o41_3 := c6_3 Hs
      have r41_3 := f6_3 Hs
      replace Hs := p6_3 Hs hX41
      replace Hl := bk2 Hl hs_ (by omega)
      replace Hr := bk2 Hr hs_ (by omega)
      replace Hp := bk2 Hp hs_ (by omega)
      replace Hc := bk2 Hc hs_ (by omega)
      replace Hm := bk2 Hm hs_ (by omega)
      replace Hk := bk2 Hk hs_ (by omega)
      replace Ho := bk2 Ho hs_ (by omega)
      replace Kc := kn2 Kc hs_ (by omega)
      replace Km := kn2 Km hs_ (by omega)
      replace Kk := kn2 Kk hs_ (by omega)
      replace Ko := kn2 Ko hs_ (by omega)
      replace Ka := kn2 Ka hs_ (by omega)
      replace HBW := bw2 HBW hs_ (by omega)
      clear hs_
      obtain ⟨u42_0, u42_1, u42_2, u42_3, u42_4⟩ := cel5 Hk
      obtain ⟨X43, hX43⟩ : ∃ X43, (X41.setCell ⟨X6.heap.size, 4, none⟩ (.slice As sL.length cs)) = X43 := ⟨_, rfl⟩
      have hs_ := kp1 hX43
      have o43_4 := c6_4 Hs
      have r43_4 := f6_4 Hs
      replace Hs := p6_4 Hs hX43
      replace Hl := bk2 Hl hs_ (by omega)
      replace Hr := bk2 Hr hs_ (by omega)
      replace Hp := bk2 Hp hs_ (by omega)
      replace Hc := bk2 Hc hs_ (by omega)
      replace Hm := bk2 Hm hs_ (by omega)
      replace Hk := bk2 Hk hs_ (by omega)
      replace Ho := bk2 Ho hs_ (by omega)
      replace Kc := kn2 Kc hs_ (by omega)
      replace Km := kn2 Km hs_ (by omega)
      replace Kk := kn2 Kk hs_ (by omega)
      replace Ko := kn2 Ko hs_ (by omega)
      replace Ka := kn2 Ka hs_ (by omega)
      replace HBW := bw2 HBW hs_ (by omega)
      clear hs_
      obtain ⟨u44_0, u44_1, u44_2, u44_3, u44_4⟩ := cel5 Ho
      have ham := rAtoms9_any (l := oL) co X43 (by obtain ⟨A_, c_, e_, h_, -⟩ := Ko.out.row; injection e_ with e1 e2 e3; subst e1; exact h_) (by have := HLo.out; omega)
      have HAM := Lib.hid ham
      clear ham
      have hy45_l := Hl.out.lt
      have hy45_r := Hr.out.lt
      have hy45_p := Hp.out.lt
      have hy45_s := Hs.out.lt
      have hy45_c := Hc.out.lt
      have hy45_m := Hm.out.lt
      have hy45_k := Hk.out.lt
      have hy45_o := Ho.out.lt
      go_wp2_with (fail)
      refine (HAM.out).mono ?_
      rintro e' w10 ⟨x_, rfl, hk_, hb⟩
      replace Hl := bk1 Hl hb
      replace Hr := bk1 Hr hb
      replace Hp := bk1 Hp hb
      replace Hs := bk1 Hs hb
      replace Hc := bk1 Hc hb
      replace Hm := bk1 Hm hb
      replace Hk := bk1 Hk hb
      replace Ho := bk1 Ho hb
      replace Kc := kn1 Kc hb
      replace Km := kn1 Km hb
      replace Kk := kn1 Kk hb
      replace Ko := kn1 Ko hb
      replace Ka := kn1 Ka hb
      replace HBW := bw1 HBW hb
      clear hb
      clear o41_3 r41_3 u42_0 u42_1 u42_2 u42_3 u42_4 o43_4 r43_4 u44_0 u44_1 u44_2 u44_3 u44_4
      clear HAM
      obtain ⟨Ab, cb, hx_⟩ : ∃ A c, x_ = Value.slice A oL.length c := by
        obtain ⟨A, c, e, -⟩ := hk_
        exact ⟨A, c, by rw [e, List.length_map]⟩
      subst hx_
      have Kb := Lib.hid hk_
      clear hk_
      dsimp only
      obtain ⟨X46, hX46⟩ : ∃ X46, (w10.setCell ⟨X6.heap.size, 5, none⟩ (.slice Ab oL.length cb)) = X46 := ⟨_, rfl⟩
      have hs_ := kp1 hX46
      have o46_5 := c6_5 Hs
      have r46_5 := f6_5 Hs
      replace Hs := p6_5 Hs hX46
      replace Hl := bk2 Hl hs_ (by omega)
      replace Hr := bk2 Hr hs_ (by omega)
      replace Hp := bk2 Hp hs_ (by omega)
      replace Hc := bk2 Hc hs_ (by omega)
      replace Hm := bk2 Hm hs_ (by omega)
      replace Hk := bk2 Hk hs_ (by omega)
      replace Ho := bk2 Ho hs_ (by omega)
      replace Kc := kn2 Kc hs_ (by omega)
      replace Km := kn2 Km hs_ (by omega)
      replace Kk := kn2 Kk hs_ (by omega)
      replace Ko := kn2 Ko hs_ (by omega)
      replace Ka := kn2 Ka hs_ (by omega)
      replace Kb := kn2 Kb hs_ (by omega)
      replace HBW := bw2 HBW hs_ (by omega)
      clear hs_
      obtain ⟨u47_0, u47_1⟩ := cel2 Hl
      obtain ⟨u48_0, u48_1, u48_2, u48_3, u48_4, u48_5⟩ := cel6 Hs
      have hrt := HRT.out X46 HBW.out _ ⟨_, _, _, _, rfl, Kc.out.ins, Ka.out.isL, Kk.out.isL, Kb.out.isL⟩
      have HRI := Lib.hid hrt
      clear hrt
      unfold stv at HRI
      dsimp only at HRI
      have hy49_l := Hl.out.lt
      have hy49_r := Hr.out.lt
      have hy49_p := Hp.out.lt
      have hy49_s := Hs.out.lt
      have hy49_c := Hc.out.lt
      have hy49_m := Hm.out.lt
      have hy49_k := Hk.out.lt
      have hy49_o := Ho.out.lt
      go_wp2_with (fail)
      refine (HRI.out).mono ?_
      rintro e' w11 ⟨rfl, hb⟩
      replace Hl := bk1 Hl hb
      replace Hr := bk1 Hr hb
      replace Hp := bk1 Hp hb
      replace Hs := bk1 Hs hb
      replace Hc := bk1 Hc hb
      replace Hm := bk1 Hm hb
      replace Hk := bk1 Hk hb
      replace Ho := bk1 Ho hb
      replace Kc := kn1 Kc hb
      replace Km := kn1 Km hb
      replace Kk := kn1 Kk hb
      replace Ko := kn1 Ko hb
      replace Ka := kn1 Ka hb
      replace Kb := kn1 Kb hb
      replace HBW := bw1 HBW hb
      clear hb
      clear o46_5 r46_5 u47_0 u47_1 u48_0 u48_1 u48_2 u48_3 u48_4 u48_5
      clear HRI
      cases br with
      | true =>
        have hrz := HRES.out
        rw [if_pos rfl] at hrz
        have HRZ := Lib.hid hrz.symm
        clear hrz HRES
        obtain ⟨u50_0, u50_1, u50_2, u50_3, u50_4, u50_5⟩ := cel6 Hs
        obtain ⟨u51_0, u51_1, u51_2, u51_3, u51_4⟩ := cel5 Ho
        obtain ⟨X52, hX52⟩ : ∃ X52, (w11.setCell ⟨w.heap.size + 1, 0, none⟩ (.int .i64 bv)) = X52 := ⟨_, rfl⟩
        have hs_ := kp1 hX52
        have o52_0 := c8_0 Hr
        have r52_0 := f8_0 Hr
        replace Hr := p8_0 Hr hX52
        clear Hl Hp Hs Hc Hm Hk Ho
        replace Kc := kn2 Kc hs_ (by omega)
        replace Km := kn2 Km hs_ (by omega)
        replace Kk := kn2 Kk hs_ (by omega)
        replace Ko := kn2 Ko hs_ (by omega)
        replace Ka := kn2 Ka hs_ (by omega)
        replace Kb := kn2 Kb hs_ (by omega)
        replace HBW := bw2 HBW hs_ (by omega)
        clear hs_
        obtain ⟨X53, hX53⟩ : ∃ X53, (X52.setCell ⟨w.heap.size + 1, 1, none⟩ (.int .i64 bl)) = X53 := ⟨_, rfl⟩
        have hs_ := kp1 hX53
        have o53_1 := c8_1 Hr
        have r53_1 := f8_1 Hr
        replace Hr := p8_1 Hr hX53
        replace Kc := kn2 Kc hs_ (by omega)
        replace Km := kn2 Km hs_ (by omega)
        replace Kk := kn2 Kk hs_ (by omega)
        replace Ko := kn2 Ko hs_ (by omega)
        replace Ka := kn2 Ka hs_ (by omega)
        replace Kb := kn2 Kb hs_ (by omega)
        replace HBW := bw2 HBW hs_ (by omega)
        clear hs_
        obtain ⟨X54, hX54⟩ : ∃ X54, (X53.setCell ⟨w.heap.size + 1, 2, none⟩ (.slice Ac cL.length cc)) = X54 := ⟨_, rfl⟩
        have hs_ := kp1 hX54
        have o54_2 := c8_2 Hr
        have r54_2 := f8_2 Hr
        replace Hr := p8_2 Hr hX54
        replace Kc := kn2 Kc hs_ (by omega)
        replace Km := kn2 Km hs_ (by omega)
        replace Kk := kn2 Kk hs_ (by omega)
        replace Ko := kn2 Ko hs_ (by omega)
        replace Ka := kn2 Ka hs_ (by omega)
        replace Kb := kn2 Kb hs_ (by omega)
        replace HBW := bw2 HBW hs_ (by omega)
        clear hs_
        obtain ⟨X55, hX55⟩ : ∃ X55, (X54.setCell ⟨w.heap.size + 1, 3, none⟩ (.slice Aa mL.length ca)) = X55 := ⟨_, rfl⟩
        have hs_ := kp1 hX55
        have o55_3 := c8_3 Hr
        have r55_3 := f8_3 Hr
        replace Hr := p8_3 Hr hX55
        replace Kc := kn2 Kc hs_ (by omega)
        replace Km := kn2 Km hs_ (by omega)
        replace Kk := kn2 Kk hs_ (by omega)
        replace Ko := kn2 Ko hs_ (by omega)
        replace Ka := kn2 Ka hs_ (by omega)
        replace Kb := kn2 Kb hs_ (by omega)
        replace HBW := bw2 HBW hs_ (by omega)
        clear hs_
        obtain ⟨X56, hX56⟩ : ∃ X56, (X55.setCell ⟨w.heap.size + 1, 4, none⟩ (.slice As sL.length cs)) = X56 := ⟨_, rfl⟩
        have hs_ := kp1 hX56
        have o56_4 := c8_4 Hr
        have r56_4 := f8_4 Hr
        replace Hr := p8_4 Hr hX56
        replace Kc := kn2 Kc hs_ (by omega)
        replace Km := kn2 Km hs_ (by omega)
        replace Kk := kn2 Kk hs_ (by omega)
        replace Ko := kn2 Ko hs_ (by omega)
        replace Ka := kn2 Ka hs_ (by omega)
        replace Kb := kn2 Kb hs_ (by omega)
        replace HBW := bw2 HBW hs_ (by omega)
        clear hs_
        obtain ⟨X57, hX57⟩ : ∃ X57, (X56.setCell ⟨w.heap.size + 1, 5, none⟩ (.slice Ab oL.length cb)) = X57 := ⟨_, rfl⟩
        have hs_ := kp1 hX57
        have o57_5 := c8_5 Hr
        have r57_5 := f8_5 Hr
        replace Hr := p8_5 Hr hX57
        replace Kc := kn2 Kc hs_ (by omega)
        replace Km := kn2 Km hs_ (by omega)
        replace Kk := kn2 Kk hs_ (by omega)
        replace Ko := kn2 Ko hs_ (by omega)
        replace Ka := kn2 Ka hs_ (by omega)
        replace Kb := kn2 Kb hs_ (by omega)
        replace HBW := bw2 HBW hs_ (by omega)
        clear hs_
        obtain ⟨X58, hX58⟩ : ∃ X58, (X57.setCell ⟨w.heap.size + 1, 6, none⟩ (.int .i64 (oi : Int))) = X58 := ⟨_, rfl⟩
        have hs_ := kp1 hX58
        have o58_6 := c8_6 Hr
        have r58_6 := f8_6 Hr
        replace Hr := p8_6 Hr hX58
        replace Kc := kn2 Kc hs_ (by omega)
        replace Km := kn2 Km hs_ (by omega)
        replace Kk := kn2 Kk hs_ (by omega)
        replace Ko := kn2 Ko hs_ (by omega)
        replace Ka := kn2 Ka hs_ (by omega)
        replace Kb := kn2 Kb hs_ (by omega)
        replace HBW := bw2 HBW hs_ (by omega)
        clear hs_
        obtain ⟨X59, hX59⟩ : ∃ X59, (X58.setCell ⟨w.heap.size + 1, 7, none⟩ (.int .i64 0)) = X59 := ⟨_, rfl⟩
        have hs_ := kp1 hX59
        have o59_7 := c8_7 Hr
        have r59_7 := f8_7 Hr
        replace Hr := p8_7 Hr hX59
        replace Kc := kn2 Kc hs_ (by omega)
        replace Km := kn2 Km hs_ (by omega)
        replace Kk := kn2 Kk hs_ (by omega)
        replace Ko := kn2 Ko hs_ (by omega)
        replace Ka := kn2 Ka hs_ (by omega)
        replace Kb := kn2 Kb hs_ (by omega)
        replace HBW := bw2 HBW hs_ (by omega)
        clear hs_
        obtain ⟨q0, q1, q2, q3, q4, q5, q6, q7⟩ := cel8 Hr
        go_wp2_with (exact bodyPost_ret (v := .agg #[.int .i64 bv, .int .i64 bl, .slice Ac cL.length cc, .slice Aa mL.length ca, .slice As sL.length cs, .slice Ab oL.length cb, .int .i64 (oi : Int), .int .i64 0]) (by simp [results, Tryz.results62, go_sem, q0, q1, q2, q3, q4, q5, q6, q7]) rfl (by rw [HRZ.out]; exact ⟨_, _, _, _, rfl, ⟨KN.less Kc.out (show w.heap.size ≤ X13.heap.size by omega), KN.less Ka.out (show w.heap.size ≤ X35.heap.size by omega), KN.less Kk.out (show w.heap.size ≤ X27.heap.size by omega), KN.less Kb.out (show w.heap.size ≤ X43.heap.size by omega)⟩, HBW.out⟩))
      | false =>
        have hrz := HRES.out
        rw [if_neg (by decide)] at hrz
        have HRZ := Lib.hid hrz.symm
        clear hrz HRES
        obtain ⟨X50, hX50⟩ : ∃ X50, (w11.setCell ⟨w.heap.size + 1, 0, none⟩ (.int .i64 0)) = X50 := ⟨_, rfl⟩
        have hs_ := kp1 hX50
        have o50_0 := c8_0 Hr
        have r50_0 := f8_0 Hr
        replace Hr := p8_0 Hr hX50
        clear Hl Hp Hs Hc Hm Hk Ho
        replace Kc := kn2 Kc hs_ (by omega)
        replace Km := kn2 Km hs_ (by omega)
        replace Kk := kn2 Kk hs_ (by omega)
        replace Ko := kn2 Ko hs_ (by omega)
        replace Ka := kn2 Ka hs_ (by omega)
        replace Kb := kn2 Kb hs_ (by omega)
        replace HBW := bw2 HBW hs_ (by omega)
        clear hs_
        obtain ⟨X51, hX51⟩ : ∃ X51, (X50.setCell ⟨w.heap.size + 1, 1, none⟩ (.int .i64 0)) = X51 := ⟨_, rfl⟩
        have hs_ := kp1 hX51
        have o51_1 := c8_1 Hr
        have r51_1 := f8_1 Hr
        replace Hr := p8_1 Hr hX51
        replace Kc := kn2 Kc hs_ (by omega)
        replace Km := kn2 Km hs_ (by omega)
        replace Kk := kn2 Kk hs_ (by omega)
        replace Ko := kn2 Ko hs_ (by omega)
        replace Ka := kn2 Ka hs_ (by omega)
        replace Kb := kn2 Kb hs_ (by omega)
        replace HBW := bw2 HBW hs_ (by omega)
        clear hs_
        obtain ⟨X52, hX52⟩ : ∃ X52, (X51.setCell ⟨w.heap.size + 1, 2, none⟩ (.slice none 0 0)) = X52 := ⟨_, rfl⟩
        have hs_ := kp1 hX52
        have o52_2 := c8_2 Hr
        have r52_2 := f8_2 Hr
        replace Hr := p8_2 Hr hX52
        replace Kc := kn2 Kc hs_ (by omega)
        replace Km := kn2 Km hs_ (by omega)
        replace Kk := kn2 Kk hs_ (by omega)
        replace Ko := kn2 Ko hs_ (by omega)
        replace Ka := kn2 Ka hs_ (by omega)
        replace Kb := kn2 Kb hs_ (by omega)
        replace HBW := bw2 HBW hs_ (by omega)
        clear hs_
        obtain ⟨X53, hX53⟩ : ∃ X53, (X52.setCell ⟨w.heap.size + 1, 3, none⟩ (.slice none 0 0)) = X53 := ⟨_, rfl⟩
        have hs_ := kp1 hX53
        have o53_3 := c8_3 Hr
        have r53_3 := f8_3 Hr
        replace Hr := p8_3 Hr hX53
        replace Kc := kn2 Kc hs_ (by omega)
        replace Km := kn2 Km hs_ (by omega)
        replace Kk := kn2 Kk hs_ (by omega)
        replace Ko := kn2 Ko hs_ (by omega)
        replace Ka := kn2 Ka hs_ (by omega)
        replace Kb := kn2 Kb hs_ (by omega)
        replace HBW := bw2 HBW hs_ (by omega)
        clear hs_
        obtain ⟨X54, hX54⟩ : ∃ X54, (X53.setCell ⟨w.heap.size + 1, 4, none⟩ (.slice none 0 0)) = X54 := ⟨_, rfl⟩
        have hs_ := kp1 hX54
        have o54_4 := c8_4 Hr
        have r54_4 := f8_4 Hr
        replace Hr := p8_4 Hr hX54
        replace Kc := kn2 Kc hs_ (by omega)
        replace Km := kn2 Km hs_ (by omega)
        replace Kk := kn2 Kk hs_ (by omega)
        replace Ko := kn2 Ko hs_ (by omega)
        replace Ka := kn2 Ka hs_ (by omega)
        replace Kb := kn2 Kb hs_ (by omega)
        replace HBW := bw2 HBW hs_ (by omega)
        clear hs_
        obtain ⟨X55, hX55⟩ : ∃ X55, (X54.setCell ⟨w.heap.size + 1, 5, none⟩ (.slice none 0 0)) = X55 := ⟨_, rfl⟩
        have hs_ := kp1 hX55
        have o55_5 := c8_5 Hr
        have r55_5 := f8_5 Hr
        replace Hr := p8_5 Hr hX55
        replace Kc := kn2 Kc hs_ (by omega)
        replace Km := kn2 Km hs_ (by omega)
        replace Kk := kn2 Kk hs_ (by omega)
        replace Ko := kn2 Ko hs_ (by omega)
        replace Ka := kn2 Ka hs_ (by omega)
        replace Kb := kn2 Kb hs_ (by omega)
        replace HBW := bw2 HBW hs_ (by omega)
        clear hs_
        obtain ⟨X56, hX56⟩ : ∃ X56, (X55.setCell ⟨w.heap.size + 1, 6, none⟩ (.int .i64 (i0 : Int))) = X56 := ⟨_, rfl⟩
        have hs_ := kp1 hX56
        have o56_6 := c8_6 Hr
        have r56_6 := f8_6 Hr
        replace Hr := p8_6 Hr hX56
        replace Kc := kn2 Kc hs_ (by omega)
        replace Km := kn2 Km hs_ (by omega)
        replace Kk := kn2 Kk hs_ (by omega)
        replace Ko := kn2 Ko hs_ (by omega)
        replace Ka := kn2 Ka hs_ (by omega)
        replace Kb := kn2 Kb hs_ (by omega)
        replace HBW := bw2 HBW hs_ (by omega)
        clear hs_
        obtain ⟨X57, hX57⟩ : ∃ X57, (X56.setCell ⟨w.heap.size + 1, 7, none⟩ (.int .i64 1)) = X57 := ⟨_, rfl⟩
        have hs_ := kp1 hX57
        have o57_7 := c8_7 Hr
        have r57_7 := f8_7 Hr
        replace Hr := p8_7 Hr hX57
        replace Kc := kn2 Kc hs_ (by omega)
        replace Km := kn2 Km hs_ (by omega)
        replace Kk := kn2 Kk hs_ (by omega)
        replace Ko := kn2 Ko hs_ (by omega)
        replace Ka := kn2 Ka hs_ (by omega)
        replace Kb := kn2 Kb hs_ (by omega)
        replace HBW := bw2 HBW hs_ (by omega)
        clear hs_
        obtain ⟨q0, q1, q2, q3, q4, q5, q6, q7⟩ := cel8 Hr
        go_wp2_with (exact bodyPost_ret (v := .agg #[.int .i64 0, .int .i64 0, .slice none 0 0, .slice none 0 0, .slice none 0 0, .slice none 0 0, .int .i64 (i0 : Int), .int .i64 1]) (by simp [results, Tryz.results62, go_sem, q0, q1, q2, q3, q4, q5, q6, q7]) rfl (by rw [HRZ.out]; exact RFRes9.nil HBW.out))
    · rw [if_neg ho] at hres
      have HRZ := Lib.hid hres.symm
      have hzo : ((oe : Int) != 0) = true := by rw [bne_iff_ne]; omega
      clear hres ho
      go_enter Tryz.func62, Tryz.ntmps62
      have hy1_l := Hl.out.lt
      have hy1_r := Hr.out.lt
      go_wp2_with (fail)
      refine (M1.out W0 HBW.out).mono ?_
      rintro e' w1 ⟨rfl, hb⟩
      replace Hl := bk1 Hl hb
      replace Hr := bk1 Hr hb
      replace HBW := bw1 HBW hb
      clear hb
      clear M1
      dsimp only
      obtain ⟨X2, hX2⟩ : ∃ X2, w1.alloc (.cells #[.int .i64 (ai : Int), .int .i64 av, .int .i64 al, .int .i64 (ae : Int)] 130) = X2 := ⟨_, rfl⟩
      have hal := alw hX2
      have hz2_l := Hl.out.lt
      have hz2_r := Hr.out.lt
      have hzb2 := HBW.out.size
      replace Hl := bk1 Hl hal
      replace Hr := bk1 Hr hal
      replace HBW := bw1 HBW hal
      have Hp := bka hX2
      clear hal
      obtain ⟨u3_0, u3_1⟩ := cel2 Hl
      obtain ⟨u4_0, u4_1, u4_2, u4_3⟩ := cel4 Hp
      have hy5_l := Hl.out.lt
      have hy5_r := Hr.out.lt
      have hy5_p := Hp.out.lt
      go_wp2_with (fail)
      refine (M2.out X2 HBW.out).mono ?_
      rintro e' w2 ⟨rfl, hb⟩
      replace Hl := bk1 Hl hb
      replace Hr := bk1 Hr hb
      replace Hp := bk1 Hp hb
      replace HBW := bw1 HBW hb
      clear hb
      clear u3_0 u3_1 u4_0 u4_1 u4_2 u4_3
      clear M2
      dsimp only
      obtain ⟨X6, hX6⟩ : ∃ X6, ((((w2.setCell ⟨w1.heap.size, 0, none⟩ (.int .i64 (bi : Int))).setCell ⟨w1.heap.size, 1, none⟩ (.int .i64 bv)).setCell ⟨w1.heap.size, 2, none⟩ (.int .i64 bl)).setCell ⟨w1.heap.size, 3, none⟩ (.int .i64 (be : Int))) = X6 := ⟨_, rfl⟩
      have hs_ := kp4 hX6
      obtain ⟨o6_0, o6_1, o6_2, o6_3⟩ := cel4 Hp
      obtain ⟨r6_0, r6_1, r6_2, r6_3⟩ := fro4 Hp
      replace Hp := put4_4 Hp hX6
      replace Hl := bk2 Hl hs_ (by omega)
      replace Hr := bk2 Hr hs_ (by omega)
      replace HBW := bw2 HBW hs_ (by omega)
      clear hs_
      obtain ⟨u7_0, u7_1, u7_2, u7_3⟩ := cel4 Hp
      obtain ⟨X8, hX8⟩ : ∃ X8, X6.alloc (.cells #[.int .i64 bv, .int .i64 bl, .slice none 0 0, .slice none 0 0, .slice none 0 0, .slice none 0 0] 42) = X8 := ⟨_, rfl⟩
      have hal := alw hX8
      have hz8_l := Hl.out.lt
      have hz8_r := Hr.out.lt
      have hz8_p := Hp.out.lt
      have hzb8 := HBW.out.size
      replace Hl := bk1 Hl hal
      replace Hr := bk1 Hr hal
      replace Hp := bk1 Hp hal
      replace HBW := bw1 HBW hal
      have Hs := bka hX8
      clear hal
      have HEX8 := Lib.hid hX8
      clear hX8
      have hy9_l := Hl.out.lt
      have hy9_r := Hr.out.lt
      have hy9_p := Hp.out.lt
      have hy9_s := Hs.out.lt
      go_wp2_with (fail)
      rw [HEX8.out]
      refine (M3.out X8 HBW.out).mono ?_
      rintro e' w3 ⟨rfl, hb⟩
      replace Hl := bk1 Hl hb
      replace Hr := bk1 Hr hb
      replace Hp := bk1 Hp hb
      replace Hs := bk1 Hs hb
      replace HBW := bw1 HBW hb
      clear hb
      clear o6_0 r6_0 o6_1 r6_1 o6_2 r6_2 o6_3 r6_3 u7_0 u7_1 u7_2 u7_3
      clear M3
      dsimp only
      obtain ⟨X10, hX10⟩ : ∃ X10, ((((w3.setCell ⟨w1.heap.size, 0, none⟩ (.int .i64 (pi : Int))).setCell ⟨w1.heap.size, 1, none⟩ (.int .i64 pv)).setCell ⟨w1.heap.size, 2, none⟩ (.int .i64 pl)).setCell ⟨w1.heap.size, 3, none⟩ (.int .i64 (pe : Int))) = X10 := ⟨_, rfl⟩
      have hs_ := kp4 hX10
      obtain ⟨o10_0, o10_1, o10_2, o10_3⟩ := cel4 Hp
      obtain ⟨r10_0, r10_1, r10_2, r10_3⟩ := fro4 Hp
      replace Hp := put4_4 Hp hX10
      replace Hl := bk2 Hl hs_ (by omega)
      replace Hr := bk2 Hr hs_ (by omega)
      replace Hs := bk2 Hs hs_ (by omega)
      replace HBW := bw2 HBW hs_ (by omega)
      clear hs_
      obtain ⟨u11_0, u11_1, u11_2, u11_3⟩ := cel4 Hp
      have hy12_l := Hl.out.lt
      have hy12_r := Hr.out.lt
      have hy12_p := Hp.out.lt
      have hy12_s := Hs.out.lt
      go_wp2_with (fail)
      refine (M4.out X10 HBW.out).mono ?_
      rintro e' w4 ⟨rfl, hb⟩
      replace Hl := bk1 Hl hb
      replace Hr := bk1 Hr hb
      replace Hp := bk1 Hp hb
      replace Hs := bk1 Hs hb
      replace HBW := bw1 HBW hb
      clear hb
      clear o10_0 r10_0 o10_1 r10_1 o10_2 r10_2 o10_3 r10_3 u11_0 u11_1 u11_2 u11_3
      clear M4
      dsimp only
      obtain ⟨X13, hX13⟩ : ∃ X13, ((((w4.setCell ⟨w1.heap.size, 0, none⟩ (.int .i64 (di : Int))).setCell ⟨w1.heap.size, 1, none⟩ (.int .i64 dv)).setCell ⟨w1.heap.size, 2, none⟩ (.int .i64 dl)).setCell ⟨w1.heap.size, 3, none⟩ (.int .i64 0)) = X13 := ⟨_, rfl⟩
      have hs_ := kp4 hX13
      obtain ⟨o13_0, o13_1, o13_2, o13_3⟩ := cel4 Hp
      obtain ⟨r13_0, r13_1, r13_2, r13_3⟩ := fro4 Hp
      replace Hp := put4_4 Hp hX13
      replace Hl := bk2 Hl hs_ (by omega)
      replace Hr := bk2 Hr hs_ (by omega)
      replace Hs := bk2 Hs hs_ (by omega)
      replace HBW := bw2 HBW hs_ (by omega)
      clear hs_
      obtain ⟨u14_0, u14_1, u14_2, u14_3⟩ := cel4 Hp
      obtain ⟨u15_0, u15_1⟩ := cel2 Hl
      have hy16_l := Hl.out.lt
      have hy16_r := Hr.out.lt
      have hy16_p := Hp.out.lt
      have hy16_s := Hs.out.lt
      go_wp2_with (fail)
      refine (C1.out X13 HBW.out).mono ?_
      rintro e' w5 ⟨x_, rfl, hk_, hb⟩
      replace Hl := bk1 Hl hb
      replace Hr := bk1 Hr hb
      replace Hp := bk1 Hp hb
      replace Hs := bk1 Hs hb
      replace HBW := bw1 HBW hb
      clear hb
      clear o13_0 r13_0 o13_1 r13_1 o13_2 r13_2 o13_3 r13_3 u14_0 u14_1 u14_2 u14_3 u15_0 u15_1
      clear C1
      obtain ⟨Ac, cc, hx_⟩ : ∃ A c, x_ = Value.slice A cL.length c := by
        obtain ⟨A, c, e, -⟩ := hk_
        exact ⟨A, c, e⟩
      subst hx_
      have Kc := Lib.hid hk_
      clear hk_
      dsimp only
      obtain ⟨X17, hX17⟩ : ∃ X17, w5.alloc (.cells #[.slice Ac cL.length cc, .int .i64 (ci : Int), .int .i64 (ce : Int)] 134) = X17 := ⟨_, rfl⟩
      have hal := alw hX17
      have hz17_l := Hl.out.lt
      have hz17_r := Hr.out.lt
      have hz17_p := Hp.out.lt
      have hz17_s := Hs.out.lt
      have hzb17 := HBW.out.size
      replace Hl := bk1 Hl hal
      replace Hr := bk1 Hr hal
      replace Hp := bk1 Hp hal
      replace Hs := bk1 Hs hal
      replace Kc := kn1 Kc hal
      replace HBW := bw1 HBW hal
      have Hc := bka hX17
      clear hal
      obtain ⟨u18_0, u18_1, u18_2⟩ := cel3 Hc
      obtain ⟨X19, hX19⟩ : ∃ X19, (X17.setCell ⟨X6.heap.size, 2, none⟩ (.slice Ac cL.length cc)) = X19 := ⟨_, rfl⟩
      have hs_ := kp1 hX19
      have o19_2 := c6_2 Hs
      have r19_2 := f6_2 Hs
      replace Hs := p6_2 Hs hX19
      replace Hl := bk2 Hl hs_ (by omega)
      replace Hr := bk2 Hr hs_ (by omega)
      replace Hp := bk2 Hp hs_ (by omega)
      replace Hc := bk2 Hc hs_ (by omega)
      replace Kc := kn2 Kc hs_ (by omega)
      replace HBW := bw2 HBW hs_ (by omega)
      clear hs_
      obtain ⟨u20_0, u20_1, u20_2⟩ := cel3 Hc
      obtain ⟨X21, hX21⟩ : ∃ X21, (X19.setCell ⟨w1.heap.size, 0, none⟩ (.int .i64 (ci : Int))) = X21 := ⟨_, rfl⟩
      have hs_ := kp1 hX21
      have o21_0 := c4_0 Hp
      have r21_0 := f4_0 Hp
      replace Hp := p4_0 Hp hX21
      replace Hl := bk2 Hl hs_ (by omega)
      replace Hr := bk2 Hr hs_ (by omega)
      replace Hs := bk2 Hs hs_ (by omega)
      replace Hc := bk2 Hc hs_ (by omega)
      replace Kc := kn2 Kc hs_ (by omega)
      replace HBW := bw2 HBW hs_ (by omega)
      clear hs_
      obtain ⟨u22_0, u22_1, u22_2⟩ := cel3 Hc
      obtain ⟨X23, hX23⟩ : ∃ X23, (X21.setCell ⟨w1.heap.size, 3, none⟩ (.int .i64 (ce : Int))) = X23 := ⟨_, rfl⟩
      have hs_ := kp1 hX23
      have o23_3 := c4_3 Hp
      have r23_3 := f4_3 Hp
      replace Hp := p4_3 Hp hX23
      replace Hl := bk2 Hl hs_ (by omega)
      replace Hr := bk2 Hr hs_ (by omega)
      replace Hs := bk2 Hs hs_ (by omega)
      replace Hc := bk2 Hc hs_ (by omega)
      replace Kc := kn2 Kc hs_ (by omega)
      replace HBW := bw2 HBW hs_ (by omega)
      clear hs_
      obtain ⟨u24_0, u24_1⟩ := cel2 Hl
      obtain ⟨u25_0, u25_1, u25_2, u25_3⟩ := cel4 Hp
      have hy26_l := Hl.out.lt
      have hy26_r := Hr.out.lt
      have hy26_p := Hp.out.lt
      have hy26_s := Hs.out.lt
      have hy26_c := Hc.out.lt
      go_wp2_with (fail)
      refine (R1.out X23 HBW.out).mono ?_
      rintro e' w6 ⟨x_, rfl, hk_, hb⟩
      replace Hl := bk1 Hl hb
      replace Hr := bk1 Hr hb
      replace Hp := bk1 Hp hb
      replace Hs := bk1 Hs hb
      replace Hc := bk1 Hc hb
      replace Kc := kn1 Kc hb
      replace HBW := bw1 HBW hb
      clear hb
      clear u18_0 u18_1 u18_2 o19_2 r19_2 u20_0 u20_1 u20_2 o21_0 r21_0 u22_0 u22_1 u22_2 o23_3 r23_3 u24_0 u24_1 u25_0 u25_1 u25_2 u25_3
      clear R1
      obtain ⟨Am, cm, hx_⟩ : ∃ A c, x_ = Value.slice A mL.length c := by
        obtain ⟨A, c, e, -⟩ := hk_
        exact ⟨A, c, e⟩
      subst hx_
      have Km := Lib.hid hk_
      clear hk_
      dsimp only
      obtain ⟨X27, hX27⟩ : ∃ X27, w6.alloc (.cells #[.int .i64 (mi : Int), .int .i64 mv, .int .i64 ml, .int .i64 (me : Int), .slice Am mL.length cm] 137) = X27 := ⟨_, rfl⟩
      have hal := alw hX27
      have hz27_l := Hl.out.lt
      have hz27_r := Hr.out.lt
      have hz27_p := Hp.out.lt
      have hz27_s := Hs.out.lt
      have hz27_c := Hc.out.lt
      have hzb27 := HBW.out.size
      replace Hl := bk1 Hl hal
      replace Hr := bk1 Hr hal
      replace Hp := bk1 Hp hal
      replace Hs := bk1 Hs hal
      replace Hc := bk1 Hc hal
      replace Kc := kn1 Kc hal
      replace Km := kn1 Km hal
      replace HBW := bw1 HBW hal
      have Hm := bka hX27
      clear hal
      obtain ⟨u28_0, u28_1⟩ := cel2 Hl
      obtain ⟨u29_0, u29_1, u29_2, u29_3, u29_4⟩ := cel5 Hm
      have hy30_l := Hl.out.lt
      have hy30_r := Hr.out.lt
      have hy30_p := Hp.out.lt
      have hy30_s := Hs.out.lt
      have hy30_c := Hc.out.lt
      have hy30_m := Hm.out.lt
      go_wp2_with (fail)
      refine (R2.out X27 HBW.out).mono ?_
      rintro e' w7 ⟨x_, rfl, hk_, hb⟩
      replace Hl := bk1 Hl hb
      replace Hr := bk1 Hr hb
      replace Hp := bk1 Hp hb
      replace Hs := bk1 Hs hb
      replace Hc := bk1 Hc hb
      replace Hm := bk1 Hm hb
      replace Kc := kn1 Kc hb
      replace Km := kn1 Km hb
      replace HBW := bw1 HBW hb
      clear hb
      clear u28_0 u28_1 u29_0 u29_1 u29_2 u29_3 u29_4
      clear R2
      obtain ⟨As, cs, hx_⟩ : ∃ A c, x_ = Value.slice A sL.length c := by
        obtain ⟨A, c, e, -⟩ := hk_
        exact ⟨A, c, e⟩
      subst hx_
      have Kk := Lib.hid hk_
      clear hk_
      dsimp only
      obtain ⟨X31, hX31⟩ : ∃ X31, w7.alloc (.cells #[.int .i64 (si : Int), .int .i64 sv, .int .i64 sl, .int .i64 (se : Int), .slice As sL.length cs] 137) = X31 := ⟨_, rfl⟩
      have hal := alw hX31
      have hz31_l := Hl.out.lt
      have hz31_r := Hr.out.lt
      have hz31_p := Hp.out.lt
      have hz31_s := Hs.out.lt
      have hz31_c := Hc.out.lt
      have hz31_m := Hm.out.lt
      have hzb31 := HBW.out.size
      replace Hl := bk1 Hl hal
      replace Hr := bk1 Hr hal
      replace Hp := bk1 Hp hal
      replace Hs := bk1 Hs hal
      replace Hc := bk1 Hc hal
      replace Hm := bk1 Hm hal
      replace Kc := kn1 Kc hal
      replace Km := kn1 Km hal
      replace Kk := kn1 Kk hal
      replace HBW := bw1 HBW hal
      have Hk := bka hX31
      clear hal
      obtain ⟨u32_0, u32_1⟩ := cel2 Hl
      obtain ⟨u33_0, u33_1, u33_2, u33_3, u33_4⟩ := cel5 Hk
      have hy34_l := Hl.out.lt
      have hy34_r := Hr.out.lt
      have hy34_p := Hp.out.lt
      have hy34_s := Hs.out.lt
      have hy34_c := Hc.out.lt
      have hy34_m := Hm.out.lt
      have hy34_k := Hk.out.lt
      go_wp2_with (fail)
      refine (R3.out X31 HBW.out).mono ?_
      rintro e' w8 ⟨x_, rfl, hk_, hb⟩
      replace Hl := bk1 Hl hb
      replace Hr := bk1 Hr hb
      replace Hp := bk1 Hp hb
      replace Hs := bk1 Hs hb
      replace Hc := bk1 Hc hb
      replace Hm := bk1 Hm hb
      replace Hk := bk1 Hk hb
      replace Kc := kn1 Kc hb
      replace Km := kn1 Km hb
      replace Kk := kn1 Kk hb
      replace HBW := bw1 HBW hb
      clear hb
      clear u32_0 u32_1 u33_0 u33_1 u33_2 u33_3 u33_4
      clear R3
      obtain ⟨Ao, co, hx_⟩ : ∃ A c, x_ = Value.slice A oL.length c := by
        obtain ⟨A, c, e, -⟩ := hk_
        exact ⟨A, c, e⟩
      subst hx_
      have Ko := Lib.hid hk_
      clear hk_
      dsimp only
      obtain ⟨X35, hX35⟩ : ∃ X35, w8.alloc (.cells #[.int .i64 (oi : Int), .int .i64 ov, .int .i64 ol, .int .i64 (oe : Int), .slice Ao oL.length co] 137) = X35 := ⟨_, rfl⟩
      have hal := alw hX35
      have hz35_l := Hl.out.lt
      have hz35_r := Hr.out.lt
      have hz35_p := Hp.out.lt
      have hz35_s := Hs.out.lt
      have hz35_c := Hc.out.lt
      have hz35_m := Hm.out.lt
      have hz35_k := Hk.out.lt
      have hzb35 := HBW.out.size
      replace Hl := bk1 Hl hal
      replace Hr := bk1 Hr hal
      replace Hp := bk1 Hp hal
      replace Hs := bk1 Hs hal
      replace Hc := bk1 Hc hal
      replace Hm := bk1 Hm hal
      replace Hk := bk1 Hk hal
      replace Kc := kn1 Kc hal
      replace Km := kn1 Km hal
      replace Kk := kn1 Kk hal
      replace Ko := kn1 Ko hal
      replace HBW := bw1 HBW hal
      have Ho := bka hX35
      clear hal
      obtain ⟨u36_0, u36_1⟩ := cel2 Hl
      obtain ⟨u37_0, u37_1, u37_2, u37_3, u37_4⟩ := cel5 Ho
      obtain ⟨u38_0, u38_1, u38_2, u38_3, u38_4⟩ := cel5 Ho
      obtain ⟨X39, hX39⟩ : ∃ X39, (X35.setCell ⟨w.heap.size + 1, 0, none⟩ (.int .i64 0)) = X39 := ⟨_, rfl⟩
      have hs_ := kp1 hX39
      have o39_0 := c8_0 Hr
      have r39_0 := f8_0 Hr
      replace Hr := p8_0 Hr hX39
      clear Hl Hp Hs Hc Hm Hk Ho
      replace Kc := kn2 Kc hs_ (by omega)
      replace Km := kn2 Km hs_ (by omega)
      replace Kk := kn2 Kk hs_ (by omega)
      replace Ko := kn2 Ko hs_ (by omega)
      replace HBW := bw2 HBW hs_ (by omega)
      clear hs_
      obtain ⟨X40, hX40⟩ : ∃ X40, (X39.setCell ⟨w.heap.size + 1, 1, none⟩ (.int .i64 0)) = X40 := ⟨_, rfl⟩
      have hs_ := kp1 hX40
      have o40_1 := c8_1 Hr
      have r40_1 := f8_1 Hr
      replace Hr := p8_1 Hr hX40
      replace Kc := kn2 Kc hs_ (by omega)
      replace Km := kn2 Km hs_ (by omega)
      replace Kk := kn2 Kk hs_ (by omega)
      replace Ko := kn2 Ko hs_ (by omega)
      replace HBW := bw2 HBW hs_ (by omega)
      clear hs_
      obtain ⟨X41, hX41⟩ : ∃ X41, (X40.setCell ⟨w.heap.size + 1, 2, none⟩ (.slice none 0 0)) = X41 := ⟨_, rfl⟩
      have hs_ := kp1 hX41
      have o41_2 := c8_2 Hr
      have r41_2 := f8_2 Hr
      replace Hr := p8_2 Hr hX41
      replace Kc := kn2 Kc hs_ (by omega)
      replace Km := kn2 Km hs_ (by omega)
      replace Kk := kn2 Kk hs_ (by omega)
      replace Ko := kn2 Ko hs_ (by omega)
      replace HBW := bw2 HBW hs_ (by omega)
      clear hs_
      obtain ⟨X42, hX42⟩ : ∃ X42, (X41.setCell ⟨w.heap.size + 1, 3, none⟩ (.slice none 0 0)) = X42 := ⟨_, rfl⟩
      have hs_ := kp1 hX42
      have o42_3 := c8_3 Hr
      have r42_3 := f8_3 Hr
      replace Hr := p8_3 Hr hX42
      replace Kc := kn2 Kc hs_ (by omega)
      replace Km := kn2 Km hs_ (by omega)
      replace Kk := kn2 Kk hs_ (by omega)
      replace Ko := kn2 Ko hs_ (by omega)
      replace HBW := bw2 HBW hs_ (by omega)
      clear hs_
      obtain ⟨X43, hX43⟩ : ∃ X43, (X42.setCell ⟨w.heap.size + 1, 4, none⟩ (.slice none 0 0)) = X43 := ⟨_, rfl⟩
      have hs_ := kp1 hX43
      have o43_4 := c8_4 Hr
      have r43_4 := f8_4 Hr
      replace Hr := p8_4 Hr hX43
      replace Kc := kn2 Kc hs_ (by omega)
      replace Km := kn2 Km hs_ (by omega)
      replace Kk := kn2 Kk hs_ (by omega)
      replace Ko := kn2 Ko hs_ (by omega)
      replace HBW := bw2 HBW hs_ (by omega)
      clear hs_
      obtain ⟨X44, hX44⟩ : ∃ X44, (X43.setCell ⟨w.heap.size + 1, 5, none⟩ (.slice none 0 0)) = X44 := ⟨_, rfl⟩
      have hs_ := kp1 hX44
      have o44_5 := c8_5 Hr
      have r44_5 := f8_5 Hr
      replace Hr := p8_5 Hr hX44
      replace Kc := kn2 Kc hs_ (by omega)
      replace Km := kn2 Km hs_ (by omega)
      replace Kk := kn2 Kk hs_ (by omega)
      replace Ko := kn2 Ko hs_ (by omega)
      replace HBW := bw2 HBW hs_ (by omega)
      clear hs_
      obtain ⟨X45, hX45⟩ : ∃ X45, (X44.setCell ⟨w.heap.size + 1, 6, none⟩ (.int .i64 (oi : Int))) = X45 := ⟨_, rfl⟩
      have hs_ := kp1 hX45
      have o45_6 := c8_6 Hr
      have r45_6 := f8_6 Hr
      replace Hr := p8_6 Hr hX45
      replace Kc := kn2 Kc hs_ (by omega)
      replace Km := kn2 Km hs_ (by omega)
      replace Kk := kn2 Kk hs_ (by omega)
      replace Ko := kn2 Ko hs_ (by omega)
      replace HBW := bw2 HBW hs_ (by omega)
      clear hs_
      obtain ⟨X46, hX46⟩ : ∃ X46, (X45.setCell ⟨w.heap.size + 1, 7, none⟩ (.int .i64 (oe : Int))) = X46 := ⟨_, rfl⟩
      have hs_ := kp1 hX46
      have o46_7 := c8_7 Hr
      have r46_7 := f8_7 Hr
      replace Hr := p8_7 Hr hX46
      replace Kc := kn2 Kc hs_ (by omega)
      replace Km := kn2 Km hs_ (by omega)
      replace Kk := kn2 Kk hs_ (by omega)
      replace Ko := kn2 Ko hs_ (by omega)
      replace HBW := bw2 HBW hs_ (by omega)
      clear hs_
      obtain ⟨q0, q1, q2, q3, q4, q5, q6, q7⟩ := cel8 Hr
      go_wp2_with (exact bodyPost_ret (v := .agg #[.int .i64 0, .int .i64 0, .slice none 0 0, .slice none 0 0, .slice none 0 0, .slice none 0 0, .int .i64 (oi : Int), .int .i64 (oe : Int)]) (by simp [results, Tryz.results62, go_sem, q0, q1, q2, q3, q4, q5, q6, q7]) rfl (by rw [HRZ.out]; exact RFRes9.nil HBW.out))
  · rw [if_neg hd, if_neg hd] at hres
    unfold St.tailR at hres
    have hoe : (St.rowR names l (St.rowR names l (St.rowR names l ⟨di, ⟨dv, dl⟩, de⟩ St.bMem 6 false).1 St.bStack 12 true).1 St.bOut 8 false).1.e ≠ 0 := by
      rw [St.rowR_bad (p := ⟨di, ⟨dv, dl⟩, de⟩) hd]
      dsimp only
      rw [St.rowR_bad (p := ⟨di, ⟨dv, dl⟩, de⟩) hd]
      dsimp only
      rw [St.rowR_bad (p := ⟨di, ⟨dv, dl⟩, de⟩) hd]
      exact hd
    have hqi := rowR_lt (p := ⟨di, ⟨dv, dl⟩, de⟩) (names := names) (word := St.bMem) (most := 6) (rets := false) HF.out HId.out
    have hql := rowR_len (names := names) (l := l) (p := ⟨di, ⟨dv, dl⟩, de⟩) (word := St.bMem) (most := 6) (rets := false)
    have R1 : Hid (∀ W, Below w.heap.size w W → Calls Tryz.prog 91 #[.agg #[.slice N names.length c1, .slice U up.length c2], .slice A ln c, .agg #[.int .i64 (di : Int), .int .i64 dv, .int .i64 dl, .int .i64 (de : Int)], .string { data := #[109, 101, 109] }, .int .i64 6, .bool false] W (RowRes W (St.rowR names l ⟨di, ⟨dv, dl⟩, de⟩ St.bMem 6 false))) := Lib.hid fun W hb => by
      have h := rRow9_any c ⟨di, ⟨dv, dl⟩, de⟩ St.bMem 6 false (by decide) W ((HLA.out.below hb).more hb.size) ((H.out.below hb).more hb.size) HF.out HId.out HLN.out
      rw [HLE.out] at h
      exact h
    generalize St.rowR names l ⟨di, ⟨dv, dl⟩, de⟩ St.bMem 6 false = q_ at *
    obtain ⟨⟨mi, ⟨mv, ml⟩, me⟩, mL⟩ := q_
    dsimp only at hqi hql
    have HIm := Lib.hid hqi
    have HLm := Lib.hid hql
    clear hqi hql
    have h_ : ∀ W, Below w.heap.size w W → Calls Tryz.prog 91 #[.agg #[.slice N names.length c1, .slice U up.length c2], .slice A ln c, .agg #[.int .i64 (di : Int), .int .i64 dv, .int .i64 dl, .int .i64 (de : Int)], .string { data := #[109, 101, 109] }, .int .i64 6, .bool false] W (fun e w' => ∃ x, e = .returned (.agg #[.int .i64 (mi : Int), .int .i64 mv, .int .i64 ml, .int .i64 (me : Int), x]) ∧ KN svs W.heap.size w' x mL ∧ Below W.heap.size W w') := R1.out
    clear R1
    have R1 := Lib.hid h_
    clear h_
    have hqi := rowR_lt (p := ⟨mi, ⟨mv, ml⟩, me⟩) (names := names) (word := St.bStack) (most := 12) (rets := true) HF.out HIm.out
    have hql := rowR_len (names := names) (l := l) (p := ⟨mi, ⟨mv, ml⟩, me⟩) (word := St.bStack) (most := 12) (rets := true)
    have R2 : Hid (∀ W, Below w.heap.size w W → Calls Tryz.prog 91 #[.agg #[.slice N names.length c1, .slice U up.length c2], .slice A ln c, .agg #[.int .i64 (mi : Int), .int .i64 mv, .int .i64 ml, .int .i64 (me : Int)], .string { data := #[115, 116, 97, 99, 107] }, .int .i64 12, .bool true] W (RowRes W (St.rowR names l ⟨mi, ⟨mv, ml⟩, me⟩ St.bStack 12 true))) := Lib.hid fun W hb => by
      have h := rRow9_any c ⟨mi, ⟨mv, ml⟩, me⟩ St.bStack 12 true (by decide) W ((HLA.out.below hb).more hb.size) ((H.out.below hb).more hb.size) HF.out HIm.out HLN.out
      rw [HLE.out] at h
      exact h
    generalize St.rowR names l ⟨mi, ⟨mv, ml⟩, me⟩ St.bStack 12 true = q_ at *
    obtain ⟨⟨si, ⟨sv, sl⟩, se⟩, sL⟩ := q_
    dsimp only at hqi hql
    have HIs := Lib.hid hqi
    have HLs := Lib.hid hql
    clear hqi hql
    have h_ : ∀ W, Below w.heap.size w W → Calls Tryz.prog 91 #[.agg #[.slice N names.length c1, .slice U up.length c2], .slice A ln c, .agg #[.int .i64 (mi : Int), .int .i64 mv, .int .i64 ml, .int .i64 (me : Int)], .string { data := #[115, 116, 97, 99, 107] }, .int .i64 12, .bool true] W (fun e w' => ∃ x, e = .returned (.agg #[.int .i64 (si : Int), .int .i64 sv, .int .i64 sl, .int .i64 (se : Int), x]) ∧ KN svs W.heap.size w' x sL ∧ Below W.heap.size W w') := R2.out
    clear R2
    have R2 := Lib.hid h_
    clear h_
    have hqi := rowR_lt (p := ⟨si, ⟨sv, sl⟩, se⟩) (names := names) (word := St.bOut) (most := 8) (rets := false) HF.out HIs.out
    have hql := rowR_len (names := names) (l := l) (p := ⟨si, ⟨sv, sl⟩, se⟩) (word := St.bOut) (most := 8) (rets := false)
    have R3 : Hid (∀ W, Below w.heap.size w W → Calls Tryz.prog 91 #[.agg #[.slice N names.length c1, .slice U up.length c2], .slice A ln c, .agg #[.int .i64 (si : Int), .int .i64 sv, .int .i64 sl, .int .i64 (se : Int)], .string { data := #[111, 117, 116] }, .int .i64 8, .bool false] W (RowRes W (St.rowR names l ⟨si, ⟨sv, sl⟩, se⟩ St.bOut 8 false))) := Lib.hid fun W hb => by
      have h := rRow9_any c ⟨si, ⟨sv, sl⟩, se⟩ St.bOut 8 false (by decide) W ((HLA.out.below hb).more hb.size) ((H.out.below hb).more hb.size) HF.out HIs.out HLN.out
      rw [HLE.out] at h
      exact h
    generalize St.rowR names l ⟨si, ⟨sv, sl⟩, se⟩ St.bOut 8 false = q_ at *
    obtain ⟨⟨oi, ⟨ov, ol⟩, oe⟩, oL⟩ := q_
    dsimp only at hqi hql
    have HIo := Lib.hid hqi
    have HLo := Lib.hid hql
    clear hqi hql
    have h_ : ∀ W, Below w.heap.size w W → Calls Tryz.prog 91 #[.agg #[.slice N names.length c1, .slice U up.length c2], .slice A ln c, .agg #[.int .i64 (si : Int), .int .i64 sv, .int .i64 sl, .int .i64 (se : Int)], .string { data := #[111, 117, 116] }, .int .i64 8, .bool false] W (fun e w' => ∃ x, e = .returned (.agg #[.int .i64 (oi : Int), .int .i64 ov, .int .i64 ol, .int .i64 (oe : Int), x]) ∧ KN svs W.heap.size w' x oL ∧ Below W.heap.size W w') := R3.out
    clear R3
    have R3 := Lib.hid h_
    clear h_
    dsimp only at hoe hres
    rw [if_neg hoe] at hres
    have HRZ := Lib.hid hres.symm
    have hzd : ((de : Int) == 0) = false := by rw [beq_eq_false_iff_ne]; have : de ≠ 0 := hd; omega
    have hzo : ((oe : Int) != 0) = true := by rw [bne_iff_ne]; omega
    clear hres hoe hd
    go_enter Tryz.func62, Tryz.ntmps62
    have hy1_l := Hl.out.lt
    have hy1_r := Hr.out.lt
    go_wp2_with (fail)
    refine (M1.out W0 HBW.out).mono ?_
    rintro e' w1 ⟨rfl, hb⟩
    replace Hl := bk1 Hl hb
    replace Hr := bk1 Hr hb
    replace HBW := bw1 HBW hb
    clear hb
    clear M1
    dsimp only
    obtain ⟨X2, hX2⟩ : ∃ X2, w1.alloc (.cells #[.int .i64 (ai : Int), .int .i64 av, .int .i64 al, .int .i64 (ae : Int)] 130) = X2 := ⟨_, rfl⟩
    have hal := alw hX2
    have hz2_l := Hl.out.lt
    have hz2_r := Hr.out.lt
    have hzb2 := HBW.out.size
    replace Hl := bk1 Hl hal
    replace Hr := bk1 Hr hal
    replace HBW := bw1 HBW hal
    have Hp := bka hX2
    clear hal
    obtain ⟨u3_0, u3_1⟩ := cel2 Hl
    obtain ⟨u4_0, u4_1, u4_2, u4_3⟩ := cel4 Hp
    have hy5_l := Hl.out.lt
    have hy5_r := Hr.out.lt
    have hy5_p := Hp.out.lt
    go_wp2_with (fail)
    refine (M2.out X2 HBW.out).mono ?_
    rintro e' w2 ⟨rfl, hb⟩
    replace Hl := bk1 Hl hb
    replace Hr := bk1 Hr hb
    replace Hp := bk1 Hp hb
    replace HBW := bw1 HBW hb
    clear hb
    clear u3_0 u3_1 u4_0 u4_1 u4_2 u4_3
    clear M2
    dsimp only
    obtain ⟨X6, hX6⟩ : ∃ X6, ((((w2.setCell ⟨w1.heap.size, 0, none⟩ (.int .i64 (bi : Int))).setCell ⟨w1.heap.size, 1, none⟩ (.int .i64 bv)).setCell ⟨w1.heap.size, 2, none⟩ (.int .i64 bl)).setCell ⟨w1.heap.size, 3, none⟩ (.int .i64 (be : Int))) = X6 := ⟨_, rfl⟩
    have hs_ := kp4 hX6
    obtain ⟨o6_0, o6_1, o6_2, o6_3⟩ := cel4 Hp
    obtain ⟨r6_0, r6_1, r6_2, r6_3⟩ := fro4 Hp
    replace Hp := put4_4 Hp hX6
    replace Hl := bk2 Hl hs_ (by omega)
    replace Hr := bk2 Hr hs_ (by omega)
    replace HBW := bw2 HBW hs_ (by omega)
    clear hs_
    obtain ⟨u7_0, u7_1, u7_2, u7_3⟩ := cel4 Hp
    obtain ⟨X8, hX8⟩ : ∃ X8, X6.alloc (.cells #[.int .i64 bv, .int .i64 bl, .slice none 0 0, .slice none 0 0, .slice none 0 0, .slice none 0 0] 42) = X8 := ⟨_, rfl⟩
    have hal := alw hX8
    have hz8_l := Hl.out.lt
    have hz8_r := Hr.out.lt
    have hz8_p := Hp.out.lt
    have hzb8 := HBW.out.size
    replace Hl := bk1 Hl hal
    replace Hr := bk1 Hr hal
    replace Hp := bk1 Hp hal
    replace HBW := bw1 HBW hal
    have Hs := bka hX8
    clear hal
    have HEX8 := Lib.hid hX8
    clear hX8
    have hy9_l := Hl.out.lt
    have hy9_r := Hr.out.lt
    have hy9_p := Hp.out.lt
    have hy9_s := Hs.out.lt
    go_wp2_with (fail)
    rw [HEX8.out]
    refine (M3.out X8 HBW.out).mono ?_
    rintro e' w3 ⟨rfl, hb⟩
    replace Hl := bk1 Hl hb
    replace Hr := bk1 Hr hb
    replace Hp := bk1 Hp hb
    replace Hs := bk1 Hs hb
    replace HBW := bw1 HBW hb
    clear hb
    clear o6_0 r6_0 o6_1 r6_1 o6_2 r6_2 o6_3 r6_3 u7_0 u7_1 u7_2 u7_3
    clear M3
    dsimp only
    obtain ⟨X10, hX10⟩ : ∃ X10, ((((w3.setCell ⟨w1.heap.size, 0, none⟩ (.int .i64 (pi : Int))).setCell ⟨w1.heap.size, 1, none⟩ (.int .i64 pv)).setCell ⟨w1.heap.size, 2, none⟩ (.int .i64 pl)).setCell ⟨w1.heap.size, 3, none⟩ (.int .i64 (pe : Int))) = X10 := ⟨_, rfl⟩
    have hs_ := kp4 hX10
    obtain ⟨o10_0, o10_1, o10_2, o10_3⟩ := cel4 Hp
    obtain ⟨r10_0, r10_1, r10_2, r10_3⟩ := fro4 Hp
    replace Hp := put4_4 Hp hX10
    replace Hl := bk2 Hl hs_ (by omega)
    replace Hr := bk2 Hr hs_ (by omega)
    replace Hs := bk2 Hs hs_ (by omega)
    replace HBW := bw2 HBW hs_ (by omega)
    clear hs_
    obtain ⟨u11_0, u11_1, u11_2, u11_3⟩ := cel4 Hp
    have hy12_l := Hl.out.lt
    have hy12_r := Hr.out.lt
    have hy12_p := Hp.out.lt
    have hy12_s := Hs.out.lt
    go_wp2_with (fail)
    refine (M4.out X10 HBW.out).mono ?_
    rintro e' w4 ⟨rfl, hb⟩
    replace Hl := bk1 Hl hb
    replace Hr := bk1 Hr hb
    replace Hp := bk1 Hp hb
    replace Hs := bk1 Hs hb
    replace HBW := bw1 HBW hb
    clear hb
    clear o10_0 r10_0 o10_1 r10_1 o10_2 r10_2 o10_3 r10_3 u11_0 u11_1 u11_2 u11_3
    clear M4
    dsimp only
    obtain ⟨X13, hX13⟩ : ∃ X13, ((((w4.setCell ⟨w1.heap.size, 0, none⟩ (.int .i64 (di : Int))).setCell ⟨w1.heap.size, 1, none⟩ (.int .i64 dv)).setCell ⟨w1.heap.size, 2, none⟩ (.int .i64 dl)).setCell ⟨w1.heap.size, 3, none⟩ (.int .i64 (de : Int))) = X13 := ⟨_, rfl⟩
    have hs_ := kp4 hX13
    obtain ⟨o13_0, o13_1, o13_2, o13_3⟩ := cel4 Hp
    obtain ⟨r13_0, r13_1, r13_2, r13_3⟩ := fro4 Hp
    replace Hp := put4_4 Hp hX13
    replace Hl := bk2 Hl hs_ (by omega)
    replace Hr := bk2 Hr hs_ (by omega)
    replace Hs := bk2 Hs hs_ (by omega)
    replace HBW := bw2 HBW hs_ (by omega)
    clear hs_
    obtain ⟨u14_0, u14_1, u14_2, u14_3⟩ := cel4 Hp
    obtain ⟨u15_0, u15_1⟩ := cel2 Hl
    obtain ⟨u16_0, u16_1, u16_2, u16_3⟩ := cel4 Hp
    have hy17_l := Hl.out.lt
    have hy17_r := Hr.out.lt
    have hy17_p := Hp.out.lt
    have hy17_s := Hs.out.lt
    go_wp2_with (fail)
    refine (R1.out X13 HBW.out).mono ?_
    rintro e' w6 ⟨x_, rfl, hk_, hb⟩
    replace Hl := bk1 Hl hb
    replace Hr := bk1 Hr hb
    replace Hp := bk1 Hp hb
    replace Hs := bk1 Hs hb
    replace HBW := bw1 HBW hb
    clear hb
    clear o13_0 r13_0 o13_1 r13_1 o13_2 r13_2 o13_3 r13_3 u14_0 u14_1 u14_2 u14_3 u15_0 u15_1 u16_0 u16_1 u16_2 u16_3
    clear R1
    obtain ⟨Am, cm, hx_⟩ : ∃ A c, x_ = Value.slice A mL.length c := by
      obtain ⟨A, c, e, -⟩ := hk_
      exact ⟨A, c, e⟩
    subst hx_
    have Km := Lib.hid hk_
    clear hk_
    dsimp only
    obtain ⟨X18, hX18⟩ : ∃ X18, w6.alloc (.cells #[.int .i64 (mi : Int), .int .i64 mv, .int .i64 ml, .int .i64 (me : Int), .slice Am mL.length cm] 137) = X18 := ⟨_, rfl⟩
    have hal := alw hX18
    have hz18_l := Hl.out.lt
    have hz18_r := Hr.out.lt
    have hz18_p := Hp.out.lt
    have hz18_s := Hs.out.lt
    have hzb18 := HBW.out.size
    replace Hl := bk1 Hl hal
    replace Hr := bk1 Hr hal
    replace Hp := bk1 Hp hal
    replace Hs := bk1 Hs hal
    replace Km := kn1 Km hal
    replace HBW := bw1 HBW hal
    have Hm := bka hX18
    clear hal
    obtain ⟨u19_0, u19_1⟩ := cel2 Hl
    obtain ⟨u20_0, u20_1, u20_2, u20_3, u20_4⟩ := cel5 Hm
    have hy21_l := Hl.out.lt
    have hy21_r := Hr.out.lt
    have hy21_p := Hp.out.lt
    have hy21_s := Hs.out.lt
    have hy21_m := Hm.out.lt
    go_wp2_with (fail)
    refine (R2.out X18 HBW.out).mono ?_
    rintro e' w7 ⟨x_, rfl, hk_, hb⟩
    replace Hl := bk1 Hl hb
    replace Hr := bk1 Hr hb
    replace Hp := bk1 Hp hb
    replace Hs := bk1 Hs hb
    replace Hm := bk1 Hm hb
    replace Km := kn1 Km hb
    replace HBW := bw1 HBW hb
    clear hb
    clear u19_0 u19_1 u20_0 u20_1 u20_2 u20_3 u20_4
    clear R2
    obtain ⟨As, cs, hx_⟩ : ∃ A c, x_ = Value.slice A sL.length c := by
      obtain ⟨A, c, e, -⟩ := hk_
      exact ⟨A, c, e⟩
    subst hx_
    have Kk := Lib.hid hk_
    clear hk_
    dsimp only
    obtain ⟨X22, hX22⟩ : ∃ X22, w7.alloc (.cells #[.int .i64 (si : Int), .int .i64 sv, .int .i64 sl, .int .i64 (se : Int), .slice As sL.length cs] 137) = X22 := ⟨_, rfl⟩
    have hal := alw hX22
    have hz22_l := Hl.out.lt
    have hz22_r := Hr.out.lt
    have hz22_p := Hp.out.lt
    have hz22_s := Hs.out.lt
    have hz22_m := Hm.out.lt
    have hzb22 := HBW.out.size
    replace Hl := bk1 Hl hal
    replace Hr := bk1 Hr hal
    replace Hp := bk1 Hp hal
    replace Hs := bk1 Hs hal
    replace Hm := bk1 Hm hal
    replace Km := kn1 Km hal
    replace Kk := kn1 Kk hal
    replace HBW := bw1 HBW hal
    have Hk := bka hX22
    clear hal
    obtain ⟨u23_0, u23_1⟩ := cel2 Hl
    obtain ⟨u24_0, u24_1, u24_2, u24_3, u24_4⟩ := cel5 Hk
    have hy25_l := Hl.out.lt
    have hy25_r := Hr.out.lt
    have hy25_p := Hp.out.lt
    have hy25_s := Hs.out.lt
    have hy25_m := Hm.out.lt
    have hy25_k := Hk.out.lt
    go_wp2_with (fail)
    refine (R3.out X22 HBW.out).mono ?_
    rintro e' w8 ⟨x_, rfl, hk_, hb⟩
    replace Hl := bk1 Hl hb
    replace Hr := bk1 Hr hb
    replace Hp := bk1 Hp hb
    replace Hs := bk1 Hs hb
    replace Hm := bk1 Hm hb
    replace Hk := bk1 Hk hb
    replace Km := kn1 Km hb
    replace Kk := kn1 Kk hb
    replace HBW := bw1 HBW hb
    clear hb
    clear u23_0 u23_1 u24_0 u24_1 u24_2 u24_3 u24_4
    clear R3
    obtain ⟨Ao, co, hx_⟩ : ∃ A c, x_ = Value.slice A oL.length c := by
      obtain ⟨A, c, e, -⟩ := hk_
      exact ⟨A, c, e⟩
    subst hx_
    have Ko := Lib.hid hk_
    clear hk_
    dsimp only
    obtain ⟨X26, hX26⟩ : ∃ X26, w8.alloc (.cells #[.int .i64 (oi : Int), .int .i64 ov, .int .i64 ol, .int .i64 (oe : Int), .slice Ao oL.length co] 137) = X26 := ⟨_, rfl⟩
    have hal := alw hX26
    have hz26_l := Hl.out.lt
    have hz26_r := Hr.out.lt
    have hz26_p := Hp.out.lt
    have hz26_s := Hs.out.lt
    have hz26_m := Hm.out.lt
    have hz26_k := Hk.out.lt
    have hzb26 := HBW.out.size
    replace Hl := bk1 Hl hal
    replace Hr := bk1 Hr hal
    replace Hp := bk1 Hp hal
    replace Hs := bk1 Hs hal
    replace Hm := bk1 Hm hal
    replace Hk := bk1 Hk hal
    replace Km := kn1 Km hal
    replace Kk := kn1 Kk hal
    replace Ko := kn1 Ko hal
    replace HBW := bw1 HBW hal
    have Ho := bka hX26
    clear hal
    obtain ⟨u27_0, u27_1⟩ := cel2 Hl
    obtain ⟨u28_0, u28_1, u28_2, u28_3, u28_4⟩ := cel5 Ho
    obtain ⟨u29_0, u29_1, u29_2, u29_3, u29_4⟩ := cel5 Ho
    obtain ⟨X30, hX30⟩ : ∃ X30, (X26.setCell ⟨w.heap.size + 1, 0, none⟩ (.int .i64 0)) = X30 := ⟨_, rfl⟩
    have hs_ := kp1 hX30
    have o30_0 := c8_0 Hr
    have r30_0 := f8_0 Hr
    replace Hr := p8_0 Hr hX30
    clear Hl Hp Hs Hm Hk Ho
    replace Km := kn2 Km hs_ (by omega)
    replace Kk := kn2 Kk hs_ (by omega)
    replace Ko := kn2 Ko hs_ (by omega)
    replace HBW := bw2 HBW hs_ (by omega)
    clear hs_
    obtain ⟨X31, hX31⟩ : ∃ X31, (X30.setCell ⟨w.heap.size + 1, 1, none⟩ (.int .i64 0)) = X31 := ⟨_, rfl⟩
    have hs_ := kp1 hX31
    have o31_1 := c8_1 Hr
    have r31_1 := f8_1 Hr
    replace Hr := p8_1 Hr hX31
    replace Km := kn2 Km hs_ (by omega)
    replace Kk := kn2 Kk hs_ (by omega)
    replace Ko := kn2 Ko hs_ (by omega)
    replace HBW := bw2 HBW hs_ (by omega)
    clear hs_
    obtain ⟨X32, hX32⟩ : ∃ X32, (X31.setCell ⟨w.heap.size + 1, 2, none⟩ (.slice none 0 0)) = X32 := ⟨_, rfl⟩
    have hs_ := kp1 hX32
    have o32_2 := c8_2 Hr
    have r32_2 := f8_2 Hr
    replace Hr := p8_2 Hr hX32
    replace Km := kn2 Km hs_ (by omega)
    replace Kk := kn2 Kk hs_ (by omega)
    replace Ko := kn2 Ko hs_ (by omega)
    replace HBW := bw2 HBW hs_ (by omega)
    clear hs_
    obtain ⟨X33, hX33⟩ : ∃ X33, (X32.setCell ⟨w.heap.size + 1, 3, none⟩ (.slice none 0 0)) = X33 := ⟨_, rfl⟩
    have hs_ := kp1 hX33
    have o33_3 := c8_3 Hr
    have r33_3 := f8_3 Hr
    replace Hr := p8_3 Hr hX33
    replace Km := kn2 Km hs_ (by omega)
    replace Kk := kn2 Kk hs_ (by omega)
    replace Ko := kn2 Ko hs_ (by omega)
    replace HBW := bw2 HBW hs_ (by omega)
    clear hs_
    obtain ⟨X34, hX34⟩ : ∃ X34, (X33.setCell ⟨w.heap.size + 1, 4, none⟩ (.slice none 0 0)) = X34 := ⟨_, rfl⟩
    have hs_ := kp1 hX34
    have o34_4 := c8_4 Hr
    have r34_4 := f8_4 Hr
    replace Hr := p8_4 Hr hX34
    replace Km := kn2 Km hs_ (by omega)
    replace Kk := kn2 Kk hs_ (by omega)
    replace Ko := kn2 Ko hs_ (by omega)
    replace HBW := bw2 HBW hs_ (by omega)
    clear hs_
    obtain ⟨X35, hX35⟩ : ∃ X35, (X34.setCell ⟨w.heap.size + 1, 5, none⟩ (.slice none 0 0)) = X35 := ⟨_, rfl⟩
    have hs_ := kp1 hX35
    have o35_5 := c8_5 Hr
    have r35_5 := f8_5 Hr
    replace Hr := p8_5 Hr hX35
    replace Km := kn2 Km hs_ (by omega)
    replace Kk := kn2 Kk hs_ (by omega)
    replace Ko := kn2 Ko hs_ (by omega)
    replace HBW := bw2 HBW hs_ (by omega)
    clear hs_
    obtain ⟨X36, hX36⟩ : ∃ X36, (X35.setCell ⟨w.heap.size + 1, 6, none⟩ (.int .i64 (oi : Int))) = X36 := ⟨_, rfl⟩
    have hs_ := kp1 hX36
    have o36_6 := c8_6 Hr
    have r36_6 := f8_6 Hr
    replace Hr := p8_6 Hr hX36
    replace Km := kn2 Km hs_ (by omega)
    replace Kk := kn2 Kk hs_ (by omega)
    replace Ko := kn2 Ko hs_ (by omega)
    replace HBW := bw2 HBW hs_ (by omega)
    clear hs_
    obtain ⟨X37, hX37⟩ : ∃ X37, (X36.setCell ⟨w.heap.size + 1, 7, none⟩ (.int .i64 (oe : Int))) = X37 := ⟨_, rfl⟩
    have hs_ := kp1 hX37
    have o37_7 := c8_7 Hr
    have r37_7 := f8_7 Hr
    replace Hr := p8_7 Hr hX37
    replace Km := kn2 Km hs_ (by omega)
    replace Kk := kn2 Kk hs_ (by omega)
    replace Ko := kn2 Ko hs_ (by omega)
    replace HBW := bw2 HBW hs_ (by omega)
    clear hs_
    obtain ⟨q0, q1, q2, q3, q4, q5, q6, q7⟩ := cel8 Hr
    go_wp2_with (exact bodyPost_ret (v := .agg #[.int .i64 0, .int .i64 0, .slice none 0 0, .slice none 0 0, .slice none 0 0, .slice none 0 0, .int .i64 (oi : Int), .int .i64 (oe : Int)]) (by simp [results, Tryz.results62, go_sem, q0, q1, q2, q3, q4, q5, q6, q7]) rfl (by rw [HRZ.out]; exact RFRes9.nil HBW.out))
end Go.Proofs.YtipbilmnknmhmaaGreatDoor
