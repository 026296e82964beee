/- The walk of row. -/
import Derived.Lib.QuietBelow
import Derived.Test.YtggcmkpafpjnoaaGreatDoorGTabK
namespace Go.Proofs.YtggcmkpafpjnoaaGreatDoor
set_option maxRecDepth 100000
open Go.RowKit Go.Shelf Go.Sort
attribute [local go_sem] Oper.semAt_some

section
variable {R Q P b0 b1 b2 c : Nat} {A : Option Addr} {l : List Lx.Tk} {s : Tb.St}
theorem rowP_word {s : Tb.St} (h : (Tb.wordP l s).2.2 ≠ 0) : Tb.rowP l s = ((Tb.wordP l s).1, (Tb.wordP l s).2.2) := by unfold Tb.rowP; rw [if_neg h]
theorem rowP_mark {s : Tb.St} (h : (Tb.wordP l s).2.2 = 0) (h2 : (Tb.markP l Tb.mColon (Tb.wordP l s).1).2 ≠ 0) : Tb.rowP l s = Tb.markP l Tb.mColon (Tb.wordP l s).1 := by unfold Tb.rowP; rw [if_pos h, if_neg h2]
theorem rowP_rest {s : Tb.St} (h : (Tb.wordP l s).2.2 = 0) (h2 : (Tb.markP l Tb.mColon (Tb.wordP l s).1).2 = 0) : Tb.rowP l s = Tb.endP (Tb.wordP l s).2.1 s.pos (Tb.partsP l (Tb.wordP l s).2.1 3 0 (Tb.markP l Tb.mColon (Tb.wordP l s).1).1) := by unfold Tb.rowP; rw [if_pos h, if_pos h2]
theorem partsP_on {op n j : Nat} {s : Tb.St} (h : (Tb.partP l op j s).2 = 0) : Tb.partsP l op (n + 1) j s = Tb.partsP l op n (j + 1) (Tb.partP l op j s).1 := by
  rw [Tb.partsP, if_pos h]
theorem partsP_no {op n j : Nat} {s : Tb.St} (h : (Tb.partP l op j s).2 ≠ 0) : Tb.partsP l op (n + 1) j s = Tb.partP l op j s := by
  rw [Tb.partsP, if_neg h]
theorem endP_no {op i : Nat} {r : Tb.St × Nat} (h : r.2 ≠ 0) : Tb.endP op i r = r := by unfold Tb.endP; rw [if_neg h]
theorem endP_ok {op i : Nat} {r : Tb.St} (h : Tb.labE op (r.rows.getD op Tb.PR.none) = 0) : Tb.endP op i (r, 0) = (r, 0) := by
  unfold Tb.endP
  rw [if_pos rfl, if_pos h]
theorem endP_lab {op i : Nat} {r : Tb.St} (h : Tb.labE op (r.rows.getD op Tb.PR.none) ≠ 0) : Tb.endP op i (r, 0) = ({ r with pos := i }, 7) := by
  unfold Tb.endP
  rw [if_pos rfl, if_neg h]
/-- What holds at the head of a round over the parts of a row. -/
structure RowIn (R Q P b0 b1 b2 : Nat) (A : Option Addr) (c : Nat) (l : List Lx.Tk) (w : World) (op : Nat) (sm : Tb.St) (k : Nat) (sk : Tb.St) (W : World) : Prop where
  rd : TRd R Q P b0 b1 b2 A c l sk W
  kept : Kept R Q w W
  same : Tb.partsP l op 3 0 sm = Tb.partsP l op (3 - k) k sk
theorem labE_val {op : Nat} {x : Tb.PR} : Tb.labE op x = 0 ∨ Tb.labE op x = 7 := by
  unfold Tb.labE
  split
  · exact .inr rfl
  · exact .inl rfl
theorem RowsQ.at_ {R Q : Nat} {w : World} {l : List Tb.PR} (h : RowsQ R Q w l) {k : Nat} (hk : k < l.length) : ∃ a0 a1 a2, w.cell? ⟨Q, k * 3, none⟩ = some a0 ∧ w.cell? ⟨Q, k * 3 + 1, none⟩ = some a1 ∧ w.cell? ⟨Q, k * 3 + 2, none⟩ = some a2 ∧
    AInts R Q w a0 (l.getD k Tb.PR.none).m ∧ AInts R Q w a1 (l.getD k Tb.PR.none).r ∧ AInts R Q w a2 (l.getD k Tb.PR.none).p := by
  obtain ⟨vs, h1, h2, h3⟩ := h
  obtain ⟨a0, a1, a2, e0, e1, e2, i0, i1, i2⟩ := h3 k l[k] (List.getElem?_eq_getElem hk)
  have hg : l.getD k Tb.PR.none = l[k] := by rw [List.getD_eq_getElem?_getD, List.getElem?_eq_getElem hk]; rfl
  rw [hg]
  exact ⟨a0, a1, a2, by rw [h1.cell, List.getElem?_toArray]; exact e0, by rw [h1.cell, List.getElem?_toArray]; exact e1, by rw [h1.cell, List.getElem?_toArray]; exact e2, i0, i1, i2⟩
theorem small_right {x : Tb.PR} (h : Tb.okRules x = true) : Small x := fun k => by
  have h0 := Tb.right_len (Tb.okRules_all h 0 (by decide))
  have h1 := Tb.right_len (Tb.okRules_all h 1 (by decide))
  have h2 := Tb.right_len (Tb.okRules_all h 2 (by decide))
  unfold Tb.PR.nth at *
  by_cases e0 : k = 0
  · rw [if_pos e0]; exact Nat.le_trans h0 (by decide)
  · rw [if_neg e0]
    by_cases e1 : k = 1
    · rw [if_pos e1]; exact Nat.le_trans h1 (by decide)
    · rw [if_neg e1]; exact Nat.le_trans h2 (by decide)
set_option maxHeartbeats 8000000 in
theorem row_any6 (hf : Fast R Q P b0 b1 b2) (hfi : Tb.Fine l) (hl : l.length ≤ 200) (w : World) (h : TRd R Q P b0 b1 b2 A c l s w) :
    Calls Tryz.prog 47 #[.pointer (some ⟨R, 0, none⟩)] w (ToldT R Q P b0 b1 b2 A c l w (Tb.rowP l s)) := by
  have c1 := h.c1
  have hw := tword_any hf hfi w h hl
  have HW := Lib.hid hw
  have hst := h.st
  have HST := Lib.hid hst
  clear hw h
  by_cases hwe : (Tb.wordP l s).2.2 = 0
  · obtain ⟨op, hop, -, hwe2⟩ := Tb.wordP_ok hwe
    have hsw := Tb.wordP_stand hfi hst
    by_cases hme : (Tb.markP l Tb.mColon (Tb.wordP l s).1).2 = 0
    · have hres := rowP_rest hwe hme
      have hsm := Tb.markP_stand hfi Tb.colon_ne hsw
      rw [hwe2] at HW hres hme hsm
      dsimp only at hres hme hsm
      have hpok := fun h0 => Tb.partsP_ok hfi hop hsm h0
      have HPOK := Lib.hid hpok
      have HRES := Lib.hid hres
      have hmk := fun W (hW : TRd R Q P b0 b1 b2 A c l ⟨s.pos + 1, s.rows, s.had.set op true⟩ W) => tmark_any hf hfi Tb.mColon Tb.colon_ne W hW hl
      obtain ⟨sm, hsmm⟩ : ∃ sm, Tb.markP l Tb.mColon ⟨s.pos + 1, s.rows, s.had.set op true⟩ = (sm, 0) := ⟨_, Prod.ext rfl hme⟩
      rw [hsmm] at hmk
      rw [hsmm] at HRES HPOK hsm
      have HMK := Lib.hid hmk
      have HSM := Lib.hid hsm
      clear hres hme hsm hpok hmk hsmm hsw hwe hwe2 hst
      go_enter Tryz.func47, Tryz.ntmps47
      go_wp2_with (fail)
      refine HW.out.mono ?_
      rintro e w1 ⟨rfl, hT1, hK1⟩
      have HMC := Lib.hid (HMK.out w1 hT1)
      have HK1 := Lib.hid hK1
      clear hT1 hK1
      go_wp2_with (fail)
      refine HMC.out.mono ?_
      rintro e w2 ⟨rfl, hT2, hK2⟩
      have d2 := hT2.c2
      have HIN := Lib.hid (show RowIn R Q P b0 b1 b2 A c l w op sm 0 sm w2 from ⟨hT2, HK1.out.trans hK2, rfl⟩)
      clear hT2 hK2
      go_wp2
      go_loopw [33] (fun i wr => ∃ (k : Nat) (sk : Tb.St), k ≤ 3 ∧ i = .int .i64 k ∧ Hid (RowIn R Q P b0 b1 b2 A c l w op sm k sk wr)) (fun i _ => 3 - (intOf i).toNat)
      case atStart => exact ⟨0, sm, by decide, rfl, HIN⟩
      case round =>
        obtain ⟨k, sk, hk, rfl, HP⟩ := hrel
        by_cases hlt : k < 3
        · obtain ⟨g, bk, hpa⟩ := HP.out.rd.parts.at_ hlt
          obtain ⟨p0, p1, p2, -, -, -, -, -⟩ := hpa
          have hal : Below wr.heap.size wr (wr.alloc (.cells (partC bk g) 100)) := (Below.refl _ wr).alloc (Nat.le_refl _) _
          have hpa2 : PartAt P b0 b1 b2 k (wr.alloc (.cells (partC bk g) 100)) g bk := by
            obtain ⟨g', bk', hpa'⟩ := (HP.out.rd.parts.keep hal).at_ hlt
            obtain ⟨q0, q1, q2, _⟩ := id hpa'
            have hPl := HP.out.rd.parts.blk.lt
            have e0 := (hal.cell (p := ⟨P, k * 3, none⟩) hPl).trans p0
            have e2 := (hal.cell (p := ⟨P, k * 3 + 2, none⟩) hPl).trans p2
            rw [q0] at e0
            rw [q2] at e2
            simp only [Option.some.injEq, Value.func.injEq, Fn.func.injEq, true_and, and_true] at e0 e2
            have eb : bk' = bk := by simpa using e0
            subst eb
            subst e2
            exact hpa'
          have hcall := tpart_any hf hfi hl hop hlt (wr.alloc (.cells (partC bk g) 100)) (HP.out.rd.keep hf hal) hpa2
          have hsame := HP.out.same
          rw [show 3 - k = (2 - k) + 1 by omega] at hsame
          unfold partC at hal hcall
          unfold partV at hcall
          have HAL := Lib.hid hal
          have HSAME := Lib.hid hsame
          obtain ⟨⟨sn, en⟩, hr⟩ : ∃ r, Tb.partP l op k sk = r := ⟨_, rfl⟩
          rw [hr] at hcall
          have HR := Lib.hid hr
          have HC := Lib.hid hcall
          clear hal hcall hpa2 hsame hr
          by_cases he : en = 0
          · subst he
            go_wp2_with (fail)
            refine HC.out.mono ?_
            rintro e w3 ⟨rfl, hT3, hK3⟩
            have HN := Lib.hid (show RowIn R Q P b0 b1 b2 A c l w op sm (k + 1) sn w3 from ⟨hT3, HP.out.kept.trans ((Kept.of HAL.out).trans hK3), by
              rw [HSAME.out, partsP_on (by rw [HR.out]), HR.out, show 3 - (k + 1) = 2 - k by omega]⟩)
            clear hT3 hK3 p0 p1 p2
            go_wp2
            go_roundw
            case rel => exact ⟨k + 1, sn, by omega, by go_num, HN⟩
            case measure => simp [intOf]; omega
          · have he1 : ((en : Int) != 0) = true := by rw [bne_iff_ne]; omega
            have hrow : Tb.rowP l s = (sn, en) := by
              rw [HRES.out, HSAME.out, partsP_no (by rw [HR.out]; exact he), HR.out, endP_no he]
            have HROW := Lib.hid hrow
            clear hrow he
            go_wp2_with (fail)
            refine HC.out.mono ?_
            rintro e w3 ⟨rfl, hT3, hK3⟩
            have HT := Lib.hid hT3
            have HK := Lib.hid (HP.out.kept.trans ((Kept.of HAL.out).trans hK3))
            clear hT3 hK3 p0 p1 p2
            go_wp2
            go_ret
            rw [HROW.out]
            exact ⟨rfl, HT.out, HK.out⟩
        · obtain rfl : k = 3 := by omega
          have hsame : Tb.partsP l op 3 0 sm = (sk, 0) := HP.out.same
          obtain ⟨pos, x, hx1, hx2, -⟩ := HPOK.out (by rw [hsame])
          rw [hsame] at hx1
          have hx3 : sk.rows.getD op Tb.PR.none = x := by
            have e : sk = ⟨pos, sm.rows.set op x, sm.had⟩ := hx1
            rw [e]
            exact Tb.set_getD _ _ _ (by rw [HSM.out.rows]; exact hop)
          have hsmall := small_right hx2
          obtain ⟨a0, a1, a2, r0, r1, r2, i0, i1, i2⟩ := HP.out.rd.rows.at_ (k := op) (by rw [HP.out.rd.st.rows]; exact hop)
          rw [hx3] at i0 i1 i2
          have hlab : ∀ W, Below wr.heap.size wr W → Calls Tryz.prog 69 #[.slice (some ⟨P, 0, none⟩) 3 3, .int .i64 (op : Int), .agg #[a0, a1, a2]] W (TellsN W (Tb.labE op x : Nat)) := fun W hb =>
            labels_any hop W (HP.out.rd.ins.kept hf (.of hb)) (HP.out.rd.parts.keep hb) ((i0.kept (.of hb)).ints) ((i1.kept (.of hb)).ints) ((i2.kept (.of hb)).ints) hsmall
          have d2 := HP.out.rd.c2
          have d3 := HP.out.rd.c3
          have g2 := fun d os => cell_regrown d2 d os
          have g3 := fun d os => cell_regrown d3 d os
          have gr0 := fun d os => cell_regrown r0 d os
          have gr1 := fun d os => cell_regrown r1 d os
          have gr2 := fun d os => cell_regrown r2 d os
          have hop2 : (op : Int) < 13 := by omega
          have HLAB := Lib.hid hlab
          clear hlab hsmall i0 i1 i2
          by_cases hz : Tb.labE op x = 0
          · have hrow : Tb.rowP l s = (sk, 0) := by rw [HRES.out, hsame, endP_ok (by rw [hx3]; exact hz)]
            rw [hz] at HLAB
            have HROW := Lib.hid hrow
            clear hrow hsame hx1 hx2 hx3 hz
            go_wp2
            refine wp_region_quiet_below (by kernel_rfl) (by kernel_rfl) ?_
            repeat (quiet_step ((go_at_call 69; exact Calls.regrown_of (HLAB.out _ (below_regrown _ _ _)))))
            refine wpQuiet_nil ?_
            rintro _ ⟨⟨d, os⟩, rfl⟩
            have HT := Lib.hid (HP.out.rd.keep hf (below_regrown wr d os))
            have HK := Lib.hid (HP.out.kept.trans (Kept.of (below_regrown wr d os)))
            clear g2 g3 gr0 gr1 gr2
            go_wp2
            go_ret
            rw [HROW.out]
            exact ⟨rfl, HT.out, HK.out⟩
          · have h7 : Tb.labE op x = 7 := by rcases labE_val (op := op) (x := x) with e | e; exact absurd e hz; exact e
            have hrow : Tb.rowP l s = ({ sk with pos := s.pos }, 7) := by rw [HRES.out, hsame, endP_lab (by rw [hx3]; exact hz)]
            rw [h7] at HLAB
            have HROW := Lib.hid hrow
            clear hrow hsame hx1 hx2 hx3 hz h7
            go_wp2
            refine wp_region_quiet_below (by kernel_rfl) (by kernel_rfl) ?_
            repeat (quiet_step ((go_at_call 69; exact Calls.regrown_of (HLAB.out _ (below_regrown _ _ _)))))
            refine wpQuiet_nil ?_
            rintro _ ⟨⟨d, os⟩, rfl⟩
            have hT := HP.out.rd.keep hf (below_regrown wr d os)
            obtain ⟨W3, hW3⟩ : ∃ W, grow (redrawn wr d) os = W := ⟨_, rfl⟩
            have hK := HP.out.kept.trans (Kept.of (below_regrown wr d os))
            rw [hW3] at hT hK ⊢
            have hfz : W3.frozen? ⟨R, 1, none⟩ = false := hT.blk.frozen _
            have hc1 := hT.c1
            have HT := Lib.hid (hT.set_ hf (rcells_pos _ s.pos) rfl ⟨HST.out.pos, hT.st.rows, hT.st.had⟩)
            have HK := Lib.hid (hK.set_ (p := ⟨R, 1, none⟩) (.inl rfl) (.int .i64 (s.pos : Int)))
            clear g2 g3 gr0 gr1 gr2 hT hK hW3 r0 r1 r2 d2 d3
            go_wp2
            go_ret
            rw [HROW.out]
            exact ⟨rfl, HT.out, HK.out⟩
    · have hres := rowP_mark hwe hme
      rw [hwe2] at HW hres hme
      dsimp only at hres hme
      have hmk := fun W (hW : TRd R Q P b0 b1 b2 A c l ⟨s.pos + 1, s.rows, s.had.set op true⟩ W) => tmark_any hf hfi Tb.mColon Tb.colon_ne W hW hl
      obtain ⟨⟨sm, em⟩, hsmm⟩ : ∃ r, Tb.markP l Tb.mColon ⟨s.pos + 1, s.rows, s.had.set op true⟩ = r := ⟨_, rfl⟩
      rw [hsmm] at hmk hres hme
      rw [hres]
      have he1 : ((em : Int) != 0) = true := by rw [bne_iff_ne]; dsimp only at hme; omega
      have HMK := Lib.hid hmk
      clear hres hme hmk hsmm hsw hwe hwe2 hst
      go_enter Tryz.func47, Tryz.ntmps47
      go_wp2_with (fail)
      refine HW.out.mono ?_
      rintro e w1 ⟨rfl, hT1, hK1⟩
      have HMC := Lib.hid (HMK.out w1 hT1)
      have HK1 := Lib.hid hK1
      clear hT1 hK1
      go_wp2_with (fail)
      refine HMC.out.mono ?_
      rintro e w2 ⟨rfl, hT2, hK2⟩
      have HT := Lib.hid hT2
      have HK := Lib.hid (HK1.out.trans hK2)
      clear hT2 hK2
      go_wp2
      go_ret
      exact ⟨rfl, HT.out, HK.out⟩
  · have hres := rowP_word hwe
    rw [hres]
    obtain ⟨⟨sw, ow, ew⟩, hw2⟩ : ∃ r, Tb.wordP l s = r := ⟨_, rfl⟩
    rw [hw2] at HW hwe ⊢
    have he1 : ((ew : Int) != 0) = true := by rw [bne_iff_ne]; dsimp only at hwe; omega
    clear hres hwe hst hw2
    go_enter Tryz.func47, Tryz.ntmps47
    go_wp2_with (fail)
    refine HW.out.mono ?_
    rintro e w1 ⟨rfl, hT1, hK1⟩
    have HT := Lib.hid hT1
    have HK := Lib.hid hK1
    clear hT1 hK1
    go_wp2
    go_ret
    exact ⟨rfl, HT.out, HK.out⟩
end
end Go.Proofs.YtggcmkpafpjnoaaGreatDoor

/- Walks of slices.Contains (of bools) and of table. -/
namespace Go.Proofs.YtggcmkpafpjnoaaGreatDoor
set_option maxRecDepth 100000
open Go.RowKit Go.Shelf Go.Sort
attribute [local go_sem] Oper.semAt_some

/-- The first place of a bool; none: -1. -/
def bfind (l : List Bool) (v : Bool) : Int := match l.idxOf? v with | some k => (k : Int) | none => -1
set_option maxHeartbeats 2000000 in
theorem bindex_any (b o c : Nat) (l : List Bool) (v : Bool) (w : World) (hc : ∀ (j : Nat) (u : Bool), l[j]? = some u → w.cell? ⟨b, o + j, none⟩ = some (.bool u)) (hl : l.length ≤ 1000) :
    Calls Tryz.prog 70 #[.slice (some ⟨b, o, none⟩) l.length c, .bool v] w fun e w' => (∃ n : Int, e = .returned (.int .i64 n) ∧ (decide (n ≥ 0) = l.contains v)) ∧ w = w' := by
  have HC := Lib.hid hc
  clear hc
  go_enter Tryz.func70, Tryz.ntmps70
  go_wp2
  go_loopw [8] (fun i wr => ∃ (k : Nat), k ≤ l.length ∧ i = .int .i64 k ∧ wr = w ∧ Hid (∀ j u, j < k → l[j]? = some u → u ≠ v)) (fun i _ => l.length - (intOf i).toNat)
  case atStart => exact ⟨0, Nat.zero_le _, rfl, rfl, Lib.hid fun j u hj => absurd hj (by omega)⟩
  case round =>
    obtain ⟨k, hk, rfl, rfl, HO⟩ := hrel
    by_cases hlt : k < l.length
    · have hx : l[k]? = some l[k] := List.getElem?_eq_getElem hlt
      have hcell := HC.out k _ hx
      have HX := Lib.hid hx
      have hmem := List.getElem_mem hlt
      have HM := Lib.hid hmem
      clear hx hmem
      generalize l[k] = x at *
      by_cases he : x = v
      · subst he
        have HF := Lib.hid (show decide ((k : Int) ≥ 0) = l.contains x by rw [List.contains_iff_mem.2 HM.out]; exact decide_eq_true (by omega))
        have hbe : (x == x) = true := by simp
        go_wp2
        go_ret
        exact ⟨⟨_, rfl, HF.out⟩, rfl⟩
      · have HO2 : Hid (∀ j u, j < k + 1 → l[j]? = some u → u ≠ v) := Lib.hid fun j u hj hu => by
          by_cases e : j = k
          · subst e
            rw [HX.out] at hu
            injection hu with hu
            rw [← hu]
            exact he
          · exact HO.out j u (by omega) hu
        have hbe : (v == x) = false := by cases v <;> cases x <;> simp_all
        go_wp2
        go_roundw
        case rel => exact ⟨k + 1, by omega, by go_num, trivial, HO2⟩
        case measure => simp [intOf]; omega
    · obtain rfl : k = l.length := by omega
      have HF := Lib.hid (show decide ((-1 : Int) ≥ 0) = l.contains v by
        cases hq : l.contains v with
        | false => rfl
        | true =>
          obtain ⟨j, hj1, hj2⟩ := List.getElem_of_mem (List.contains_iff_mem.1 hq)
          exact absurd hj2 (HO.out j _ hj1 (List.getElem?_eq_getElem hj1)))
      go_wp2
      go_ret
      exact ⟨⟨_, rfl, HF.out⟩, rfl⟩
theorem bcontains_any (b o c : Nat) (l : List Bool) (v : Bool) (w : World) (hc : ∀ (j : Nat) (u : Bool), l[j]? = some u → w.cell? ⟨b, o + j, none⟩ = some (.bool u)) (hl : l.length ≤ 1000) :
    Calls Tryz.prog 48 #[.slice (some ⟨b, o, none⟩) l.length c, .bool v] w fun e w' => e = .returned (.bool (l.contains v)) ∧ w = w' := by
  have hi := bindex_any b o c l v w hc hl
  have HI := Lib.hid hi
  clear hi hc
  generalize l.length = n at *
  go_enter Tryz.func48, Tryz.ntmps48
  go_wp2_with (fail)
  refine HI.out.mono ?_
  rintro e w1 ⟨⟨m, rfl, hm⟩, rfl⟩
  have HM := Lib.hid hm
  clear hm
  go_wp2
  go_ret
  rw [← HM.out]
  exact ⟨rfl, rfl⟩
/-- How far the reader in memory is. -/
def rposT (R : Nat) (W : World) : Nat := match W.cell? ⟨R, 1, none⟩ with | some (.int _ n) => n.toNat | _ => 0
section
variable {R Q P b0 b1 b2 c : Nat} {A : Option Addr} {l : List Lx.Tk} {s : Tb.St}
theorem TRd.rpos {w : World} (h : TRd R Q P b0 b1 b2 A c l s w) : rposT R w = s.pos := by
  unfold rposT
  rw [h.c1]
  exact Int.toNat_natCast _
/-- What holds at the head of a round of table. -/
structure TabIn (R Q P b0 b1 b2 : Nat) (A : Option Addr) (c : Nat) (l : List Lx.Tk) (w : World) (r : Tb.St × Nat) (sk : Tb.St) (W : World) : Prop where
  rd : TRd R Q P b0 b1 b2 A c l sk W
  kept : Kept R Q w W
  same : ∃ m, l.length ≤ m + sk.pos ∧ r = Tb.tableP l m sk
theorem tableP_end {m : Nat} {s : Tb.St} (h : (Tb.tok l s.pos).kind = 0) (hp : s.pos < l.length) (hm : l.length ≤ m + s.pos) : Tb.tableP l m s = (s, if s.had.contains false = true then 9 else 0) := by
  obtain ⟨m, rfl⟩ : ∃ k, m = k + 1 := ⟨m - 1, by omega⟩
  rw [Tb.tableP, if_pos h]
  split <;> rfl
theorem tableP_row {m : Nat} {s : Tb.St} (h : (Tb.tok l s.pos).kind ≠ 0) (hp : s.pos < l.length) (hm : l.length ≤ m + s.pos) (hr : (Tb.rowP l s).2 = 0) : ∃ k, m = k + 1 ∧ Tb.tableP l m s = Tb.tableP l k (Tb.rowP l s).1 := by
  obtain ⟨m, rfl⟩ : ∃ k, m = k + 1 := ⟨m - 1, by omega⟩
  exact ⟨m, rfl, by rw [Tb.tableP, if_neg h, if_pos hr]⟩
theorem tableP_err {m : Nat} {s : Tb.St} (h : (Tb.tok l s.pos).kind ≠ 0) (hp : s.pos < l.length) (hm : l.length ≤ m + s.pos) (hr : (Tb.rowP l s).2 ≠ 0) : Tb.tableP l m s = Tb.rowP l s := by
  obtain ⟨m, rfl⟩ : ∃ k, m = k + 1 := ⟨m - 1, by omega⟩
  rw [Tb.tableP, if_neg h, if_neg hr]
theorem TRd.hads {w : World} (h : TRd R Q P b0 b1 b2 A c l s w) : ∀ (j : Nat) (u : Bool), s.had[j]? = some u → w.cell? ⟨R, 4 + j, none⟩ = some (.bool u) := fun j u hj => by
  have hlt := (List.getElem?_eq_some_iff.1 hj).1
  have := h.had (k := j) (by rw [← h.st.had]; exact hlt)
  rw [List.getD_eq_getElem?_getD, hj] at this
  exact this
set_option maxHeartbeats 8000000 in
theorem table_any (hf : Fast R Q P b0 b1 b2) (hfi : Tb.Fine l) (hl : l.length ≤ 200) (w : World) (h : TRd R Q P b0 b1 b2 A c l s w) :
    Calls Tryz.prog 29 #[.pointer (some ⟨R, 0, none⟩)] w (ToldT R Q P b0 b1 b2 A c l w (Tb.tableP l l.length s)) := by
  obtain ⟨r, hr⟩ : ∃ r, Tb.tableP l l.length s = r := ⟨_, rfl⟩
  rw [hr]
  have HIN := Lib.hid (show TabIn R Q P b0 b1 b2 A c l w r s w from ⟨h, Kept.refl _ _ _, l.length, by omega, hr.symm⟩)
  clear h hr
  go_enter Tryz.func29, Tryz.ntmps29
  go_wp2
  go_loopw [4] (fun _ wr => ∃ (sk : Tb.St), Hid (TabIn R Q P b0 b1 b2 A c l w r sk wr)) (fun _ wr => l.length - rposT R wr)
  case atStart => exact ⟨s, HIN⟩
  case round =>
    obtain ⟨sk, HP⟩ := hrel
    have hrp := HP.out.rd.rpos
    have HRP := Lib.hid hrp
    have hnx := next_any wr HP.out.rd
    obtain ⟨m, hm1, hm2⟩ := HP.out.same
    have hpos := HP.out.rd.st.pos
    have hend := tableP_end (l := l) (m := m) (s := sk)
    have hrow0 := tableP_row (l := l) (m := m) (s := sk)
    have herr := tableP_err (l := l) (m := m) (s := sk)
    unfold tkv at hnx
    generalize Tb.tok l sk.pos = t at *
    obtain ⟨kd, tx, ps⟩ := t
    dsimp only at hnx hend hrow0 herr
    have hfd := fun w => tok_kind kd ps tx w
    have HNX := Lib.hid hnx
    clear hnx hrp
    by_cases hk : kd = 0
    · subst hk
      have hr := hm2.trans (hend rfl hpos hm1)
      have HR := Lib.hid hr
      clear hend hrow0 herr hm2 hr
      go_wp2_with (fail)
      refine HNX.out.mono ?_
      rintro e w1 ⟨rfl, hb1⟩
      have hT := HP.out.rd.keep hf hb1
      have hcon := bcontains_any R 4 13 sk.had false w1 hT.hads (by rw [hT.st.had]; decide)
      rw [hT.st.had] at hcon
      have hR := hT.lt
      have HT := Lib.hid hT
      have HK := Lib.hid (HP.out.kept.trans (Kept.of hb1))
      obtain ⟨q, hq⟩ : ∃ q, sk.had.contains false = q := ⟨_, rfl⟩
      rw [hq] at HR hcon
      have HC := Lib.hid hcon
      clear hT hb1 hcon hq
      cases q
      · go_wp2_with (fail)
        refine HC.out.mono ?_
        rintro e w2 ⟨rfl, rfl⟩
        go_wp2
        go_ret
        rw [HR.out]
        exact ⟨rfl, HT.out, HK.out⟩
      · go_wp2_with (fail)
        refine HC.out.mono ?_
        rintro e w2 ⟨rfl, rfl⟩
        go_wp2
        go_ret
        rw [HR.out]
        exact ⟨rfl, HT.out, HK.out⟩
    · have hk1 : (kd != 0) = true := by rw [bne_iff_ne]; exact hk
      have hrow := fun W (hb : Below wr.heap.size wr W) => row_any6 hf hfi hl W (HP.out.rd.keep hf hb)
      have hst := HP.out.rd.st
      by_cases hr2 : (Tb.rowP l sk).2 = 0
      · obtain ⟨op, x, pos, -, -, -, e1, e2⟩ := Tb.rowP_ok hfi hst hr2
        obtain ⟨k, rfl, hm3⟩ := hrow0 hk hpos hm1 hr2
        have hpl : sk.pos < (Tb.rowP l sk).1.pos := by rw [e1]; exact e2
        obtain ⟨⟨sn, en⟩, hrn⟩ : ∃ r, Tb.rowP l sk = r := ⟨_, rfl⟩
        rw [hrn] at hrow hr2 hm3 hpl
        dsimp only at hr2 hm3 hpl
        subst hr2
        have HROW := Lib.hid hrow
        have HSAME := Lib.hid (show ∃ m, l.length ≤ m + sn.pos ∧ r = Tb.tableP l m sn from ⟨k, by omega, hm2.trans hm3⟩)
        clear hrow hend hrow0 herr hm2 hm3 hst e1 e2 hrn
        go_wp2_with (fail)
        refine HNX.out.mono ?_
        rintro e w1 ⟨rfl, hb1⟩
        have HRC := Lib.hid (HROW.out w1 hb1)
        have HB1 := Lib.hid hb1
        clear hb1
        go_wp2_with (fail)
        refine HRC.out.mono ?_
        rintro e w2 ⟨rfl, hT2, hK2⟩
        have HN := Lib.hid (show TabIn R Q P b0 b1 b2 A c l w r sn w2 from ⟨hT2, HP.out.kept.trans ((Kept.of HB1.out).trans hK2), HSAME.out⟩)
        have HRP2 := Lib.hid hT2.rpos
        clear hT2 hK2
        go_wp2
        go_roundw
        case rel => exact ⟨sn, HN⟩
        case measure => rw [HRP.out, HRP2.out]; omega
      · have hr3 := hm2.trans (herr hk hpos hm1 hr2)
        obtain ⟨⟨sn, en⟩, hrn⟩ : ∃ r, Tb.rowP l sk = r := ⟨_, rfl⟩
        rw [hrn] at hrow hr2 hr3
        have he1 : ((en : Int) != 0) = true := by rw [bne_iff_ne]; dsimp only at hr2; omega
        have HROW := Lib.hid hrow
        have HR := Lib.hid hr3
        clear hrow hend hrow0 herr hm2 hr3 hst hrn hr2
        go_wp2_with (fail)
        refine HNX.out.mono ?_
        rintro e w1 ⟨rfl, hb1⟩
        have HRC := Lib.hid (HROW.out w1 hb1)
        have HB1 := Lib.hid hb1
        clear hb1
        go_wp2_with (fail)
        refine HRC.out.mono ?_
        rintro e w2 ⟨rfl, hT2, hK2⟩
        have HT := Lib.hid hT2
        have HK := Lib.hid (HP.out.kept.trans ((Kept.of HB1.out).trans hK2))
        clear hT2 hK2
        go_wp2
        go_ret
        rw [HR.out]
        exact ⟨rfl, HT.out, HK.out⟩
end
end Go.Proofs.YtggcmkpafpjnoaaGreatDoor
