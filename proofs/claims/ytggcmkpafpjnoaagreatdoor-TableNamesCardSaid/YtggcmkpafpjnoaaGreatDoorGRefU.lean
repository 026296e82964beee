/- The walk of the reference's Parse. -/
import Derived.Handy
import Derived.Deep.Cut
import Derived.Test.YtggcmkpafpjnoaaGreatDoorGRefT
import Derived.Test.YtggcmkpafpjnoaaGreatDoorGFree
namespace Go.Proofs.YtggcmkpafpjnoaaGreatDoor
set_option maxRecDepth 100000
open Go.RowKit Go.Shelf
attribute [local go_sem] Oper.semAt_some

theorem InTab.tab {wB W W' : World} {hS gq gd g capq : Nat} {rows : List Tb.PR} {had : List Bool} (h : InTab wB hS gq gd rows had W) (hg : g < wB.heap.size) (hb : ∀ k, k ≠ g → W'.heap[k]? = W.heap[k]?) (hz : W'.heap.size = W.heap.size) (hc : 13 ≤ capq) : IsTab W' W'.heap.size (.slice (some ⟨gq, 0, none⟩) 13 capq) rows := by
  obtain ⟨cs, q1, q2, q3⟩ := h.q
  obtain ⟨l1, l2, l3, l4, l5, l6⟩ := h.lo
  have hq : Blk W' gq 43 cs := (hb gq (by omega)).trans q1
  have hkk : ∀ n, hS < n → n < W.heap.size → W'.heap[n]? = W.heap[n]? := fun n hn _ => hb n (by omega)
  have hgq := q1.lt
  refine ⟨some ⟨gq, 0, none⟩, capq, by rw [h.len.1], ⟨cs.toList.take 39, by simp [h.len.1]; omega, fun _ => ⟨⟨gq, 0, none⟩, rfl, by rw [hz]; exact hgq, fun j u hu => ?_⟩, fun k x hx => ?_⟩, by rw [h.len.1]; exact hc⟩
  · have hj : j < 39 := by
      have := (List.getElem?_eq_some_iff.1 hu).1
      simp at this
      omega
    rw [List.getElem?_take_of_lt hj] at hu
    have e : (⟨gq, 0, none⟩ : Addr).add j = ⟨gq, j, none⟩ := by unfold Addr.add; split <;> simp_all
    rw [e, hq.cell]
    simpa using hu
  · have hk : k < 13 := by have := (List.getElem?_eq_some_iff.1 hx).1; rw [h.len.1] at this; exact this
    obtain ⟨B0, m0, d0, B1, m1, d1, B2, m2, d2, e0, e1, e2, g0, g1, g2⟩ := q3 k x hx
    refine ⟨_, _, _, ?_, ?_, ?_, (g0.keep hkk (Nat.le_of_eq hz.symm)).1, (g1.keep hkk (Nat.le_of_eq hz.symm)).1, (g2.keep hkk (Nat.le_of_eq hz.symm)).1⟩
    · rw [List.getElem?_take_of_lt (by omega)]; simpa using e0
    · rw [List.getElem?_take_of_lt (by omega)]; simpa using e1
    · rw [List.getElem?_take_of_lt (by omega)]; simpa using e2
theorem Fits.of_ok {x : Tb.PR} (h : Tb.okRules x = true) : Fits x := by
  unfold Tb.okRules at h
  rw [Bool.and_eq_true, Bool.and_eq_true] at h
  obtain ⟨h0, h1, h2⟩ := h
  have e0 := (of_decide_eq_true h0).1
  have e1 := (of_decide_eq_true h1).1
  have e2 := (of_decide_eq_true h2).1
  exact ⟨by omega, by omega, by omega⟩
theorem cell_drewn {W : World} {p : Addr} {v : Value} (h : W.cell? p = some v) : W.drew.cell? p = some v := h
set_option maxRecDepth 100000 in
set_option maxHeartbeats 16000000 in
theorem rparse_good (s : ByteArray) (w : World) (hm : s.size ≤ maxLen) {l : List Lx.Tk} {a : Nat} (he : Lx.lex s.data.toList = (l, a, 0)) : Calls Tryz.prog 9 #[.string s] w (RParseRes w (Tb.parse s.data.toList)) := by
  obtain ⟨hfi, hl0, hl2, rfl⟩ := Tb.lex_fine he
  have hmk := Tb.lex_marked he
  have hal : Below w.heap.size w (w.alloc (.cells #[.slice none 0 0, .int .i64 0, .int .i64 0] 34)) := (Below.refl _ w).alloc (Nat.le_refl _) _
  have hlx := rLex_any s (w.alloc (.cells #[.slice none 0 0, .int .i64 0, .int .i64 0] 34)) hm
  rw [he] at hlx
  obtain ⟨⟨sf, ef⟩, hsf⟩ : ∃ r, Tb.tableP l l.length Tb.start = r := ⟨_, rfl⟩
  have hres : Tb.parse s.data.toList = if ef = 0 then (sf.rows, 0, 0) else ([], (Tb.tok l sf.pos).pos, ef) := by
    unfold Tb.parse Tb.parseL
    rw [he]
    dsimp only
    rw [if_pos rfl, hsf]
  obtain ⟨res, hrs⟩ : ∃ res, Tb.parse s.data.toList = res := ⟨_, rfl⟩
  rw [hrs] at hres ⊢
  have HRES := Lib.hid hres
  have HSF := Lib.hid hsf
  have HFI := Lib.hid hfi
  have HMK := Lib.hid hmk
  have HL0 := Lib.hid hl0
  have HL2 := Lib.hid hl2
  have HL := Lib.hid hlx
  have HA := Lib.hid hal
  have HK := Lib.hid (Blk.new w 34 #[.slice none 0 0, .int .i64 0, .int .i64 0])
  obtain ⟨i0, hi, hz0, hz1, hz2⟩ := info_parts Tryz.infoRow
  obtain ⟨j0, hj, hy0, hy1, hy2⟩ := info_parts Tryz.infoBool
  clear hrs hres hsf hfi hmk hl0 hl2 hlx hal he hm
  go_enter Tryz.func9, Tryz.ntmps9
  go_wp2_with (fail)
  refine HL.out.mono ?_
  rintro e w1 ⟨v, rfl, hv, hb1⟩
  obtain ⟨A, c, rfl, hrow, hcap⟩ := hv
  dsimp only
  obtain ⟨wB, hwB⟩ : ∃ wB, w1.alloc (.cells #[.slice A l.length c, .int .i64 0, .int .i64 0] 53) = wB := ⟨_, rfl⟩
  have hzB : w1.heap.size + 1 = wB.heap.size := by rw [← hwB]; simp
  have hbB : Below w.heap.size w wB := hwB ▸ (HA.out.trans (hb1.mono HA.out.size)).alloc (Nat.le_trans HA.out.size hb1.size) _
  have hkB : Blk wB w.heap.size 34 #[.slice none 0 0, .int .i64 0, .int .i64 0] := hwB ▸ (HK.out.below hb1 HK.out.lt).alloc _
  have hrB : Row wB wB.heap.size A (tcells l) := Row.up hrow (hwB ▸ (Below.refl _ w1).alloc (Nat.le_refl _) _)
  have HBB := Lib.hid hbB
  have HKB := Lib.hid hkB
  have HRB := Lib.hid hrB
  have HG := Lib.hid (Grow13.start wB)
  clear hbB hkB hrB hrow hb1 hcap HL HA HK
  have HW := Lib.hid hwB
  have HZ := Lib.hid hzB
  clear hwB hzB
  go_wp2
  rw [HW.out, HZ.out]
  go_loopw [5, 6, 7] (fun v u z wr => ∃ (k : Nat), k ≤ 13 ∧ z = .int .i64 k ∧ Hid (Grow13 wB k v u wr)) (fun _ _ z _ => 13 - (intOf z).toNat)
  case atStart => exact ⟨0, by decide, rfl, HG⟩
  case round =>
    obtain ⟨k, hk, rfl, HG⟩ := hrel
    by_cases hlt : k < 13
    · have hown := HG.out.rows
      have hsz := HG.out.below.size
      go_wp2_with (at_builtin; refine wpList_append_own _ rfl _ _ 22 rfl wB.heap.size 43 i0 (.agg #[.slice none 0 0, .slice none 0 0, .slice none 0 0]) 3 72 Tryz.underlying22 hi hz0 hz1 hz2 rfl (by decide) _ _ _ rfl (hown.alloc _) ⟨wr.heap.size, 0, none⟩ 1 1 [.slice none 0 0, .slice none 0 0, .slice none 0 0] rfl rfl ?c1 ?c2 ?c3 ?c4 ?c5 ?_)
      case c1 => exact cells_new _ _ _
      case c2 => simp [Value.oneCell']
      case c3 => unfold maxLen; omega
      case c4 => omega
      case c5 => simp; omega
      intro v1 w2 hown1 hgrow1 _
      have hown2 := own_other HG.out.rows HG.out.done (by decide) hgrow1
      have hsz2 : wB.heap.size ≤ w2.heap.size := Nat.le_trans hsz (Nat.le_trans (by simp) hgrow1.size)
      have HO1 := Lib.hid hown1
      have HG1 := Lib.hid hgrow1
      clear hown1 hgrow1 hown
      go_wp2_with (at_builtin; refine wpList_append_own _ rfl _ _ 55 rfl wB.heap.size 4 j0 (.bool false) 1 1 Tryz.underlying55 hj hy0 hy1 hy2 rfl (by decide) _ _ _ rfl (hown2.alloc _) ⟨w2.heap.size, 0, none⟩ 1 1 [.bool false] rfl rfl ?c1 ?c2 ?c3 ?c4 ?c5 ?_)
      case c1 => exact cells_new _ _ _
      case c2 => simp [Value.oneCell']
      case c3 => unfold maxLen; omega
      case c4 => omega
      case c5 => simp; omega
      intro v2 w3 hown3 hgrow2 _
      have HST := Lib.hid (HG.out.step HO1.out HG1.out hown3 hgrow2)
      clear hown3 hgrow2 hown2 HO1 HG1
      go_wp2
      refine ⟨⟨v1, v2, .int .i64 ((k : Int) + 1), _, _, _, _, _, _, _, _, _, _, _, ⟨k + 1, by omega, by go_num, HST⟩, rfl⟩, ?_⟩
      simp [intOf]; omega
    · obtain rfl : k = 13 := by omega
      obtain ⟨gq, capq, gd, capd, rfl, rfl, hcq, hin⟩ := HG.out.tab
      have HIN := Lib.hid hin
      have HCQ := Lib.hid hcq
      obtain ⟨hS, hSe⟩ : ∃ hS, wr.heap.size = hS := ⟨_, rfl⟩
      rw [hSe] at HIN
      clear hin hcq HG hSe hi hz0 hz1 hz2 hj hy0 hy1 hy2
      go_wp2
      go_loopw [8] (fun z wt => ∃ (st : Tb.St) (m : Nat), z = .int .i64 st.pos ∧ Hid (InTab wB hS gq gd st.rows st.had wt ∧ st.pos < l.length ∧ l.length ≤ m + st.pos ∧ Tb.tableP l m st = (sf, ef))) (fun z _ => l.length - (intOf z).toNat)
      case atStart => exact ⟨Tb.start, l.length, by simp [Tb.start], Lib.hid ⟨HIN.out, HL0.out, by simp [Tb.start], HSF.out⟩⟩
      case round =>
        obtain ⟨st, m, rfl, HI⟩ := hrel
        have hbw : Below w.heap.size w wr := HBB.out.trans (HI.out.1.below.mono HBB.out.size)
        have hkw : Blk wr w.heap.size 34 #[.slice none 0 0, .int .i64 0, .int .i64 0] := HKB.out.below HI.out.1.below HKB.out.lt
        have hrw := Row.up HRB.out HI.out.1.below
        obtain ⟨ad, t, hA, hadb, htk, t0, t1, t2⟩ := trow_at hrw HI.out.2.1
        have htok : Tb.tok l st.pos = t := by unfold Tb.tok; rw [List.getD_eq_getElem?_getD, htk]; rfl
        obtain ⟨⟨z0, z1, z2⟩, y0, y1, y2⟩ := blk3_facts hkw
        have HTOK := Lib.hid htok
        have HBW := Lib.hid hbw
        have HKW := Lib.hid hkw
        have HRW := Lib.hid hrw
        have hps := HI.out.2.1
        clear hbw hkw hrw htk htok
        by_cases hk0 : t.kind = 0
        · have hend := (tableP_end (by rw [HTOK.out]; exact hk0) HI.out.2.1 HI.out.2.2.1).symm.trans HI.out.2.2.2
          injection hend with hend1 hend2
          rw [← hend1, ← hend2, HTOK.out] at HRES
          obtain ⟨cs, e1, e2, e3⟩ := HI.out.1.d
          have hcell : ∀ (k : Nat) (b : Bool), st.had[k]? = some b → wr.cell? ⟨gd, k, none⟩ = some (.bool b) := fun k b hkb => (e1.cell k).trans (e3 k b hkb)
          have HCELL := Lib.hid hcell
          have hlen := HI.out.1.len.2
          have HLEN := Lib.hid hlen
          have Q := Lib.hid (fun (v0 : Value) (x1 x2 : Value) => res3 HBW.out HKW.out (Nat.le_refl _) v0 x1 x2)
          have HBG := Lib.hid HKB.out.lt
          clear hend1 hend2 e1 e2 e3 hcell hlen
          subst hA
          have hadb2 : (ad.add (st.pos * 3)).block < wr.heap.size := by rw [add_block]; exact hadb
          generalize l.length = n at *
          go_wp2
          go_loop [115] (fun z => ∃ k : Nat, k ≤ 13 ∧ z = .int .i64 k ∧ Hid (∀ j, j < k → st.had[j]? = some true)) (fun z => 13 - (intOf z).toNat)
          case atStart => exact ⟨0, by decide, rfl, Lib.hid fun j hj => absurd hj (by omega)⟩
          case round =>
            obtain ⟨k, hk, rfl, HH⟩ := hrel
            by_cases hlt : k < 13
            · obtain ⟨b, hb⟩ : ∃ b, st.had[k]? = some b := ⟨_, List.getElem?_eq_getElem (by rw [HLEN.out]; exact hlt)⟩
              have hc := HCELL.out k b hb
              have HB := Lib.hid hb
              clear hb
              cases b
              · have hrr : res = ([], t.pos, 9) := by
                  have hcf : st.had.contains false = true := List.contains_iff_mem.2 (List.mem_of_getElem? HB.out)
                  rw [HRES.out, hcf, if_pos rfl, if_neg (by decide)]
                have HRR := Lib.hid hrr
                obtain ⟨⟨q0, q1, q2⟩, rB⟩ := Q.out (.slice none 0 0) (.int .i64 t.pos) (.int .i64 9)
                have Q2 := Lib.hid (And.intro q0 (And.intro q1 (And.intro q2 rB)))
                clear hrr q0 q1 q2 rB
                go_wp2
                obtain ⟨q0, q1, q2, rB⟩ := Q2.out
                rw [HRR.out]
                exact bodyPost_ret (v := .agg #[.slice none 0 0, .int .i64 t.pos, .int .i64 9]) (by simp [results, Tryz.results9, go_sem, q0, q1, q2]) rfl ⟨_, rfl, IsTab.nil _ _, rB⟩
              · go_wp2
                go_round
                case rel => exact ⟨k + 1, by omega, by go_num, Lib.hid fun j hj => by
                  by_cases e : j = k
                  · subst e; exact HB.out
                  · exact HH.out j (by omega)⟩
                case measure => simp [intOf]; omega
            · obtain rfl : k = 13 := by omega
              have hrr : res = (st.rows, 0, 0) := by
                have hcf : st.had.contains false = false := by
                  rw [← Bool.not_eq_true]
                  intro hc
                  obtain ⟨j, hj⟩ := List.getElem?_of_mem (List.contains_iff_mem.1 hc)
                  have hj13 : j < 13 := by have := (List.getElem?_eq_some_iff.1 hj).1; rw [HLEN.out] at this; exact this
                  rw [HH.out j hj13] at hj
                  cases hj
                rw [HRES.out, hcf]
                rfl
              have HRR := Lib.hid hrr
              obtain ⟨⟨q0, q1, q2⟩, rB⟩ := Q.out (.slice (some ⟨gq, 0, none⟩) 13 capq) (.int .i64 0) (.int .i64 0)
              have Q2 := Lib.hid (And.intro q0 (And.intro q1 (And.intro q2 rB)))
              clear hrr q0 q1 q2 rB
              go_wp2
              obtain ⟨q0, q1, q2, rB⟩ := Q2.out
              rw [HRR.out]
              exact bodyPost_ret (v := .agg #[.slice (some ⟨gq, 0, none⟩) 13 capq, .int .i64 0, .int .i64 0]) (by simp [results, Tryz.results9, go_sem, q0, q1, q2]) rfl ⟨_, rfl, HI.out.1.tab HBG.out (fun n hn => by rw [Below.heap_setCell _ _ _ _ hn, Below.heap_setCell _ _ _ _ hn, Below.heap_setCell _ _ _ _ hn]) (by simp [World.setCell]) HCQ.out, rB⟩
        · by_cases hk1 : t.kind = 1
          · have hop := rOp_any t.text wr
            have HOP := Lib.hid hop
            clear hop
            cases hfd : Tb.find t.text with
            | none =>
              rw [hfd] at HOP
              have hq : Tb.rowP l st = (st, 6) := by
                have hw : Tb.wordP l st = (st, 0, 6) := by unfold Tb.wordP; rw [if_pos (by rw [HTOK.out]; exact hk1), HTOK.out, hfd]
                rw [rowP_word (by rw [hw]; exact (by decide : (6 : Nat) ≠ 0)), hw]
              have hend := (tableP_err (by rw [HTOK.out]; exact hk0) HI.out.2.1 HI.out.2.2.1 (by rw [hq]; exact (by decide : (6 : Nat) ≠ 0))).symm.trans HI.out.2.2.2
              rw [hq] at hend
              injection hend with hend1 hend2
              have hrr : res = ([], t.pos, 6) := by rw [HRES.out, ← hend2, if_neg (by decide), ← hend1, HTOK.out]
              have HRR := Lib.hid hrr
              have hz : opIx none = -1 := rfl
              rw [hz] at HOP
              clear hend1 hend2 hq hrr hk0 hfd hz
              subst hA
              generalize l.length = n at *
              have hadb2 : (ad.add (st.pos * 3)).block < wr.heap.size := by rw [add_block]; exact hadb
              go_wp2_with (fail)
              refine HOP.out.mono ?_
              rintro e w2 ⟨rfl, hb2⟩
              have hk2 := HKW.out.below hb2 HKW.out.lt
              obtain ⟨⟨z0, z1, z2⟩, y0, y1, y2⟩ := blk3_facts hk2
              have u0 := (hb2.cell hadb2).trans t0
              have u2 := (hb2.cell (p := ⟨(ad.add (st.pos * 3)).block, (ad.add (st.pos * 3)).off + 2, none⟩) hadb2).trans t2
              obtain ⟨⟨q0, q1, q2⟩, rB⟩ := res3 (HBW.out.trans (hb2.mono HBW.out.size)) hk2 (Nat.le_refl _) (.slice none 0 0) (.int .i64 t.pos) (.int .i64 6)
              have Q := Lib.hid (And.intro q0 (And.intro q1 (And.intro q2 rB)))
              clear q0 q1 q2 rB hk2 hb2 t0 t1 t2 HOP
              go_wp2
              obtain ⟨q0, q1, q2, rB⟩ := Q.out
              rw [HRR.out]
              exact bodyPost_ret (v := .agg #[.slice none 0 0, .int .i64 t.pos, .int .i64 6]) (by simp [results, Tryz.results9, go_sem, q0, q1, q2]) rfl ⟨_, rfl, IsTab.nil _ _, rB⟩
            | some op =>
              rw [hfd] at HOP
              have hop := (Tb.find_some hfd).1
              obtain ⟨bh, hbh⟩ : ∃ bh, st.had.getD op false = bh := ⟨_, rfl⟩
              have hgd : st.had[op]? = some bh := by
                rw [List.getD_eq_getElem?_getD] at hbh
                rw [List.getElem?_eq_getElem (by rw [HI.out.1.len.2]; exact hop)] at hbh ⊢
                rw [← hbh]; rfl
              have hz : opIx (some op) = (op : Int) := rfl
              rw [hz] at HOP
              clear hz
              have hadb2 : (ad.add (st.pos * 3)).block < wr.heap.size := by rw [add_block]; exact hadb
              cases bh
              · have hst : Tb.Stand l st := ⟨HI.out.2.1, HI.out.1.len.1, HI.out.1.len.2⟩
                have hk1' : (Tb.tok l st.pos).kind = 1 := by rw [HTOK.out]; exact hk1
                have hfd' : Tb.find (Tb.tok l st.pos).text = some op := by rw [HTOK.out]; exact hfd
                obtain ⟨r1, r2, r3⟩ := Tb.rowP_ref HFI.out HMK.out hst hk1' hfd' hbh
                have hnext : st.pos + 1 < l.length := by
                  have hw := Tb.wordP_stand HFI.out hst
                  have ew : Tb.wordP l st = (⟨st.pos + 1, st.rows, st.had.set op true⟩, op, 0) := by
                    unfold Tb.wordP
                    rw [if_pos hk1', hfd']
                    dsimp only
                    rw [if_neg (by rw [hbh]; decide)]
                  rw [ew] at hw
                  exact hw.pos
                have hrs := Tb.rowP_stand HFI.out hst
                have hre := fun h => Tb.rowX_rowE HFI.out hnext h (op := op)
                have hoks := fun h => Tb.rowX_ok HFI.out hnext h
                have hrow := fun W (hb : Below wr.heap.size wr W) => rrow_any (c := c) (st.pos + 1) W (Row.up HRW.out hb) HFI.out.ends (Nat.le_trans HL2.out (by decide)) hnext
                unfold RowTold PVal at hrow
                obtain ⟨⟨i1, q1⟩, hq⟩ : ∃ q, rowQ l (st.pos + 1) 3 = q := ⟨_, rfl⟩
                rw [hq] at r1 r2 r3 hre hoks
                simp only [hq] at hrow
                dsimp only at r1 r2 r3 hre hoks
                obtain ⟨x, hx⟩ : ∃ x, Tb.rowX l (st.pos + 1) = x := ⟨_, rfl⟩
                have hxm : rowO l (st.pos + 1) 0 = x.m := by rw [← hx]; rfl
                have hxr : rowO l (st.pos + 1) 1 = x.r := by rw [← hx]; rfl
                have hxp : rowO l (st.pos + 1) 2 = x.p := by rw [← hx]; rfl
                simp only [hxm, hxr, hxp] at hrow
                rw [hx] at r2 r3 hre hoks
                have HNX := Lib.hid hnext
                have HR1 := Lib.hid r1
                have HR2 := Lib.hid r2
                have HR3 := Lib.hid r3
                have HRS := Lib.hid hrs
                have HRE := Lib.hid hre
                have HOK := Lib.hid hoks
                have HGD := Lib.hid hgd
                have HKK0 : Hid (¬ t.kind = 0) := hk0
                subst hA
                have HROW := Lib.hid hrow
                clear hrow hst hk1' hfd' r1 r2 r3 hnext hrs hre hoks hfd hbh hgd hk0 hq hx hxm hxr hxp
                go_wp2_with (fail)
                refine HOP.out.mono ?_
                rintro e w2 ⟨rfl, hb2⟩
                obtain ⟨cs, e1, e2, e3⟩ := (HI.out.1.call hb2).d
                have ec : w2.cell? ⟨gd, op, none⟩ = some (.bool false) := (e1.cell op).trans (e3 op false HGD.out)
                have HB2 := Lib.hid hb2
                have HR2' := Lib.hid (HROW.out w2 hb2)
                have hop0 : ¬ ((op : Int) < 0) := by omega
                have hop13 : (op : Int) < 13 := by omega
                have hps2 : st.pos ≤ 1000000 := by have := HNX.out; have := HL2.out; omega
                clear hb2 t0 t1 t2 HOP e1 e2 e3 z0 z1 z2 y0 y1 y2
                go_wp2_with (fail)
                refine HR2'.out.mono ?_
                rintro e w3 ⟨B0, m0, d0, B1, m1, d1, B2, m2, d2, rfl, hgot, hb3⟩
                dsimp only
                obtain ⟨W4, hW4⟩ : ∃ W4, w3.alloc (.cells #[.int .i64 (i1 : Int), .slice B0 m0 d0, .slice B1 m1 d1, .slice B2 m2 d2, .int .i64 (q1 : Int)] 60) = W4 := ⟨_, rfl⟩
                have hk4 : Blk W4 w3.heap.size 60 #[.int .i64 (i1 : Int), .slice B0 m0 d0, .slice B1 m1 d1, .slice B2 m2 d2, .int .i64 (q1 : Int)] := hW4 ▸ Blk.new _ _ _
                have hb34 : Below w3.heap.size w3 W4 := hW4 ▸ (Below.refl _ w3).alloc (Nat.le_refl _) _
                have hb3' : Below wr.heap.size wr w3 := HB2.out.trans (hb3.mono HB2.out.size)
                have hb4 : Below wr.heap.size wr W4 := hb3'.trans (hb34.mono hb3'.size)
                have hgot4 := fun h => And.intro ((hgot h).1.call hb34) (And.intro ((hgot h).2.1.call hb34) ((hgot h).2.2.call hb34))
                have HS23 := Lib.hid hb3.size
                have HB4 := Lib.hid hb4
                have HK4 := Lib.hid hk4
                have HGOT := Lib.hid hgot4
                have hx0 := hk4.cell 0
                have hx1 := hk4.cell 1
                have hx2 := hk4.cell 2
                have hx3 := hk4.cell 3
                have hx4 := hk4.cell 4
                clear hgot hgot4 hb3 hb34 hb3' hb4 hk4 ec HR2'
                go_upto_region 20 with (fail)
                clear hW4
                by_cases z3 : q1 = 0
                · subst z3
                  obtain ⟨g0, g1, g2⟩ := HGOT.out rfl
                  have hokx := HOK.out rfl
                  have hft : Fits x := Fits.of_ok hokx
                  have hro := rRow_any hop W4 g0.1 g1.1 g2.1 hft
                  rw [HRE.out rfl] at hro
                  have HG0 := Lib.hid g0
                  have HG1 := Lib.hid g1
                  have HG2 := Lib.hid g2
                  have HRO := Lib.hid hro
                  clear g0 g1 g2 hokx hft hro HGOT HOK HRE
                  go_wp2_with (fail)
                  refine HRO.out.mono ?_
                  rintro e w5 ⟨rfl, hb5⟩
                  have HB5 := Lib.hid (HB4.out.trans (hb5.mono HB4.out.size))
                  have hk5 := HK4.out.below hb5 HK4.out.lt
                  have H5 := Lib.hid hb5
                  clear hb5 hx0 hx1 hx2 hx3 hx4 HRO
                  have htb := HI.out.1.call HB5.out
                  obtain ⟨cs, cq1, cq2, -⟩ := htb.q
                  obtain ⟨ds, cd1, cd2, -⟩ := htb.d
                  have hqd : gq ≠ gd := htb.lo.2.2.2.2.2
                  obtain ⟨c0, hc0⟩ : ∃ u, cs[op * 3]? = some u := ⟨_, Array.getElem?_eq_getElem (by omega)⟩
                  obtain ⟨c1, hc1⟩ : ∃ u, cs[op * 3 + 1]? = some u := ⟨_, Array.getElem?_eq_getElem (by omega)⟩
                  obtain ⟨c2, hc2⟩ : ∃ u, cs[op * 3 + 2]? = some u := ⟨_, Array.getElem?_eq_getElem (by omega)⟩
                  obtain ⟨c3, hc3⟩ : ∃ u, ds[op]? = some u := ⟨_, Array.getElem?_eq_getElem (by omega)⟩
                  have u0 := (cq1.cell (op * 3)).trans hc0
                  have u1 := (cq1.cell (op * 3 + 1)).trans hc1
                  have u2 := (cq1.cell (op * 3 + 2)).trans hc2
                  have u3 := (cd1.cell op).trans hc3
                  have f0 := cq1.frozen (op * 3)
                  have f1 := cq1.frozen (op * 3 + 1)
                  have f2 := cq1.frozen (op * 3 + 2)
                  have f3 := cd1.frozen op
                  have v0 := hk5.cell 0
                  have v1 := hk5.cell 1
                  have v2 := hk5.cell 2
                  have v3 := hk5.cell 3
                  have HTB := Lib.hid htb
                  have HK5 := Lib.hid hk5
                  clear htb cq1 cq2 cd1 cd2 hc0 hc1 hc2 hc3 hk5
                  by_cases zl : Tb.labE op x = 0
                  · rw [zl]
                    have HZL := Lib.hid zl
                    have hq3 := HR3.out trivial zl
                    have HQ3 := Lib.hid hq3
                    obtain ⟨m', hm', htp⟩ := tableP_row (by rw [HTOK.out]; exact HKK0.out) HI.out.2.1 HI.out.2.2.1 (by rw [hq3])
                    rw [hq3] at htp
                    have hnx := htp.symm.trans HI.out.2.2.2
                    have hpos : i1 < l.length := by have := HRS.out.pos; rw [hq3] at this; exact this
                    have hrise : st.pos < i1 := by
                      obtain ⟨_, _, pos, -, -, -, hp, hlt⟩ := Tb.rowP_ok HFI.out (⟨HI.out.2.1, HI.out.1.len.1, HI.out.1.len.2⟩ : Tb.Stand l st) (by rw [hq3])
                      rw [hq3] at hp
                      injection hp with hp
                      omega
                    have hlo : hS ≤ w2.heap.size := Nat.le_trans HI.out.1.lo.2.2.2.2.1 HB2.out.size
                    clear zl hq3 htp
                    go_upto_region 26 with (fail)
                    obtain ⟨W6, hW6⟩ : ∃ W6, (((w5.setCell ⟨gq, op * 3, none⟩ (.slice B0 m0 d0)).setCell ⟨gq, op * 3 + 1, none⟩ (.slice B1 m1 d1)).setCell ⟨gq, op * 3 + 2, none⟩ (.slice B2 m2 d2)).setCell ⟨gd, op, none⟩ (.bool true) = W6 := ⟨_, rfl⟩
                    have hin := HTB.out.put hop ((HG0.out.call H5.out).less hlo) ((HG1.out.call H5.out).less hlo) ((HG2.out.call H5.out).less hlo)
                    have hqs : gq < w3.heap.size := by have := HI.out.1.lo.2.2.1; have := HS23.out; omega
                    have hds : gd < w3.heap.size := by have := HI.out.1.lo.2.2.2.1; have := HS23.out; omega
                    have hk6 : Blk W6 w3.heap.size 60 #[.int .i64 (i1 : Int), .slice B0 m0 d0, .slice B1 m1 d1, .slice B2 m2 d2, .int .i64 0] := hW6 ▸ (((HK5.out.other (p := ⟨gq, op * 3, none⟩) (by show gq ≠ _; omega) _).other (p := ⟨gq, op * 3 + 1, none⟩) (by show gq ≠ _; omega) _).other (p := ⟨gq, op * 3 + 2, none⟩) (by show gq ≠ _; omega) _).other (p := ⟨gd, op, none⟩) (by show gd ≠ _; omega) _
                    rw [hW6] at hin ⊢
                    have HNEW := Lib.hid (And.intro hin (And.intro hpos (And.intro (show l.length ≤ m' + i1 by have := HI.out.2.2.1; omega) hnx)))
                    have r0 : W6.cell? ⟨w3.heap.size, 0, none⟩ = some (.int .i64 (i1 : Int)) := hk6.cell 0
                    clear hW6 hin hk6 hnx u0 u1 u2 u3 f0 f1 f2 f3 v0 v1 v2 v3 hqs hds
                    go_wp2
                    refine ⟨⟨.int .i64 (i1 : Int), _, _, _, _, _, _, _, _, _, _, _, _, _, _, _, _, _, _, _, _, _, _, _, _, _, _, _, _, _, _, _, _, _, _, _, _, _, _, _, _, _, _, _, _, _, _, _, _, _, _, _, _, _, _, _, _, _, _, _, _, _, _, _, _, _, _, _, _, _, _, _, _, _, _, _, _, _, ⟨⟨i1, st.rows.set op x, st.had.set op true⟩, m', rfl, HNEW⟩, rfl⟩, ?_⟩
                    simp [intOf]; omega
                  · have hq1 : ((Tb.labE op x : Int) == 0) = false := by rw [beq_eq_false_iff_ne]; omega
                    have hq2 : ((Tb.labE op x : Int) != 0) = true := by rw [bne_iff_ne]; omega
                    obtain ⟨p1, p2⟩ := HR2.out trivial zl
                    have hend := (tableP_err (by rw [HTOK.out]; exact HKK0.out) HI.out.2.1 HI.out.2.2.1 (by rw [p1]; decide)).symm.trans HI.out.2.2.2
                    have he2 : ef = 7 := by rw [← p1, hend]
                    have he1 : sf.pos = st.pos := by rw [← p2, hend]
                    have hrr : res = ([], t.pos, 7) := by rw [HRES.out, he2, if_neg (by decide), he1, HTOK.out]
                    obtain ⟨ad', t', hA', hadb', htk', -, -, t2'⟩ := trow_at (Row.up HRW.out HB5.out) HI.out.2.1
                    injection hA' with hA'
                    subst hA'
                    have htok' : t' = t := by have := HTOK.out; unfold Tb.tok at this; rw [List.getD_eq_getElem?_getD, htk'] at this; exact this
                    rw [htok'] at t2'
                    have HRR := Lib.hid hrr
                    have hk6 := HKW.out.below HB5.out HKW.out.lt
                    obtain ⟨⟨z0, z1, z2⟩, y0, y1, y2⟩ := blk3_facts hk6
                    obtain ⟨⟨g0, g1, g2⟩, rB⟩ := res3 (HBW.out.trans (HB5.out.mono HBW.out.size)) hk6 (Nat.le_refl _) (.slice none 0 0) (.int .i64 t.pos) (.int .i64 7)
                    have Q := Lib.hid (And.intro g0 (And.intro g1 (And.intro g2 rB)))
                    clear p1 p2 hend he1 he2 hrr htk' htok' hk6 g0 g1 g2 rB zl u0 u1 u2 u3 f0 f1 f2 f3
                    generalize Tb.labE op x = le at *
                    generalize l.length = n at *
                    go_wp2
                    obtain ⟨k0, k1, k2, rB⟩ := Q.out
                    rw [HRR.out]
                    exact bodyPost_ret (v := .agg #[.slice none 0 0, .int .i64 t.pos, .int .i64 7]) (by simp [results, Tryz.results9, go_sem, k0, k1, k2]) rfl ⟨_, rfl, IsTab.nil _ _, rB⟩
                · have hq1 : ((q1 : Int) == 0) = false := by rw [beq_eq_false_iff_ne]; omega
                  have hq2 : ((q1 : Int) != 0) = true := by rw [bne_iff_ne]; omega
                  obtain ⟨p1, p2⟩ := HR1.out z3
                  have hend := (tableP_err (by rw [HTOK.out]; exact HKK0.out) HI.out.2.1 HI.out.2.2.1 (by rw [p1]; exact z3)).symm.trans HI.out.2.2.2
                  have he2 : ef = q1 := by rw [← p1, hend]
                  have he1 : sf.pos = i1 := by rw [← p2, hend]
                  have hi1 : i1 < l.length := by rw [← p2]; exact HRS.out.pos
                  have hrr : res = ([], (Tb.tok l i1).pos, q1) := by rw [HRES.out, he2, if_neg z3, he1]
                  obtain ⟨ad', t', hA', hadb', htk', -, -, t2'⟩ := trow_at (Row.up HRW.out HB4.out) hi1
                  injection hA' with hA'
                  subst hA'
                  have htok' : Tb.tok l i1 = t' := by unfold Tb.tok; rw [List.getD_eq_getElem?_getD, htk']; rfl
                  rw [htok'] at hrr
                  have HRR := Lib.hid hrr
                  have hk5 := HKW.out.below HB4.out HKW.out.lt
                  obtain ⟨⟨z0, z1, z2⟩, y0, y1, y2⟩ := blk3_facts hk5
                  obtain ⟨⟨g0, g1, g2⟩, rB⟩ := res3 (HBW.out.trans (HB4.out.mono HBW.out.size)) hk5 (Nat.le_refl _) (.slice none 0 0) (.int .i64 t'.pos) (.int .i64 (q1 : Int))
                  have Q := Lib.hid (And.intro (cell_drewn g0) (And.intro (cell_drewn g1) (And.intro (cell_drewn g2) rB.drew)))
                  have hlt1 : i1 ≤ 1000000 := by have := HL2.out; omega
                  clear p1 p2 hend he1 he2 hrr htk' htok' hk5 g0 g1 g2 rB z3
                  generalize l.length = n at *
                  go_wp2
                  refine Free.region_seq [9] [2, 5, 7] 9 (fun W' => W'.cell? ⟨w3.heap.size, 0, none⟩ = some (.int .i64 (i1 : Int)) ∧ W'.cell? ⟨(ad.add (i1 * 3)).block, (ad.add (i1 * 3)).off + 2, none⟩ = some (.int .i64 t'.pos) ∧ W'.cell? ⟨w3.heap.size, 4, none⟩ = some (.int .i64 (q1 : Int))) (by kernel_rfl) (by kernel_rfl) (by kernel_rfl) (by kernel_rfl) (⟨hx0, t2', hx4⟩) (fun ops hops => ?_)
                  clear hops
                  iterate 9
                    refine Free.Seq.quiet (v := ?_) (a' := ?_) rfl rfl (fun W' hW' => ?_) ?_ ?_
                    rotate_left 2
                    · first | obtain ⟨s0, s1, s2⟩ := hW' rfl | skip
                      go_simp
                      try with_reducible rfl
                    · simp only [Act.put, List.setIfInBounds_toArray, List.set_cons_zero, List.set_cons_succ]
                      try with_reducible rfl
                  refine Free.Seq.loud_ rfl (.inl rfl) (fun K hK => ?_)
                  go_simp
                  refine hK.out _ _ rfl (fun h => absurd h (by decide)) ?_
                  clear hK K
                  refine Free.Seq.nil_ ?_
                  go_wp2
                  obtain ⟨k0, k1, k2, rB⟩ := Q.out
                  rw [HRR.out]
                  exact bodyPost_ret (v := .agg #[.slice none 0 0, .int .i64 t'.pos, .int .i64 (q1 : Int)]) (by simp [results, Tryz.results9, go_sem, k0, k1, k2]) rfl ⟨_, rfl, IsTab.nil _ _, rB⟩
              · have hq : Tb.rowP l st = (st, 6) := by
                  have hw : Tb.wordP l st = (st, 0, 6) := by unfold Tb.wordP; rw [if_pos (by rw [HTOK.out]; exact hk1), HTOK.out, hfd]; dsimp only; rw [if_pos hbh]
                  rw [rowP_word (by rw [hw]; exact (by decide : (6 : Nat) ≠ 0)), hw]
                have hend := (tableP_err (by rw [HTOK.out]; exact hk0) HI.out.2.1 HI.out.2.2.1 (by rw [hq]; exact (by decide : (6 : Nat) ≠ 0))).symm.trans HI.out.2.2.2
                rw [hq] at hend
                injection hend with hend1 hend2
                have hrr : res = ([], t.pos, 6) := by rw [HRES.out, ← hend2, if_neg (by decide), ← hend1, HTOK.out]
                have HRR := Lib.hid hrr
                have HGD := Lib.hid hgd
                clear hend1 hend2 hq hrr hk0 hfd hbh hgd
                subst hA
                generalize l.length = n at *
                go_wp2_with (fail)
                refine HOP.out.mono ?_
                rintro e w2 ⟨rfl, hb2⟩
                have hk2 := HKW.out.below hb2 HKW.out.lt
                obtain ⟨⟨z0, z1, z2⟩, y0, y1, y2⟩ := blk3_facts hk2
                obtain ⟨cs, e1, e2, e3⟩ := (HI.out.1.call hb2).d
                have ec : w2.cell? ⟨gd, op, none⟩ = some (.bool true) := (e1.cell op).trans (e3 op true HGD.out)
                have u0 := (hb2.cell hadb2).trans t0
                have u2 := (hb2.cell (p := ⟨(ad.add (st.pos * 3)).block, (ad.add (st.pos * 3)).off + 2, none⟩) hadb2).trans t2
                obtain ⟨⟨q0, q1, q2⟩, rB⟩ := res3 (HBW.out.trans (hb2.mono HBW.out.size)) hk2 (Nat.le_refl _) (.slice none 0 0) (.int .i64 t.pos) (.int .i64 6)
                have Q := Lib.hid (And.intro q0 (And.intro q1 (And.intro q2 rB)))
                have hop0 : ¬ ((op : Int) < 0) := by omega
                have hop13 : (op : Int) < 13 := by omega
                clear q0 q1 q2 rB hk2 hb2 t0 t1 t2 HOP e1 e2 e3
                go_wp2
                obtain ⟨q0, q1, q2, rB⟩ := Q.out
                rw [HRR.out]
                exact bodyPost_ret (v := .agg #[.slice none 0 0, .int .i64 t.pos, .int .i64 6]) (by simp [results, Tryz.results9, go_sem, q0, q1, q2]) rfl ⟨_, rfl, IsTab.nil _ _, rB⟩
          · have h0 : (t.kind != 0) = true := by rw [bne_iff_ne]; exact hk0
            have h1 : (t.kind != 1) = true := by rw [bne_iff_ne]; exact hk1
            have hq : Tb.rowP l st = (st, 4) := by
              have hw : Tb.wordP l st = (st, 0, 4) := by unfold Tb.wordP; rw [if_neg (by rw [HTOK.out]; exact hk1)]
              rw [rowP_word (by rw [hw]; exact (by decide : (4 : Nat) ≠ 0)), hw]
            have hend := (tableP_err (by rw [HTOK.out]; exact hk0) HI.out.2.1 HI.out.2.2.1 (by rw [hq]; exact (by decide : (4 : Nat) ≠ 0))).symm.trans HI.out.2.2.2
            rw [hq] at hend
            injection hend with hend1 hend2
            have hrr : res = ([], t.pos, 4) := by rw [HRES.out, ← hend2, if_neg (by decide), ← hend1, HTOK.out]
            obtain ⟨⟨q0, q1, q2⟩, rB⟩ := res3 HBW.out HKW.out (Nat.le_refl _) (.slice none 0 0) (.int .i64 t.pos) (.int .i64 4)
            have Q := Lib.hid (And.intro q0 (And.intro q1 (And.intro q2 rB)))
            have HRR := Lib.hid hrr
            clear q0 q1 q2 rB hend1 hend2 hq hrr hk0 hk1
            subst hA
            generalize l.length = n at *
            go_wp2
            obtain ⟨q0, q1, q2, rB⟩ := Q.out
            rw [HRR.out]
            exact bodyPost_ret (v := .agg #[.slice none 0 0, .int .i64 t.pos, .int .i64 4]) (by simp [results, Tryz.results9, go_sem, q0, q1, q2]) rfl ⟨_, rfl, IsTab.nil _ _, rB⟩
end Go.Proofs.YtggcmkpafpjnoaaGreatDoor
