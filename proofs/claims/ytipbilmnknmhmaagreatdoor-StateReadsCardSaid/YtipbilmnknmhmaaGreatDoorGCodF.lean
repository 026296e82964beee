/- The reference's From (by gen_codf.py). -/
import Derived.Deep.RegionHeld3
import Derived.Test.YtipbilmnknmhmaaGreatDoorGCodE
import Derived.Test.YtipbilmnknmhmaaGreatDoorGNotG
namespace Go.Proofs.YtipbilmnknmhmaaGreatDoor
set_option maxRecDepth 100000
open Go.RowKit Go.Shelf Go.Sort
attribute [local go_sem] Oper.semAt_some

theorem below6v {B : Nat} {a W : World} {g : Nat} (h : Below B a W) (hg : B ≤ g) (v0 v1 v2 v3 v4 v5 : Value) : Below B a ((((((W.setCell ⟨g, 0, none⟩ v0).setCell ⟨g, 1, none⟩ v1).setCell ⟨g, 2, none⟩ v2).setCell ⟨g, 3, none⟩ v3).setCell ⟨g, 4, none⟩ v4).setCell ⟨g, 5, none⟩ v5) :=
  (((((h.setCell (p := ⟨g, 0, none⟩) hg _).setCell (p := ⟨g, 1, none⟩) hg _).setCell (p := ⟨g, 2, none⟩) hg _).setCell (p := ⟨g, 3, none⟩) hg _).setCell (p := ⟨g, 4, none⟩) hg _).setCell (p := ⟨g, 5, none⟩) hg _
theorem own_lies8 {W : World} {v : Value} {B sz n : Nat} {e : TypeId} {xs : List Value} (h : W.ownsRow B e sz v n xs) : ∀ k, v.ownBlock = some k → B ≤ k := fun k hk => by
  rcases h.2 with ⟨hv, _⟩ | ⟨g1, c1, cur1, hv, hb, _⟩
  · rw [hv] at hk; cases hk
  · rw [hv] at hk
    injection hk with hk
    exact hk ▸ hb
def lenOf : Value → Nat
  | .slice _ n _ => n
  | _ => 0
/-- What From answers. -/
def RFRes (w : World) (r : List Cd.In × Nat × Nat) (e : Ending) (w' : World) : Prop :=
  ∃ x, e = .returned (.agg #[x, .int .i64 (r.2.1 : Nat), .int .i64 (r.2.2 : Nat)]) ∧ KN ivs w.heap.size w' x r.1 ∧ Below w.heap.size w w'
set_option maxHeartbeats 16000000 in
theorem rFrom8_any {v : Value} {names : List ByteArray} {up : List Nat} {A : Option Addr} {l : List Lx.Tk} (c i0 : Nat) (w : World) (hla : IsLat w w.heap.size v names up) (h : Row w w.heap.size A (tcells l)) (hf : Tb.Fine l) (hp : i0 < l.length) (hl : l.length ≤ 100000) :
    Calls Tryz.prog 90 #[v, .slice A l.length c, .int .i64 (i0 : Int)] w (RFRes w (Cd.fromP names up.length l 13 [] i0)) := by
  obtain ⟨⟨N, U, c1, c2, rfl, hN, hU⟩, hsh, hfew, hcaps⟩ := id hla
  obtain ⟨r, hr⟩ : ∃ r, Cd.fromP names up.length l 13 [] i0 = r := ⟨_, rfl⟩
  rw [hr]
  have hst := FrIn.start w #[.slice N names.length c1, .slice U up.length c2]
  have HLA := Lib.hid hla
  have H := Lib.hid h
  have HF := Lib.hid hf
  have HLN : Hid (l.length ≤ 100000) := Lib.hid hl
  have HR := Lib.hid hr
  have HP : Hid (i0 < l.length) := Lib.hid hp
  have HST := Lib.hid hst
  obtain ⟨ln, hln⟩ : ∃ ln, l.length = ln := ⟨_, rfl⟩
  have HLE := Lib.hid hln
  rw [hln] at hl ⊢
  clear hla h hf hp hN hU hsh hfew hcaps hln hst hr
  go_enter Tryz.func90, Tryz.ntmps90
  go_wp2
  go_loopw [2, 7] (fun p v wr => ∃ (i : Nat) (out : List Cd.In) (n : Nat), p = .int .i64 i ∧ Hid (FrIn w #[.slice N names.length c1, .slice U up.length c2] out v wr ∧ i < l.length ∧ n + out.length = 13 ∧ out.length ≤ 12 ∧ Cd.fromP names up.length l n out i = r)) (fun _ v _ => 13 - lenOf v)
  case atStart => exact ⟨i0, [], 13, rfl, Lib.hid ⟨HST.out, HP.out, rfl, by decide, HR.out⟩⟩
  case round =>
    obtain ⟨i, out, n, rfl, HI⟩ := hrel
    obtain ⟨A1, cap, rfl⟩ := ownT_slice HI.out.1.own
    have hbw := HI.out.1.below
    obtain ⟨n', rfl⟩ : ∃ n', n = n' + 1 := ⟨n - 1, by have := HI.out.2.2.1; have := HI.out.2.2.2.1; omega⟩
    have hi1 := HI.out.2.1
    obtain ⟨ad, tk, rfl, hb, ht, t0, t1, t2⟩ := trow_at ((H.out.below hbw).more hbw.size) hi1
    have e2 := Tb.tok_some hi1
    rw [ht] at e2
    injection e2 with e2
    have hz := hbw.size
    have hblk : (ad.add (i * 3)).block < wr.heap.size := by rw [add_block]; exact hb
    have hrr := HI.out.2.2.2.2
    unfold Cd.fromP at hrr
    have hopa : Cd.opAt l i = if tk.kind = 1 then Tb.find tk.text else none := by unfold Cd.opAt; rw [← e2]
    have hlt : i < ln := by rw [← HLE.out]; exact hi1
    have hib : i < 100000 := by omega
    obtain ⟨kd, tx, ps⟩ := tk
    dsimp only at t0 t1 t2 hopa
    have hol := HI.out.2.2.2.1
    clear ht e2 hb hbw hz t2
    by_cases hk : kd = 1
    · subst hk
      rw [if_pos rfl] at hopa
      have HOP := Lib.hid (fun W => rOp_any tx W)
      cases hfd : Tb.find tx with
      | none =>
        rw [hfd] at hopa HOP
        rw [hopa] at hrr
        have HRR := Lib.hid hrr.symm
        have HOP : Hid (∀ W, Calls Tryz.prog 119 #[.string tx] W fun e w' => e = .returned (.int .i64 (-1)) ∧ Below W.heap.size W w') := HOP
        clear hopa hrr hfd
        go_wp2_with (fail)
        refine (HOP.out _).mono ?_
        rintro e w1 ⟨rfl, hb1⟩
        have h1 := HI.out.1.keep hb1
        have H1 := Lib.hid h1
        clear hb1 h1 t0 t1 HOP
        have hrz : r = (out, i, 0) := HRR.out
        have HRZ := Lib.hid hrz
        obtain ⟨Wz, hWz⟩ : ∃ Wz, (((w1.setCell ⟨w.heap.size + 1, 0, none⟩ (.slice A1 out.length cap)).setCell ⟨w.heap.size + 1, 1, none⟩ (.int .i64 (i : Int))).setCell ⟨w.heap.size + 1, 2, none⟩ (.int .i64 0)) = Wz := ⟨_, rfl⟩
        have hz : Blk Wz (w.heap.size + 1) 134 #[.slice A1 out.length cap, .int .i64 (i : Int), .int .i64 0] := hWz ▸ (((H1.out.res.set_ 0 _).set_ 1 _).set_ 2 _)
        have hbz : Below w.heap.size w Wz := hWz ▸ (((H1.out.below.setCell (p := ⟨w.heap.size + 1, 0, none⟩) (Nat.le_succ _) _).setCell (p := ⟨w.heap.size + 1, 1, none⟩) (Nat.le_succ _) _).setCell (p := ⟨w.heap.size + 1, 2, none⟩) (Nat.le_succ _) _)
        have hiz : KN ivs w.heap.size Wz (.slice A1 out.length cap) out := hWz ▸ KN.less (B := w.heap.size + 2) (KN.own (f := ivs) (ownsRow_setCell_below (ownsRow_setCell_below (ownsRow_setCell_below H1.out.own (by show w.heap.size + 1 < _; omega) _) (by show w.heap.size + 1 < _; omega) _) (by show w.heap.size + 1 < _; omega) _)) (Nat.le_add_right _ _)
        have z0 : w1.cell? ⟨w.heap.size + 1, 0, none⟩ = some (.slice none 0 0) := H1.out.res.cell 0
        have z1 : w1.cell? ⟨w.heap.size + 1, 1, none⟩ = some (.int .i64 0) := H1.out.res.cell 1
        have z2 : w1.cell? ⟨w.heap.size + 1, 2, none⟩ = some (.int .i64 0) := H1.out.res.cell 2
        have k0 : w1.frozen? ⟨w.heap.size + 1, 0, none⟩ = false := H1.out.res.frozen 0
        have k1 : w1.frozen? ⟨w.heap.size + 1, 1, none⟩ = false := H1.out.res.frozen 1
        have k2 : w1.frozen? ⟨w.heap.size + 1, 2, none⟩ = false := H1.out.res.frozen 2
        have q0 : Wz.cell? ⟨w.heap.size + 1, 0, none⟩ = some (.slice A1 out.length cap) := hz.cell 0
        have q1 : Wz.cell? ⟨w.heap.size + 1, 1, none⟩ = some (.int .i64 (i : Int)) := hz.cell 1
        have q2 : Wz.cell? ⟨w.heap.size + 1, 2, none⟩ = some (.int .i64 0) := hz.cell 2
        have HBZ := Lib.hid hbz
        have HIZ := Lib.hid hiz
        clear hz hbz hiz hrz
        go_wp2
        exact bodyPost_ret (v := .agg #[.slice A1 out.length cap, .int .i64 (i : Int), .int .i64 0]) (by simp [results, Tryz.results90, go_sem, q0, q1, q2]) rfl ⟨_, (by rw [HRZ.out]; try rfl), by rw [HRZ.out]; exact HIZ.out, HBZ.out⟩
      | some op =>
        have ho13 : op < 13 := (Tb.find_some hfd).1
        rw [hfd] at hopa HOP
        rw [hopa] at hrr
        dsimp only at hrr
        have HOP : Hid (∀ W, Calls Tryz.prog 119 #[.string tx] W fun e w' => e = .returned (.int .i64 (op : Int)) ∧ Below W.heap.size W w') := HOP
        have hop0 : (0 : Int) ≤ (op : Int) := by omega
        by_cases h12 : out.length = 12
        · rw [if_pos h12] at hrr
          have HRR := Lib.hid hrr.symm
          have he12 : ((out.length : Int) == 12) = true := by rw [beq_iff_eq]; omega
          clear hopa hrr hfd
          go_wp2_with (fail)
          refine (HOP.out _).mono ?_
          rintro e w1 ⟨rfl, hb1⟩
          have h1 := HI.out.1.keep hb1
          have H1 := Lib.hid h1
          clear hb1 h1 t0 t1 HOP
          have hrz : r = ([], i, 8) := HRR.out
          have HRZ := Lib.hid hrz
          obtain ⟨Wz, hWz⟩ : ∃ Wz, (((w1.setCell ⟨w.heap.size + 1, 0, none⟩ (.slice none 0 0)).setCell ⟨w.heap.size + 1, 1, none⟩ (.int .i64 (i : Int))).setCell ⟨w.heap.size + 1, 2, none⟩ (.int .i64 8)) = Wz := ⟨_, rfl⟩
          have hz : Blk Wz (w.heap.size + 1) 134 #[.slice none 0 0, .int .i64 (i : Int), .int .i64 8] := hWz ▸ (((H1.out.res.set_ 0 _).set_ 1 _).set_ 2 _)
          have hbz : Below w.heap.size w Wz := hWz ▸ (((H1.out.below.setCell (p := ⟨w.heap.size + 1, 0, none⟩) (Nat.le_succ _) _).setCell (p := ⟨w.heap.size + 1, 1, none⟩) (Nat.le_succ _) _).setCell (p := ⟨w.heap.size + 1, 2, none⟩) (Nat.le_succ _) _)
          have hiz : KN ivs w.heap.size Wz (.slice none 0 0) [] := KN.nil _ _ _
          have z0 : w1.cell? ⟨w.heap.size + 1, 0, none⟩ = some (.slice none 0 0) := H1.out.res.cell 0
          have z1 : w1.cell? ⟨w.heap.size + 1, 1, none⟩ = some (.int .i64 0) := H1.out.res.cell 1
          have z2 : w1.cell? ⟨w.heap.size + 1, 2, none⟩ = some (.int .i64 0) := H1.out.res.cell 2
          have k0 : w1.frozen? ⟨w.heap.size + 1, 0, none⟩ = false := H1.out.res.frozen 0
          have k1 : w1.frozen? ⟨w.heap.size + 1, 1, none⟩ = false := H1.out.res.frozen 1
          have k2 : w1.frozen? ⟨w.heap.size + 1, 2, none⟩ = false := H1.out.res.frozen 2
          have q0 : Wz.cell? ⟨w.heap.size + 1, 0, none⟩ = some (.slice none 0 0) := hz.cell 0
          have q1 : Wz.cell? ⟨w.heap.size + 1, 1, none⟩ = some (.int .i64 (i : Int)) := hz.cell 1
          have q2 : Wz.cell? ⟨w.heap.size + 1, 2, none⟩ = some (.int .i64 8) := hz.cell 2
          have HBZ := Lib.hid hbz
          have HIZ := Lib.hid hiz
          clear hz hbz hiz hrz
          go_wp2
          exact bodyPost_ret (v := .agg #[.slice none 0 0, .int .i64 (i : Int), .int .i64 8]) (by simp [results, Tryz.results90, go_sem, q0, q1, q2]) rfl ⟨_, (by rw [HRZ.out]; try rfl), by rw [HRZ.out]; exact HIZ.out, HBZ.out⟩
        · rw [if_neg h12] at hrr
          have he12 : ((out.length : Int) == 12) = false := by rw [beq_eq_false_iff_ne]; omega
          obtain ⟨o1, o2, o3⟩ := rOne_one names up.length op l i
          rw [← o1, ← o2] at hrr
          rw [← o2] at o3
          have hi2 : i + 1 < l.length := Cd.kind_next HF.out hi1 (by have := Cd.opAt_kind hopa; rw [this.1]; decide)
          have hone := fun W (hb : Below wr.heap.size wr W) => rOne_any c i (op : Int) W ((HLA.out.below (HI.out.1.below.trans (hb.mono HI.out.1.below.size))).more (HI.out.1.below.trans (hb.mono HI.out.1.below.size)).size) ((H.out.below (HI.out.1.below.trans (hb.mono HI.out.1.below.size))).more (HI.out.1.below.trans (hb.mono HI.out.1.below.size)).size) HF.out hi2 HLN.out
          rw [HLE.out] at hone
          obtain ⟨q, hq⟩ : ∃ q, rOne names up.length op l i = q := ⟨_, rfl⟩
          rw [hq] at hrr o3 hone
          have hrr' : r = if q.e = 0 then Cd.fromP names up.length l n' (out ++ [q.x]) q.i else ([], q.i, q.e) := by
            rw [← hrr]
            by_cases h0 : q.e = 0
            · rw [if_pos h0, if_pos h0, o3 h0]
            · rw [if_neg h0, if_neg h0]
          have hqi : q.e = 0 → q.i < l.length := fun h0 => by
            rw [← hq, o1]
            exact Cd.oneP_lt HF.out names up.length op hi1 (Cd.opAt_kind hopa).1
          obtain ⟨qi, qn, ⟨qo, qxn, qxl⟩, qe⟩ := q
          unfold TellsP rpv at hone
          dsimp only at hrr' hone hqi
          have HRR := Lib.hid hrr'
          have HONE := Lib.hid hone
          have HQI := Lib.hid hqi
          have hd0 := HI.out.1.lat.cell 0
          have hd1 := HI.out.1.lat.cell 1
          have hlt8 := HI.out.1.lat.lt
          have HS : Hid (∀ W, Below wr.heap.size wr W → W.cell? ⟨w.heap.size, 0, none⟩ = some (.slice N names.length c1) ∧ W.cell? ⟨w.heap.size, 1, none⟩ = some (.slice U up.length c2) ∧ W.cell? ⟨(ad.add (i * 3)).block, (ad.add (i * 3)).off + 1, none⟩ = some (.string tx)) := Lib.hid fun W hb =>
            ⟨(hb.cell hlt8).trans hd0, (hb.cell hlt8).trans hd1, (hb.cell (p := ⟨(ad.add (i * 3)).block, (ad.add (i * 3)).off + 1, none⟩) hblk).trans t1⟩
          have HO12 := Lib.hid h12
          have HLV := Lib.hid HI.out.2.2.1
          clear hopa hrr hfd o1 o2 o3 hq hone hrr' hqi h12 hi2
          go_wp2_with (fail)
          refine (HOP.out _).mono ?_
          rintro e w1 ⟨rfl, hb1⟩
          have h1 := HI.out.1.keep hb1
          have H1 := Lib.hid h1
          have HS1 : Hid (∀ W, Below w1.heap.size w1 W → W.cell? ⟨w.heap.size, 0, none⟩ = some (.slice N names.length c1) ∧ W.cell? ⟨w.heap.size, 1, none⟩ = some (.slice U up.length c2) ∧ W.cell? ⟨(ad.add (i * 3)).block, (ad.add (i * 3)).off + 1, none⟩ = some (.string tx)) := Lib.hid fun W hb => HS.out W (hb1.trans (hb.mono hb1.size))
          have HONE1 := Lib.hid (fun W (hb : Below w1.heap.size w1 W) => HONE.out W (hb1.trans (hb.mono hb1.size)))
          have BR := Lib.hid (Below.refl w1.heap.size w1)
          have BD := Lib.hid ((Below.refl w1.heap.size w1).drew)
          have BDA := Lib.hid (((Below.refl w1.heap.size w1).alloc (Nat.le_refl _) (.cells #[.int .i64 0, .int .i64 0, .int .i64 0, .int .i64 0, .int .i64 0, .int .i64 0] 169)).drew)
          clear hb1 h1 HONE HS HI hd0 hd1 hlt8 t0 t1 hblk
          go_wp2
          go_region_held3 (fun W => W.cell? ⟨w.heap.size, 0, none⟩ = some (.slice N names.length c1) ∧ W.cell? ⟨w.heap.size, 1, none⟩ = some (.slice U up.length c2) ∧ W.cell? ⟨(ad.add (i * 3)).block, (ad.add (i * 3)).off + 1, none⟩ = some (.string tx))
            (first | (refine HS1.out _ ?_; first | with_reducible exact BR.out | with_reducible exact BD.out | with_reducible exact BDA.out | with_reducible exact hA | with_reducible exact hA.alloc hA.size _ | with_reducible exact hB | with_reducible exact hB.alloc hB.size _ | with_reducible exact below6v hB hA.size _ _ _ _ _ _ | with_reducible exact below6v hB (Nat.le_refl _) _ _ _ _ _ _))
            (first
              | (go_at_call 119; refine (HOP.out _).mono ?_; rintro e wa ⟨rfl, hba⟩; have hA : Below w1.heap.size w1 wa := (by first | with_reducible exact BD.out.trans (hba.mono BD.out.size) | with_reducible exact BDA.out.trans (hba.mono BDA.out.size)))
              | (go_at_call 120; refine (HONE1.out _ ?_).mono ?_; (first | with_reducible exact hA | with_reducible exact hA.alloc hA.size _); rintro e wb ⟨rfl, hbb⟩; have hB : Below w1.heap.size w1 wb := (by first | with_reducible exact hA.trans (hbb.mono hA.size) | with_reducible exact (hA.alloc hA.size _).trans (hbb.mono (hA.alloc hA.size _).size)); (first
                  | (have hG := ((Blk.new w1 169 #[.int .i64 0, .int .i64 0, .int .i64 0, .int .i64 0, .int .i64 0, .int .i64 0]).drew.below hba (Blk.new w1 169 #[.int .i64 0, .int .i64 0, .int .i64 0, .int .i64 0, .int .i64 0, .int .i64 0]).drew.lt).below hbb ((Blk.new w1 169 #[.int .i64 0, .int .i64 0, .int .i64 0, .int .i64 0, .int .i64 0, .int .i64 0]).drew.below hba (Blk.new w1 169 #[.int .i64 0, .int .i64 0, .int .i64 0, .int .i64 0, .int .i64 0, .int .i64 0]).drew.lt).lt; have x0 := hG.cell 0; have x1 := hG.cell 1; have x2 := hG.cell 2; have x3 := hG.cell 3; have x4 := hG.cell 4; have x5 := hG.cell 5; have f0 := hG.frozen 0; have f1 := hG.frozen 1; have f2 := hG.frozen 2; have f3 := hG.frozen 3; have f4 := hG.frozen 4; have f5 := hG.frozen 5)
                  | (have hG := (Blk.new wa 169 #[.int .i64 0, .int .i64 0, .int .i64 0, .int .i64 0, .int .i64 0, .int .i64 0]).below hbb (Blk.new wa 169 #[.int .i64 0, .int .i64 0, .int .i64 0, .int .i64 0, .int .i64 0, .int .i64 0]).lt; have x0 := hG.cell 0; have x1 := hG.cell 1; have x2 := hG.cell 2; have x3 := hG.cell 3; have x4 := hG.cell 4; have x5 := hG.cell 5; have f0 := hG.frozen 0; have f1 := hG.frozen 1; have f2 := hG.frozen 2; have f3 := hG.frozen 3; have f4 := hG.frozen 4; have f5 := hG.frozen 5)
                  | skip)))
          all_goals
            first
              | (obtain ⟨Wf, hWf⟩ : ∃ Wf, ((((((wb.setCell ⟨w1.heap.size, 0, none⟩ (.int .i64 (qi : Int))).setCell ⟨w1.heap.size, 1, none⟩ (.int .i64 qn)).setCell ⟨w1.heap.size, 2, none⟩ (.int .i64 qo)).setCell ⟨w1.heap.size, 3, none⟩ (.int .i64 qxn)).setCell ⟨w1.heap.size, 4, none⟩ (.int .i64 qxl)).setCell ⟨w1.heap.size, 5, none⟩ (.int .i64 (qe : Int))) = Wf := ⟨_, rfl⟩; rw [hWf]; have hbf := below6v hB (Nat.le_refl _) (.int .i64 (qi : Int)) (.int .i64 qn) (.int .i64 qo) (.int .i64 qxn) (.int .i64 qxl) (.int .i64 (qe : Int)); have hgf : Blk ((((((wb.setCell ⟨w1.heap.size, 0, none⟩ (.int .i64 (qi : Int))).setCell ⟨w1.heap.size, 1, none⟩ (.int .i64 qn)).setCell ⟨w1.heap.size, 2, none⟩ (.int .i64 qo)).setCell ⟨w1.heap.size, 3, none⟩ (.int .i64 qxn)).setCell ⟨w1.heap.size, 4, none⟩ (.int .i64 qxl)).setCell ⟨w1.heap.size, 5, none⟩ (.int .i64 (qe : Int))) w1.heap.size 169 #[.int .i64 (qi : Int), .int .i64 qn, .int .i64 qo, .int .i64 qxn, .int .i64 qxl, .int .i64 (qe : Int)] := (((((hG.set_ 0 _).set_ 1 _).set_ 2 _).set_ 3 _).set_ 4 _).set_ 5 _; rw [hWf] at hbf hgf; obtain ⟨g, hg⟩ : ∃ g, w1.heap.size = g := ⟨_, rfl⟩; have hgw : w1.heap.size ≤ g := Nat.le_of_eq hg; rw [hg] at hgf ⊢; clear hg hWf hG x0 x1 x2 x3 x4 x5 f0 f1 f2 f3 f4 f5 hba hbb hA hB)
              | (obtain ⟨Wf, hWf⟩ : ∃ Wf, ((((((wb.setCell ⟨wa.heap.size, 0, none⟩ (.int .i64 (qi : Int))).setCell ⟨wa.heap.size, 1, none⟩ (.int .i64 qn)).setCell ⟨wa.heap.size, 2, none⟩ (.int .i64 qo)).setCell ⟨wa.heap.size, 3, none⟩ (.int .i64 qxn)).setCell ⟨wa.heap.size, 4, none⟩ (.int .i64 qxl)).setCell ⟨wa.heap.size, 5, none⟩ (.int .i64 (qe : Int))) = Wf := ⟨_, rfl⟩; rw [hWf]; have hbf := below6v hB hA.size (.int .i64 (qi : Int)) (.int .i64 qn) (.int .i64 qo) (.int .i64 qxn) (.int .i64 qxl) (.int .i64 (qe : Int)); have hgf : Blk ((((((wb.setCell ⟨wa.heap.size, 0, none⟩ (.int .i64 (qi : Int))).setCell ⟨wa.heap.size, 1, none⟩ (.int .i64 qn)).setCell ⟨wa.heap.size, 2, none⟩ (.int .i64 qo)).setCell ⟨wa.heap.size, 3, none⟩ (.int .i64 qxn)).setCell ⟨wa.heap.size, 4, none⟩ (.int .i64 qxl)).setCell ⟨wa.heap.size, 5, none⟩ (.int .i64 (qe : Int))) wa.heap.size 169 #[.int .i64 (qi : Int), .int .i64 qn, .int .i64 qo, .int .i64 qxn, .int .i64 qxl, .int .i64 (qe : Int)] := (((((hG.set_ 0 _).set_ 1 _).set_ 2 _).set_ 3 _).set_ 4 _).set_ 5 _; rw [hWf] at hbf hgf; have hgw : w1.heap.size ≤ wa.heap.size := hA.size; obtain ⟨g, hg⟩ : ∃ g, wa.heap.size = g := ⟨_, rfl⟩; rw [hg] at hgf hgw ⊢; clear hg hWf hG x0 x1 x2 x3 x4 x5 f0 f1 f2 f3 f4 f5 hba hbb hA hB)
              | (obtain ⟨Wf, hWf⟩ : ∃ Wf, wb.alloc (.cells #[.int .i64 (qi : Int), .int .i64 qn, .int .i64 qo, .int .i64 qxn, .int .i64 qxl, .int .i64 (qe : Int)] 169) = Wf := ⟨_, rfl⟩; rw [hWf]; have hbf := hB.alloc hB.size (.cells #[.int .i64 (qi : Int), .int .i64 qn, .int .i64 qo, .int .i64 qxn, .int .i64 qxl, .int .i64 (qe : Int)] 169); have hgf := Blk.new wb 169 #[.int .i64 (qi : Int), .int .i64 qn, .int .i64 qo, .int .i64 qxn, .int .i64 qxl, .int .i64 (qe : Int)]; rw [hWf] at hbf hgf; have hgw : w1.heap.size ≤ wb.heap.size := hB.size; obtain ⟨g, hg⟩ : ∃ g, wb.heap.size = g := ⟨_, rfl⟩; rw [hg] at hgf hgw ⊢; clear hg hWf hba hbb hA hB)
          · have hff := H1.out.keep hbf
            have hno : some g ≠ (Value.slice A1 out.length cap).ownBlock := fun e => by
              have := (H1.out.own.lt g e.symm).2
              omega
            have HFF := Lib.hid hff
            have HGF := Lib.hid hgf
            have HNO := Lib.hid hno
            clear hbf hgw hff hno H1 BR BD BDA HS1 HONE1 HOP
            by_cases he : qe = 0
            · subst he
              have hrr := HRR.out
              rw [if_pos rfl] at hrr
              have HNX := Lib.hid hrr.symm
              have y0 : Wf.cell? ⟨g, 0, none⟩ = some (.int .i64 (qi : Int)) := HGF.out.cell 0
              have y2 : Wf.cell? ⟨g, 2, none⟩ = some (.int .i64 qo) := HGF.out.cell 2
              have y3 : Wf.cell? ⟨g, 3, none⟩ = some (.int .i64 qxn) := HGF.out.cell 3
              have y4 : Wf.cell? ⟨g, 4, none⟩ = some (.int .i64 qxl) := HGF.out.cell 4
              have y5 : Wf.cell? ⟨g, 5, none⟩ = some (.int .i64 0) := HGF.out.cell 5
              have hown := HFF.out.own
              have hzf := HFF.out.res.lt
              obtain ⟨io, hio, iz0, iz1, iz2⟩ := info_parts Tryz.infoInstr
              clear hrr HRR hgf
              go_wp2_with (at_builtin; refine wpList_append_own _ rfl _ _ 26 rfl (w.heap.size + 2) 57 io (.agg #[.int .i64 0, .int .i64 0, .int .i64 0]) 3 24 Tryz.underlying26 hio iz0 iz1 iz2 rfl (by decide) _ _ _ rfl (hown.alloc _) ⟨Wf.heap.size, 0, none⟩ 1 1 [.int .i64 qo, .int .i64 qxn, .int .i64 qxl] rfl rfl ?ea1 ?ea2 ?ea3 ?ea4 ?ea5 ?_)
              try case ea1 => exact cells_new _ _ _
              case ea2 => simp [Value.oneCell']
              case ea3 => unfold maxLen; omega
              case ea4 => omega
              case ea5 => omega
              intro v1 w2 hown1 hgrow1 _
              have hkk : Below (w.heap.size + 2) Wf w2 := ((Below.refl (w.heap.size + 2) Wf).alloc (by omega) _).grown hgrow1 (by simp; omega) (own_lies8 hown)
              have hg2 : Blk w2 g 169 #[.int .i64 (qi : Int), .int .i64 qn, .int .i64 qo, .int .i64 qxn, .int .i64 qxl, .int .i64 0] := (hgrow1.block g (by simp; exact Nat.lt_succ_of_lt HGF.out.lt) HNO.out).trans (HGF.out.alloc _)
              have u0 : w2.cell? ⟨g, 0, none⟩ = some (.int .i64 (qi : Int)) := hg2.cell 0
              have hown1' : w2.ownsRow (w.heap.size + 2) 57 3 v1 (out ++ [(⟨qo, qxn, qxl⟩ : Cd.In)]).length (icells (out ++ [(⟨qo, qxn, qxl⟩ : Cd.In)])) := by
                rw [icells_snoc, List.length_append]
                exact hown1
              have HFN : Hid (FrIn w #[.slice N names.length c1, .slice U up.length c2] (out ++ [⟨qo, qxn, qxl⟩]) v1 w2) := Lib.hid (FrIn.mk (HFF.out.below.trans (hkk.mono (Nat.le_add_right _ _))) (HFF.out.lat.below hkk (by omega)) (HFF.out.res.below hkk (by omega)) hown1')
              obtain ⟨A2, cap2, rfl⟩ := ownT_slice hown1'
              clear hown1 hown1' hgrow1 hkk hg2 hown y0 y2 y3 y4 y5
              go_wp2
              go_roundw
              case rel => exact ⟨qi, out ++ [⟨qo, qxn, qxl⟩], n', rfl, Lib.hid ⟨HFN.out, (by first | exact HQI.out rfl | exact HQI.out trivial), by have := HLV.out; simp only [List.length_append, List.length_cons, List.length_nil]; omega, by have := hol; simp only [List.length_append, List.length_cons, List.length_nil]; have := HO12.out; omega, HNX.out⟩⟩
              case measure => simp only [lenOf, List.length_append, List.length_cons, List.length_nil]; omega
            · have hz1 : ((qe : Int) != 0) = true := by rw [bne_iff_ne]; omega
              have HE := Lib.hid he
              have y0 : Wf.cell? ⟨g, 0, none⟩ = some (.int .i64 (qi : Int)) := HGF.out.cell 0
              have y5 : Wf.cell? ⟨g, 5, none⟩ = some (.int .i64 (qe : Int)) := HGF.out.cell 5
              clear he hgf
              have hrz : r = ([], qi, qe) := by rw [HRR.out, if_neg HE.out]
              have HRZ := Lib.hid hrz
              obtain ⟨Wz, hWz⟩ : ∃ Wz, (((Wf.setCell ⟨w.heap.size + 1, 0, none⟩ (.slice none 0 0)).setCell ⟨w.heap.size + 1, 1, none⟩ (.int .i64 (qi : Int))).setCell ⟨w.heap.size + 1, 2, none⟩ (.int .i64 (qe : Int))) = Wz := ⟨_, rfl⟩
              have hz : Blk Wz (w.heap.size + 1) 134 #[.slice none 0 0, .int .i64 (qi : Int), .int .i64 (qe : Int)] := hWz ▸ (((HFF.out.res.set_ 0 _).set_ 1 _).set_ 2 _)
              have hbz : Below w.heap.size w Wz := hWz ▸ (((HFF.out.below.setCell (p := ⟨w.heap.size + 1, 0, none⟩) (Nat.le_succ _) _).setCell (p := ⟨w.heap.size + 1, 1, none⟩) (Nat.le_succ _) _).setCell (p := ⟨w.heap.size + 1, 2, none⟩) (Nat.le_succ _) _)
              have hiz : KN ivs w.heap.size Wz (.slice none 0 0) [] := KN.nil _ _ _
              have z0 : Wf.cell? ⟨w.heap.size + 1, 0, none⟩ = some (.slice none 0 0) := HFF.out.res.cell 0
              have z1 : Wf.cell? ⟨w.heap.size + 1, 1, none⟩ = some (.int .i64 0) := HFF.out.res.cell 1
              have z2 : Wf.cell? ⟨w.heap.size + 1, 2, none⟩ = some (.int .i64 0) := HFF.out.res.cell 2
              have k0 : Wf.frozen? ⟨w.heap.size + 1, 0, none⟩ = false := HFF.out.res.frozen 0
              have k1 : Wf.frozen? ⟨w.heap.size + 1, 1, none⟩ = false := HFF.out.res.frozen 1
              have k2 : Wf.frozen? ⟨w.heap.size + 1, 2, none⟩ = false := HFF.out.res.frozen 2
              have q0 : Wz.cell? ⟨w.heap.size + 1, 0, none⟩ = some (.slice none 0 0) := hz.cell 0
              have q1 : Wz.cell? ⟨w.heap.size + 1, 1, none⟩ = some (.int .i64 (qi : Int)) := hz.cell 1
              have q2 : Wz.cell? ⟨w.heap.size + 1, 2, none⟩ = some (.int .i64 (qe : Int)) := hz.cell 2
              have HBZ := Lib.hid hbz
              have HIZ := Lib.hid hiz
              clear hz hbz hiz hrz
              go_wp2
              exact bodyPost_ret (v := .agg #[.slice none 0 0, .int .i64 (qi : Int), .int .i64 (qe : Int)]) (by simp [results, Tryz.results90, go_sem, q0, q1, q2]) rfl ⟨_, (by rw [HRZ.out]; try rfl), by rw [HRZ.out]; exact HIZ.out, HBZ.out⟩
          · have hff := H1.out.keep hbf
            have hno : some g ≠ (Value.slice A1 out.length cap).ownBlock := fun e => by
              have := (H1.out.own.lt g e.symm).2
              omega
            have HFF := Lib.hid hff
            have HGF := Lib.hid hgf
            have HNO := Lib.hid hno
            clear hbf hgw hff hno H1 BR BD BDA HS1 HONE1 HOP
            by_cases he : qe = 0
            · subst he
              have hrr := HRR.out
              rw [if_pos rfl] at hrr
              have HNX := Lib.hid hrr.symm
              have y0 : Wf.cell? ⟨g, 0, none⟩ = some (.int .i64 (qi : Int)) := HGF.out.cell 0
              have y2 : Wf.cell? ⟨g, 2, none⟩ = some (.int .i64 qo) := HGF.out.cell 2
              have y3 : Wf.cell? ⟨g, 3, none⟩ = some (.int .i64 qxn) := HGF.out.cell 3
              have y4 : Wf.cell? ⟨g, 4, none⟩ = some (.int .i64 qxl) := HGF.out.cell 4
              have y5 : Wf.cell? ⟨g, 5, none⟩ = some (.int .i64 0) := HGF.out.cell 5
              have hown := HFF.out.own
              have hzf := HFF.out.res.lt
              obtain ⟨io, hio, iz0, iz1, iz2⟩ := info_parts Tryz.infoInstr
              clear hrr HRR hgf
              go_wp2_with (at_builtin; refine wpList_append_own _ rfl _ _ 26 rfl (w.heap.size + 2) 57 io (.agg #[.int .i64 0, .int .i64 0, .int .i64 0]) 3 24 Tryz.underlying26 hio iz0 iz1 iz2 rfl (by decide) _ _ _ rfl (hown.alloc _) ⟨Wf.heap.size, 0, none⟩ 1 1 [.int .i64 qo, .int .i64 qxn, .int .i64 qxl] rfl rfl ?eb1 ?eb2 ?eb3 ?eb4 ?eb5 ?_)
              try case eb1 => exact cells_new _ _ _
              case eb2 => simp [Value.oneCell']
              case eb3 => unfold maxLen; omega
              case eb4 => omega
              case eb5 => omega
              intro v1 w2 hown1 hgrow1 _
              have hkk : Below (w.heap.size + 2) Wf w2 := ((Below.refl (w.heap.size + 2) Wf).alloc (by omega) _).grown hgrow1 (by simp; omega) (own_lies8 hown)
              have hg2 : Blk w2 g 169 #[.int .i64 (qi : Int), .int .i64 qn, .int .i64 qo, .int .i64 qxn, .int .i64 qxl, .int .i64 0] := (hgrow1.block g (by simp; exact Nat.lt_succ_of_lt HGF.out.lt) HNO.out).trans (HGF.out.alloc _)
              have u0 : w2.cell? ⟨g, 0, none⟩ = some (.int .i64 (qi : Int)) := hg2.cell 0
              have hown1' : w2.ownsRow (w.heap.size + 2) 57 3 v1 (out ++ [(⟨qo, qxn, qxl⟩ : Cd.In)]).length (icells (out ++ [(⟨qo, qxn, qxl⟩ : Cd.In)])) := by
                rw [icells_snoc, List.length_append]
                exact hown1
              have HFN : Hid (FrIn w #[.slice N names.length c1, .slice U up.length c2] (out ++ [⟨qo, qxn, qxl⟩]) v1 w2) := Lib.hid (FrIn.mk (HFF.out.below.trans (hkk.mono (Nat.le_add_right _ _))) (HFF.out.lat.below hkk (by omega)) (HFF.out.res.below hkk (by omega)) hown1')
              obtain ⟨A2, cap2, rfl⟩ := ownT_slice hown1'
              clear hown1 hown1' hgrow1 hkk hg2 hown y0 y2 y3 y4 y5
              go_wp2
              go_roundw
              case rel => exact ⟨qi, out ++ [⟨qo, qxn, qxl⟩], n', rfl, Lib.hid ⟨HFN.out, (by first | exact HQI.out rfl | exact HQI.out trivial), by have := HLV.out; simp only [List.length_append, List.length_cons, List.length_nil]; omega, by have := hol; simp only [List.length_append, List.length_cons, List.length_nil]; have := HO12.out; omega, HNX.out⟩⟩
              case measure => simp only [lenOf, List.length_append, List.length_cons, List.length_nil]; omega
            · have hz1 : ((qe : Int) != 0) = true := by rw [bne_iff_ne]; omega
              have HE := Lib.hid he
              have y0 : Wf.cell? ⟨g, 0, none⟩ = some (.int .i64 (qi : Int)) := HGF.out.cell 0
              have y5 : Wf.cell? ⟨g, 5, none⟩ = some (.int .i64 (qe : Int)) := HGF.out.cell 5
              clear he hgf
              have hrz : r = ([], qi, qe) := by rw [HRR.out, if_neg HE.out]
              have HRZ := Lib.hid hrz
              obtain ⟨Wz, hWz⟩ : ∃ Wz, (((Wf.setCell ⟨w.heap.size + 1, 0, none⟩ (.slice none 0 0)).setCell ⟨w.heap.size + 1, 1, none⟩ (.int .i64 (qi : Int))).setCell ⟨w.heap.size + 1, 2, none⟩ (.int .i64 (qe : Int))) = Wz := ⟨_, rfl⟩
              have hz : Blk Wz (w.heap.size + 1) 134 #[.slice none 0 0, .int .i64 (qi : Int), .int .i64 (qe : Int)] := hWz ▸ (((HFF.out.res.set_ 0 _).set_ 1 _).set_ 2 _)
              have hbz : Below w.heap.size w Wz := hWz ▸ (((HFF.out.below.setCell (p := ⟨w.heap.size + 1, 0, none⟩) (Nat.le_succ _) _).setCell (p := ⟨w.heap.size + 1, 1, none⟩) (Nat.le_succ _) _).setCell (p := ⟨w.heap.size + 1, 2, none⟩) (Nat.le_succ _) _)
              have hiz : KN ivs w.heap.size Wz (.slice none 0 0) [] := KN.nil _ _ _
              have z0 : Wf.cell? ⟨w.heap.size + 1, 0, none⟩ = some (.slice none 0 0) := HFF.out.res.cell 0
              have z1 : Wf.cell? ⟨w.heap.size + 1, 1, none⟩ = some (.int .i64 0) := HFF.out.res.cell 1
              have z2 : Wf.cell? ⟨w.heap.size + 1, 2, none⟩ = some (.int .i64 0) := HFF.out.res.cell 2
              have k0 : Wf.frozen? ⟨w.heap.size + 1, 0, none⟩ = false := HFF.out.res.frozen 0
              have k1 : Wf.frozen? ⟨w.heap.size + 1, 1, none⟩ = false := HFF.out.res.frozen 1
              have k2 : Wf.frozen? ⟨w.heap.size + 1, 2, none⟩ = false := HFF.out.res.frozen 2
              have q0 : Wz.cell? ⟨w.heap.size + 1, 0, none⟩ = some (.slice none 0 0) := hz.cell 0
              have q1 : Wz.cell? ⟨w.heap.size + 1, 1, none⟩ = some (.int .i64 (qi : Int)) := hz.cell 1
              have q2 : Wz.cell? ⟨w.heap.size + 1, 2, none⟩ = some (.int .i64 (qe : Int)) := hz.cell 2
              have HBZ := Lib.hid hbz
              have HIZ := Lib.hid hiz
              clear hz hbz hiz hrz
              go_wp2
              exact bodyPost_ret (v := .agg #[.slice none 0 0, .int .i64 (qi : Int), .int .i64 (qe : Int)]) (by simp [results, Tryz.results90, go_sem, q0, q1, q2]) rfl ⟨_, (by rw [HRZ.out]; try rfl), by rw [HRZ.out]; exact HIZ.out, HBZ.out⟩
          · have hff := H1.out.keep hbf
            have hno : some g ≠ (Value.slice A1 out.length cap).ownBlock := fun e => by
              have := (H1.out.own.lt g e.symm).2
              omega
            have HFF := Lib.hid hff
            have HGF := Lib.hid hgf
            have HNO := Lib.hid hno
            clear hbf hgw hff hno H1 BR BD BDA HS1 HONE1 HOP
            by_cases he : qe = 0
            · subst he
              have hrr := HRR.out
              rw [if_pos rfl] at hrr
              have HNX := Lib.hid hrr.symm
              have y0 : Wf.cell? ⟨g, 0, none⟩ = some (.int .i64 (qi : Int)) := HGF.out.cell 0
              have y2 : Wf.cell? ⟨g, 2, none⟩ = some (.int .i64 qo) := HGF.out.cell 2
              have y3 : Wf.cell? ⟨g, 3, none⟩ = some (.int .i64 qxn) := HGF.out.cell 3
              have y4 : Wf.cell? ⟨g, 4, none⟩ = some (.int .i64 qxl) := HGF.out.cell 4
              have y5 : Wf.cell? ⟨g, 5, none⟩ = some (.int .i64 0) := HGF.out.cell 5
              have hown := HFF.out.own
              have hzf := HFF.out.res.lt
              obtain ⟨io, hio, iz0, iz1, iz2⟩ := info_parts Tryz.infoInstr
              clear hrr HRR hgf
              go_wp2_with (at_builtin; refine wpList_append_own _ rfl _ _ 26 rfl (w.heap.size + 2) 57 io (.agg #[.int .i64 0, .int .i64 0, .int .i64 0]) 3 24 Tryz.underlying26 hio iz0 iz1 iz2 rfl (by decide) _ _ _ rfl (hown.alloc _) ⟨Wf.heap.size, 0, none⟩ 1 1 [.int .i64 qo, .int .i64 qxn, .int .i64 qxl] rfl rfl ?ec1 ?ec2 ?ec3 ?ec4 ?ec5 ?_)
              try case ec1 => exact cells_new _ _ _
              case ec2 => simp [Value.oneCell']
              case ec3 => unfold maxLen; omega
              case ec4 => omega
              case ec5 => omega
              intro v1 w2 hown1 hgrow1 _
              have hkk : Below (w.heap.size + 2) Wf w2 := ((Below.refl (w.heap.size + 2) Wf).alloc (by omega) _).grown hgrow1 (by simp; omega) (own_lies8 hown)
              have hg2 : Blk w2 g 169 #[.int .i64 (qi : Int), .int .i64 qn, .int .i64 qo, .int .i64 qxn, .int .i64 qxl, .int .i64 0] := (hgrow1.block g (by simp; exact Nat.lt_succ_of_lt HGF.out.lt) HNO.out).trans (HGF.out.alloc _)
              have u0 : w2.cell? ⟨g, 0, none⟩ = some (.int .i64 (qi : Int)) := hg2.cell 0
              have hown1' : w2.ownsRow (w.heap.size + 2) 57 3 v1 (out ++ [(⟨qo, qxn, qxl⟩ : Cd.In)]).length (icells (out ++ [(⟨qo, qxn, qxl⟩ : Cd.In)])) := by
                rw [icells_snoc, List.length_append]
                exact hown1
              have HFN : Hid (FrIn w #[.slice N names.length c1, .slice U up.length c2] (out ++ [⟨qo, qxn, qxl⟩]) v1 w2) := Lib.hid (FrIn.mk (HFF.out.below.trans (hkk.mono (Nat.le_add_right _ _))) (HFF.out.lat.below hkk (by omega)) (HFF.out.res.below hkk (by omega)) hown1')
              obtain ⟨A2, cap2, rfl⟩ := ownT_slice hown1'
              clear hown1 hown1' hgrow1 hkk hg2 hown y0 y2 y3 y4 y5
              go_wp2
              go_roundw
              case rel => exact ⟨qi, out ++ [⟨qo, qxn, qxl⟩], n', rfl, Lib.hid ⟨HFN.out, (by first | exact HQI.out rfl | exact HQI.out trivial), by have := HLV.out; simp only [List.length_append, List.length_cons, List.length_nil]; omega, by have := hol; simp only [List.length_append, List.length_cons, List.length_nil]; have := HO12.out; omega, HNX.out⟩⟩
              case measure => simp only [lenOf, List.length_append, List.length_cons, List.length_nil]; omega
            · have hz1 : ((qe : Int) != 0) = true := by rw [bne_iff_ne]; omega
              have HE := Lib.hid he
              have y0 : Wf.cell? ⟨g, 0, none⟩ = some (.int .i64 (qi : Int)) := HGF.out.cell 0
              have y5 : Wf.cell? ⟨g, 5, none⟩ = some (.int .i64 (qe : Int)) := HGF.out.cell 5
              clear he hgf
              have hrz : r = ([], qi, qe) := by rw [HRR.out, if_neg HE.out]
              have HRZ := Lib.hid hrz
              obtain ⟨Wz, hWz⟩ : ∃ Wz, (((Wf.setCell ⟨w.heap.size + 1, 0, none⟩ (.slice none 0 0)).setCell ⟨w.heap.size + 1, 1, none⟩ (.int .i64 (qi : Int))).setCell ⟨w.heap.size + 1, 2, none⟩ (.int .i64 (qe : Int))) = Wz := ⟨_, rfl⟩
              have hz : Blk Wz (w.heap.size + 1) 134 #[.slice none 0 0, .int .i64 (qi : Int), .int .i64 (qe : Int)] := hWz ▸ (((HFF.out.res.set_ 0 _).set_ 1 _).set_ 2 _)
              have hbz : Below w.heap.size w Wz := hWz ▸ (((HFF.out.below.setCell (p := ⟨w.heap.size + 1, 0, none⟩) (Nat.le_succ _) _).setCell (p := ⟨w.heap.size + 1, 1, none⟩) (Nat.le_succ _) _).setCell (p := ⟨w.heap.size + 1, 2, none⟩) (Nat.le_succ _) _)
              have hiz : KN ivs w.heap.size Wz (.slice none 0 0) [] := KN.nil _ _ _
              have z0 : Wf.cell? ⟨w.heap.size + 1, 0, none⟩ = some (.slice none 0 0) := HFF.out.res.cell 0
              have z1 : Wf.cell? ⟨w.heap.size + 1, 1, none⟩ = some (.int .i64 0) := HFF.out.res.cell 1
              have z2 : Wf.cell? ⟨w.heap.size + 1, 2, none⟩ = some (.int .i64 0) := HFF.out.res.cell 2
              have k0 : Wf.frozen? ⟨w.heap.size + 1, 0, none⟩ = false := HFF.out.res.frozen 0
              have k1 : Wf.frozen? ⟨w.heap.size + 1, 1, none⟩ = false := HFF.out.res.frozen 1
              have k2 : Wf.frozen? ⟨w.heap.size + 1, 2, none⟩ = false := HFF.out.res.frozen 2
              have q0 : Wz.cell? ⟨w.heap.size + 1, 0, none⟩ = some (.slice none 0 0) := hz.cell 0
              have q1 : Wz.cell? ⟨w.heap.size + 1, 1, none⟩ = some (.int .i64 (qi : Int)) := hz.cell 1
              have q2 : Wz.cell? ⟨w.heap.size + 1, 2, none⟩ = some (.int .i64 (qe : Int)) := hz.cell 2
              have HBZ := Lib.hid hbz
              have HIZ := Lib.hid hiz
              clear hz hbz hiz hrz
              go_wp2
              exact bodyPost_ret (v := .agg #[.slice none 0 0, .int .i64 (qi : Int), .int .i64 (qe : Int)]) (by simp [results, Tryz.results90, go_sem, q0, q1, q2]) rfl ⟨_, (by rw [HRZ.out]; try rfl), by rw [HRZ.out]; exact HIZ.out, HBZ.out⟩
    · have hkb : (kd == 1) = false := by rw [beq_eq_false_iff_ne]; exact hk
      rw [if_neg hk] at hopa
      rw [hopa] at hrr
      have HRR := Lib.hid hrr.symm
      clear hopa hrr hk
      have hrz : r = (out, i, 0) := HRR.out
      have HRZ := Lib.hid hrz
      obtain ⟨Wz, hWz⟩ : ∃ Wz, (((wr.setCell ⟨w.heap.size + 1, 0, none⟩ (.slice A1 out.length cap)).setCell ⟨w.heap.size + 1, 1, none⟩ (.int .i64 (i : Int))).setCell ⟨w.heap.size + 1, 2, none⟩ (.int .i64 0)) = Wz := ⟨_, rfl⟩
      have hz : Blk Wz (w.heap.size + 1) 134 #[.slice A1 out.length cap, .int .i64 (i : Int), .int .i64 0] := hWz ▸ (((HI.out.1.res.set_ 0 _).set_ 1 _).set_ 2 _)
      have hbz : Below w.heap.size w Wz := hWz ▸ (((HI.out.1.below.setCell (p := ⟨w.heap.size + 1, 0, none⟩) (Nat.le_succ _) _).setCell (p := ⟨w.heap.size + 1, 1, none⟩) (Nat.le_succ _) _).setCell (p := ⟨w.heap.size + 1, 2, none⟩) (Nat.le_succ _) _)
      have hiz : KN ivs w.heap.size Wz (.slice A1 out.length cap) out := hWz ▸ KN.less (B := w.heap.size + 2) (KN.own (f := ivs) (ownsRow_setCell_below (ownsRow_setCell_below (ownsRow_setCell_below HI.out.1.own (by show w.heap.size + 1 < _; omega) _) (by show w.heap.size + 1 < _; omega) _) (by show w.heap.size + 1 < _; omega) _)) (Nat.le_add_right _ _)
      have z0 : wr.cell? ⟨w.heap.size + 1, 0, none⟩ = some (.slice none 0 0) := HI.out.1.res.cell 0
      have z1 : wr.cell? ⟨w.heap.size + 1, 1, none⟩ = some (.int .i64 0) := HI.out.1.res.cell 1
      have z2 : wr.cell? ⟨w.heap.size + 1, 2, none⟩ = some (.int .i64 0) := HI.out.1.res.cell 2
      have k0 : wr.frozen? ⟨w.heap.size + 1, 0, none⟩ = false := HI.out.1.res.frozen 0
      have k1 : wr.frozen? ⟨w.heap.size + 1, 1, none⟩ = false := HI.out.1.res.frozen 1
      have k2 : wr.frozen? ⟨w.heap.size + 1, 2, none⟩ = false := HI.out.1.res.frozen 2
      have q0 : Wz.cell? ⟨w.heap.size + 1, 0, none⟩ = some (.slice A1 out.length cap) := hz.cell 0
      have q1 : Wz.cell? ⟨w.heap.size + 1, 1, none⟩ = some (.int .i64 (i : Int)) := hz.cell 1
      have q2 : Wz.cell? ⟨w.heap.size + 1, 2, none⟩ = some (.int .i64 0) := hz.cell 2
      have HBZ := Lib.hid hbz
      have HIZ := Lib.hid hiz
      clear hz hbz hiz hrz
      go_wp2
      exact bodyPost_ret (v := .agg #[.slice A1 out.length cap, .int .i64 (i : Int), .int .i64 0]) (by simp [results, Tryz.results90, go_sem, q0, q1, q2]) rfl ⟨_, (by rw [HRZ.out]; try rfl), by rw [HRZ.out]; exact HIZ.out, HBZ.out⟩
end Go.Proofs.YtipbilmnknmhmaaGreatDoor
