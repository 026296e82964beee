/- Walks of Parse and Usual. -/
import Derived.Handy
import Derived.Test.YtggcmkpafpjnoaaGreatDoorGTabL
import Derived.Test.YtggcmkpafpjnoaaGreatDoorGLexD
namespace Go.Proofs.YtggcmkpafpjnoaaGreatDoor
set_option maxRecDepth 100000
open Go.RowKit Go.Shelf Go.Sort
attribute [local go_sem] Oper.semAt_some

/-- What Parse answers. -/
def ParseRes (w : World) (r : List Tb.PR × Int × Nat) (e : Ending) (w' : World) : Prop :=
  ∃ v, e = .returned (.tuple #[.agg #[v], .int .i64 r.2.1, .int .i64 (r.2.2 : Int)]) ∧ IsTab w' w'.heap.size v r.1 ∧ Below w.heap.size w w'
def nils (n : Nat) : List Value := List.replicate n (.slice none 0 0)
theorem nils_at {n k : Nat} (h : k < n) : (nils n)[k]? = some (.slice none 0 0) := by
  unfold nils
  rw [List.getElem?_replicate, if_pos h]
theorem start_rows {Q R : Nat} {W : World} (hq : Blk W Q 43 (nils 39).toArray) : RowsQ R Q W Tb.start.rows := by
  refine ⟨nils 39, hq, by simp [nils], fun k x hx => ?_⟩
  have hk : k < 13 := by have := (List.getElem?_eq_some_iff.1 hx).1; simpa [Tb.start] using this
  have e : x = Tb.PR.none := by
    have h1 : (List.replicate 13 Tb.PR.none)[k]? = some x := hx
    rw [List.getElem?_replicate, if_pos hk] at h1
    injection h1 with h1
    exact h1.symm
  subst e
  have hn : AInts R Q W (.slice none 0 0) [] := ⟨none, 0, rfl, fun h => absurd rfl h, Nat.le_refl _⟩
  exact ⟨_, _, _, nils_at (by omega), nils_at (by omega), nils_at (by omega), hn, hn, hn⟩
theorem start_rd {Q P b0 b1 b2 B c : Nat} {A : Option Addr} {l : List Lx.Tk} {W : World} (hq : Blk W Q 43 (nils 39).toArray) (hp : Parts P b0 b1 b2 W) (hi : Ins W) (hr : Row W B A (tcells l)) (hBQ : B ≤ Q) (hBW : B ≤ W.heap.size) (hl : 0 < l.length) :
    TRd W.heap.size Q P b0 b1 b2 A c l Tb.start (W.alloc (.cells (rcells A l.length c P Q Tb.start).toArray 74)) := by
  have hb : Below W.heap.size W (W.alloc (.cells (rcells A l.length c P Q Tb.start).toArray 74)) := (Below.refl _ W).alloc (Nat.le_refl _) _
  refine ⟨Blk.new _ _ _, fun hn => ?_, start_rows (hq.below hb hq.lt), hp.keep hb, hi.below hb hi.lt, Tb.start_stand hl⟩
  obtain ⟨ad, e, hab, hc⟩ := hr hn
  exact ⟨ad, e, ⟨by simp; omega, by omega, by omega⟩, fun j u hu => (hb.cell (by rw [add_block]; omega)).trans (hc j u hu)⟩
theorem RowsQ.tab {R Q : Nat} {W : World} {l : List Tb.PR} (h : RowsQ R Q W l) (hl : l.length = 13) : IsTab W W.heap.size (.slice (some ⟨Q, 0, none⟩) 13 13) l := by
  obtain ⟨vs, h1, h2, h3⟩ := h
  refine ⟨some ⟨Q, 0, none⟩, 13, by rw [hl], ⟨vs, by omega, h1.row.more h1.lt, fun k x hk => ?_⟩, by omega⟩
  obtain ⟨a0, a1, a2, e0, e1, e2, i0, i1, i2⟩ := h3 k x hk
  exact ⟨a0, a1, a2, e0, e1, e2, i0.ints, i1.ints, i2.ints⟩
set_option maxHeartbeats 4000000 in
theorem parse_lex (s : ByteArray) (w : World) (hm : s.size ≤ maxLen) (he : (Lx.lex s.data.toList).2.2 ≠ 0) : Calls Tryz.prog 18 #[.string s] w (ParseRes w (Tb.parse s.data.toList)) := by
  have hal : Below w.heap.size w (w.alloc (.cells #[.slice none 0 0] 24)) := (Below.refl _ w).alloc (Nat.le_refl _) _
  have hlx := lex_any s (w.alloc (.cells #[.slice none 0 0] 24)) hm
  have hres : Tb.parse s.data.toList = ([], ((Lx.lex s.data.toList).2.1 : Int), (Lx.lex s.data.toList).2.2) := by unfold Tb.parse Tb.parseL; rw [if_neg he]
  rw [hres]
  generalize Lx.lex s.data.toList = x at *
  obtain ⟨l, a, n⟩ := x
  dsimp only at he ⊢
  have he1 : ((n : Int) != 0) = true := by rw [bne_iff_ne]; omega
  have HL := Lib.hid hlx
  have HA := Lib.hid hal
  have hbk := Blk.new w 24 #[.slice none 0 0]
  have HK := Lib.hid hbk
  clear hlx hal hres he hm hbk
  go_enter Tryz.func18, Tryz.ntmps18
  go_wp2_with (fail)
  refine HL.out.mono ?_
  rintro e w1 ⟨v, rfl, -, hb1⟩
  have hk1 := HK.out.below hb1 HK.out.lt
  have hc := hk1.cell 0
  have hfz := hk1.frozen 0
  have hb2 := HA.out.trans (hb1.mono HA.out.size)
  have hk2 := hk1.set_ 0 (.slice none 0 0)
  have HB := Lib.hid (show Below w.heap.size w (w1.setCell ⟨w.heap.size, 0, none⟩ (.slice none 0 0)) from hb2.setCell (Nat.le_refl _) _)
  clear hb1 hb2 hk1
  have hcell : (w1.setCell ⟨w.heap.size, 0, none⟩ (.slice none 0 0)).cell? ⟨w.heap.size, 0, none⟩ = some (.slice none 0 0) := hk2.cell 0
  go_wp2
  exact bodyPost_ret (v := .tuple #[.agg #[.slice none 0 0], .int .i64 (a : Int), .int .i64 (n : Int)]) (by simp [results, Tryz.results18, go_sem, hcell]) rfl ⟨_, rfl, IsTab.nil _ _, HB.out⟩
theorem make_rows (W : World) : (Instr.makeSlice 22 (.int .i64 13) (.int .i64 13)).run Tryz.prog W = .ok (.slice (some ⟨W.heap.size, 0, none⟩) 13 13) (W.alloc (.cells (nils 39).toArray 43)) := by kernel_rfl
theorem undrew {B : Nat} {a w : World} (h : Below B a.drew w) : Below B a w := ⟨h.os, h.tape, h.output, h.size, h.block⟩
/-- Numbers do not lie where a slice lies. -/
theorem ints_apart {w : World} {g B n c : Nat} {t : TypeId} {a : Option Addr} {v u : Value} {l : List Int} (hk : Blk w g t #[.slice a n c]) (h : IsInts w B v l) : IsInts (w.setCell ⟨g, 0, none⟩ u) B v l := by
  obtain ⟨A, d, e, hr, hd⟩ := h
  refine ⟨A, d, e, fun hn => ?_, hd⟩
  obtain ⟨ad, rfl, hb, hc⟩ := hr hn
  have hne : ad.block ≠ g := fun hg => by
    obtain ⟨x, r, hx⟩ := List.exists_cons_of_ne_nil hn
    have h0 := hc 0 x (by rw [hx]; rfl)
    have hint : ∃ m, x = .int .i64 m := by
      have : x ∈ ints l := by rw [hx]; exact .head _
      obtain ⟨m, _, hm⟩ := List.mem_map.1 this
      exact ⟨m, hm.symm⟩
    obtain ⟨m, rfl⟩ := hint
    unfold Blk at hk
    have hb2 : (ad.add 0).block = g := by rw [add_block]; exact hg
    unfold World.cell? at h0
    rw [hb2, hk] at h0
    have h1 : (#[Value.slice a n c] : Array Value)[(ad.add 0).off]? = some (.int .i64 m) := by
      have h2 : (ad.add 0).spot = none ∧ [Value.slice a n c][(ad.add 0).off]? = some (.int .i64 m) := by simpa using h0
      simpa using h2.2
    rcases Nat.eq_zero_or_pos (ad.add 0).off with e0 | e0
    · rw [e0] at h1
      cases h1
    · rw [Array.getElem?_eq_none (by simp; omega)] at h1
      cases h1
  refine ⟨ad, rfl, hb, fun j y hy => ?_⟩
  rw [World.cell?_setCell_other w ⟨g, 0, none⟩ (ad.add j) u (fun e => hne (by rw [← add_block ad j, ← e]))]
  exact hc j y hy
theorem tab_apart {R Q : Nat} {w : World} {g n c : Nat} {t : TypeId} {a : Option Addr} {u : Value} {l : List Tb.PR} (hk : Blk w g t #[.slice a n c]) (hg : g ≠ Q) (h : RowsQ R Q w l) (hl : l.length = 13) : IsTab (w.setCell ⟨g, 0, none⟩ u) (w.setCell ⟨g, 0, none⟩ u).heap.size (.slice (some ⟨Q, 0, none⟩) 13 13) l := by
  obtain ⟨vs, h1, h2, h3⟩ := h
  have h4 := h1.other (p := ⟨g, 0, none⟩) hg u
  have hsz : (w.setCell ⟨g, 0, none⟩ u).heap.size = w.heap.size := by simp [World.setCell]
  rw [hsz]
  refine ⟨some ⟨Q, 0, none⟩, 13, by rw [hl], ⟨vs, by omega, h4.row.more h1.lt, fun k x hx => ?_⟩, by omega⟩
  obtain ⟨a0, a1, a2, e0, e1, e2, i0, i1, i2⟩ := h3 k x hx
  exact ⟨a0, a1, a2, e0, e1, e2, ints_apart hk i0.ints, ints_apart hk i1.ints, ints_apart hk i2.ints⟩
/-- What comes behind the reader's making. -/
structure Ready (w : World) (c : Nat) (l : List Lx.Tk) (A : Option Addr) (R Q P b0 b1 b2 : Nat) (W : World) : Prop where
  rd : TRd R Q P b0 b1 b2 A c l Tb.start W
  fast : Fast R Q P b0 b1 b2
  below : Below w.heap.size w W
  res : Blk W w.heap.size 24 #[.slice none 0 0]
  r : w.heap.size < R
  q : w.heap.size < Q
set_option maxHeartbeats 8000000 in
theorem parse_good (s : ByteArray) (w : World) (hm : s.size ≤ maxLen) (hi : Ins w) {l : List Lx.Tk} {a : Nat} (he : Lx.lex s.data.toList = (l, a, 0)) : Calls Tryz.prog 18 #[.string s] w (ParseRes w (Tb.parse s.data.toList)) := by
  obtain ⟨hfi, hl0, hl2, rfl⟩ := Tb.lex_fine he
  have hal : Below w.heap.size w (w.alloc (.cells #[.slice none 0 0] 24)) := (Below.refl _ w).alloc (Nat.le_refl _) _
  have hlx := lex_any s (w.alloc (.cells #[.slice none 0 0] 24)) hm
  rw [he] at hlx
  obtain ⟨⟨sf, ef⟩, hsf⟩ : ∃ r, Tb.tableP l l.length Tb.start = r := ⟨_, rfl⟩
  have hres : Tb.parse s.data.toList = if ef = 0 then (sf.rows, 0, 0) else ([], (Tb.tok l sf.pos).pos, ef) := by
    unfold Tb.parse Tb.parseL
    rw [he]
    dsimp only
    rw [if_pos rfl, hsf]
  obtain ⟨res, hrs⟩ : ∃ res, Tb.parse s.data.toList = res := ⟨_, rfl⟩
  rw [hrs] at hres ⊢
  have HRES := Lib.hid hres
  clear hrs
  have htab := fun (R Q P b0 b1 b2 c : Nat) (A : Option Addr) W (hf : Fast R Q P b0 b1 b2) (h : TRd R Q P b0 b1 b2 A c l Tb.start W) => table_any hf hfi hl2 W h
  rw [hsf] at htab
  have HL := Lib.hid hlx
  have HA := Lib.hid hal
  have HTB := Lib.hid htab
  have HI := Lib.hid hi
  have hg0 := hi.lt
  have hbk := Blk.new w 24 #[.slice none 0 0]
  have HK := Lib.hid hbk
  have hpa := fun W => parts_any W
  have HPA := Lib.hid hpa
  have HL0 := Lib.hid hl0
  have hmk := make_rows
  clear hlx hal hres he hm hbk htab hi hsf hpa hl0
  go_enter Tryz.func18, Tryz.ntmps18
  go_wp2_with (fail)
  refine HL.out.mono ?_
  rintro e w1 ⟨v, rfl, hv, hb1⟩
  obtain ⟨A, c, rfl, hrow, hlc⟩ := hv
  have hk1 := HK.out.below hb1 HK.out.lt
  have hb2 := HA.out.trans (hb1.mono HA.out.size)
  have HB2 := Lib.hid hb2
  have HK1 := Lib.hid hk1
  have HROW := Lib.hid hrow
  have hz1 : w.heap.size < w1.heap.size := hk1.lt
  clear hb1 hb2 hk1 hrow
  go_wp2
  go_region_with (go_at_call 28; refine (HPA.out _).mono ?_; rintro e w2 ⟨P, b0, b1, b2, rfl, hp, hb3, p0, p1, p2, p3⟩)
  · have hrd : Ready w c l A (w2.heap.size + 1) w2.heap.size P b0 b1 b2 ((w2.alloc (.cells (nils 39).toArray 43)).alloc (.cells (rcells A l.length c P w2.heap.size Tb.start).toArray 74)) := by
      have hb3 := undrew hb3
      have hz2 : w1.heap.size ≤ w2.heap.size := hb3.size
      have hbw : Below w.heap.size w w2 := HB2.out.trans (hb3.mono (Nat.le_of_lt hz1))
      have q0 : w1.heap.size ≤ P := p0
      have q1 : w1.heap.size ≤ b0 := p1
      have q2 : w1.heap.size ≤ b1 := p2
      have q3 : w1.heap.size ≤ b2 := p3
      have l0 := hp.blk.lt
      have l1 := hp.v0.lt
      have l2 := hp.v1.lt
      have l3 := hp.v2.lt
      have hb4 : Below w2.heap.size w2 (w2.alloc (.cells (nils 39).toArray 43)) := (Below.refl _ w2).alloc (Nat.le_refl _) _
      have hsz : (w2.alloc (.cells (nils 39).toArray 43)).heap.size = w2.heap.size + 1 := by simp
      have hrd := start_rd (Q := w2.heap.size) (B := w1.heap.size) (c := c) (W := w2.alloc (.cells (nils 39).toArray 43)) (Blk.new _ _ _) (hp.keep hb4) ((HI.out.below hbw hg0).below hb4 (by omega)) ((HROW.out.below hb3).below (hb4.mono hz2)) hz2 (by omega) HL0.out
      rw [hsz] at hrd
      refine ⟨hrd, ⟨by omega, ⟨by omega, by omega⟩, ⟨by omega, by omega⟩, ⟨by omega, by omega⟩, ⟨by omega, by omega⟩, ⟨by omega, by omega⟩⟩, (hbw.trans (hb4.mono (by omega))).alloc (by omega) _, ?_, by omega, by omega⟩
      exact ((HK1.out.below hb3 HK1.out.lt).alloc _).alloc _
    show Exit.then _ _ _ _ ((w2.alloc (.cells (nils 39).toArray 43)).alloc (.cells (rcells A l.length c P w2.heap.size Tb.start).toArray 74))
    obtain ⟨W, hW⟩ : ∃ W, (w2.alloc (.cells (nils 39).toArray 43)).alloc (.cells (rcells A l.length c P w2.heap.size Tb.start).toArray 74) = W := ⟨_, rfl⟩
    rw [hW] at hrd ⊢
    have HRD := Lib.hid hrd
    clear hrd hW hp hb3 p0 p1 p2 p3 hmk
    obtain ⟨R, hR⟩ : ∃ R, w2.heap.size + 1 = R := ⟨_, rfl⟩
    obtain ⟨Q, hQ⟩ : ∃ Q, w2.heap.size = Q := ⟨_, rfl⟩
    rw [hR, hQ] at HRD ⊢
    have HTC := Lib.hid (HTB.out R Q P b0 b1 b2 c A W HRD.out.fast HRD.out.rd)
    clear hR hQ
    go_wp2_with (fail)
    refine HTC.out.mono ?_
    rintro e w5 ⟨rfl, hT, hK⟩
    have hne1 : w.heap.size ≠ R := by have := HRD.out.r; omega
    have hne2 : w.heap.size ≠ Q := by have := HRD.out.q; omega
    have hk5 : Blk w5 w.heap.size 24 #[.slice none 0 0] := (hK.block _ HRD.out.res.lt hne1 hne2).trans HRD.out.res
    have hb5 : Below w.heap.size w w5 := HRD.out.below.trans (hK.below HRD.out.below.size (Nat.le_of_lt HRD.out.r) (Nat.le_of_lt HRD.out.q))
    by_cases hz : ef = 0
    · subst hz
      have hr := HRES.out
      rw [if_pos rfl] at hr
      have HR := Lib.hid hr
      have c3 := hT.c3
      have hc := hk5.cell 0
      have hfz := hk5.frozen 0
      have hk6 := hk5.set_ 0 (.slice (some ⟨Q, 0, none⟩) 13 13)
      have hcell : (w5.setCell ⟨w.heap.size, 0, none⟩ (.slice (some ⟨Q, 0, none⟩) 13 13)).cell? ⟨w.heap.size, 0, none⟩ = some (.slice (some ⟨Q, 0, none⟩) 13 13) := hk6.cell 0
      have hT6 : IsTab (w5.setCell ⟨w.heap.size, 0, none⟩ (.slice (some ⟨Q, 0, none⟩) 13 13)) (w5.setCell ⟨w.heap.size, 0, none⟩ (.slice (some ⟨Q, 0, none⟩) 13 13)).heap.size (.slice (some ⟨Q, 0, none⟩) 13 13) sf.rows := tab_apart hk5 hne2 hT.rows hT.st.rows
      have HT6 := Lib.hid hT6
      have HB6 := Lib.hid (hb5.setCell (p := ⟨w.heap.size, 0, none⟩) (Nat.le_refl _) (.slice (some ⟨Q, 0, none⟩) 13 13))
      clear hr hT hK hb5 hT6 hk6
      go_wp2
      rw [HR.out]
      exact bodyPost_ret (v := .tuple #[.agg #[.slice (some ⟨Q, 0, none⟩) 13 13], .int .i64 0, .int .i64 0]) (by simp [results, Tryz.results18, go_sem, hcell]) rfl ⟨_, rfl, HT6.out, HB6.out⟩
    · have he1 : ((ef : Int) != 0) = true := by rw [bne_iff_ne]; omega
      have hr := HRES.out
      rw [if_neg hz] at hr
      have HR := Lib.hid hr
      have hnx := next_any w5 hT
      have HK5 := Lib.hid hk5
      have HB5 := Lib.hid hb5
      unfold tkv at hnx
      generalize Tb.tok l sf.pos = t at *
      obtain ⟨kd, tx, ps⟩ := t
      dsimp only at hnx
      have hfd := fun w => tok_pos kd ps tx w
      have HNX := Lib.hid hnx
      clear hr hT hK hb5 hnx hk5 hz
      go_wp2_with (fail)
      refine HNX.out.mono ?_
      rintro e w6 ⟨rfl, hb6⟩
      have hk6 := HK5.out.below hb6 HK5.out.lt
      have hc := hk6.cell 0
      have hfz := hk6.frozen 0
      have hk7 := hk6.set_ 0 (.slice none 0 0)
      have hcell : (w6.setCell ⟨w.heap.size, 0, none⟩ (.slice none 0 0)).cell? ⟨w.heap.size, 0, none⟩ = some (.slice none 0 0) := hk7.cell 0
      have HB6 := Lib.hid ((HB5.out.trans (hb6.mono HB5.out.size)).setCell (p := ⟨w.heap.size, 0, none⟩) (Nat.le_refl _) (.slice none 0 0))
      clear hb6 hk6 hk7
      go_wp2
      rw [HR.out]
      exact bodyPost_ret (v := .tuple #[.agg #[.slice none 0 0], .int .i64 ps, .int .i64 (ef : Int)]) (by simp [results, Tryz.results18, go_sem, hcell]) rfl ⟨_, rfl, IsTab.nil _ _, HB6.out⟩
  · have hrd : Ready w c l A w2.heap.size w1.heap.size P b0 b1 b2 (w2.alloc (.cells (rcells A l.length c P w1.heap.size Tb.start).toArray 74)) := by
      have hb3 := undrew hb3
      have hsz : (w1.alloc (.cells (nils 39).toArray 43)).heap.size = w1.heap.size + 1 := by simp
      have hz2 : w1.heap.size + 1 ≤ w2.heap.size := by rw [← hsz]; exact hb3.size
      have hb4 : Below w1.heap.size w1 (w1.alloc (.cells (nils 39).toArray 43)) := (Below.refl _ w1).alloc (Nat.le_refl _) _
      have hb5 : Below w1.heap.size w1 w2 := hb4.trans (Below.mono (show Below (w1.alloc (.cells (nils 39).toArray 43)).heap.size (w1.alloc (.cells (nils 39).toArray 43)) w2 from hb3) (by omega))
      have hbw : Below w.heap.size w w2 := HB2.out.trans (hb5.mono (Nat.le_of_lt hz1))
      have q0 : w1.heap.size + 1 ≤ P := by rw [← hsz]; exact p0
      have q1 : w1.heap.size + 1 ≤ b0 := by rw [← hsz]; exact p1
      have q2 : w1.heap.size + 1 ≤ b1 := by rw [← hsz]; exact p2
      have q3 : w1.heap.size + 1 ≤ b2 := by rw [← hsz]; exact p3
      have l0 := hp.blk.lt
      have l1 := hp.v0.lt
      have l2 := hp.v1.lt
      have l3 := hp.v2.lt
      have hq : Blk w2 w1.heap.size 43 (nils 39).toArray := Blk.below (Blk.new w1 43 (nils 39).toArray) (show Below (w1.alloc (.cells (nils 39).toArray 43)).heap.size _ w2 from hb3) (by omega)
      have hrd := start_rd (Q := w1.heap.size) (B := w1.heap.size) (c := c) (W := w2) hq hp (HI.out.below hbw hg0) (HROW.out.below hb5) (Nat.le_refl _) (by omega) HL0.out
      refine ⟨hrd, ⟨by omega, ⟨by omega, by omega⟩, ⟨by omega, by omega⟩, ⟨by omega, by omega⟩, ⟨by omega, by omega⟩, ⟨by omega, by omega⟩⟩, hbw.alloc (by omega) _, ?_, by omega, by omega⟩
      exact (HK1.out.below hb5 HK1.out.lt).alloc _
    show Exit.then _ _ _ _ ((w2).alloc (.cells (rcells A l.length c P w1.heap.size Tb.start).toArray 74))
    obtain ⟨W, hW⟩ : ∃ W, (w2).alloc (.cells (rcells A l.length c P w1.heap.size Tb.start).toArray 74) = W := ⟨_, rfl⟩
    rw [hW] at hrd ⊢
    have HRD := Lib.hid hrd
    clear hrd hW hp hb3 p0 p1 p2 p3 hmk
    obtain ⟨R, hR⟩ : ∃ R, w2.heap.size = R := ⟨_, rfl⟩
    obtain ⟨Q, hQ⟩ : ∃ Q, w1.heap.size = Q := ⟨_, rfl⟩
    rw [hR, hQ] at HRD ⊢
    have HTC := Lib.hid (HTB.out R Q P b0 b1 b2 c A W HRD.out.fast HRD.out.rd)
    clear hR hQ
    go_wp2_with (fail)
    refine HTC.out.mono ?_
    rintro e w5 ⟨rfl, hT, hK⟩
    have hne1 : w.heap.size ≠ R := by have := HRD.out.r; omega
    have hne2 : w.heap.size ≠ Q := by have := HRD.out.q; omega
    have hk5 : Blk w5 w.heap.size 24 #[.slice none 0 0] := (hK.block _ HRD.out.res.lt hne1 hne2).trans HRD.out.res
    have hb5 : Below w.heap.size w w5 := HRD.out.below.trans (hK.below HRD.out.below.size (Nat.le_of_lt HRD.out.r) (Nat.le_of_lt HRD.out.q))
    by_cases hz : ef = 0
    · subst hz
      have hr := HRES.out
      rw [if_pos rfl] at hr
      have HR := Lib.hid hr
      have c3 := hT.c3
      have hc := hk5.cell 0
      have hfz := hk5.frozen 0
      have hk6 := hk5.set_ 0 (.slice (some ⟨Q, 0, none⟩) 13 13)
      have hcell : (w5.setCell ⟨w.heap.size, 0, none⟩ (.slice (some ⟨Q, 0, none⟩) 13 13)).cell? ⟨w.heap.size, 0, none⟩ = some (.slice (some ⟨Q, 0, none⟩) 13 13) := hk6.cell 0
      have hT6 : IsTab (w5.setCell ⟨w.heap.size, 0, none⟩ (.slice (some ⟨Q, 0, none⟩) 13 13)) (w5.setCell ⟨w.heap.size, 0, none⟩ (.slice (some ⟨Q, 0, none⟩) 13 13)).heap.size (.slice (some ⟨Q, 0, none⟩) 13 13) sf.rows := tab_apart hk5 hne2 hT.rows hT.st.rows
      have HT6 := Lib.hid hT6
      have HB6 := Lib.hid (hb5.setCell (p := ⟨w.heap.size, 0, none⟩) (Nat.le_refl _) (.slice (some ⟨Q, 0, none⟩) 13 13))
      clear hr hT hK hb5 hT6 hk6
      go_wp2
      rw [HR.out]
      exact bodyPost_ret (v := .tuple #[.agg #[.slice (some ⟨Q, 0, none⟩) 13 13], .int .i64 0, .int .i64 0]) (by simp [results, Tryz.results18, go_sem, hcell]) rfl ⟨_, rfl, HT6.out, HB6.out⟩
    · have he1 : ((ef : Int) != 0) = true := by rw [bne_iff_ne]; omega
      have hr := HRES.out
      rw [if_neg hz] at hr
      have HR := Lib.hid hr
      have hnx := next_any w5 hT
      have HK5 := Lib.hid hk5
      have HB5 := Lib.hid hb5
      unfold tkv at hnx
      generalize Tb.tok l sf.pos = t at *
      obtain ⟨kd, tx, ps⟩ := t
      dsimp only at hnx
      have hfd := fun w => tok_pos kd ps tx w
      have HNX := Lib.hid hnx
      clear hr hT hK hb5 hnx hk5 hz
      go_wp2_with (fail)
      refine HNX.out.mono ?_
      rintro e w6 ⟨rfl, hb6⟩
      have hk6 := HK5.out.below hb6 HK5.out.lt
      have hc := hk6.cell 0
      have hfz := hk6.frozen 0
      have hk7 := hk6.set_ 0 (.slice none 0 0)
      have hcell : (w6.setCell ⟨w.heap.size, 0, none⟩ (.slice none 0 0)).cell? ⟨w.heap.size, 0, none⟩ = some (.slice none 0 0) := hk7.cell 0
      have HB6 := Lib.hid ((HB5.out.trans (hb6.mono HB5.out.size)).setCell (p := ⟨w.heap.size, 0, none⟩) (Nat.le_refl _) (.slice none 0 0))
      clear hb6 hk6 hk7
      go_wp2
      rw [HR.out]
      exact bodyPost_ret (v := .tuple #[.agg #[.slice none 0 0], .int .i64 ps, .int .i64 (ef : Int)]) (by simp [results, Tryz.results18, go_sem, hcell]) rfl ⟨_, rfl, IsTab.nil _ _, HB6.out⟩
theorem parse_any (s : ByteArray) (w : World) (hm : s.size ≤ maxLen) (hi : Ins w) : Calls Tryz.prog 18 #[.string s] w (ParseRes w (Tb.parse s.data.toList)) := by
  by_cases he : (Lx.lex s.data.toList).2.2 = 0
  · exact parse_good s w hm hi (l := (Lx.lex s.data.toList).1) (a := (Lx.lex s.data.toList).2.1) (by rw [← he])
  · exact parse_lex s w hm he
end Go.Proofs.YtggcmkpafpjnoaaGreatDoor
