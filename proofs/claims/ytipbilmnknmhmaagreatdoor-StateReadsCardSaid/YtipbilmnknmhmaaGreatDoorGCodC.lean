/- The reference's Label. -/
import Derived.Test.YtipbilmnknmhmaaGreatDoorGNotG
import Derived.Test.YtipbilmnknmhmaaGreatDoorGFree
namespace Go.Proofs.YtipbilmnknmhmaaGreatDoor
set_option maxRecDepth 100000
open Go.RowKit Go.Shelf Go.Sort
attribute [local go_sem] Oper.semAt_some
/-- A state is stored at g. -/
def put6 (W : World) (g : Nat) (p : RP) : World := ((((((W.setCell ⟨g, 0, none⟩ (.int .i64 (p.i : Int))).setCell ⟨g, 1, none⟩ (.int .i64 p.n)).setCell ⟨g, 2, none⟩ (.int .i64 p.x.op)).setCell ⟨g, 3, none⟩ (.int .i64 p.x.n)).setCell ⟨g, 4, none⟩ (.int .i64 p.x.l)).setCell ⟨g, 5, none⟩ (.int .i64 (p.e : Int)))
/-- A state lies at g. -/
def PB (W : World) (g : Nat) (p : RP) : Prop := Blk W g 169 #[.int .i64 (p.i : Int), .int .i64 p.n, .int .i64 p.x.op, .int .i64 p.x.n, .int .i64 p.x.l, .int .i64 (p.e : Int)]
def rp0 : RP := ⟨0, 0, ⟨0, 0, 0⟩, 0⟩
theorem PB.put {W : World} {g : Nat} {p : RP} (h : PB W g p) (q : RP) : PB (put6 W g q) g q := (((((h.set_ 0 _).set_ 1 _).set_ 2 _).set_ 3 _).set_ 4 _).set_ 5 _
theorem Blk.put6 {W : World} {g h : Nat} {t : TypeId} {cs : Array Value} (hb : Blk W h t cs) (hg : g ≠ h) (q : RP) : Blk (put6 W g q) h t cs := (((((hb.other hg _).other hg _).other hg _).other hg _).other hg _).other hg _
theorem below_put6 {B : Nat} {a W : World} {g : Nat} (h : Below B a W) (hg : B ≤ g) (q : RP) : Below B a (put6 W g q) := (((((h.setCell (p := ⟨g, 0, none⟩) hg _).setCell (p := ⟨g, 1, none⟩) hg _).setCell (p := ⟨g, 2, none⟩) hg _).setCell (p := ⟨g, 3, none⟩) hg _).setCell (p := ⟨g, 4, none⟩) hg _).setCell (p := ⟨g, 5, none⟩) hg _
theorem PB.cells {W : World} {g : Nat} {p : RP} (h : PB W g p) : (W.cell? ⟨g, 0, none⟩ = some (.int .i64 (p.i : Int)) ∧ W.cell? ⟨g, 1, none⟩ = some (.int .i64 p.n) ∧ W.cell? ⟨g, 2, none⟩ = some (.int .i64 p.x.op) ∧ W.cell? ⟨g, 3, none⟩ = some (.int .i64 p.x.n) ∧ W.cell? ⟨g, 4, none⟩ = some (.int .i64 p.x.l) ∧ W.cell? ⟨g, 5, none⟩ = some (.int .i64 (p.e : Int))) ∧
    (W.frozen? ⟨g, 0, none⟩ = false ∧ W.frozen? ⟨g, 1, none⟩ = false ∧ W.frozen? ⟨g, 2, none⟩ = false ∧ W.frozen? ⟨g, 3, none⟩ = false ∧ W.frozen? ⟨g, 4, none⟩ = false ∧ W.frozen? ⟨g, 5, none⟩ = false) :=
  ⟨⟨h.cell 0, h.cell 1, h.cell 2, h.cell 3, h.cell 4, h.cell 5⟩, h.frozen 0, h.frozen 1, h.frozen 2, h.frozen 3, h.frozen 4, h.frozen 5⟩
/-- Label's (and one's) blocks: the lattice, the state, the answer. -/
structure RL (w : World) (b : Nat) (lv : Array Value) (pb rb : Nat) (p r : RP) (W : World) : Prop where
  lat : Blk W b 25 lv
  st : PB W pb p
  res : PB W rb r
  below : Below w.heap.size w W
  new : w.heap.size ≤ b ∧ w.heap.size ≤ pb ∧ w.heap.size ≤ rb ∧ b ≠ pb ∧ b ≠ rb ∧ pb ≠ rb
section
variable {w W W' : World} {b pb rb : Nat} {lv : Array Value} {p q r : RP}
theorem RL.keep (h : RL w b lv pb rb p r W) (hb : Below W.heap.size W W') : RL w b lv pb rb p r W' :=
  ⟨h.lat.below hb h.lat.lt, Blk.below h.st hb (Blk.lt h.st), Blk.below h.res hb (Blk.lt h.res), h.below.trans (hb.mono h.below.size), h.new⟩
theorem RL.put (h : RL w b lv pb rb p r W) (q : RP) : RL w b lv pb rb q r (put6 W pb q) :=
  ⟨h.lat.put6 (fun e => h.new.2.2.2.1 e.symm) q, h.st.put q, Blk.put6 h.res h.new.2.2.2.2.2 q, below_put6 h.below h.new.2.1 q, h.new⟩
theorem RL.ans (h : RL w b lv pb rb p r W) (q : RP) : RL w b lv pb rb p q (put6 W rb q) :=
  ⟨h.lat.put6 (fun e => h.new.2.2.2.2.1 e.symm) q, Blk.put6 h.st (fun e => h.new.2.2.2.2.2 e.symm) q, h.res.put q, below_put6 h.below h.new.2.2.1 q, h.new⟩
theorem RL.drew (h : RL w b lv pb rb p r W) : RL w b lv pb rb p r W.drew := ⟨h.lat, h.st, h.res, h.below.drew, h.new⟩
theorem RL.setI (h : RL w b lv pb rb p r W) (i : Nat) : RL w b lv pb rb { p with i := i } r (W.setCell ⟨pb, 0, none⟩ (.int .i64 (i : Int))) :=
  ⟨h.lat.other (fun e => h.new.2.2.2.1 e.symm) _, Blk.set_ h.st 0 _, Blk.other h.res h.new.2.2.2.2.2 _, h.below.setCell h.new.2.1 _, h.new⟩
theorem RL.setN (h : RL w b lv pb rb p r W) (n : Int) : RL w b lv pb rb { p with n := n } r (W.setCell ⟨pb, 1, none⟩ (.int .i64 n)) :=
  ⟨h.lat.other (fun e => h.new.2.2.2.1 e.symm) _, Blk.set_ h.st 1 _, Blk.other h.res h.new.2.2.2.2.2 _, h.below.setCell h.new.2.1 _, h.new⟩
theorem RL.setXN (h : RL w b lv pb rb p r W) (n : Int) : RL w b lv pb rb { p with x := { p.x with n := n } } r (W.setCell ⟨pb, 3, none⟩ (.int .i64 n)) :=
  ⟨h.lat.other (fun e => h.new.2.2.2.1 e.symm) _, Blk.set_ h.st 3 _, Blk.other h.res h.new.2.2.2.2.2 _, h.below.setCell h.new.2.1 _, h.new⟩
theorem RL.setXL (h : RL w b lv pb rb p r W) (n : Int) : RL w b lv pb rb { p with x := { p.x with l := n } } r (W.setCell ⟨pb, 4, none⟩ (.int .i64 n)) :=
  ⟨h.lat.other (fun e => h.new.2.2.2.1 e.symm) _, Blk.set_ h.st 4 _, Blk.other h.res h.new.2.2.2.2.2 _, h.below.setCell h.new.2.1 _, h.new⟩
theorem RL.setE (h : RL w b lv pb rb p r W) (n : Nat) : RL w b lv pb rb { p with e := n } r (W.setCell ⟨pb, 5, none⟩ (.int .i64 (n : Int))) :=
  ⟨h.lat.other (fun e => h.new.2.2.2.1 e.symm) _, Blk.set_ h.st 5 _, Blk.other h.res h.new.2.2.2.2.2 _, h.below.setCell h.new.2.1 _, h.new⟩
end
def rName (names : List ByteArray) (l : List Lx.Tk) (p : RP) : RP :=
  if (Tb.tok l p.i).kind = 1 then (match idxN names (Tb.tok l p.i).text with | none => { p with n := -1, e := 6 } | some a => { p with n := (a : Nat), i := p.i + 1 }) else { p with e := 4 }
def rLab (names : List ByteArray) (l : List Lx.Tk) (p : RP) : RP := if (rMark l Cd.bAt p).e = 0 then rName names l (rMark l Cd.bAt p) else rMark l Cd.bAt p
theorem rMark_i (l : List Lx.Tk) (hf : Tb.Fine l) (t : ByteArray) (p : RP) (h : p.i < l.length) : (rMark l t p).i < l.length := by
  unfold rMark
  split
  · split
    · exact Cd.isM_next hf h (by assumption)
    · exact h
  · exact h
theorem RL.start (w : World) (lv : Array Value) (p : RP) : RL w w.heap.size lv (w.heap.size + 1) (w.heap.size + 1 + 1) p rp0 (((w.alloc (.cells lv 25)).alloc (.cells #[.int .i64 (p.i : Int), .int .i64 p.n, .int .i64 p.x.op, .int .i64 p.x.n, .int .i64 p.x.l, .int .i64 (p.e : Int)] 169)).alloc (.cells #[.int .i64 0, .int .i64 0, .int .i64 0, .int .i64 0, .int .i64 0, .int .i64 0] 169)) := by
  have h1 := Blk.new (w.alloc (.cells lv 25)) 169 #[.int .i64 (p.i : Int), .int .i64 p.n, .int .i64 p.x.op, .int .i64 p.x.n, .int .i64 p.x.l, .int .i64 (p.e : Int)]
  have h2 := Blk.new ((w.alloc (.cells lv 25)).alloc (.cells #[.int .i64 (p.i : Int), .int .i64 p.n, .int .i64 p.x.op, .int .i64 p.x.n, .int .i64 p.x.l, .int .i64 (p.e : Int)] 169)) 169 #[.int .i64 0, .int .i64 0, .int .i64 0, .int .i64 0, .int .i64 0, .int .i64 0]
  simp only [World.size_alloc] at h1 h2
  exact ⟨((Blk.new w _ _).alloc _).alloc _, h1.alloc _, h2, three_new w _ _ _, by omega⟩
/-! Label. -/
set_option maxHeartbeats 8000000 in
theorem rLab_any {v : Value} {names : List ByteArray} {up : List Nat} {A : Option Addr} {l : List Lx.Tk} (c : Nat) (p : RP) (w : World) (hla : IsLat w w.heap.size v names up) (h : Row w w.heap.size A (tcells l)) (hf : Tb.Fine l) (hp : p.i < l.length) (hl : l.length ≤ 100000) :
    Calls Tryz.prog 118 #[v, .slice A l.length c, rpv p] w (TellsP w (rLab names l p)) := by
  obtain ⟨⟨N, U, c1, c2, rfl, hN, hU⟩, hsh, hfew, hcaps⟩ := id hla
  have hst := RL.start w #[.slice N names.length c1, .slice U up.length c2] p
  have hqi := rMark_i l hf Cd.bAt p hp
  obtain ⟨res, hres⟩ : ∃ res, rLab names l p = res := ⟨_, rfl⟩
  rw [hres]
  unfold rLab at hres
  obtain ⟨i, n, ⟨xo, xn, xl⟩, e⟩ := p
  dsimp only at hp hst hqi
  obtain ⟨W0, hW0⟩ : ∃ W0, (((w.alloc (.cells #[.slice N names.length c1, .slice U up.length c2] 25)).alloc (.cells #[.int .i64 (i : Int), .int .i64 n, .int .i64 xo, .int .i64 xn, .int .i64 xl, .int .i64 (e : Int)] 169)).alloc (.cells #[.int .i64 0, .int .i64 0, .int .i64 0, .int .i64 0, .int .i64 0, .int .i64 0] 169)) = W0 := ⟨_, rfl⟩
  rw [hW0] at hst
  have hmk := rMark8_any c Cd.bAt ⟨i, n, ⟨xo, xn, xl⟩, e⟩ W0 ((h.below hst.below).more hst.below.size) hp hl
  obtain ⟨q, hq⟩ : ∃ q, rMark l Cd.bAt ⟨i, n, ⟨xo, xn, xl⟩, e⟩ = q := ⟨_, rfl⟩
  rw [hq] at hmk hqi hres
  clear hq
  obtain ⟨qi, qn, ⟨qo, qxn, qxl⟩, qe⟩ := q
  dsimp only at hqi hres
  unfold rName at hres
  dsimp only at hres
  obtain ⟨ad, tk, rfl, hb, ht, t0, t1, t2⟩ := trow_at h hqi
  have e2 := Tb.tok_some hqi
  rw [ht] at e2
  injection e2 with e2
  have hblk : (ad.add (qi * 3)).block < w.heap.size := by rw [add_block]; exact hb
  rw [← e2] at hres
  obtain ⟨kd, tx, ps⟩ := tk
  dsimp only at t0 t1 t2 hres
  have HRES := Lib.hid hres
  clear hres
  have hqb : qi < l.length := hqi
  have hqb2 : qi < 100000 := by omega
  unfold TellsP rpv Cd.bAt at hmk
  unfold rpv
  dsimp only at hmk ⊢
  have HMK := Lib.hid hmk
  have HST0 := Lib.hid hst
  obtain ⟨⟨y0, y1, y2, y3, y4, y5⟩, -⟩ := PB.cells hst.st
  dsimp only at y0 y1 y2 y3 y4 y5
  have HLA := Lib.hid hla
  have ht0 := fun W (hb : Below w.heap.size w W) => (hb.cell (p := (ad.add (qi * 3))) hblk).trans t0
  have ht1 := fun W (hb : Below w.heap.size w W) => (hb.cell (p := ⟨(ad.add (qi * 3)).block, (ad.add (qi * 3)).off + 1, none⟩) hblk).trans t1
  have HT0 := Lib.hid ht0
  have HT1 := Lib.hid ht1
  clear e2 h ht hb hN hU hsh hfew hcaps hla hst hmk hqi t0 t1 t2 ht0 ht1 hp hf
  generalize l.length = ln at *
  by_cases he : qe = 0
  · subst he
    have HMK : Hid (Calls Tryz.prog 139 #[.slice (some ad) ln c, .agg #[.int .i64 (i : Int), .int .i64 n, .int .i64 xo, .int .i64 xn, .int .i64 xl, .int .i64 (e : Int)], .string { data := #[64] }] W0 fun e' w' => e' = .returned (.agg #[.int .i64 (qi : Int), .int .i64 qn, .int .i64 qo, .int .i64 qxn, .int .i64 qxl, .int .i64 0]) ∧ Below W0.heap.size W0 w') := HMK
    go_enter Tryz.func118, Tryz.ntmps118
    go_wp2_with (fail)
    refine HMK.out.mono ?_
    rintro e' v2 ⟨rfl, hb2⟩
    have hsa2 := HST0.out.keep hb2
    have hst2 : RL w w.heap.size #[.slice N names.length c1, .slice U up.length c2] (w.heap.size + 1) (w.heap.size + 1 + 1) ⟨qi, qn, ⟨qo, qxn, qxl⟩, 0⟩ rp0 ((((((v2.setCell ⟨w.heap.size + 1, 0, none⟩ (.int .i64 (qi : Int))).setCell ⟨w.heap.size + 1, 1, none⟩ (.int .i64 qn)).setCell ⟨w.heap.size + 1, 2, none⟩ (.int .i64 qo)).setCell ⟨w.heap.size + 1, 3, none⟩ (.int .i64 qxn)).setCell ⟨w.heap.size + 1, 4, none⟩ (.int .i64 qxl)).setCell ⟨w.heap.size + 1, 5, none⟩ (.int .i64 0)) := hsa2.put ⟨qi, qn, ⟨qo, qxn, qxl⟩, 0⟩
    obtain ⟨⟨x0, x1, x2, x3, x4, x5⟩, f0, f1, f2, f3, f4, f5⟩ := PB.cells hsa2.st
    dsimp only at x0 x1 x2 x3 x4 x5
    obtain ⟨W2, hW2⟩ : ∃ W2, ((((((v2.setCell ⟨w.heap.size + 1, 0, none⟩ (.int .i64 (qi : Int))).setCell ⟨w.heap.size + 1, 1, none⟩ (.int .i64 qn)).setCell ⟨w.heap.size + 1, 2, none⟩ (.int .i64 qo)).setCell ⟨w.heap.size + 1, 3, none⟩ (.int .i64 qxn)).setCell ⟨w.heap.size + 1, 4, none⟩ (.int .i64 qxl)).setCell ⟨w.heap.size + 1, 5, none⟩ (.int .i64 0)) = W2 := ⟨_, rfl⟩
    rw [hW2] at hst2
    have HST2 := Lib.hid hst2
    clear hb2 hsa2 hst2 HMK
    dsimp only
    clear y0 y1 y2 y3 y4 y5

    have s5 : W2.cell? ⟨w.heap.size + 1, 5, none⟩ = some (.int .i64 0) := HST2.out.st.cell 5
    have s0 : W2.cell? ⟨w.heap.size + 1, 0, none⟩ = some (.int .i64 (qi : Int)) := HST2.out.st.cell 0
    have a0 := HT0.out W2 HST2.out.below
    have hz2 := HST2.out.below.size
    by_cases hk : kd = 1
    · subst hk
      have a1 := HT1.out W2 HST2.out.below
      have b0 := HST2.out.lat.cell 0
      have b1 := HST2.out.lat.cell 1
      have hfd := rFind_any tx W2.drew ((HLA.out.below HST2.out.drew.below).more HST2.out.drew.below.size)
      have HFD := Lib.hid hfd
      clear hfd
      go_wp2_with (fail)
      refine Free.region_seq [7, 9] [0, 3, 6] 7 (fun W' => W'.cell? ⟨w.heap.size, 0, none⟩ = some (.slice N names.length c1) ∧ W'.cell? ⟨w.heap.size, 1, none⟩ = some (.slice U up.length c2) ∧ W'.cell? ⟨w.heap.size + 1, 0, none⟩ = some (.int .i64 (qi : Int)) ∧ W'.cell? ⟨(ad.add (qi * 3)).block, (ad.add (qi * 3)).off + 1, none⟩ = some (.string tx)) (by kernel_rfl) (by kernel_rfl) (by kernel_rfl) (by kernel_rfl) (⟨b0, b1, s0, a1⟩) (fun ops hops => ?_)
      clear hops
      iterate 7
        refine Free.Seq.quiet (v := ?_) (a' := ?_) rfl rfl (fun W' hW' => ?_) ?_ ?_
        rotate_left 2
        · first | obtain ⟨s0, s1, s2, s3⟩ := hW' rfl | skip
          go_simp
          try with_reducible rfl
        · simp only [Act.put, List.setIfInBounds_toArray, List.set_cons_zero, List.set_cons_succ]
          try with_reducible rfl
      refine Free.Seq.loud_ rfl (.inl rfl) (fun K hK => ?_)
      go_simp
      refine HFD.out.mono ?_
      rintro e' w3 ⟨rfl, hb3⟩
      have hst3 := HST2.out.drew.keep hb3
      obtain ⟨⟨x0, x1, x2, x3, x4, x5⟩, f0, f1, f2, f3, f4, f5⟩ := PB.cells hst3.st
      dsimp only at x0 x1 x2 x3 x4 x5
      have hst4 := hst3.setN (idxI names tx)
      have HST4 := Lib.hid hst4
      clear hst3 hst4 hb3
      refine hK.out _ _ rfl (fun h => absurd h (by decide)) ?_
      clear hK K
      iterate 1
        refine Free.Seq.quiet (v := ?_) (a' := ?_) rfl rfl (fun W' hW' => ?_) ?_ ?_
        rotate_left 2
        · skip
          go_simp
          try with_reducible rfl
        · simp only [Act.put, List.setIfInBounds_toArray, List.set_cons_zero, List.set_cons_succ]
          try with_reducible rfl
      refine Free.Seq.loud_ rfl (.inl rfl) (fun K hK => ?_)
      go_simp
      refine hK.out _ _ rfl (fun h => absurd h (by decide)) ?_
      clear hK K
      refine Free.Seq.nil_ ?_
      obtain ⟨W4, hW4⟩ : ∃ W4, w3.setCell ⟨w.heap.size + 1, 1, none⟩ (.int .i64 (idxI names tx)) = W4 := ⟨_, rfl⟩
      rw [hW4] at HST4 ⊢
      clear hW4 f0 f1 f2 f3 f4 f5 x0 x1 x2 x3 x4 x5 s0 s5 a0 a1 b0 b1 hz2 HFD hW2
      cases hix : idxN names tx with
      | none =>
        rw [idxI_none hix] at HST4
        have HIX := Lib.hid hix
        clear hix
        have m1 : W4.cell? ⟨w.heap.size + 1, 1, none⟩ = some (.int .i64 (-1)) := HST4.out.st.cell 1
        have m5 : W4.cell? ⟨w.heap.size + 1, 5, none⟩ = some (.int .i64 0) := HST4.out.st.cell 5
        have mf : W4.frozen? ⟨w.heap.size + 1, 5, none⟩ = false := HST4.out.st.frozen 5
        have hst5 : RL w w.heap.size #[.slice N names.length c1, .slice U up.length c2] (w.heap.size + 1) (w.heap.size + 1 + 1) ⟨qi, -1, ⟨qo, qxn, qxl⟩, 6⟩ rp0 (W4.setCell ⟨w.heap.size + 1, 5, none⟩ (.int .i64 6)) := HST4.out.setE 6
        obtain ⟨W5, hW5⟩ : ∃ W5, W4.setCell ⟨w.heap.size + 1, 5, none⟩ (.int .i64 6) = W5 := ⟨_, rfl⟩
        rw [hW5] at hst5
        have HST5 := Lib.hid hst5
        clear hst5
        have hrs : res = ⟨qi, -1, ⟨qo, qxn, qxl⟩, 6⟩ := by rw [← HRES.out]; simp [HIX.out]
        have HRS := Lib.hid hrs
        clear hrs
        have hz : RL w w.heap.size #[.slice N names.length c1, .slice U up.length c2] (w.heap.size + 1) (w.heap.size + 1 + 1) _ ⟨qi, -1, ⟨qo, qxn, qxl⟩, 6⟩ ((((((W5.setCell ⟨w.heap.size + 1 + 1, 0, none⟩ (.int .i64 (qi : Int))).setCell ⟨w.heap.size + 1 + 1, 1, none⟩ (.int .i64 (-1))).setCell ⟨w.heap.size + 1 + 1, 2, none⟩ (.int .i64 qo)).setCell ⟨w.heap.size + 1 + 1, 3, none⟩ (.int .i64 qxn)).setCell ⟨w.heap.size + 1 + 1, 4, none⟩ (.int .i64 qxl)).setCell ⟨w.heap.size + 1 + 1, 5, none⟩ (.int .i64 6)) := HST5.out.ans ⟨qi, -1, ⟨qo, qxn, qxl⟩, 6⟩
        obtain ⟨Wz, hWz⟩ : ∃ Wz, ((((((W5.setCell ⟨w.heap.size + 1 + 1, 0, none⟩ (.int .i64 (qi : Int))).setCell ⟨w.heap.size + 1 + 1, 1, none⟩ (.int .i64 (-1))).setCell ⟨w.heap.size + 1 + 1, 2, none⟩ (.int .i64 qo)).setCell ⟨w.heap.size + 1 + 1, 3, none⟩ (.int .i64 qxn)).setCell ⟨w.heap.size + 1 + 1, 4, none⟩ (.int .i64 qxl)).setCell ⟨w.heap.size + 1 + 1, 5, none⟩ (.int .i64 6)) = Wz := ⟨_, rfl⟩
        rw [hWz] at hz
        obtain ⟨⟨z0, z1, z2, z3, z4, z5⟩, k0, k1, k2, k3, k4, k5⟩ := PB.cells HST5.out.res
        dsimp only [rp0] at z0 z1 z2 z3 z4 z5
        have q0 : Wz.cell? ⟨w.heap.size + 1 + 1, 0, none⟩ = some (.int .i64 (qi : Int)) := hz.res.cell 0
        have q1 : Wz.cell? ⟨w.heap.size + 1 + 1, 1, none⟩ = some (.int .i64 (-1)) := hz.res.cell 1
        have q2 : Wz.cell? ⟨w.heap.size + 1 + 1, 2, none⟩ = some (.int .i64 qo) := hz.res.cell 2
        have q3 : Wz.cell? ⟨w.heap.size + 1 + 1, 3, none⟩ = some (.int .i64 qxn) := hz.res.cell 3
        have q4 : Wz.cell? ⟨w.heap.size + 1 + 1, 4, none⟩ = some (.int .i64 qxl) := hz.res.cell 4
        have q5 : Wz.cell? ⟨w.heap.size + 1 + 1, 5, none⟩ = some (.int .i64 6) := hz.res.cell 5
        have HZ := Lib.hid hz.below
        clear hz
        have s0 : W5.cell? ⟨w.heap.size + 1, 0, none⟩ = some (.int .i64 (qi : Int)) := HST5.out.st.cell 0
        have g0 : W5.frozen? ⟨w.heap.size + 1, 0, none⟩ = false := HST5.out.st.frozen 0
        have s1 : W5.cell? ⟨w.heap.size + 1, 1, none⟩ = some (.int .i64 (-1)) := HST5.out.st.cell 1
        have g1 : W5.frozen? ⟨w.heap.size + 1, 1, none⟩ = false := HST5.out.st.frozen 1
        have s2 : W5.cell? ⟨w.heap.size + 1, 2, none⟩ = some (.int .i64 qo) := HST5.out.st.cell 2
        have g2 : W5.frozen? ⟨w.heap.size + 1, 2, none⟩ = false := HST5.out.st.frozen 2
        have s3 : W5.cell? ⟨w.heap.size + 1, 3, none⟩ = some (.int .i64 qxn) := HST5.out.st.cell 3
        have g3 : W5.frozen? ⟨w.heap.size + 1, 3, none⟩ = false := HST5.out.st.frozen 3
        have s4 : W5.cell? ⟨w.heap.size + 1, 4, none⟩ = some (.int .i64 qxl) := HST5.out.st.cell 4
        have g4 : W5.frozen? ⟨w.heap.size + 1, 4, none⟩ = false := HST5.out.st.frozen 4
        have s5 : W5.cell? ⟨w.heap.size + 1, 5, none⟩ = some (.int .i64 6) := HST5.out.st.cell 5
        have g5 : W5.frozen? ⟨w.heap.size + 1, 5, none⟩ = false := HST5.out.st.frozen 5
        go_wp2
        exact bodyPost_ret (v := rpv ⟨qi, -1, ⟨qo, qxn, qxl⟩, 6⟩) (by simp [results, Tryz.results118, go_sem, q0, q1, q2, q3, q4, q5, rpv]) rfl ⟨by rw [HRS.out], HZ.out⟩
      | some a =>
        rw [idxI_some hix] at HST4
        have HIX := Lib.hid hix
        clear hix
        have m1 : W4.cell? ⟨w.heap.size + 1, 1, none⟩ = some (.int .i64 (a : Int)) := HST4.out.st.cell 1
        have m0 : W4.cell? ⟨w.heap.size + 1, 0, none⟩ = some (.int .i64 (qi : Int)) := HST4.out.st.cell 0
        have mf : W4.frozen? ⟨w.heap.size + 1, 0, none⟩ = false := HST4.out.st.frozen 0
        have hst5 : RL w w.heap.size #[.slice N names.length c1, .slice U up.length c2] (w.heap.size + 1) (w.heap.size + 1 + 1) ⟨qi + 1, (a : Int), ⟨qo, qxn, qxl⟩, 0⟩ rp0 (W4.setCell ⟨w.heap.size + 1, 0, none⟩ (.int .i64 ((qi : Int) + 1))) := HST4.out.setI (qi + 1)
        obtain ⟨W5, hW5⟩ : ∃ W5, W4.setCell ⟨w.heap.size + 1, 0, none⟩ (.int .i64 ((qi : Int) + 1)) = W5 := ⟨_, rfl⟩
        rw [hW5] at hst5
        have HST5 := Lib.hid hst5
        clear hst5
        have hrs : res = ⟨qi + 1, (a : Int), ⟨qo, qxn, qxl⟩, 0⟩ := by rw [← HRES.out]; simp [HIX.out]
        have HRS := Lib.hid hrs
        clear hrs
        have hz : RL w w.heap.size #[.slice N names.length c1, .slice U up.length c2] (w.heap.size + 1) (w.heap.size + 1 + 1) _ ⟨qi + 1, (a : Int), ⟨qo, qxn, qxl⟩, 0⟩ ((((((W5.setCell ⟨w.heap.size + 1 + 1, 0, none⟩ (.int .i64 ((qi : Int) + 1))).setCell ⟨w.heap.size + 1 + 1, 1, none⟩ (.int .i64 (a : Int))).setCell ⟨w.heap.size + 1 + 1, 2, none⟩ (.int .i64 qo)).setCell ⟨w.heap.size + 1 + 1, 3, none⟩ (.int .i64 qxn)).setCell ⟨w.heap.size + 1 + 1, 4, none⟩ (.int .i64 qxl)).setCell ⟨w.heap.size + 1 + 1, 5, none⟩ (.int .i64 0)) := HST5.out.ans ⟨qi + 1, (a : Int), ⟨qo, qxn, qxl⟩, 0⟩
        obtain ⟨Wz, hWz⟩ : ∃ Wz, ((((((W5.setCell ⟨w.heap.size + 1 + 1, 0, none⟩ (.int .i64 ((qi : Int) + 1))).setCell ⟨w.heap.size + 1 + 1, 1, none⟩ (.int .i64 (a : Int))).setCell ⟨w.heap.size + 1 + 1, 2, none⟩ (.int .i64 qo)).setCell ⟨w.heap.size + 1 + 1, 3, none⟩ (.int .i64 qxn)).setCell ⟨w.heap.size + 1 + 1, 4, none⟩ (.int .i64 qxl)).setCell ⟨w.heap.size + 1 + 1, 5, none⟩ (.int .i64 0)) = Wz := ⟨_, rfl⟩
        rw [hWz] at hz
        obtain ⟨⟨z0, z1, z2, z3, z4, z5⟩, k0, k1, k2, k3, k4, k5⟩ := PB.cells HST5.out.res
        dsimp only [rp0] at z0 z1 z2 z3 z4 z5
        have q0 : Wz.cell? ⟨w.heap.size + 1 + 1, 0, none⟩ = some (.int .i64 ((qi : Int) + 1)) := hz.res.cell 0
        have q1 : Wz.cell? ⟨w.heap.size + 1 + 1, 1, none⟩ = some (.int .i64 (a : Int)) := hz.res.cell 1
        have q2 : Wz.cell? ⟨w.heap.size + 1 + 1, 2, none⟩ = some (.int .i64 qo) := hz.res.cell 2
        have q3 : Wz.cell? ⟨w.heap.size + 1 + 1, 3, none⟩ = some (.int .i64 qxn) := hz.res.cell 3
        have q4 : Wz.cell? ⟨w.heap.size + 1 + 1, 4, none⟩ = some (.int .i64 qxl) := hz.res.cell 4
        have q5 : Wz.cell? ⟨w.heap.size + 1 + 1, 5, none⟩ = some (.int .i64 0) := hz.res.cell 5
        have HZ := Lib.hid hz.below
        clear hz
        have s0 : W5.cell? ⟨w.heap.size + 1, 0, none⟩ = some (.int .i64 ((qi : Int) + 1)) := HST5.out.st.cell 0
        have g0 : W5.frozen? ⟨w.heap.size + 1, 0, none⟩ = false := HST5.out.st.frozen 0
        have s1 : W5.cell? ⟨w.heap.size + 1, 1, none⟩ = some (.int .i64 (a : Int)) := HST5.out.st.cell 1
        have g1 : W5.frozen? ⟨w.heap.size + 1, 1, none⟩ = false := HST5.out.st.frozen 1
        have s2 : W5.cell? ⟨w.heap.size + 1, 2, none⟩ = some (.int .i64 qo) := HST5.out.st.cell 2
        have g2 : W5.frozen? ⟨w.heap.size + 1, 2, none⟩ = false := HST5.out.st.frozen 2
        have s3 : W5.cell? ⟨w.heap.size + 1, 3, none⟩ = some (.int .i64 qxn) := HST5.out.st.cell 3
        have g3 : W5.frozen? ⟨w.heap.size + 1, 3, none⟩ = false := HST5.out.st.frozen 3
        have s4 : W5.cell? ⟨w.heap.size + 1, 4, none⟩ = some (.int .i64 qxl) := HST5.out.st.cell 4
        have g4 : W5.frozen? ⟨w.heap.size + 1, 4, none⟩ = false := HST5.out.st.frozen 4
        have s5 : W5.cell? ⟨w.heap.size + 1, 5, none⟩ = some (.int .i64 0) := HST5.out.st.cell 5
        have g5 : W5.frozen? ⟨w.heap.size + 1, 5, none⟩ = false := HST5.out.st.frozen 5
        go_wp2
        exact bodyPost_ret (v := rpv ⟨qi + 1, (a : Int), ⟨qo, qxn, qxl⟩, 0⟩) (by simp [results, Tryz.results118, go_sem, q0, q1, q2, q3, q4, q5, rpv]) rfl ⟨by rw [HRS.out], HZ.out⟩
    · have HKD := Lib.hid hk
      have hkb : (kd != 1) = true := by rw [bne_iff_ne]; exact hk
      have f50 : W2.frozen? ⟨w.heap.size + 1, 5, none⟩ = false := HST2.out.st.frozen 5
      clear hk
      have hst3 : RL w w.heap.size #[.slice N names.length c1, .slice U up.length c2] (w.heap.size + 1) (w.heap.size + 1 + 1) ⟨qi, qn, ⟨qo, qxn, qxl⟩, 4⟩ rp0 (W2.setCell ⟨w.heap.size + 1, 5, none⟩ (.int .i64 4)) := HST2.out.setE 4
      obtain ⟨W3, hW3⟩ : ∃ W3, W2.setCell ⟨w.heap.size + 1, 5, none⟩ (.int .i64 4) = W3 := ⟨_, rfl⟩
      rw [hW3] at hst3
      have HST3 := Lib.hid hst3
      clear hst3
      have hrs : res = ⟨qi, qn, ⟨qo, qxn, qxl⟩, 4⟩ := by rw [← HRES.out]; simp [HKD.out]
      have HRS := Lib.hid hrs
      clear hrs
      have hz : RL w w.heap.size #[.slice N names.length c1, .slice U up.length c2] (w.heap.size + 1) (w.heap.size + 1 + 1) _ ⟨qi, qn, ⟨qo, qxn, qxl⟩, 4⟩ ((((((W3.setCell ⟨w.heap.size + 1 + 1, 0, none⟩ (.int .i64 (qi : Int))).setCell ⟨w.heap.size + 1 + 1, 1, none⟩ (.int .i64 qn)).setCell ⟨w.heap.size + 1 + 1, 2, none⟩ (.int .i64 qo)).setCell ⟨w.heap.size + 1 + 1, 3, none⟩ (.int .i64 qxn)).setCell ⟨w.heap.size + 1 + 1, 4, none⟩ (.int .i64 qxl)).setCell ⟨w.heap.size + 1 + 1, 5, none⟩ (.int .i64 4)) := HST3.out.ans ⟨qi, qn, ⟨qo, qxn, qxl⟩, 4⟩
      obtain ⟨Wz, hWz⟩ : ∃ Wz, ((((((W3.setCell ⟨w.heap.size + 1 + 1, 0, none⟩ (.int .i64 (qi : Int))).setCell ⟨w.heap.size + 1 + 1, 1, none⟩ (.int .i64 qn)).setCell ⟨w.heap.size + 1 + 1, 2, none⟩ (.int .i64 qo)).setCell ⟨w.heap.size + 1 + 1, 3, none⟩ (.int .i64 qxn)).setCell ⟨w.heap.size + 1 + 1, 4, none⟩ (.int .i64 qxl)).setCell ⟨w.heap.size + 1 + 1, 5, none⟩ (.int .i64 4)) = Wz := ⟨_, rfl⟩
      rw [hWz] at hz
      obtain ⟨⟨z0, z1, z2, z3, z4, z5⟩, k0, k1, k2, k3, k4, k5⟩ := PB.cells HST3.out.res
      dsimp only [rp0] at z0 z1 z2 z3 z4 z5
      have q0 : Wz.cell? ⟨w.heap.size + 1 + 1, 0, none⟩ = some (.int .i64 (qi : Int)) := hz.res.cell 0
      have q1 : Wz.cell? ⟨w.heap.size + 1 + 1, 1, none⟩ = some (.int .i64 qn) := hz.res.cell 1
      have q2 : Wz.cell? ⟨w.heap.size + 1 + 1, 2, none⟩ = some (.int .i64 qo) := hz.res.cell 2
      have q3 : Wz.cell? ⟨w.heap.size + 1 + 1, 3, none⟩ = some (.int .i64 qxn) := hz.res.cell 3
      have q4 : Wz.cell? ⟨w.heap.size + 1 + 1, 4, none⟩ = some (.int .i64 qxl) := hz.res.cell 4
      have q5 : Wz.cell? ⟨w.heap.size + 1 + 1, 5, none⟩ = some (.int .i64 4) := hz.res.cell 5
      have HZ := Lib.hid hz.below
      clear hz
      have s0 : W3.cell? ⟨w.heap.size + 1, 0, none⟩ = some (.int .i64 (qi : Int)) := HST3.out.st.cell 0
      have g0 : W3.frozen? ⟨w.heap.size + 1, 0, none⟩ = false := HST3.out.st.frozen 0
      have s1 : W3.cell? ⟨w.heap.size + 1, 1, none⟩ = some (.int .i64 qn) := HST3.out.st.cell 1
      have g1 : W3.frozen? ⟨w.heap.size + 1, 1, none⟩ = false := HST3.out.st.frozen 1
      have s2 : W3.cell? ⟨w.heap.size + 1, 2, none⟩ = some (.int .i64 qo) := HST3.out.st.cell 2
      have g2 : W3.frozen? ⟨w.heap.size + 1, 2, none⟩ = false := HST3.out.st.frozen 2
      have s3 : W3.cell? ⟨w.heap.size + 1, 3, none⟩ = some (.int .i64 qxn) := HST3.out.st.cell 3
      have g3 : W3.frozen? ⟨w.heap.size + 1, 3, none⟩ = false := HST3.out.st.frozen 3
      have s4 : W3.cell? ⟨w.heap.size + 1, 4, none⟩ = some (.int .i64 qxl) := HST3.out.st.cell 4
      have g4 : W3.frozen? ⟨w.heap.size + 1, 4, none⟩ = false := HST3.out.st.frozen 4
      have s5 : W3.cell? ⟨w.heap.size + 1, 5, none⟩ = some (.int .i64 4) := HST3.out.st.cell 5
      have g5 : W3.frozen? ⟨w.heap.size + 1, 5, none⟩ = false := HST3.out.st.frozen 5
      go_wp2
      exact bodyPost_ret (v := rpv ⟨qi, qn, ⟨qo, qxn, qxl⟩, 4⟩) (by simp [results, Tryz.results118, go_sem, q0, q1, q2, q3, q4, q5, rpv]) rfl ⟨by rw [HRS.out], HZ.out⟩
  · have hz1 : ((qe : Int) != 0) = true := by rw [bne_iff_ne]; omega
    have HE := Lib.hid he
    clear he
    have HMK : Hid (Calls Tryz.prog 139 #[.slice (some ad) ln c, .agg #[.int .i64 (i : Int), .int .i64 n, .int .i64 xo, .int .i64 xn, .int .i64 xl, .int .i64 (e : Int)], .string { data := #[64] }] W0 fun e' w' => e' = .returned (.agg #[.int .i64 (qi : Int), .int .i64 qn, .int .i64 qo, .int .i64 qxn, .int .i64 qxl, .int .i64 (qe : Int)]) ∧ Below W0.heap.size W0 w') := HMK
    go_enter Tryz.func118, Tryz.ntmps118
    go_wp2_with (fail)
    refine HMK.out.mono ?_
    rintro e' v2 ⟨rfl, hb2⟩
    have hsa2 := HST0.out.keep hb2
    have hst2 : RL w w.heap.size #[.slice N names.length c1, .slice U up.length c2] (w.heap.size + 1) (w.heap.size + 1 + 1) ⟨qi, qn, ⟨qo, qxn, qxl⟩, qe⟩ rp0 ((((((v2.setCell ⟨w.heap.size + 1, 0, none⟩ (.int .i64 (qi : Int))).setCell ⟨w.heap.size + 1, 1, none⟩ (.int .i64 qn)).setCell ⟨w.heap.size + 1, 2, none⟩ (.int .i64 qo)).setCell ⟨w.heap.size + 1, 3, none⟩ (.int .i64 qxn)).setCell ⟨w.heap.size + 1, 4, none⟩ (.int .i64 qxl)).setCell ⟨w.heap.size + 1, 5, none⟩ (.int .i64 (qe : Int))) := hsa2.put ⟨qi, qn, ⟨qo, qxn, qxl⟩, qe⟩
    obtain ⟨⟨x0, x1, x2, x3, x4, x5⟩, f0, f1, f2, f3, f4, f5⟩ := PB.cells hsa2.st
    dsimp only at x0 x1 x2 x3 x4 x5
    obtain ⟨W2, hW2⟩ : ∃ W2, ((((((v2.setCell ⟨w.heap.size + 1, 0, none⟩ (.int .i64 (qi : Int))).setCell ⟨w.heap.size + 1, 1, none⟩ (.int .i64 qn)).setCell ⟨w.heap.size + 1, 2, none⟩ (.int .i64 qo)).setCell ⟨w.heap.size + 1, 3, none⟩ (.int .i64 qxn)).setCell ⟨w.heap.size + 1, 4, none⟩ (.int .i64 qxl)).setCell ⟨w.heap.size + 1, 5, none⟩ (.int .i64 (qe : Int))) = W2 := ⟨_, rfl⟩
    rw [hW2] at hst2
    have HST2 := Lib.hid hst2
    clear hb2 hsa2 hst2 HMK
    dsimp only
    clear y0 y1 y2 y3 y4 y5

    have hrs : res = ⟨qi, qn, ⟨qo, qxn, qxl⟩, qe⟩ := by rw [← HRES.out]; rw [if_neg HE.out]
    have HRS := Lib.hid hrs
    clear hrs
    have hz : RL w w.heap.size #[.slice N names.length c1, .slice U up.length c2] (w.heap.size + 1) (w.heap.size + 1 + 1) _ ⟨qi, qn, ⟨qo, qxn, qxl⟩, qe⟩ ((((((W2.setCell ⟨w.heap.size + 1 + 1, 0, none⟩ (.int .i64 (qi : Int))).setCell ⟨w.heap.size + 1 + 1, 1, none⟩ (.int .i64 qn)).setCell ⟨w.heap.size + 1 + 1, 2, none⟩ (.int .i64 qo)).setCell ⟨w.heap.size + 1 + 1, 3, none⟩ (.int .i64 qxn)).setCell ⟨w.heap.size + 1 + 1, 4, none⟩ (.int .i64 qxl)).setCell ⟨w.heap.size + 1 + 1, 5, none⟩ (.int .i64 (qe : Int))) := HST2.out.ans ⟨qi, qn, ⟨qo, qxn, qxl⟩, qe⟩
    obtain ⟨Wz, hWz⟩ : ∃ Wz, ((((((W2.setCell ⟨w.heap.size + 1 + 1, 0, none⟩ (.int .i64 (qi : Int))).setCell ⟨w.heap.size + 1 + 1, 1, none⟩ (.int .i64 qn)).setCell ⟨w.heap.size + 1 + 1, 2, none⟩ (.int .i64 qo)).setCell ⟨w.heap.size + 1 + 1, 3, none⟩ (.int .i64 qxn)).setCell ⟨w.heap.size + 1 + 1, 4, none⟩ (.int .i64 qxl)).setCell ⟨w.heap.size + 1 + 1, 5, none⟩ (.int .i64 (qe : Int))) = Wz := ⟨_, rfl⟩
    rw [hWz] at hz
    obtain ⟨⟨z0, z1, z2, z3, z4, z5⟩, k0, k1, k2, k3, k4, k5⟩ := PB.cells HST2.out.res
    dsimp only [rp0] at z0 z1 z2 z3 z4 z5
    have q0 : Wz.cell? ⟨w.heap.size + 1 + 1, 0, none⟩ = some (.int .i64 (qi : Int)) := hz.res.cell 0
    have q1 : Wz.cell? ⟨w.heap.size + 1 + 1, 1, none⟩ = some (.int .i64 qn) := hz.res.cell 1
    have q2 : Wz.cell? ⟨w.heap.size + 1 + 1, 2, none⟩ = some (.int .i64 qo) := hz.res.cell 2
    have q3 : Wz.cell? ⟨w.heap.size + 1 + 1, 3, none⟩ = some (.int .i64 qxn) := hz.res.cell 3
    have q4 : Wz.cell? ⟨w.heap.size + 1 + 1, 4, none⟩ = some (.int .i64 qxl) := hz.res.cell 4
    have q5 : Wz.cell? ⟨w.heap.size + 1 + 1, 5, none⟩ = some (.int .i64 (qe : Int)) := hz.res.cell 5
    have HZ := Lib.hid hz.below
    clear hz
    have s0 : W2.cell? ⟨w.heap.size + 1, 0, none⟩ = some (.int .i64 (qi : Int)) := HST2.out.st.cell 0
    have g0 : W2.frozen? ⟨w.heap.size + 1, 0, none⟩ = false := HST2.out.st.frozen 0
    have s1 : W2.cell? ⟨w.heap.size + 1, 1, none⟩ = some (.int .i64 qn) := HST2.out.st.cell 1
    have g1 : W2.frozen? ⟨w.heap.size + 1, 1, none⟩ = false := HST2.out.st.frozen 1
    have s2 : W2.cell? ⟨w.heap.size + 1, 2, none⟩ = some (.int .i64 qo) := HST2.out.st.cell 2
    have g2 : W2.frozen? ⟨w.heap.size + 1, 2, none⟩ = false := HST2.out.st.frozen 2
    have s3 : W2.cell? ⟨w.heap.size + 1, 3, none⟩ = some (.int .i64 qxn) := HST2.out.st.cell 3
    have g3 : W2.frozen? ⟨w.heap.size + 1, 3, none⟩ = false := HST2.out.st.frozen 3
    have s4 : W2.cell? ⟨w.heap.size + 1, 4, none⟩ = some (.int .i64 qxl) := HST2.out.st.cell 4
    have g4 : W2.frozen? ⟨w.heap.size + 1, 4, none⟩ = false := HST2.out.st.frozen 4
    have s5 : W2.cell? ⟨w.heap.size + 1, 5, none⟩ = some (.int .i64 (qe : Int)) := HST2.out.st.cell 5
    have g5 : W2.frozen? ⟨w.heap.size + 1, 5, none⟩ = false := HST2.out.st.frozen 5
    go_wp2
    exact bodyPost_ret (v := rpv ⟨qi, qn, ⟨qo, qxn, qxl⟩, qe⟩) (by simp [results, Tryz.results118, go_sem, q0, q1, q2, q3, q4, q5, rpv]) rfl ⟨by rw [HRS.out], HZ.out⟩
end Go.Proofs.YtipbilmnknmhmaaGreatDoor

/- The reference's one (by gen_codc.py). -/
namespace Go.Proofs.YtipbilmnknmhmaaGreatDoor
set_option maxRecDepth 100000
open Go.RowKit Go.Shelf Go.Sort
attribute [local go_sem] Oper.semAt_some

def setN8 (q : RP) : RP := ⟨q.i, q.n, ⟨q.x.op, q.n, q.x.l⟩, q.e⟩
def setL8 (q : RP) : RP := ⟨q.i, q.n, ⟨q.x.op, q.x.n, q.n⟩, q.e⟩
def rEnd (k i : Nat) (q : RP) : RP := if q.e = 0 ∧ Cd.inB k q.x = false then ⟨i, 0, ⟨0, 0, 0⟩, 1⟩ else q
def rOneN (l : List Lx.Tk) (op : Int) (i : Nat) : RP := if Cd.number op = true then setN8 (rInt l ⟨i + 1, 0, ⟨op, 0, 0⟩, 0⟩) else ⟨i + 1, 0, ⟨op, 0, 0⟩, 0⟩
def rOneL (names : List ByteArray) (l : List Lx.Tk) (op : Int) (i : Nat) : RP := if op = 1 then setL8 (rLab names l (rOneN l op i)) else rOneN l op i
def rOne (names : List ByteArray) (k : Nat) (op : Int) (l : List Lx.Tk) (i : Nat) : RP := rEnd k i (rMark l Cd.bSemi (rOneL names l op i))
theorem rInt_i (l : List Lx.Tk) (hf : Tb.Fine l) (p : RP) (h : p.i < l.length) : (rInt l p).i < l.length := by
  unfold rInt
  split
  · split <;> exact Cd.intP_lt hf h
  · exact h
theorem rLab_i (names : List ByteArray) (l : List Lx.Tk) (hf : Tb.Fine l) (p : RP) (h : p.i < l.length) : (rLab names l p).i < l.length := by
  unfold rLab
  have h1 := rMark_i l hf Cd.bAt p h
  split
  · unfold rName
    split
    · next hk =>
      split
      · exact h1
      · exact Cd.kind_next hf h1 (by rw [hk]; decide)
    · exact h1
  · exact h1
theorem RL.startB (w : World) (lv : Array Value) (p : RP) : RL w w.heap.size lv (w.heap.size + 1 + 1) (w.heap.size + 1) p rp0 (((w.alloc (.cells lv 25)).alloc (.cells #[.int .i64 0, .int .i64 0, .int .i64 0, .int .i64 0, .int .i64 0, .int .i64 0] 169)).alloc (.cells #[.int .i64 (p.i : Int), .int .i64 p.n, .int .i64 p.x.op, .int .i64 p.x.n, .int .i64 p.x.l, .int .i64 (p.e : Int)] 169)) := by
  have h1 := Blk.new (w.alloc (.cells lv 25)) 169 #[.int .i64 0, .int .i64 0, .int .i64 0, .int .i64 0, .int .i64 0, .int .i64 0]
  have h2 := Blk.new ((w.alloc (.cells lv 25)).alloc (.cells #[.int .i64 0, .int .i64 0, .int .i64 0, .int .i64 0, .int .i64 0, .int .i64 0] 169)) 169 #[.int .i64 (p.i : Int), .int .i64 p.n, .int .i64 p.x.op, .int .i64 p.x.n, .int .i64 p.x.l, .int .i64 (p.e : Int)]
  simp only [World.size_alloc] at h1 h2
  exact ⟨((Blk.new w _ _).alloc _).alloc _, h2, h1.alloc _, three_new w _ _ _, by omega⟩
set_option maxHeartbeats 16000000 in
theorem rOne_any {v : Value} {names : List ByteArray} {up : List Nat} {A : Option Addr} {l : List Lx.Tk} (c i : Nat) (op : Int) (w : World) (hla : IsLat w w.heap.size v names up) (h : Row w w.heap.size A (tcells l)) (hf : Tb.Fine l) (hp : i + 1 < l.length) (hl : l.length ≤ 100000) :
    Calls Tryz.prog 120 #[v, .slice A l.length c, .int .i64 (i : Int), .int .i64 op] w (TellsP w (rOne names up.length op l i)) := by
  obtain ⟨⟨N, U, c1, c2, rfl, hN, hU⟩, hsh, hfew, hcaps⟩ := id hla
  have hib : i < 100000 := by omega
  have hnum := rNumber_any op
  have HLA := Lib.hid hla
  have H := Lib.hid h
  have HF := Lib.hid hf
  have HPI : Hid (i + 1 < l.length) := Lib.hid hp
  have HLN : Hid (l.length ≤ 100000) := Lib.hid hl
  obtain ⟨ln, hln⟩ : ∃ ln, l.length = ln := ⟨_, rfl⟩
  have HLE := Lib.hid hln
  rw [hln]
  have hul : (up.length : Int) ≤ 1000 := by omega
  obtain ⟨res, hres⟩ : ∃ res, rOne names up.length op l i = res := ⟨_, rfl⟩
  rw [hres]
  clear hla h hf hp hl hN hU hsh hfew hcaps hln
  unfold rOne rOneL rOneN at hres
  by_cases hn : Cd.number op = true
  · rw [if_pos hn] at hres
    rw [hn] at hnum
    have HNUM := Lib.hid hnum
    clear hnum
    by_cases h1 : op = 1
    · subst h1
      clear hn
      rw [if_pos rfl] at hres
      have HNUM : Hid (∀ w : World, Calls Tryz.prog 39 #[.int .i64 1] w fun e w' => e = .returned (.bool true) ∧ w = w') := HNUM
      have hst : RL w w.heap.size #[.slice N names.length c1, .slice U up.length c2] (w.heap.size + 1 + 1) (w.heap.size + 1) ⟨i + 1, 0, ⟨1, 0, 0⟩, 0⟩ rp0 (((w.alloc (.cells #[.slice N names.length c1, .slice U up.length c2] 25)).alloc (.cells #[.int .i64 0, .int .i64 0, .int .i64 0, .int .i64 0, .int .i64 0, .int .i64 0] 169)).alloc (.cells #[.int .i64 ((i : Int) + 1), .int .i64 0, .int .i64 1, .int .i64 0, .int .i64 0, .int .i64 0] 169)) := RL.startB w #[.slice N names.length c1, .slice U up.length c2] ⟨i + 1, 0, ⟨1, 0, 0⟩, 0⟩
      obtain ⟨W0, hW0⟩ : ∃ W0, (((w.alloc (.cells #[.slice N names.length c1, .slice U up.length c2] 25)).alloc (.cells #[.int .i64 0, .int .i64 0, .int .i64 0, .int .i64 0, .int .i64 0, .int .i64 0] 169)).alloc (.cells #[.int .i64 ((i : Int) + 1), .int .i64 0, .int .i64 1, .int .i64 0, .int .i64 0, .int .i64 0] 169)) = W0 := ⟨_, rfl⟩
      rw [hW0] at hst
      have HST0 := Lib.hid hst
      clear hst
      have hin := rInt_any c ⟨i + 1, 0, ⟨1, 0, 0⟩, 0⟩ W0 ((H.out.below HST0.out.below).more HST0.out.below.size) HF.out HPI.out HLN.out
      have hqi := rInt_i l HF.out ⟨i + 1, 0, ⟨1, 0, 0⟩, 0⟩ HPI.out
      obtain ⟨q, hq⟩ : ∃ q, rInt l ⟨i + 1, 0, ⟨1, 0, 0⟩, 0⟩ = q := ⟨_, rfl⟩
      rw [hq] at hin hqi hres
      clear hq HPI
      obtain ⟨ri, rn, ⟨ro, rxn, rxl⟩, re⟩ := q
      unfold TellsP rpv at hin
      rw [HLE.out] at hin
      dsimp only at hin hqi
      have HIT := Lib.hid hin
      have HPI := Lib.hid hqi
      clear hin hqi
      unfold setN8 at hres
      dsimp only at hres
      have HIT : Hid (Calls Tryz.prog 117 #[.slice A ln c, .agg #[.int .i64 ((i : Int) + 1), .int .i64 0, .int .i64 1, .int .i64 0, .int .i64 0, .int .i64 0]] W0 fun e' w' => e' = .returned (.agg #[.int .i64 (ri : Int), .int .i64 rn, .int .i64 ro, .int .i64 rxn, .int .i64 rxl, .int .i64 (re : Int)]) ∧ Below W0.heap.size W0 w') := HIT
      go_enter Tryz.func120, Tryz.ntmps120
      go_wp2_with (fail)
      refine (HNUM.out _).mono ?_
      rintro e' w' ⟨rfl, rfl⟩
      clear HNUM
      have s0 : W0.cell? ⟨w.heap.size + 1 + 1, 0, none⟩ = some (.int .i64 ((i : Int) + 1)) := HST0.out.st.cell 0
      have g0 : W0.frozen? ⟨w.heap.size + 1 + 1, 0, none⟩ = false := HST0.out.st.frozen 0
      have s1 : W0.cell? ⟨w.heap.size + 1 + 1, 1, none⟩ = some (.int .i64 0) := HST0.out.st.cell 1
      have g1 : W0.frozen? ⟨w.heap.size + 1 + 1, 1, none⟩ = false := HST0.out.st.frozen 1
      have s2 : W0.cell? ⟨w.heap.size + 1 + 1, 2, none⟩ = some (.int .i64 1) := HST0.out.st.cell 2
      have g2 : W0.frozen? ⟨w.heap.size + 1 + 1, 2, none⟩ = false := HST0.out.st.frozen 2
      have s3 : W0.cell? ⟨w.heap.size + 1 + 1, 3, none⟩ = some (.int .i64 0) := HST0.out.st.cell 3
      have g3 : W0.frozen? ⟨w.heap.size + 1 + 1, 3, none⟩ = false := HST0.out.st.frozen 3
      have s4 : W0.cell? ⟨w.heap.size + 1 + 1, 4, none⟩ = some (.int .i64 0) := HST0.out.st.cell 4
      have g4 : W0.frozen? ⟨w.heap.size + 1 + 1, 4, none⟩ = false := HST0.out.st.frozen 4
      have s5 : W0.cell? ⟨w.heap.size + 1 + 1, 5, none⟩ = some (.int .i64 0) := HST0.out.st.cell 5
      have g5 : W0.frozen? ⟨w.heap.size + 1 + 1, 5, none⟩ = false := HST0.out.st.frozen 5
      go_wp2_with (fail)
      refine HIT.out.mono ?_
      rintro e' v1 ⟨rfl, hb1⟩
      have hsa1 := HST0.out.keep hb1
      have hst1 : RL w w.heap.size #[.slice N names.length c1, .slice U up.length c2] (w.heap.size + 1 + 1) (w.heap.size + 1) ⟨ri, rn, ⟨ro, rxn, rxl⟩, re⟩ rp0 ((((((v1.setCell ⟨w.heap.size + 1 + 1, 0, none⟩ (.int .i64 (ri : Int))).setCell ⟨w.heap.size + 1 + 1, 1, none⟩ (.int .i64 rn)).setCell ⟨w.heap.size + 1 + 1, 2, none⟩ (.int .i64 ro)).setCell ⟨w.heap.size + 1 + 1, 3, none⟩ (.int .i64 rxn)).setCell ⟨w.heap.size + 1 + 1, 4, none⟩ (.int .i64 rxl)).setCell ⟨w.heap.size + 1 + 1, 5, none⟩ (.int .i64 (re : Int))) := hsa1.put ⟨ri, rn, ⟨ro, rxn, rxl⟩, re⟩
      obtain ⟨⟨x0, x1, x2, x3, x4, x5⟩, f0, f1, f2, f3, f4, f5⟩ := PB.cells hsa1.st
      dsimp only at x0 x1 x2 x3 x4 x5
      obtain ⟨W1, hW1⟩ : ∃ W1, ((((((v1.setCell ⟨w.heap.size + 1 + 1, 0, none⟩ (.int .i64 (ri : Int))).setCell ⟨w.heap.size + 1 + 1, 1, none⟩ (.int .i64 rn)).setCell ⟨w.heap.size + 1 + 1, 2, none⟩ (.int .i64 ro)).setCell ⟨w.heap.size + 1 + 1, 3, none⟩ (.int .i64 rxn)).setCell ⟨w.heap.size + 1 + 1, 4, none⟩ (.int .i64 rxl)).setCell ⟨w.heap.size + 1 + 1, 5, none⟩ (.int .i64 (re : Int))) = W1 := ⟨_, rfl⟩
      rw [hW1] at hst1
      have HST1 := Lib.hid hst1
      clear hb1 hsa1 hst1 HIT
      dsimp only
      clear s0 s1 s2 s3 s4 s5 g0 g1 g2 g3 g4 g5
      have s0 : W1.cell? ⟨w.heap.size + 1 + 1, 0, none⟩ = some (.int .i64 (ri : Int)) := HST1.out.st.cell 0
      have g0 : W1.frozen? ⟨w.heap.size + 1 + 1, 0, none⟩ = false := HST1.out.st.frozen 0
      have s1 : W1.cell? ⟨w.heap.size + 1 + 1, 1, none⟩ = some (.int .i64 rn) := HST1.out.st.cell 1
      have g1 : W1.frozen? ⟨w.heap.size + 1 + 1, 1, none⟩ = false := HST1.out.st.frozen 1
      have s2 : W1.cell? ⟨w.heap.size + 1 + 1, 2, none⟩ = some (.int .i64 ro) := HST1.out.st.cell 2
      have g2 : W1.frozen? ⟨w.heap.size + 1 + 1, 2, none⟩ = false := HST1.out.st.frozen 2
      have s3 : W1.cell? ⟨w.heap.size + 1 + 1, 3, none⟩ = some (.int .i64 rxn) := HST1.out.st.cell 3
      have g3 : W1.frozen? ⟨w.heap.size + 1 + 1, 3, none⟩ = false := HST1.out.st.frozen 3
      have s4 : W1.cell? ⟨w.heap.size + 1 + 1, 4, none⟩ = some (.int .i64 rxl) := HST1.out.st.cell 4
      have g4 : W1.frozen? ⟨w.heap.size + 1 + 1, 4, none⟩ = false := HST1.out.st.frozen 4
      have s5 : W1.cell? ⟨w.heap.size + 1 + 1, 5, none⟩ = some (.int .i64 (re : Int)) := HST1.out.st.cell 5
      have g5 : W1.frozen? ⟨w.heap.size + 1 + 1, 5, none⟩ = false := HST1.out.st.frozen 5
      have hst2 : RL w w.heap.size #[.slice N names.length c1, .slice U up.length c2] (w.heap.size + 1 + 1) (w.heap.size + 1) ⟨ri, rn, ⟨ro, rn, rxl⟩, re⟩ rp0 (W1.setCell ⟨w.heap.size + 1 + 1, 3, none⟩ (.int .i64 rn)) := HST1.out.setXN rn
      obtain ⟨W2, hW2⟩ : ∃ W2, W1.setCell ⟨w.heap.size + 1 + 1, 3, none⟩ (.int .i64 rn) = W2 := ⟨_, rfl⟩
      rw [hW2] at hst2
      have HST2 := Lib.hid hst2
      clear hst2
      have hlb := rLab_any c ⟨ri, rn, ⟨ro, rn, rxl⟩, re⟩ W2 ((HLA.out.below HST2.out.below).more HST2.out.below.size) ((H.out.below HST2.out.below).more HST2.out.below.size) HF.out HPI.out HLN.out
      have hqi := rLab_i names l HF.out ⟨ri, rn, ⟨ro, rn, rxl⟩, re⟩ HPI.out
      obtain ⟨q, hq⟩ : ∃ q, rLab names l ⟨ri, rn, ⟨ro, rn, rxl⟩, re⟩ = q := ⟨_, rfl⟩
      rw [hq] at hlb hqi hres
      clear hq HPI
      obtain ⟨ti, tn, ⟨tO, txn, txl⟩, te⟩ := q
      unfold TellsP rpv at hlb
      rw [HLE.out] at hlb
      dsimp only at hlb hqi
      have HLB := Lib.hid hlb
      have HPI := Lib.hid hqi
      clear hlb hqi
      unfold setL8 at hres
      dsimp only at hres
      have u0 : W2.cell? ⟨w.heap.size, 0, none⟩ = some (.slice N names.length c1) := HST2.out.lat.cell 0
      have u1 : W2.cell? ⟨w.heap.size, 1, none⟩ = some (.slice U up.length c2) := HST2.out.lat.cell 1
      have t0 : W2.cell? ⟨w.heap.size + 1 + 1, 0, none⟩ = some (.int .i64 (ri : Int)) := HST2.out.st.cell 0
      have t1 : W2.cell? ⟨w.heap.size + 1 + 1, 1, none⟩ = some (.int .i64 rn) := HST2.out.st.cell 1
      have t2 : W2.cell? ⟨w.heap.size + 1 + 1, 2, none⟩ = some (.int .i64 ro) := HST2.out.st.cell 2
      have t3 : W2.cell? ⟨w.heap.size + 1 + 1, 3, none⟩ = some (.int .i64 rn) := HST2.out.st.cell 3
      have t4 : W2.cell? ⟨w.heap.size + 1 + 1, 4, none⟩ = some (.int .i64 rxl) := HST2.out.st.cell 4
      have t5 : W2.cell? ⟨w.heap.size + 1 + 1, 5, none⟩ = some (.int .i64 (re : Int)) := HST2.out.st.cell 5
      go_wp2_with (fail)
      refine HLB.out.mono ?_
      rintro e' v3 ⟨rfl, hb3⟩
      have hsa3 := HST2.out.keep hb3
      have hst3 : RL w w.heap.size #[.slice N names.length c1, .slice U up.length c2] (w.heap.size + 1 + 1) (w.heap.size + 1) ⟨ti, tn, ⟨tO, txn, txl⟩, te⟩ rp0 ((((((v3.setCell ⟨w.heap.size + 1 + 1, 0, none⟩ (.int .i64 (ti : Int))).setCell ⟨w.heap.size + 1 + 1, 1, none⟩ (.int .i64 tn)).setCell ⟨w.heap.size + 1 + 1, 2, none⟩ (.int .i64 tO)).setCell ⟨w.heap.size + 1 + 1, 3, none⟩ (.int .i64 txn)).setCell ⟨w.heap.size + 1 + 1, 4, none⟩ (.int .i64 txl)).setCell ⟨w.heap.size + 1 + 1, 5, none⟩ (.int .i64 (te : Int))) := hsa3.put ⟨ti, tn, ⟨tO, txn, txl⟩, te⟩
      obtain ⟨⟨x0, x1, x2, x3, x4, x5⟩, f0, f1, f2, f3, f4, f5⟩ := PB.cells hsa3.st
      dsimp only at x0 x1 x2 x3 x4 x5
      obtain ⟨W3, hW3⟩ : ∃ W3, ((((((v3.setCell ⟨w.heap.size + 1 + 1, 0, none⟩ (.int .i64 (ti : Int))).setCell ⟨w.heap.size + 1 + 1, 1, none⟩ (.int .i64 tn)).setCell ⟨w.heap.size + 1 + 1, 2, none⟩ (.int .i64 tO)).setCell ⟨w.heap.size + 1 + 1, 3, none⟩ (.int .i64 txn)).setCell ⟨w.heap.size + 1 + 1, 4, none⟩ (.int .i64 txl)).setCell ⟨w.heap.size + 1 + 1, 5, none⟩ (.int .i64 (te : Int))) = W3 := ⟨_, rfl⟩
      rw [hW3] at hst3
      have HST3 := Lib.hid hst3
      clear hb3 hsa3 hst3 HLB
      dsimp only
      clear s0 s1 s2 s3 s4 s5 g0 g1 g2 g3 g4 g5 t0 t1 t2 t3 t4 t5 u0 u1
      have s0 : W3.cell? ⟨w.heap.size + 1 + 1, 0, none⟩ = some (.int .i64 (ti : Int)) := HST3.out.st.cell 0
      have g0 : W3.frozen? ⟨w.heap.size + 1 + 1, 0, none⟩ = false := HST3.out.st.frozen 0
      have s1 : W3.cell? ⟨w.heap.size + 1 + 1, 1, none⟩ = some (.int .i64 tn) := HST3.out.st.cell 1
      have g1 : W3.frozen? ⟨w.heap.size + 1 + 1, 1, none⟩ = false := HST3.out.st.frozen 1
      have s2 : W3.cell? ⟨w.heap.size + 1 + 1, 2, none⟩ = some (.int .i64 tO) := HST3.out.st.cell 2
      have g2 : W3.frozen? ⟨w.heap.size + 1 + 1, 2, none⟩ = false := HST3.out.st.frozen 2
      have s3 : W3.cell? ⟨w.heap.size + 1 + 1, 3, none⟩ = some (.int .i64 txn) := HST3.out.st.cell 3
      have g3 : W3.frozen? ⟨w.heap.size + 1 + 1, 3, none⟩ = false := HST3.out.st.frozen 3
      have s4 : W3.cell? ⟨w.heap.size + 1 + 1, 4, none⟩ = some (.int .i64 txl) := HST3.out.st.cell 4
      have g4 : W3.frozen? ⟨w.heap.size + 1 + 1, 4, none⟩ = false := HST3.out.st.frozen 4
      have s5 : W3.cell? ⟨w.heap.size + 1 + 1, 5, none⟩ = some (.int .i64 (te : Int)) := HST3.out.st.cell 5
      have g5 : W3.frozen? ⟨w.heap.size + 1 + 1, 5, none⟩ = false := HST3.out.st.frozen 5
      have hst4 : RL w w.heap.size #[.slice N names.length c1, .slice U up.length c2] (w.heap.size + 1 + 1) (w.heap.size + 1) ⟨ti, tn, ⟨tO, txn, tn⟩, te⟩ rp0 (W3.setCell ⟨w.heap.size + 1 + 1, 4, none⟩ (.int .i64 tn)) := HST3.out.setXL tn
      obtain ⟨W4, hW4⟩ : ∃ W4, W3.setCell ⟨w.heap.size + 1 + 1, 4, none⟩ (.int .i64 tn) = W4 := ⟨_, rfl⟩
      rw [hW4] at hst4
      have HST4 := Lib.hid hst4
      clear hst4
      have hmk := rMark8_any c Cd.bSemi ⟨ti, tn, ⟨tO, txn, tn⟩, te⟩ W4 ((H.out.below HST4.out.below).more HST4.out.below.size) HPI.out HLN.out
      obtain ⟨q, hq⟩ : ∃ q, rMark l Cd.bSemi ⟨ti, tn, ⟨tO, txn, tn⟩, te⟩ = q := ⟨_, rfl⟩
      rw [hq] at hmk hres
      clear hq
      obtain ⟨qi, qn, ⟨qo, qxn, qxl⟩, qe⟩ := q
      unfold rEnd at hres
      dsimp only at hres
      unfold TellsP rpv Cd.bSemi at hmk
      rw [HLE.out] at hmk
      dsimp only at hmk
      have HMK := Lib.hid hmk
      clear hmk
      have hins := fun W => rInstr_any up.length ⟨qo, qxn, qxl⟩ W
      obtain ⟨bi, hbi⟩ : ∃ bi, Cd.inB up.length ⟨qo, qxn, qxl⟩ = bi := ⟨_, rfl⟩
      rw [hbi] at hins hres
      unfold Tld at hins
      dsimp only at hins
      have HIN := Lib.hid hins
      have HRES := Lib.hid hres
      clear hins hbi hres
      have s0 : W4.cell? ⟨w.heap.size + 1 + 1, 0, none⟩ = some (.int .i64 (ti : Int)) := HST4.out.st.cell 0
      have g0 : W4.frozen? ⟨w.heap.size + 1 + 1, 0, none⟩ = false := HST4.out.st.frozen 0
      have s1 : W4.cell? ⟨w.heap.size + 1 + 1, 1, none⟩ = some (.int .i64 tn) := HST4.out.st.cell 1
      have g1 : W4.frozen? ⟨w.heap.size + 1 + 1, 1, none⟩ = false := HST4.out.st.frozen 1
      have s2 : W4.cell? ⟨w.heap.size + 1 + 1, 2, none⟩ = some (.int .i64 tO) := HST4.out.st.cell 2
      have g2 : W4.frozen? ⟨w.heap.size + 1 + 1, 2, none⟩ = false := HST4.out.st.frozen 2
      have s3 : W4.cell? ⟨w.heap.size + 1 + 1, 3, none⟩ = some (.int .i64 txn) := HST4.out.st.cell 3
      have g3 : W4.frozen? ⟨w.heap.size + 1 + 1, 3, none⟩ = false := HST4.out.st.frozen 3
      have s4 : W4.cell? ⟨w.heap.size + 1 + 1, 4, none⟩ = some (.int .i64 tn) := HST4.out.st.cell 4
      have g4 : W4.frozen? ⟨w.heap.size + 1 + 1, 4, none⟩ = false := HST4.out.st.frozen 4
      have s5 : W4.cell? ⟨w.heap.size + 1 + 1, 5, none⟩ = some (.int .i64 (te : Int)) := HST4.out.st.cell 5
      have g5 : W4.frozen? ⟨w.heap.size + 1 + 1, 5, none⟩ = false := HST4.out.st.frozen 5

      by_cases he : qe = 0
      · subst he
        have HMK : Hid (Calls Tryz.prog 139 #[.slice A ln c, .agg #[.int .i64 (ti : Int), .int .i64 tn, .int .i64 tO, .int .i64 txn, .int .i64 tn, .int .i64 (te : Int)], .string { data := #[59] }] W4 fun e' w' => e' = .returned (.agg #[.int .i64 (qi : Int), .int .i64 qn, .int .i64 qo, .int .i64 qxn, .int .i64 qxl, .int .i64 0]) ∧ Below W4.heap.size W4 w') := HMK

        go_wp2_with (fail)
        refine HMK.out.mono ?_
        rintro e' v5 ⟨rfl, hb5⟩
        have hsa5 := HST4.out.keep hb5
        have hst5 : RL w w.heap.size #[.slice N names.length c1, .slice U up.length c2] (w.heap.size + 1 + 1) (w.heap.size + 1) ⟨qi, qn, ⟨qo, qxn, qxl⟩, 0⟩ rp0 ((((((v5.setCell ⟨w.heap.size + 1 + 1, 0, none⟩ (.int .i64 (qi : Int))).setCell ⟨w.heap.size + 1 + 1, 1, none⟩ (.int .i64 qn)).setCell ⟨w.heap.size + 1 + 1, 2, none⟩ (.int .i64 qo)).setCell ⟨w.heap.size + 1 + 1, 3, none⟩ (.int .i64 qxn)).setCell ⟨w.heap.size + 1 + 1, 4, none⟩ (.int .i64 qxl)).setCell ⟨w.heap.size + 1 + 1, 5, none⟩ (.int .i64 0)) := hsa5.put ⟨qi, qn, ⟨qo, qxn, qxl⟩, 0⟩
        obtain ⟨⟨x0, x1, x2, x3, x4, x5⟩, f0, f1, f2, f3, f4, f5⟩ := PB.cells hsa5.st
        dsimp only at x0 x1 x2 x3 x4 x5
        obtain ⟨W5, hW5⟩ : ∃ W5, ((((((v5.setCell ⟨w.heap.size + 1 + 1, 0, none⟩ (.int .i64 (qi : Int))).setCell ⟨w.heap.size + 1 + 1, 1, none⟩ (.int .i64 qn)).setCell ⟨w.heap.size + 1 + 1, 2, none⟩ (.int .i64 qo)).setCell ⟨w.heap.size + 1 + 1, 3, none⟩ (.int .i64 qxn)).setCell ⟨w.heap.size + 1 + 1, 4, none⟩ (.int .i64 qxl)).setCell ⟨w.heap.size + 1 + 1, 5, none⟩ (.int .i64 0)) = W5 := ⟨_, rfl⟩
        rw [hW5] at hst5
        have HST5 := Lib.hid hst5
        clear hb5 hsa5 hst5 HMK
        dsimp only
        clear s0 s1 s2 s3 s4 s5 g0 g1 g2 g3 g4 g5
        have s0 : W5.cell? ⟨w.heap.size + 1 + 1, 0, none⟩ = some (.int .i64 (qi : Int)) := HST5.out.st.cell 0
        have g0 : W5.frozen? ⟨w.heap.size + 1 + 1, 0, none⟩ = false := HST5.out.st.frozen 0
        have s1 : W5.cell? ⟨w.heap.size + 1 + 1, 1, none⟩ = some (.int .i64 qn) := HST5.out.st.cell 1
        have g1 : W5.frozen? ⟨w.heap.size + 1 + 1, 1, none⟩ = false := HST5.out.st.frozen 1
        have s2 : W5.cell? ⟨w.heap.size + 1 + 1, 2, none⟩ = some (.int .i64 qo) := HST5.out.st.cell 2
        have g2 : W5.frozen? ⟨w.heap.size + 1 + 1, 2, none⟩ = false := HST5.out.st.frozen 2
        have s3 : W5.cell? ⟨w.heap.size + 1 + 1, 3, none⟩ = some (.int .i64 qxn) := HST5.out.st.cell 3
        have g3 : W5.frozen? ⟨w.heap.size + 1 + 1, 3, none⟩ = false := HST5.out.st.frozen 3
        have s4 : W5.cell? ⟨w.heap.size + 1 + 1, 4, none⟩ = some (.int .i64 qxl) := HST5.out.st.cell 4
        have g4 : W5.frozen? ⟨w.heap.size + 1 + 1, 4, none⟩ = false := HST5.out.st.frozen 4
        have s5 : W5.cell? ⟨w.heap.size + 1 + 1, 5, none⟩ = some (.int .i64 0) := HST5.out.st.cell 5
        have g5 : W5.frozen? ⟨w.heap.size + 1 + 1, 5, none⟩ = false := HST5.out.st.frozen 5
        have b1 := HST5.out.lat.cell 1
        cases bi with
        | true =>
          go_wp2_with (fail)
          refine (HIN.out _).mono ?_
          rintro e' W6 ⟨rfl, hb6⟩
          have hst6 := HST5.out.keep hb6
          have HST6 := Lib.hid hst6
          clear s0 s1 s2 s3 s4 s5 g0 g1 g2 g3 g4 g5 b1 hb6 hst6 HIN x0 x1 x2 x3 x4 x5 f0 f1 f2 f3 f4 f5

          have hrs : res = ⟨qi, qn, ⟨qo, qxn, qxl⟩, 0⟩ := by rw [← HRES.out]; simp
          have HRS := Lib.hid hrs
          clear hrs
          have hz : RL w w.heap.size #[.slice N names.length c1, .slice U up.length c2] (w.heap.size + 1 + 1) (w.heap.size + 1) _ ⟨qi, qn, ⟨qo, qxn, qxl⟩, 0⟩ ((((((W6.setCell ⟨w.heap.size + 1, 0, none⟩ (.int .i64 (qi : Int))).setCell ⟨w.heap.size + 1, 1, none⟩ (.int .i64 qn)).setCell ⟨w.heap.size + 1, 2, none⟩ (.int .i64 qo)).setCell ⟨w.heap.size + 1, 3, none⟩ (.int .i64 qxn)).setCell ⟨w.heap.size + 1, 4, none⟩ (.int .i64 qxl)).setCell ⟨w.heap.size + 1, 5, none⟩ (.int .i64 0)) := HST6.out.ans ⟨qi, qn, ⟨qo, qxn, qxl⟩, 0⟩
          obtain ⟨Wz, hWz⟩ : ∃ Wz, ((((((W6.setCell ⟨w.heap.size + 1, 0, none⟩ (.int .i64 (qi : Int))).setCell ⟨w.heap.size + 1, 1, none⟩ (.int .i64 qn)).setCell ⟨w.heap.size + 1, 2, none⟩ (.int .i64 qo)).setCell ⟨w.heap.size + 1, 3, none⟩ (.int .i64 qxn)).setCell ⟨w.heap.size + 1, 4, none⟩ (.int .i64 qxl)).setCell ⟨w.heap.size + 1, 5, none⟩ (.int .i64 0)) = Wz := ⟨_, rfl⟩
          rw [hWz] at hz
          obtain ⟨⟨z0, z1, z2, z3, z4, z5⟩, k0, k1, k2, k3, k4, k5⟩ := PB.cells HST6.out.res
          dsimp only [rp0] at z0 z1 z2 z3 z4 z5
          have q0 : Wz.cell? ⟨w.heap.size + 1, 0, none⟩ = some (.int .i64 (qi : Int)) := hz.res.cell 0
          have q1 : Wz.cell? ⟨w.heap.size + 1, 1, none⟩ = some (.int .i64 qn) := hz.res.cell 1
          have q2 : Wz.cell? ⟨w.heap.size + 1, 2, none⟩ = some (.int .i64 qo) := hz.res.cell 2
          have q3 : Wz.cell? ⟨w.heap.size + 1, 3, none⟩ = some (.int .i64 qxn) := hz.res.cell 3
          have q4 : Wz.cell? ⟨w.heap.size + 1, 4, none⟩ = some (.int .i64 qxl) := hz.res.cell 4
          have q5 : Wz.cell? ⟨w.heap.size + 1, 5, none⟩ = some (.int .i64 0) := hz.res.cell 5
          have HZ := Lib.hid hz.below
          clear hz
          have s0 : W6.cell? ⟨w.heap.size + 1 + 1, 0, none⟩ = some (.int .i64 (qi : Int)) := HST6.out.st.cell 0
          have g0 : W6.frozen? ⟨w.heap.size + 1 + 1, 0, none⟩ = false := HST6.out.st.frozen 0
          have s1 : W6.cell? ⟨w.heap.size + 1 + 1, 1, none⟩ = some (.int .i64 qn) := HST6.out.st.cell 1
          have g1 : W6.frozen? ⟨w.heap.size + 1 + 1, 1, none⟩ = false := HST6.out.st.frozen 1
          have s2 : W6.cell? ⟨w.heap.size + 1 + 1, 2, none⟩ = some (.int .i64 qo) := HST6.out.st.cell 2
          have g2 : W6.frozen? ⟨w.heap.size + 1 + 1, 2, none⟩ = false := HST6.out.st.frozen 2
          have s3 : W6.cell? ⟨w.heap.size + 1 + 1, 3, none⟩ = some (.int .i64 qxn) := HST6.out.st.cell 3
          have g3 : W6.frozen? ⟨w.heap.size + 1 + 1, 3, none⟩ = false := HST6.out.st.frozen 3
          have s4 : W6.cell? ⟨w.heap.size + 1 + 1, 4, none⟩ = some (.int .i64 qxl) := HST6.out.st.cell 4
          have g4 : W6.frozen? ⟨w.heap.size + 1 + 1, 4, none⟩ = false := HST6.out.st.frozen 4
          have s5 : W6.cell? ⟨w.heap.size + 1 + 1, 5, none⟩ = some (.int .i64 0) := HST6.out.st.cell 5
          have g5 : W6.frozen? ⟨w.heap.size + 1 + 1, 5, none⟩ = false := HST6.out.st.frozen 5
          go_wp2
          exact bodyPost_ret (v := rpv ⟨qi, qn, ⟨qo, qxn, qxl⟩, 0⟩) (by simp [results, Tryz.results120, go_sem, q0, q1, q2, q3, q4, q5, rpv]) rfl ⟨by rw [HRS.out], HZ.out⟩
        | false =>
          go_wp2_with (fail)
          refine (HIN.out _).mono ?_
          rintro e' W6 ⟨rfl, hb6⟩
          have hst6 := HST5.out.keep hb6
          have HST6 := Lib.hid hst6
          clear s0 s1 s2 s3 s4 s5 g0 g1 g2 g3 g4 g5 b1 hb6 hst6 HIN x0 x1 x2 x3 x4 x5 f0 f1 f2 f3 f4 f5

          have hrs : res = ⟨i, 0, ⟨0, 0, 0⟩, 1⟩ := by rw [← HRES.out]; simp
          have HRS := Lib.hid hrs
          clear hrs
          have hz : RL w w.heap.size #[.slice N names.length c1, .slice U up.length c2] (w.heap.size + 1 + 1) (w.heap.size + 1) _ ⟨i, 0, ⟨0, 0, 0⟩, 1⟩ ((((((W6.setCell ⟨w.heap.size + 1, 0, none⟩ (.int .i64 (i : Int))).setCell ⟨w.heap.size + 1, 1, none⟩ (.int .i64 0)).setCell ⟨w.heap.size + 1, 2, none⟩ (.int .i64 0)).setCell ⟨w.heap.size + 1, 3, none⟩ (.int .i64 0)).setCell ⟨w.heap.size + 1, 4, none⟩ (.int .i64 0)).setCell ⟨w.heap.size + 1, 5, none⟩ (.int .i64 1)) := HST6.out.ans ⟨i, 0, ⟨0, 0, 0⟩, 1⟩
          obtain ⟨Wz, hWz⟩ : ∃ Wz, ((((((W6.setCell ⟨w.heap.size + 1, 0, none⟩ (.int .i64 (i : Int))).setCell ⟨w.heap.size + 1, 1, none⟩ (.int .i64 0)).setCell ⟨w.heap.size + 1, 2, none⟩ (.int .i64 0)).setCell ⟨w.heap.size + 1, 3, none⟩ (.int .i64 0)).setCell ⟨w.heap.size + 1, 4, none⟩ (.int .i64 0)).setCell ⟨w.heap.size + 1, 5, none⟩ (.int .i64 1)) = Wz := ⟨_, rfl⟩
          rw [hWz] at hz
          obtain ⟨⟨z0, z1, z2, z3, z4, z5⟩, k0, k1, k2, k3, k4, k5⟩ := PB.cells HST6.out.res
          dsimp only [rp0] at z0 z1 z2 z3 z4 z5
          have q0 : Wz.cell? ⟨w.heap.size + 1, 0, none⟩ = some (.int .i64 (i : Int)) := hz.res.cell 0
          have q1 : Wz.cell? ⟨w.heap.size + 1, 1, none⟩ = some (.int .i64 0) := hz.res.cell 1
          have q2 : Wz.cell? ⟨w.heap.size + 1, 2, none⟩ = some (.int .i64 0) := hz.res.cell 2
          have q3 : Wz.cell? ⟨w.heap.size + 1, 3, none⟩ = some (.int .i64 0) := hz.res.cell 3
          have q4 : Wz.cell? ⟨w.heap.size + 1, 4, none⟩ = some (.int .i64 0) := hz.res.cell 4
          have q5 : Wz.cell? ⟨w.heap.size + 1, 5, none⟩ = some (.int .i64 1) := hz.res.cell 5
          have HZ := Lib.hid hz.below
          clear hz

          go_wp2
          exact bodyPost_ret (v := rpv ⟨i, 0, ⟨0, 0, 0⟩, 1⟩) (by simp [results, Tryz.results120, go_sem, q0, q1, q2, q3, q4, q5, rpv]) rfl ⟨by rw [HRS.out], HZ.out⟩
      · have hz1 : ((qe : Int) == 0) = false := by rw [beq_eq_false_iff_ne]; omega
        have HE := Lib.hid he
        clear he HIN
        go_wp2_with (fail)
        refine HMK.out.mono ?_
        rintro e' v5 ⟨rfl, hb5⟩
        have hsa5 := HST4.out.keep hb5
        have hst5 : RL w w.heap.size #[.slice N names.length c1, .slice U up.length c2] (w.heap.size + 1 + 1) (w.heap.size + 1) ⟨qi, qn, ⟨qo, qxn, qxl⟩, qe⟩ rp0 ((((((v5.setCell ⟨w.heap.size + 1 + 1, 0, none⟩ (.int .i64 (qi : Int))).setCell ⟨w.heap.size + 1 + 1, 1, none⟩ (.int .i64 qn)).setCell ⟨w.heap.size + 1 + 1, 2, none⟩ (.int .i64 qo)).setCell ⟨w.heap.size + 1 + 1, 3, none⟩ (.int .i64 qxn)).setCell ⟨w.heap.size + 1 + 1, 4, none⟩ (.int .i64 qxl)).setCell ⟨w.heap.size + 1 + 1, 5, none⟩ (.int .i64 (qe : Int))) := hsa5.put ⟨qi, qn, ⟨qo, qxn, qxl⟩, qe⟩
        obtain ⟨⟨x0, x1, x2, x3, x4, x5⟩, f0, f1, f2, f3, f4, f5⟩ := PB.cells hsa5.st
        dsimp only at x0 x1 x2 x3 x4 x5
        obtain ⟨W5, hW5⟩ : ∃ W5, ((((((v5.setCell ⟨w.heap.size + 1 + 1, 0, none⟩ (.int .i64 (qi : Int))).setCell ⟨w.heap.size + 1 + 1, 1, none⟩ (.int .i64 qn)).setCell ⟨w.heap.size + 1 + 1, 2, none⟩ (.int .i64 qo)).setCell ⟨w.heap.size + 1 + 1, 3, none⟩ (.int .i64 qxn)).setCell ⟨w.heap.size + 1 + 1, 4, none⟩ (.int .i64 qxl)).setCell ⟨w.heap.size + 1 + 1, 5, none⟩ (.int .i64 (qe : Int))) = W5 := ⟨_, rfl⟩
        rw [hW5] at hst5
        have HST5 := Lib.hid hst5
        clear hb5 hsa5 hst5 HMK
        dsimp only
        clear s0 s1 s2 s3 s4 s5 g0 g1 g2 g3 g4 g5

        have hrs : res = ⟨qi, qn, ⟨qo, qxn, qxl⟩, qe⟩ := by rw [← HRES.out]; simp [HE.out]
        have HRS := Lib.hid hrs
        clear hrs
        have hz : RL w w.heap.size #[.slice N names.length c1, .slice U up.length c2] (w.heap.size + 1 + 1) (w.heap.size + 1) _ ⟨qi, qn, ⟨qo, qxn, qxl⟩, qe⟩ ((((((W5.setCell ⟨w.heap.size + 1, 0, none⟩ (.int .i64 (qi : Int))).setCell ⟨w.heap.size + 1, 1, none⟩ (.int .i64 qn)).setCell ⟨w.heap.size + 1, 2, none⟩ (.int .i64 qo)).setCell ⟨w.heap.size + 1, 3, none⟩ (.int .i64 qxn)).setCell ⟨w.heap.size + 1, 4, none⟩ (.int .i64 qxl)).setCell ⟨w.heap.size + 1, 5, none⟩ (.int .i64 (qe : Int))) := HST5.out.ans ⟨qi, qn, ⟨qo, qxn, qxl⟩, qe⟩
        obtain ⟨Wz, hWz⟩ : ∃ Wz, ((((((W5.setCell ⟨w.heap.size + 1, 0, none⟩ (.int .i64 (qi : Int))).setCell ⟨w.heap.size + 1, 1, none⟩ (.int .i64 qn)).setCell ⟨w.heap.size + 1, 2, none⟩ (.int .i64 qo)).setCell ⟨w.heap.size + 1, 3, none⟩ (.int .i64 qxn)).setCell ⟨w.heap.size + 1, 4, none⟩ (.int .i64 qxl)).setCell ⟨w.heap.size + 1, 5, none⟩ (.int .i64 (qe : Int))) = Wz := ⟨_, rfl⟩
        rw [hWz] at hz
        obtain ⟨⟨z0, z1, z2, z3, z4, z5⟩, k0, k1, k2, k3, k4, k5⟩ := PB.cells HST5.out.res
        dsimp only [rp0] at z0 z1 z2 z3 z4 z5
        have q0 : Wz.cell? ⟨w.heap.size + 1, 0, none⟩ = some (.int .i64 (qi : Int)) := hz.res.cell 0
        have q1 : Wz.cell? ⟨w.heap.size + 1, 1, none⟩ = some (.int .i64 qn) := hz.res.cell 1
        have q2 : Wz.cell? ⟨w.heap.size + 1, 2, none⟩ = some (.int .i64 qo) := hz.res.cell 2
        have q3 : Wz.cell? ⟨w.heap.size + 1, 3, none⟩ = some (.int .i64 qxn) := hz.res.cell 3
        have q4 : Wz.cell? ⟨w.heap.size + 1, 4, none⟩ = some (.int .i64 qxl) := hz.res.cell 4
        have q5 : Wz.cell? ⟨w.heap.size + 1, 5, none⟩ = some (.int .i64 (qe : Int)) := hz.res.cell 5
        have HZ := Lib.hid hz.below
        clear hz
        have s0 : W5.cell? ⟨w.heap.size + 1 + 1, 0, none⟩ = some (.int .i64 (qi : Int)) := HST5.out.st.cell 0
        have g0 : W5.frozen? ⟨w.heap.size + 1 + 1, 0, none⟩ = false := HST5.out.st.frozen 0
        have s1 : W5.cell? ⟨w.heap.size + 1 + 1, 1, none⟩ = some (.int .i64 qn) := HST5.out.st.cell 1
        have g1 : W5.frozen? ⟨w.heap.size + 1 + 1, 1, none⟩ = false := HST5.out.st.frozen 1
        have s2 : W5.cell? ⟨w.heap.size + 1 + 1, 2, none⟩ = some (.int .i64 qo) := HST5.out.st.cell 2
        have g2 : W5.frozen? ⟨w.heap.size + 1 + 1, 2, none⟩ = false := HST5.out.st.frozen 2
        have s3 : W5.cell? ⟨w.heap.size + 1 + 1, 3, none⟩ = some (.int .i64 qxn) := HST5.out.st.cell 3
        have g3 : W5.frozen? ⟨w.heap.size + 1 + 1, 3, none⟩ = false := HST5.out.st.frozen 3
        have s4 : W5.cell? ⟨w.heap.size + 1 + 1, 4, none⟩ = some (.int .i64 qxl) := HST5.out.st.cell 4
        have g4 : W5.frozen? ⟨w.heap.size + 1 + 1, 4, none⟩ = false := HST5.out.st.frozen 4
        have s5 : W5.cell? ⟨w.heap.size + 1 + 1, 5, none⟩ = some (.int .i64 (qe : Int)) := HST5.out.st.cell 5
        have g5 : W5.frozen? ⟨w.heap.size + 1 + 1, 5, none⟩ = false := HST5.out.st.frozen 5
        go_wp2
        exact bodyPost_ret (v := rpv ⟨qi, qn, ⟨qo, qxn, qxl⟩, qe⟩) (by simp [results, Tryz.results120, go_sem, q0, q1, q2, q3, q4, q5, rpv]) rfl ⟨by rw [HRS.out], HZ.out⟩
    · rw [if_neg h1] at hres
      have hb1 : (op == 1) = false := by rw [beq_eq_false_iff_ne]; exact h1
      clear h1 hn
      have hst : RL w w.heap.size #[.slice N names.length c1, .slice U up.length c2] (w.heap.size + 1 + 1) (w.heap.size + 1) ⟨i + 1, 0, ⟨op, 0, 0⟩, 0⟩ rp0 (((w.alloc (.cells #[.slice N names.length c1, .slice U up.length c2] 25)).alloc (.cells #[.int .i64 0, .int .i64 0, .int .i64 0, .int .i64 0, .int .i64 0, .int .i64 0] 169)).alloc (.cells #[.int .i64 ((i : Int) + 1), .int .i64 0, .int .i64 op, .int .i64 0, .int .i64 0, .int .i64 0] 169)) := RL.startB w #[.slice N names.length c1, .slice U up.length c2] ⟨i + 1, 0, ⟨op, 0, 0⟩, 0⟩
      obtain ⟨W0, hW0⟩ : ∃ W0, (((w.alloc (.cells #[.slice N names.length c1, .slice U up.length c2] 25)).alloc (.cells #[.int .i64 0, .int .i64 0, .int .i64 0, .int .i64 0, .int .i64 0, .int .i64 0] 169)).alloc (.cells #[.int .i64 ((i : Int) + 1), .int .i64 0, .int .i64 op, .int .i64 0, .int .i64 0, .int .i64 0] 169)) = W0 := ⟨_, rfl⟩
      rw [hW0] at hst
      have HST0 := Lib.hid hst
      clear hst
      have hin := rInt_any c ⟨i + 1, 0, ⟨op, 0, 0⟩, 0⟩ W0 ((H.out.below HST0.out.below).more HST0.out.below.size) HF.out HPI.out HLN.out
      have hqi := rInt_i l HF.out ⟨i + 1, 0, ⟨op, 0, 0⟩, 0⟩ HPI.out
      obtain ⟨q, hq⟩ : ∃ q, rInt l ⟨i + 1, 0, ⟨op, 0, 0⟩, 0⟩ = q := ⟨_, rfl⟩
      rw [hq] at hin hqi hres
      clear hq HPI
      obtain ⟨ri, rn, ⟨ro, rxn, rxl⟩, re⟩ := q
      unfold TellsP rpv at hin
      rw [HLE.out] at hin
      dsimp only at hin hqi
      have HIT := Lib.hid hin
      have HPI := Lib.hid hqi
      clear hin hqi
      unfold setN8 at hres
      dsimp only at hres
      have HIT : Hid (Calls Tryz.prog 117 #[.slice A ln c, .agg #[.int .i64 ((i : Int) + 1), .int .i64 0, .int .i64 op, .int .i64 0, .int .i64 0, .int .i64 0]] W0 fun e' w' => e' = .returned (.agg #[.int .i64 (ri : Int), .int .i64 rn, .int .i64 ro, .int .i64 rxn, .int .i64 rxl, .int .i64 (re : Int)]) ∧ Below W0.heap.size W0 w') := HIT
      go_enter Tryz.func120, Tryz.ntmps120
      go_wp2_with (fail)
      refine (HNUM.out _).mono ?_
      rintro e' w' ⟨rfl, rfl⟩
      clear HNUM
      have s0 : W0.cell? ⟨w.heap.size + 1 + 1, 0, none⟩ = some (.int .i64 ((i : Int) + 1)) := HST0.out.st.cell 0
      have g0 : W0.frozen? ⟨w.heap.size + 1 + 1, 0, none⟩ = false := HST0.out.st.frozen 0
      have s1 : W0.cell? ⟨w.heap.size + 1 + 1, 1, none⟩ = some (.int .i64 0) := HST0.out.st.cell 1
      have g1 : W0.frozen? ⟨w.heap.size + 1 + 1, 1, none⟩ = false := HST0.out.st.frozen 1
      have s2 : W0.cell? ⟨w.heap.size + 1 + 1, 2, none⟩ = some (.int .i64 op) := HST0.out.st.cell 2
      have g2 : W0.frozen? ⟨w.heap.size + 1 + 1, 2, none⟩ = false := HST0.out.st.frozen 2
      have s3 : W0.cell? ⟨w.heap.size + 1 + 1, 3, none⟩ = some (.int .i64 0) := HST0.out.st.cell 3
      have g3 : W0.frozen? ⟨w.heap.size + 1 + 1, 3, none⟩ = false := HST0.out.st.frozen 3
      have s4 : W0.cell? ⟨w.heap.size + 1 + 1, 4, none⟩ = some (.int .i64 0) := HST0.out.st.cell 4
      have g4 : W0.frozen? ⟨w.heap.size + 1 + 1, 4, none⟩ = false := HST0.out.st.frozen 4
      have s5 : W0.cell? ⟨w.heap.size + 1 + 1, 5, none⟩ = some (.int .i64 0) := HST0.out.st.cell 5
      have g5 : W0.frozen? ⟨w.heap.size + 1 + 1, 5, none⟩ = false := HST0.out.st.frozen 5
      go_wp2_with (fail)
      refine HIT.out.mono ?_
      rintro e' v1 ⟨rfl, hb1⟩
      have hsa1 := HST0.out.keep hb1
      have hst1 : RL w w.heap.size #[.slice N names.length c1, .slice U up.length c2] (w.heap.size + 1 + 1) (w.heap.size + 1) ⟨ri, rn, ⟨ro, rxn, rxl⟩, re⟩ rp0 ((((((v1.setCell ⟨w.heap.size + 1 + 1, 0, none⟩ (.int .i64 (ri : Int))).setCell ⟨w.heap.size + 1 + 1, 1, none⟩ (.int .i64 rn)).setCell ⟨w.heap.size + 1 + 1, 2, none⟩ (.int .i64 ro)).setCell ⟨w.heap.size + 1 + 1, 3, none⟩ (.int .i64 rxn)).setCell ⟨w.heap.size + 1 + 1, 4, none⟩ (.int .i64 rxl)).setCell ⟨w.heap.size + 1 + 1, 5, none⟩ (.int .i64 (re : Int))) := hsa1.put ⟨ri, rn, ⟨ro, rxn, rxl⟩, re⟩
      obtain ⟨⟨x0, x1, x2, x3, x4, x5⟩, f0, f1, f2, f3, f4, f5⟩ := PB.cells hsa1.st
      dsimp only at x0 x1 x2 x3 x4 x5
      obtain ⟨W1, hW1⟩ : ∃ W1, ((((((v1.setCell ⟨w.heap.size + 1 + 1, 0, none⟩ (.int .i64 (ri : Int))).setCell ⟨w.heap.size + 1 + 1, 1, none⟩ (.int .i64 rn)).setCell ⟨w.heap.size + 1 + 1, 2, none⟩ (.int .i64 ro)).setCell ⟨w.heap.size + 1 + 1, 3, none⟩ (.int .i64 rxn)).setCell ⟨w.heap.size + 1 + 1, 4, none⟩ (.int .i64 rxl)).setCell ⟨w.heap.size + 1 + 1, 5, none⟩ (.int .i64 (re : Int))) = W1 := ⟨_, rfl⟩
      rw [hW1] at hst1
      have HST1 := Lib.hid hst1
      clear hb1 hsa1 hst1 HIT
      dsimp only
      clear s0 s1 s2 s3 s4 s5 g0 g1 g2 g3 g4 g5
      have s0 : W1.cell? ⟨w.heap.size + 1 + 1, 0, none⟩ = some (.int .i64 (ri : Int)) := HST1.out.st.cell 0
      have g0 : W1.frozen? ⟨w.heap.size + 1 + 1, 0, none⟩ = false := HST1.out.st.frozen 0
      have s1 : W1.cell? ⟨w.heap.size + 1 + 1, 1, none⟩ = some (.int .i64 rn) := HST1.out.st.cell 1
      have g1 : W1.frozen? ⟨w.heap.size + 1 + 1, 1, none⟩ = false := HST1.out.st.frozen 1
      have s2 : W1.cell? ⟨w.heap.size + 1 + 1, 2, none⟩ = some (.int .i64 ro) := HST1.out.st.cell 2
      have g2 : W1.frozen? ⟨w.heap.size + 1 + 1, 2, none⟩ = false := HST1.out.st.frozen 2
      have s3 : W1.cell? ⟨w.heap.size + 1 + 1, 3, none⟩ = some (.int .i64 rxn) := HST1.out.st.cell 3
      have g3 : W1.frozen? ⟨w.heap.size + 1 + 1, 3, none⟩ = false := HST1.out.st.frozen 3
      have s4 : W1.cell? ⟨w.heap.size + 1 + 1, 4, none⟩ = some (.int .i64 rxl) := HST1.out.st.cell 4
      have g4 : W1.frozen? ⟨w.heap.size + 1 + 1, 4, none⟩ = false := HST1.out.st.frozen 4
      have s5 : W1.cell? ⟨w.heap.size + 1 + 1, 5, none⟩ = some (.int .i64 (re : Int)) := HST1.out.st.cell 5
      have g5 : W1.frozen? ⟨w.heap.size + 1 + 1, 5, none⟩ = false := HST1.out.st.frozen 5
      have hst2 : RL w w.heap.size #[.slice N names.length c1, .slice U up.length c2] (w.heap.size + 1 + 1) (w.heap.size + 1) ⟨ri, rn, ⟨ro, rn, rxl⟩, re⟩ rp0 (W1.setCell ⟨w.heap.size + 1 + 1, 3, none⟩ (.int .i64 rn)) := HST1.out.setXN rn
      obtain ⟨W2, hW2⟩ : ∃ W2, W1.setCell ⟨w.heap.size + 1 + 1, 3, none⟩ (.int .i64 rn) = W2 := ⟨_, rfl⟩
      rw [hW2] at hst2
      have HST2 := Lib.hid hst2
      clear hst2
      have hmk := rMark8_any c Cd.bSemi ⟨ri, rn, ⟨ro, rn, rxl⟩, re⟩ W2 ((H.out.below HST2.out.below).more HST2.out.below.size) HPI.out HLN.out
      obtain ⟨q, hq⟩ : ∃ q, rMark l Cd.bSemi ⟨ri, rn, ⟨ro, rn, rxl⟩, re⟩ = q := ⟨_, rfl⟩
      rw [hq] at hmk hres
      clear hq
      obtain ⟨qi, qn, ⟨qo, qxn, qxl⟩, qe⟩ := q
      unfold rEnd at hres
      dsimp only at hres
      unfold TellsP rpv Cd.bSemi at hmk
      rw [HLE.out] at hmk
      dsimp only at hmk
      have HMK := Lib.hid hmk
      clear hmk
      have hins := fun W => rInstr_any up.length ⟨qo, qxn, qxl⟩ W
      obtain ⟨bi, hbi⟩ : ∃ bi, Cd.inB up.length ⟨qo, qxn, qxl⟩ = bi := ⟨_, rfl⟩
      rw [hbi] at hins hres
      unfold Tld at hins
      dsimp only at hins
      have HIN := Lib.hid hins
      have HRES := Lib.hid hres
      clear hins hbi hres
      have s0 : W2.cell? ⟨w.heap.size + 1 + 1, 0, none⟩ = some (.int .i64 (ri : Int)) := HST2.out.st.cell 0
      have g0 : W2.frozen? ⟨w.heap.size + 1 + 1, 0, none⟩ = false := HST2.out.st.frozen 0
      have s1 : W2.cell? ⟨w.heap.size + 1 + 1, 1, none⟩ = some (.int .i64 rn) := HST2.out.st.cell 1
      have g1 : W2.frozen? ⟨w.heap.size + 1 + 1, 1, none⟩ = false := HST2.out.st.frozen 1
      have s2 : W2.cell? ⟨w.heap.size + 1 + 1, 2, none⟩ = some (.int .i64 ro) := HST2.out.st.cell 2
      have g2 : W2.frozen? ⟨w.heap.size + 1 + 1, 2, none⟩ = false := HST2.out.st.frozen 2
      have s3 : W2.cell? ⟨w.heap.size + 1 + 1, 3, none⟩ = some (.int .i64 rn) := HST2.out.st.cell 3
      have g3 : W2.frozen? ⟨w.heap.size + 1 + 1, 3, none⟩ = false := HST2.out.st.frozen 3
      have s4 : W2.cell? ⟨w.heap.size + 1 + 1, 4, none⟩ = some (.int .i64 rxl) := HST2.out.st.cell 4
      have g4 : W2.frozen? ⟨w.heap.size + 1 + 1, 4, none⟩ = false := HST2.out.st.frozen 4
      have s5 : W2.cell? ⟨w.heap.size + 1 + 1, 5, none⟩ = some (.int .i64 (re : Int)) := HST2.out.st.cell 5
      have g5 : W2.frozen? ⟨w.heap.size + 1 + 1, 5, none⟩ = false := HST2.out.st.frozen 5

      by_cases he : qe = 0
      · subst he
        have HMK : Hid (Calls Tryz.prog 139 #[.slice A ln c, .agg #[.int .i64 (ri : Int), .int .i64 rn, .int .i64 ro, .int .i64 rn, .int .i64 rxl, .int .i64 (re : Int)], .string { data := #[59] }] W2 fun e' w' => e' = .returned (.agg #[.int .i64 (qi : Int), .int .i64 qn, .int .i64 qo, .int .i64 qxn, .int .i64 qxl, .int .i64 0]) ∧ Below W2.heap.size W2 w') := HMK

        go_wp2_with (fail)
        refine HMK.out.mono ?_
        rintro e' v3 ⟨rfl, hb3⟩
        have hsa3 := HST2.out.keep hb3
        have hst3 : RL w w.heap.size #[.slice N names.length c1, .slice U up.length c2] (w.heap.size + 1 + 1) (w.heap.size + 1) ⟨qi, qn, ⟨qo, qxn, qxl⟩, 0⟩ rp0 ((((((v3.setCell ⟨w.heap.size + 1 + 1, 0, none⟩ (.int .i64 (qi : Int))).setCell ⟨w.heap.size + 1 + 1, 1, none⟩ (.int .i64 qn)).setCell ⟨w.heap.size + 1 + 1, 2, none⟩ (.int .i64 qo)).setCell ⟨w.heap.size + 1 + 1, 3, none⟩ (.int .i64 qxn)).setCell ⟨w.heap.size + 1 + 1, 4, none⟩ (.int .i64 qxl)).setCell ⟨w.heap.size + 1 + 1, 5, none⟩ (.int .i64 0)) := hsa3.put ⟨qi, qn, ⟨qo, qxn, qxl⟩, 0⟩
        obtain ⟨⟨x0, x1, x2, x3, x4, x5⟩, f0, f1, f2, f3, f4, f5⟩ := PB.cells hsa3.st
        dsimp only at x0 x1 x2 x3 x4 x5
        obtain ⟨W3, hW3⟩ : ∃ W3, ((((((v3.setCell ⟨w.heap.size + 1 + 1, 0, none⟩ (.int .i64 (qi : Int))).setCell ⟨w.heap.size + 1 + 1, 1, none⟩ (.int .i64 qn)).setCell ⟨w.heap.size + 1 + 1, 2, none⟩ (.int .i64 qo)).setCell ⟨w.heap.size + 1 + 1, 3, none⟩ (.int .i64 qxn)).setCell ⟨w.heap.size + 1 + 1, 4, none⟩ (.int .i64 qxl)).setCell ⟨w.heap.size + 1 + 1, 5, none⟩ (.int .i64 0)) = W3 := ⟨_, rfl⟩
        rw [hW3] at hst3
        have HST3 := Lib.hid hst3
        clear hb3 hsa3 hst3 HMK
        dsimp only
        clear s0 s1 s2 s3 s4 s5 g0 g1 g2 g3 g4 g5
        have s0 : W3.cell? ⟨w.heap.size + 1 + 1, 0, none⟩ = some (.int .i64 (qi : Int)) := HST3.out.st.cell 0
        have g0 : W3.frozen? ⟨w.heap.size + 1 + 1, 0, none⟩ = false := HST3.out.st.frozen 0
        have s1 : W3.cell? ⟨w.heap.size + 1 + 1, 1, none⟩ = some (.int .i64 qn) := HST3.out.st.cell 1
        have g1 : W3.frozen? ⟨w.heap.size + 1 + 1, 1, none⟩ = false := HST3.out.st.frozen 1
        have s2 : W3.cell? ⟨w.heap.size + 1 + 1, 2, none⟩ = some (.int .i64 qo) := HST3.out.st.cell 2
        have g2 : W3.frozen? ⟨w.heap.size + 1 + 1, 2, none⟩ = false := HST3.out.st.frozen 2
        have s3 : W3.cell? ⟨w.heap.size + 1 + 1, 3, none⟩ = some (.int .i64 qxn) := HST3.out.st.cell 3
        have g3 : W3.frozen? ⟨w.heap.size + 1 + 1, 3, none⟩ = false := HST3.out.st.frozen 3
        have s4 : W3.cell? ⟨w.heap.size + 1 + 1, 4, none⟩ = some (.int .i64 qxl) := HST3.out.st.cell 4
        have g4 : W3.frozen? ⟨w.heap.size + 1 + 1, 4, none⟩ = false := HST3.out.st.frozen 4
        have s5 : W3.cell? ⟨w.heap.size + 1 + 1, 5, none⟩ = some (.int .i64 0) := HST3.out.st.cell 5
        have g5 : W3.frozen? ⟨w.heap.size + 1 + 1, 5, none⟩ = false := HST3.out.st.frozen 5
        have b1 := HST3.out.lat.cell 1
        cases bi with
        | true =>
          go_wp2_with (fail)
          refine (HIN.out _).mono ?_
          rintro e' W4 ⟨rfl, hb4⟩
          have hst4 := HST3.out.keep hb4
          have HST4 := Lib.hid hst4
          clear s0 s1 s2 s3 s4 s5 g0 g1 g2 g3 g4 g5 b1 hb4 hst4 HIN x0 x1 x2 x3 x4 x5 f0 f1 f2 f3 f4 f5

          have hrs : res = ⟨qi, qn, ⟨qo, qxn, qxl⟩, 0⟩ := by rw [← HRES.out]; simp
          have HRS := Lib.hid hrs
          clear hrs
          have hz : RL w w.heap.size #[.slice N names.length c1, .slice U up.length c2] (w.heap.size + 1 + 1) (w.heap.size + 1) _ ⟨qi, qn, ⟨qo, qxn, qxl⟩, 0⟩ ((((((W4.setCell ⟨w.heap.size + 1, 0, none⟩ (.int .i64 (qi : Int))).setCell ⟨w.heap.size + 1, 1, none⟩ (.int .i64 qn)).setCell ⟨w.heap.size + 1, 2, none⟩ (.int .i64 qo)).setCell ⟨w.heap.size + 1, 3, none⟩ (.int .i64 qxn)).setCell ⟨w.heap.size + 1, 4, none⟩ (.int .i64 qxl)).setCell ⟨w.heap.size + 1, 5, none⟩ (.int .i64 0)) := HST4.out.ans ⟨qi, qn, ⟨qo, qxn, qxl⟩, 0⟩
          obtain ⟨Wz, hWz⟩ : ∃ Wz, ((((((W4.setCell ⟨w.heap.size + 1, 0, none⟩ (.int .i64 (qi : Int))).setCell ⟨w.heap.size + 1, 1, none⟩ (.int .i64 qn)).setCell ⟨w.heap.size + 1, 2, none⟩ (.int .i64 qo)).setCell ⟨w.heap.size + 1, 3, none⟩ (.int .i64 qxn)).setCell ⟨w.heap.size + 1, 4, none⟩ (.int .i64 qxl)).setCell ⟨w.heap.size + 1, 5, none⟩ (.int .i64 0)) = Wz := ⟨_, rfl⟩
          rw [hWz] at hz
          obtain ⟨⟨z0, z1, z2, z3, z4, z5⟩, k0, k1, k2, k3, k4, k5⟩ := PB.cells HST4.out.res
          dsimp only [rp0] at z0 z1 z2 z3 z4 z5
          have q0 : Wz.cell? ⟨w.heap.size + 1, 0, none⟩ = some (.int .i64 (qi : Int)) := hz.res.cell 0
          have q1 : Wz.cell? ⟨w.heap.size + 1, 1, none⟩ = some (.int .i64 qn) := hz.res.cell 1
          have q2 : Wz.cell? ⟨w.heap.size + 1, 2, none⟩ = some (.int .i64 qo) := hz.res.cell 2
          have q3 : Wz.cell? ⟨w.heap.size + 1, 3, none⟩ = some (.int .i64 qxn) := hz.res.cell 3
          have q4 : Wz.cell? ⟨w.heap.size + 1, 4, none⟩ = some (.int .i64 qxl) := hz.res.cell 4
          have q5 : Wz.cell? ⟨w.heap.size + 1, 5, none⟩ = some (.int .i64 0) := hz.res.cell 5
          have HZ := Lib.hid hz.below
          clear hz
          have s0 : W4.cell? ⟨w.heap.size + 1 + 1, 0, none⟩ = some (.int .i64 (qi : Int)) := HST4.out.st.cell 0
          have g0 : W4.frozen? ⟨w.heap.size + 1 + 1, 0, none⟩ = false := HST4.out.st.frozen 0
          have s1 : W4.cell? ⟨w.heap.size + 1 + 1, 1, none⟩ = some (.int .i64 qn) := HST4.out.st.cell 1
          have g1 : W4.frozen? ⟨w.heap.size + 1 + 1, 1, none⟩ = false := HST4.out.st.frozen 1
          have s2 : W4.cell? ⟨w.heap.size + 1 + 1, 2, none⟩ = some (.int .i64 qo) := HST4.out.st.cell 2
          have g2 : W4.frozen? ⟨w.heap.size + 1 + 1, 2, none⟩ = false := HST4.out.st.frozen 2
          have s3 : W4.cell? ⟨w.heap.size + 1 + 1, 3, none⟩ = some (.int .i64 qxn) := HST4.out.st.cell 3
          have g3 : W4.frozen? ⟨w.heap.size + 1 + 1, 3, none⟩ = false := HST4.out.st.frozen 3
          have s4 : W4.cell? ⟨w.heap.size + 1 + 1, 4, none⟩ = some (.int .i64 qxl) := HST4.out.st.cell 4
          have g4 : W4.frozen? ⟨w.heap.size + 1 + 1, 4, none⟩ = false := HST4.out.st.frozen 4
          have s5 : W4.cell? ⟨w.heap.size + 1 + 1, 5, none⟩ = some (.int .i64 0) := HST4.out.st.cell 5
          have g5 : W4.frozen? ⟨w.heap.size + 1 + 1, 5, none⟩ = false := HST4.out.st.frozen 5
          go_wp2
          exact bodyPost_ret (v := rpv ⟨qi, qn, ⟨qo, qxn, qxl⟩, 0⟩) (by simp [results, Tryz.results120, go_sem, q0, q1, q2, q3, q4, q5, rpv]) rfl ⟨by rw [HRS.out], HZ.out⟩
        | false =>
          go_wp2_with (fail)
          refine (HIN.out _).mono ?_
          rintro e' W4 ⟨rfl, hb4⟩
          have hst4 := HST3.out.keep hb4
          have HST4 := Lib.hid hst4
          clear s0 s1 s2 s3 s4 s5 g0 g1 g2 g3 g4 g5 b1 hb4 hst4 HIN x0 x1 x2 x3 x4 x5 f0 f1 f2 f3 f4 f5

          have hrs : res = ⟨i, 0, ⟨0, 0, 0⟩, 1⟩ := by rw [← HRES.out]; simp
          have HRS := Lib.hid hrs
          clear hrs
          have hz : RL w w.heap.size #[.slice N names.length c1, .slice U up.length c2] (w.heap.size + 1 + 1) (w.heap.size + 1) _ ⟨i, 0, ⟨0, 0, 0⟩, 1⟩ ((((((W4.setCell ⟨w.heap.size + 1, 0, none⟩ (.int .i64 (i : Int))).setCell ⟨w.heap.size + 1, 1, none⟩ (.int .i64 0)).setCell ⟨w.heap.size + 1, 2, none⟩ (.int .i64 0)).setCell ⟨w.heap.size + 1, 3, none⟩ (.int .i64 0)).setCell ⟨w.heap.size + 1, 4, none⟩ (.int .i64 0)).setCell ⟨w.heap.size + 1, 5, none⟩ (.int .i64 1)) := HST4.out.ans ⟨i, 0, ⟨0, 0, 0⟩, 1⟩
          obtain ⟨Wz, hWz⟩ : ∃ Wz, ((((((W4.setCell ⟨w.heap.size + 1, 0, none⟩ (.int .i64 (i : Int))).setCell ⟨w.heap.size + 1, 1, none⟩ (.int .i64 0)).setCell ⟨w.heap.size + 1, 2, none⟩ (.int .i64 0)).setCell ⟨w.heap.size + 1, 3, none⟩ (.int .i64 0)).setCell ⟨w.heap.size + 1, 4, none⟩ (.int .i64 0)).setCell ⟨w.heap.size + 1, 5, none⟩ (.int .i64 1)) = Wz := ⟨_, rfl⟩
          rw [hWz] at hz
          obtain ⟨⟨z0, z1, z2, z3, z4, z5⟩, k0, k1, k2, k3, k4, k5⟩ := PB.cells HST4.out.res
          dsimp only [rp0] at z0 z1 z2 z3 z4 z5
          have q0 : Wz.cell? ⟨w.heap.size + 1, 0, none⟩ = some (.int .i64 (i : Int)) := hz.res.cell 0
          have q1 : Wz.cell? ⟨w.heap.size + 1, 1, none⟩ = some (.int .i64 0) := hz.res.cell 1
          have q2 : Wz.cell? ⟨w.heap.size + 1, 2, none⟩ = some (.int .i64 0) := hz.res.cell 2
          have q3 : Wz.cell? ⟨w.heap.size + 1, 3, none⟩ = some (.int .i64 0) := hz.res.cell 3
          have q4 : Wz.cell? ⟨w.heap.size + 1, 4, none⟩ = some (.int .i64 0) := hz.res.cell 4
          have q5 : Wz.cell? ⟨w.heap.size + 1, 5, none⟩ = some (.int .i64 1) := hz.res.cell 5
          have HZ := Lib.hid hz.below
          clear hz

          go_wp2
          exact bodyPost_ret (v := rpv ⟨i, 0, ⟨0, 0, 0⟩, 1⟩) (by simp [results, Tryz.results120, go_sem, q0, q1, q2, q3, q4, q5, rpv]) rfl ⟨by rw [HRS.out], HZ.out⟩
      · have hz1 : ((qe : Int) == 0) = false := by rw [beq_eq_false_iff_ne]; omega
        have HE := Lib.hid he
        clear he HIN
        go_wp2_with (fail)
        refine HMK.out.mono ?_
        rintro e' v3 ⟨rfl, hb3⟩
        have hsa3 := HST2.out.keep hb3
        have hst3 : RL w w.heap.size #[.slice N names.length c1, .slice U up.length c2] (w.heap.size + 1 + 1) (w.heap.size + 1) ⟨qi, qn, ⟨qo, qxn, qxl⟩, qe⟩ rp0 ((((((v3.setCell ⟨w.heap.size + 1 + 1, 0, none⟩ (.int .i64 (qi : Int))).setCell ⟨w.heap.size + 1 + 1, 1, none⟩ (.int .i64 qn)).setCell ⟨w.heap.size + 1 + 1, 2, none⟩ (.int .i64 qo)).setCell ⟨w.heap.size + 1 + 1, 3, none⟩ (.int .i64 qxn)).setCell ⟨w.heap.size + 1 + 1, 4, none⟩ (.int .i64 qxl)).setCell ⟨w.heap.size + 1 + 1, 5, none⟩ (.int .i64 (qe : Int))) := hsa3.put ⟨qi, qn, ⟨qo, qxn, qxl⟩, qe⟩
        obtain ⟨⟨x0, x1, x2, x3, x4, x5⟩, f0, f1, f2, f3, f4, f5⟩ := PB.cells hsa3.st
        dsimp only at x0 x1 x2 x3 x4 x5
        obtain ⟨W3, hW3⟩ : ∃ W3, ((((((v3.setCell ⟨w.heap.size + 1 + 1, 0, none⟩ (.int .i64 (qi : Int))).setCell ⟨w.heap.size + 1 + 1, 1, none⟩ (.int .i64 qn)).setCell ⟨w.heap.size + 1 + 1, 2, none⟩ (.int .i64 qo)).setCell ⟨w.heap.size + 1 + 1, 3, none⟩ (.int .i64 qxn)).setCell ⟨w.heap.size + 1 + 1, 4, none⟩ (.int .i64 qxl)).setCell ⟨w.heap.size + 1 + 1, 5, none⟩ (.int .i64 (qe : Int))) = W3 := ⟨_, rfl⟩
        rw [hW3] at hst3
        have HST3 := Lib.hid hst3
        clear hb3 hsa3 hst3 HMK
        dsimp only
        clear s0 s1 s2 s3 s4 s5 g0 g1 g2 g3 g4 g5

        have hrs : res = ⟨qi, qn, ⟨qo, qxn, qxl⟩, qe⟩ := by rw [← HRES.out]; simp [HE.out]
        have HRS := Lib.hid hrs
        clear hrs
        have hz : RL w w.heap.size #[.slice N names.length c1, .slice U up.length c2] (w.heap.size + 1 + 1) (w.heap.size + 1) _ ⟨qi, qn, ⟨qo, qxn, qxl⟩, qe⟩ ((((((W3.setCell ⟨w.heap.size + 1, 0, none⟩ (.int .i64 (qi : Int))).setCell ⟨w.heap.size + 1, 1, none⟩ (.int .i64 qn)).setCell ⟨w.heap.size + 1, 2, none⟩ (.int .i64 qo)).setCell ⟨w.heap.size + 1, 3, none⟩ (.int .i64 qxn)).setCell ⟨w.heap.size + 1, 4, none⟩ (.int .i64 qxl)).setCell ⟨w.heap.size + 1, 5, none⟩ (.int .i64 (qe : Int))) := HST3.out.ans ⟨qi, qn, ⟨qo, qxn, qxl⟩, qe⟩
        obtain ⟨Wz, hWz⟩ : ∃ Wz, ((((((W3.setCell ⟨w.heap.size + 1, 0, none⟩ (.int .i64 (qi : Int))).setCell ⟨w.heap.size + 1, 1, none⟩ (.int .i64 qn)).setCell ⟨w.heap.size + 1, 2, none⟩ (.int .i64 qo)).setCell ⟨w.heap.size + 1, 3, none⟩ (.int .i64 qxn)).setCell ⟨w.heap.size + 1, 4, none⟩ (.int .i64 qxl)).setCell ⟨w.heap.size + 1, 5, none⟩ (.int .i64 (qe : Int))) = Wz := ⟨_, rfl⟩
        rw [hWz] at hz
        obtain ⟨⟨z0, z1, z2, z3, z4, z5⟩, k0, k1, k2, k3, k4, k5⟩ := PB.cells HST3.out.res
        dsimp only [rp0] at z0 z1 z2 z3 z4 z5
        have q0 : Wz.cell? ⟨w.heap.size + 1, 0, none⟩ = some (.int .i64 (qi : Int)) := hz.res.cell 0
        have q1 : Wz.cell? ⟨w.heap.size + 1, 1, none⟩ = some (.int .i64 qn) := hz.res.cell 1
        have q2 : Wz.cell? ⟨w.heap.size + 1, 2, none⟩ = some (.int .i64 qo) := hz.res.cell 2
        have q3 : Wz.cell? ⟨w.heap.size + 1, 3, none⟩ = some (.int .i64 qxn) := hz.res.cell 3
        have q4 : Wz.cell? ⟨w.heap.size + 1, 4, none⟩ = some (.int .i64 qxl) := hz.res.cell 4
        have q5 : Wz.cell? ⟨w.heap.size + 1, 5, none⟩ = some (.int .i64 (qe : Int)) := hz.res.cell 5
        have HZ := Lib.hid hz.below
        clear hz
        have s0 : W3.cell? ⟨w.heap.size + 1 + 1, 0, none⟩ = some (.int .i64 (qi : Int)) := HST3.out.st.cell 0
        have g0 : W3.frozen? ⟨w.heap.size + 1 + 1, 0, none⟩ = false := HST3.out.st.frozen 0
        have s1 : W3.cell? ⟨w.heap.size + 1 + 1, 1, none⟩ = some (.int .i64 qn) := HST3.out.st.cell 1
        have g1 : W3.frozen? ⟨w.heap.size + 1 + 1, 1, none⟩ = false := HST3.out.st.frozen 1
        have s2 : W3.cell? ⟨w.heap.size + 1 + 1, 2, none⟩ = some (.int .i64 qo) := HST3.out.st.cell 2
        have g2 : W3.frozen? ⟨w.heap.size + 1 + 1, 2, none⟩ = false := HST3.out.st.frozen 2
        have s3 : W3.cell? ⟨w.heap.size + 1 + 1, 3, none⟩ = some (.int .i64 qxn) := HST3.out.st.cell 3
        have g3 : W3.frozen? ⟨w.heap.size + 1 + 1, 3, none⟩ = false := HST3.out.st.frozen 3
        have s4 : W3.cell? ⟨w.heap.size + 1 + 1, 4, none⟩ = some (.int .i64 qxl) := HST3.out.st.cell 4
        have g4 : W3.frozen? ⟨w.heap.size + 1 + 1, 4, none⟩ = false := HST3.out.st.frozen 4
        have s5 : W3.cell? ⟨w.heap.size + 1 + 1, 5, none⟩ = some (.int .i64 (qe : Int)) := HST3.out.st.cell 5
        have g5 : W3.frozen? ⟨w.heap.size + 1 + 1, 5, none⟩ = false := HST3.out.st.frozen 5
        go_wp2
        exact bodyPost_ret (v := rpv ⟨qi, qn, ⟨qo, qxn, qxl⟩, qe⟩) (by simp [results, Tryz.results120, go_sem, q0, q1, q2, q3, q4, q5, rpv]) rfl ⟨by rw [HRS.out], HZ.out⟩
  · have hnf : Cd.number op = false := by simpa using hn
    rw [if_neg hn] at hres
    rw [hnf] at hnum
    have h1 : op ≠ 1 := by intro e; rw [e] at hnf; cases hnf
    rw [if_neg h1] at hres
    have hb1 : (op == 1) = false := by rw [beq_eq_false_iff_ne]; exact h1
    have HNUM := Lib.hid hnum
    clear h1 hn hnf hnum
    have hst : RL w w.heap.size #[.slice N names.length c1, .slice U up.length c2] (w.heap.size + 1 + 1) (w.heap.size + 1) ⟨i + 1, 0, ⟨op, 0, 0⟩, 0⟩ rp0 (((w.alloc (.cells #[.slice N names.length c1, .slice U up.length c2] 25)).alloc (.cells #[.int .i64 0, .int .i64 0, .int .i64 0, .int .i64 0, .int .i64 0, .int .i64 0] 169)).alloc (.cells #[.int .i64 ((i : Int) + 1), .int .i64 0, .int .i64 op, .int .i64 0, .int .i64 0, .int .i64 0] 169)) := RL.startB w #[.slice N names.length c1, .slice U up.length c2] ⟨i + 1, 0, ⟨op, 0, 0⟩, 0⟩
    obtain ⟨W0, hW0⟩ : ∃ W0, (((w.alloc (.cells #[.slice N names.length c1, .slice U up.length c2] 25)).alloc (.cells #[.int .i64 0, .int .i64 0, .int .i64 0, .int .i64 0, .int .i64 0, .int .i64 0] 169)).alloc (.cells #[.int .i64 ((i : Int) + 1), .int .i64 0, .int .i64 op, .int .i64 0, .int .i64 0, .int .i64 0] 169)) = W0 := ⟨_, rfl⟩
    rw [hW0] at hst
    have HST0 := Lib.hid hst
    clear hst
    go_enter Tryz.func120, Tryz.ntmps120
    go_wp2_with (fail)
    refine (HNUM.out _).mono ?_
    rintro e' w' ⟨rfl, rfl⟩
    clear HNUM
    have hmk := rMark8_any c Cd.bSemi ⟨i + 1, 0, ⟨op, 0, 0⟩, 0⟩ W0 ((H.out.below HST0.out.below).more HST0.out.below.size) HPI.out HLN.out
    obtain ⟨q, hq⟩ : ∃ q, rMark l Cd.bSemi ⟨i + 1, 0, ⟨op, 0, 0⟩, 0⟩ = q := ⟨_, rfl⟩
    rw [hq] at hmk hres
    clear hq
    obtain ⟨qi, qn, ⟨qo, qxn, qxl⟩, qe⟩ := q
    unfold rEnd at hres
    dsimp only at hres
    unfold TellsP rpv Cd.bSemi at hmk
    rw [HLE.out] at hmk
    dsimp only at hmk
    have HMK := Lib.hid hmk
    clear hmk
    have hins := fun W => rInstr_any up.length ⟨qo, qxn, qxl⟩ W
    obtain ⟨bi, hbi⟩ : ∃ bi, Cd.inB up.length ⟨qo, qxn, qxl⟩ = bi := ⟨_, rfl⟩
    rw [hbi] at hins hres
    unfold Tld at hins
    dsimp only at hins
    have HIN := Lib.hid hins
    have HRES := Lib.hid hres
    clear hins hbi hres
    have s0 : W0.cell? ⟨w.heap.size + 1 + 1, 0, none⟩ = some (.int .i64 ((i : Int) + 1)) := HST0.out.st.cell 0
    have g0 : W0.frozen? ⟨w.heap.size + 1 + 1, 0, none⟩ = false := HST0.out.st.frozen 0
    have s1 : W0.cell? ⟨w.heap.size + 1 + 1, 1, none⟩ = some (.int .i64 0) := HST0.out.st.cell 1
    have g1 : W0.frozen? ⟨w.heap.size + 1 + 1, 1, none⟩ = false := HST0.out.st.frozen 1
    have s2 : W0.cell? ⟨w.heap.size + 1 + 1, 2, none⟩ = some (.int .i64 op) := HST0.out.st.cell 2
    have g2 : W0.frozen? ⟨w.heap.size + 1 + 1, 2, none⟩ = false := HST0.out.st.frozen 2
    have s3 : W0.cell? ⟨w.heap.size + 1 + 1, 3, none⟩ = some (.int .i64 0) := HST0.out.st.cell 3
    have g3 : W0.frozen? ⟨w.heap.size + 1 + 1, 3, none⟩ = false := HST0.out.st.frozen 3
    have s4 : W0.cell? ⟨w.heap.size + 1 + 1, 4, none⟩ = some (.int .i64 0) := HST0.out.st.cell 4
    have g4 : W0.frozen? ⟨w.heap.size + 1 + 1, 4, none⟩ = false := HST0.out.st.frozen 4
    have s5 : W0.cell? ⟨w.heap.size + 1 + 1, 5, none⟩ = some (.int .i64 0) := HST0.out.st.cell 5
    have g5 : W0.frozen? ⟨w.heap.size + 1 + 1, 5, none⟩ = false := HST0.out.st.frozen 5

    by_cases he : qe = 0
    · subst he
      have HMK : Hid (Calls Tryz.prog 139 #[.slice A ln c, .agg #[.int .i64 ((i : Int) + 1), .int .i64 0, .int .i64 op, .int .i64 0, .int .i64 0, .int .i64 0], .string { data := #[59] }] W0 fun e' w' => e' = .returned (.agg #[.int .i64 (qi : Int), .int .i64 qn, .int .i64 qo, .int .i64 qxn, .int .i64 qxl, .int .i64 0]) ∧ Below W0.heap.size W0 w') := HMK

      go_wp2_with (fail)
      refine HMK.out.mono ?_
      rintro e' v1 ⟨rfl, hb1⟩
      have hsa1 := HST0.out.keep hb1
      have hst1 : RL w w.heap.size #[.slice N names.length c1, .slice U up.length c2] (w.heap.size + 1 + 1) (w.heap.size + 1) ⟨qi, qn, ⟨qo, qxn, qxl⟩, 0⟩ rp0 ((((((v1.setCell ⟨w.heap.size + 1 + 1, 0, none⟩ (.int .i64 (qi : Int))).setCell ⟨w.heap.size + 1 + 1, 1, none⟩ (.int .i64 qn)).setCell ⟨w.heap.size + 1 + 1, 2, none⟩ (.int .i64 qo)).setCell ⟨w.heap.size + 1 + 1, 3, none⟩ (.int .i64 qxn)).setCell ⟨w.heap.size + 1 + 1, 4, none⟩ (.int .i64 qxl)).setCell ⟨w.heap.size + 1 + 1, 5, none⟩ (.int .i64 0)) := hsa1.put ⟨qi, qn, ⟨qo, qxn, qxl⟩, 0⟩
      obtain ⟨⟨x0, x1, x2, x3, x4, x5⟩, f0, f1, f2, f3, f4, f5⟩ := PB.cells hsa1.st
      dsimp only at x0 x1 x2 x3 x4 x5
      obtain ⟨W1, hW1⟩ : ∃ W1, ((((((v1.setCell ⟨w.heap.size + 1 + 1, 0, none⟩ (.int .i64 (qi : Int))).setCell ⟨w.heap.size + 1 + 1, 1, none⟩ (.int .i64 qn)).setCell ⟨w.heap.size + 1 + 1, 2, none⟩ (.int .i64 qo)).setCell ⟨w.heap.size + 1 + 1, 3, none⟩ (.int .i64 qxn)).setCell ⟨w.heap.size + 1 + 1, 4, none⟩ (.int .i64 qxl)).setCell ⟨w.heap.size + 1 + 1, 5, none⟩ (.int .i64 0)) = W1 := ⟨_, rfl⟩
      rw [hW1] at hst1
      have HST1 := Lib.hid hst1
      clear hb1 hsa1 hst1 HMK
      dsimp only
      clear s0 s1 s2 s3 s4 s5 g0 g1 g2 g3 g4 g5
      have s0 : W1.cell? ⟨w.heap.size + 1 + 1, 0, none⟩ = some (.int .i64 (qi : Int)) := HST1.out.st.cell 0
      have g0 : W1.frozen? ⟨w.heap.size + 1 + 1, 0, none⟩ = false := HST1.out.st.frozen 0
      have s1 : W1.cell? ⟨w.heap.size + 1 + 1, 1, none⟩ = some (.int .i64 qn) := HST1.out.st.cell 1
      have g1 : W1.frozen? ⟨w.heap.size + 1 + 1, 1, none⟩ = false := HST1.out.st.frozen 1
      have s2 : W1.cell? ⟨w.heap.size + 1 + 1, 2, none⟩ = some (.int .i64 qo) := HST1.out.st.cell 2
      have g2 : W1.frozen? ⟨w.heap.size + 1 + 1, 2, none⟩ = false := HST1.out.st.frozen 2
      have s3 : W1.cell? ⟨w.heap.size + 1 + 1, 3, none⟩ = some (.int .i64 qxn) := HST1.out.st.cell 3
      have g3 : W1.frozen? ⟨w.heap.size + 1 + 1, 3, none⟩ = false := HST1.out.st.frozen 3
      have s4 : W1.cell? ⟨w.heap.size + 1 + 1, 4, none⟩ = some (.int .i64 qxl) := HST1.out.st.cell 4
      have g4 : W1.frozen? ⟨w.heap.size + 1 + 1, 4, none⟩ = false := HST1.out.st.frozen 4
      have s5 : W1.cell? ⟨w.heap.size + 1 + 1, 5, none⟩ = some (.int .i64 0) := HST1.out.st.cell 5
      have g5 : W1.frozen? ⟨w.heap.size + 1 + 1, 5, none⟩ = false := HST1.out.st.frozen 5
      have b1 := HST1.out.lat.cell 1
      cases bi with
      | true =>
        go_wp2_with (fail)
        refine (HIN.out _).mono ?_
        rintro e' W2 ⟨rfl, hb2⟩
        have hst2 := HST1.out.keep hb2
        have HST2 := Lib.hid hst2
        clear s0 s1 s2 s3 s4 s5 g0 g1 g2 g3 g4 g5 b1 hb2 hst2 HIN x0 x1 x2 x3 x4 x5 f0 f1 f2 f3 f4 f5

        have hrs : res = ⟨qi, qn, ⟨qo, qxn, qxl⟩, 0⟩ := by rw [← HRES.out]; simp
        have HRS := Lib.hid hrs
        clear hrs
        have hz : RL w w.heap.size #[.slice N names.length c1, .slice U up.length c2] (w.heap.size + 1 + 1) (w.heap.size + 1) _ ⟨qi, qn, ⟨qo, qxn, qxl⟩, 0⟩ ((((((W2.setCell ⟨w.heap.size + 1, 0, none⟩ (.int .i64 (qi : Int))).setCell ⟨w.heap.size + 1, 1, none⟩ (.int .i64 qn)).setCell ⟨w.heap.size + 1, 2, none⟩ (.int .i64 qo)).setCell ⟨w.heap.size + 1, 3, none⟩ (.int .i64 qxn)).setCell ⟨w.heap.size + 1, 4, none⟩ (.int .i64 qxl)).setCell ⟨w.heap.size + 1, 5, none⟩ (.int .i64 0)) := HST2.out.ans ⟨qi, qn, ⟨qo, qxn, qxl⟩, 0⟩
        obtain ⟨Wz, hWz⟩ : ∃ Wz, ((((((W2.setCell ⟨w.heap.size + 1, 0, none⟩ (.int .i64 (qi : Int))).setCell ⟨w.heap.size + 1, 1, none⟩ (.int .i64 qn)).setCell ⟨w.heap.size + 1, 2, none⟩ (.int .i64 qo)).setCell ⟨w.heap.size + 1, 3, none⟩ (.int .i64 qxn)).setCell ⟨w.heap.size + 1, 4, none⟩ (.int .i64 qxl)).setCell ⟨w.heap.size + 1, 5, none⟩ (.int .i64 0)) = Wz := ⟨_, rfl⟩
        rw [hWz] at hz
        obtain ⟨⟨z0, z1, z2, z3, z4, z5⟩, k0, k1, k2, k3, k4, k5⟩ := PB.cells HST2.out.res
        dsimp only [rp0] at z0 z1 z2 z3 z4 z5
        have q0 : Wz.cell? ⟨w.heap.size + 1, 0, none⟩ = some (.int .i64 (qi : Int)) := hz.res.cell 0
        have q1 : Wz.cell? ⟨w.heap.size + 1, 1, none⟩ = some (.int .i64 qn) := hz.res.cell 1
        have q2 : Wz.cell? ⟨w.heap.size + 1, 2, none⟩ = some (.int .i64 qo) := hz.res.cell 2
        have q3 : Wz.cell? ⟨w.heap.size + 1, 3, none⟩ = some (.int .i64 qxn) := hz.res.cell 3
        have q4 : Wz.cell? ⟨w.heap.size + 1, 4, none⟩ = some (.int .i64 qxl) := hz.res.cell 4
        have q5 : Wz.cell? ⟨w.heap.size + 1, 5, none⟩ = some (.int .i64 0) := hz.res.cell 5
        have HZ := Lib.hid hz.below
        clear hz
        have s0 : W2.cell? ⟨w.heap.size + 1 + 1, 0, none⟩ = some (.int .i64 (qi : Int)) := HST2.out.st.cell 0
        have g0 : W2.frozen? ⟨w.heap.size + 1 + 1, 0, none⟩ = false := HST2.out.st.frozen 0
        have s1 : W2.cell? ⟨w.heap.size + 1 + 1, 1, none⟩ = some (.int .i64 qn) := HST2.out.st.cell 1
        have g1 : W2.frozen? ⟨w.heap.size + 1 + 1, 1, none⟩ = false := HST2.out.st.frozen 1
        have s2 : W2.cell? ⟨w.heap.size + 1 + 1, 2, none⟩ = some (.int .i64 qo) := HST2.out.st.cell 2
        have g2 : W2.frozen? ⟨w.heap.size + 1 + 1, 2, none⟩ = false := HST2.out.st.frozen 2
        have s3 : W2.cell? ⟨w.heap.size + 1 + 1, 3, none⟩ = some (.int .i64 qxn) := HST2.out.st.cell 3
        have g3 : W2.frozen? ⟨w.heap.size + 1 + 1, 3, none⟩ = false := HST2.out.st.frozen 3
        have s4 : W2.cell? ⟨w.heap.size + 1 + 1, 4, none⟩ = some (.int .i64 qxl) := HST2.out.st.cell 4
        have g4 : W2.frozen? ⟨w.heap.size + 1 + 1, 4, none⟩ = false := HST2.out.st.frozen 4
        have s5 : W2.cell? ⟨w.heap.size + 1 + 1, 5, none⟩ = some (.int .i64 0) := HST2.out.st.cell 5
        have g5 : W2.frozen? ⟨w.heap.size + 1 + 1, 5, none⟩ = false := HST2.out.st.frozen 5
        go_wp2
        exact bodyPost_ret (v := rpv ⟨qi, qn, ⟨qo, qxn, qxl⟩, 0⟩) (by simp [results, Tryz.results120, go_sem, q0, q1, q2, q3, q4, q5, rpv]) rfl ⟨by rw [HRS.out], HZ.out⟩
      | false =>
        go_wp2_with (fail)
        refine (HIN.out _).mono ?_
        rintro e' W2 ⟨rfl, hb2⟩
        have hst2 := HST1.out.keep hb2
        have HST2 := Lib.hid hst2
        clear s0 s1 s2 s3 s4 s5 g0 g1 g2 g3 g4 g5 b1 hb2 hst2 HIN x0 x1 x2 x3 x4 x5 f0 f1 f2 f3 f4 f5

        have hrs : res = ⟨i, 0, ⟨0, 0, 0⟩, 1⟩ := by rw [← HRES.out]; simp
        have HRS := Lib.hid hrs
        clear hrs
        have hz : RL w w.heap.size #[.slice N names.length c1, .slice U up.length c2] (w.heap.size + 1 + 1) (w.heap.size + 1) _ ⟨i, 0, ⟨0, 0, 0⟩, 1⟩ ((((((W2.setCell ⟨w.heap.size + 1, 0, none⟩ (.int .i64 (i : Int))).setCell ⟨w.heap.size + 1, 1, none⟩ (.int .i64 0)).setCell ⟨w.heap.size + 1, 2, none⟩ (.int .i64 0)).setCell ⟨w.heap.size + 1, 3, none⟩ (.int .i64 0)).setCell ⟨w.heap.size + 1, 4, none⟩ (.int .i64 0)).setCell ⟨w.heap.size + 1, 5, none⟩ (.int .i64 1)) := HST2.out.ans ⟨i, 0, ⟨0, 0, 0⟩, 1⟩
        obtain ⟨Wz, hWz⟩ : ∃ Wz, ((((((W2.setCell ⟨w.heap.size + 1, 0, none⟩ (.int .i64 (i : Int))).setCell ⟨w.heap.size + 1, 1, none⟩ (.int .i64 0)).setCell ⟨w.heap.size + 1, 2, none⟩ (.int .i64 0)).setCell ⟨w.heap.size + 1, 3, none⟩ (.int .i64 0)).setCell ⟨w.heap.size + 1, 4, none⟩ (.int .i64 0)).setCell ⟨w.heap.size + 1, 5, none⟩ (.int .i64 1)) = Wz := ⟨_, rfl⟩
        rw [hWz] at hz
        obtain ⟨⟨z0, z1, z2, z3, z4, z5⟩, k0, k1, k2, k3, k4, k5⟩ := PB.cells HST2.out.res
        dsimp only [rp0] at z0 z1 z2 z3 z4 z5
        have q0 : Wz.cell? ⟨w.heap.size + 1, 0, none⟩ = some (.int .i64 (i : Int)) := hz.res.cell 0
        have q1 : Wz.cell? ⟨w.heap.size + 1, 1, none⟩ = some (.int .i64 0) := hz.res.cell 1
        have q2 : Wz.cell? ⟨w.heap.size + 1, 2, none⟩ = some (.int .i64 0) := hz.res.cell 2
        have q3 : Wz.cell? ⟨w.heap.size + 1, 3, none⟩ = some (.int .i64 0) := hz.res.cell 3
        have q4 : Wz.cell? ⟨w.heap.size + 1, 4, none⟩ = some (.int .i64 0) := hz.res.cell 4
        have q5 : Wz.cell? ⟨w.heap.size + 1, 5, none⟩ = some (.int .i64 1) := hz.res.cell 5
        have HZ := Lib.hid hz.below
        clear hz

        go_wp2
        exact bodyPost_ret (v := rpv ⟨i, 0, ⟨0, 0, 0⟩, 1⟩) (by simp [results, Tryz.results120, go_sem, q0, q1, q2, q3, q4, q5, rpv]) rfl ⟨by rw [HRS.out], HZ.out⟩
    · have hz1 : ((qe : Int) == 0) = false := by rw [beq_eq_false_iff_ne]; omega
      have HE := Lib.hid he
      clear he HIN
      go_wp2_with (fail)
      refine HMK.out.mono ?_
      rintro e' v1 ⟨rfl, hb1⟩
      have hsa1 := HST0.out.keep hb1
      have hst1 : RL w w.heap.size #[.slice N names.length c1, .slice U up.length c2] (w.heap.size + 1 + 1) (w.heap.size + 1) ⟨qi, qn, ⟨qo, qxn, qxl⟩, qe⟩ rp0 ((((((v1.setCell ⟨w.heap.size + 1 + 1, 0, none⟩ (.int .i64 (qi : Int))).setCell ⟨w.heap.size + 1 + 1, 1, none⟩ (.int .i64 qn)).setCell ⟨w.heap.size + 1 + 1, 2, none⟩ (.int .i64 qo)).setCell ⟨w.heap.size + 1 + 1, 3, none⟩ (.int .i64 qxn)).setCell ⟨w.heap.size + 1 + 1, 4, none⟩ (.int .i64 qxl)).setCell ⟨w.heap.size + 1 + 1, 5, none⟩ (.int .i64 (qe : Int))) := hsa1.put ⟨qi, qn, ⟨qo, qxn, qxl⟩, qe⟩
      obtain ⟨⟨x0, x1, x2, x3, x4, x5⟩, f0, f1, f2, f3, f4, f5⟩ := PB.cells hsa1.st
      dsimp only at x0 x1 x2 x3 x4 x5
      obtain ⟨W1, hW1⟩ : ∃ W1, ((((((v1.setCell ⟨w.heap.size + 1 + 1, 0, none⟩ (.int .i64 (qi : Int))).setCell ⟨w.heap.size + 1 + 1, 1, none⟩ (.int .i64 qn)).setCell ⟨w.heap.size + 1 + 1, 2, none⟩ (.int .i64 qo)).setCell ⟨w.heap.size + 1 + 1, 3, none⟩ (.int .i64 qxn)).setCell ⟨w.heap.size + 1 + 1, 4, none⟩ (.int .i64 qxl)).setCell ⟨w.heap.size + 1 + 1, 5, none⟩ (.int .i64 (qe : Int))) = W1 := ⟨_, rfl⟩
      rw [hW1] at hst1
      have HST1 := Lib.hid hst1
      clear hb1 hsa1 hst1 HMK
      dsimp only
      clear s0 s1 s2 s3 s4 s5 g0 g1 g2 g3 g4 g5

      have hrs : res = ⟨qi, qn, ⟨qo, qxn, qxl⟩, qe⟩ := by rw [← HRES.out]; simp [HE.out]
      have HRS := Lib.hid hrs
      clear hrs
      have hz : RL w w.heap.size #[.slice N names.length c1, .slice U up.length c2] (w.heap.size + 1 + 1) (w.heap.size + 1) _ ⟨qi, qn, ⟨qo, qxn, qxl⟩, qe⟩ ((((((W1.setCell ⟨w.heap.size + 1, 0, none⟩ (.int .i64 (qi : Int))).setCell ⟨w.heap.size + 1, 1, none⟩ (.int .i64 qn)).setCell ⟨w.heap.size + 1, 2, none⟩ (.int .i64 qo)).setCell ⟨w.heap.size + 1, 3, none⟩ (.int .i64 qxn)).setCell ⟨w.heap.size + 1, 4, none⟩ (.int .i64 qxl)).setCell ⟨w.heap.size + 1, 5, none⟩ (.int .i64 (qe : Int))) := HST1.out.ans ⟨qi, qn, ⟨qo, qxn, qxl⟩, qe⟩
      obtain ⟨Wz, hWz⟩ : ∃ Wz, ((((((W1.setCell ⟨w.heap.size + 1, 0, none⟩ (.int .i64 (qi : Int))).setCell ⟨w.heap.size + 1, 1, none⟩ (.int .i64 qn)).setCell ⟨w.heap.size + 1, 2, none⟩ (.int .i64 qo)).setCell ⟨w.heap.size + 1, 3, none⟩ (.int .i64 qxn)).setCell ⟨w.heap.size + 1, 4, none⟩ (.int .i64 qxl)).setCell ⟨w.heap.size + 1, 5, none⟩ (.int .i64 (qe : Int))) = Wz := ⟨_, rfl⟩
      rw [hWz] at hz
      obtain ⟨⟨z0, z1, z2, z3, z4, z5⟩, k0, k1, k2, k3, k4, k5⟩ := PB.cells HST1.out.res
      dsimp only [rp0] at z0 z1 z2 z3 z4 z5
      have q0 : Wz.cell? ⟨w.heap.size + 1, 0, none⟩ = some (.int .i64 (qi : Int)) := hz.res.cell 0
      have q1 : Wz.cell? ⟨w.heap.size + 1, 1, none⟩ = some (.int .i64 qn) := hz.res.cell 1
      have q2 : Wz.cell? ⟨w.heap.size + 1, 2, none⟩ = some (.int .i64 qo) := hz.res.cell 2
      have q3 : Wz.cell? ⟨w.heap.size + 1, 3, none⟩ = some (.int .i64 qxn) := hz.res.cell 3
      have q4 : Wz.cell? ⟨w.heap.size + 1, 4, none⟩ = some (.int .i64 qxl) := hz.res.cell 4
      have q5 : Wz.cell? ⟨w.heap.size + 1, 5, none⟩ = some (.int .i64 (qe : Int)) := hz.res.cell 5
      have HZ := Lib.hid hz.below
      clear hz
      have s0 : W1.cell? ⟨w.heap.size + 1 + 1, 0, none⟩ = some (.int .i64 (qi : Int)) := HST1.out.st.cell 0
      have g0 : W1.frozen? ⟨w.heap.size + 1 + 1, 0, none⟩ = false := HST1.out.st.frozen 0
      have s1 : W1.cell? ⟨w.heap.size + 1 + 1, 1, none⟩ = some (.int .i64 qn) := HST1.out.st.cell 1
      have g1 : W1.frozen? ⟨w.heap.size + 1 + 1, 1, none⟩ = false := HST1.out.st.frozen 1
      have s2 : W1.cell? ⟨w.heap.size + 1 + 1, 2, none⟩ = some (.int .i64 qo) := HST1.out.st.cell 2
      have g2 : W1.frozen? ⟨w.heap.size + 1 + 1, 2, none⟩ = false := HST1.out.st.frozen 2
      have s3 : W1.cell? ⟨w.heap.size + 1 + 1, 3, none⟩ = some (.int .i64 qxn) := HST1.out.st.cell 3
      have g3 : W1.frozen? ⟨w.heap.size + 1 + 1, 3, none⟩ = false := HST1.out.st.frozen 3
      have s4 : W1.cell? ⟨w.heap.size + 1 + 1, 4, none⟩ = some (.int .i64 qxl) := HST1.out.st.cell 4
      have g4 : W1.frozen? ⟨w.heap.size + 1 + 1, 4, none⟩ = false := HST1.out.st.frozen 4
      have s5 : W1.cell? ⟨w.heap.size + 1 + 1, 5, none⟩ = some (.int .i64 (qe : Int)) := HST1.out.st.cell 5
      have g5 : W1.frozen? ⟨w.heap.size + 1 + 1, 5, none⟩ = false := HST1.out.st.frozen 5
      go_wp2
      exact bodyPost_ret (v := rpv ⟨qi, qn, ⟨qo, qxn, qxl⟩, qe⟩) (by simp [results, Tryz.results120, go_sem, q0, q1, q2, q3, q4, q5, rpv]) rfl ⟨by rw [HRS.out], HZ.out⟩
end Go.Proofs.YtipbilmnknmhmaaGreatDoor
