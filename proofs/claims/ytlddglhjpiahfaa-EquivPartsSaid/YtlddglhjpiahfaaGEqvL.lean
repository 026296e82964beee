/- Walks of package equiv's states, States, Outs, Crop (by gen_eqvl.py). -/
import Derived.Test.YtlddglhjpiahfaaGEqvC
import Derived.Test.YtlddglhjpiahfaaGStpA
import Derived.Test.YtlddglhjpiahfaaGCodE
import Derived.Test.YtlddglhjpiahfaaGPub
namespace Go.Proofs.Ytlddglhjpiahfaa
set_option maxRecDepth 100000
open Go.RowKit Go.Shelf Go.Sort
attribute [local go_sem] Oper.semAt_some
end Go.Proofs.Ytlddglhjpiahfaa

/- Layer 12, plainly: what the law EquivHolds asks, of the answers' plain data. -/
namespace Go.Proofs.Ytlddglhjpiahfaa
set_option maxRecDepth 100000
theorem told_err {r : Nat} {b : Bool} (h : r ≠ 0) : Ev.told r b = false := if_neg h
end Go.Proofs.Ytlddglhjpiahfaa

/- Walks of package equiv's Outs, Crop (by gen_eqvo.py). -/
namespace Go.Proofs.Ytlddglhjpiahfaa
set_option maxRecDepth 100000
open Go.RowKit Go.Shelf Go.Sort
attribute [local go_sem] Oper.semAt_some
set_option maxHeartbeats 16000000 in
theorem Outs_any {v : Value} {names : List ByteArray} {up : List Nat} {B D : Option Addr} {a b : List St.Atom} (o : Int) (ca cb : Nat) (w : World) (h : IsLat w w.heap.size v names up) (ha : Row w w.heap.size B (fcells avs a)) (hb : Row w w.heap.size D (fcells avs b)) (hna : a.length ≤ 1000) (hnb : b.length ≤ 1000) :
    Calls Try.prog 11 #[v, .int .i64 o, .slice B a.length ca, .slice D b.length cb] w (TellsBE w (Ev.told (Ev.lookN names up o (a.map (·.l) ++ b.map (·.l))) (Ev.outs (Ev.viewL up o) a b)) (Ev.lookN names up o (a.map (·.l) ++ b.map (·.l)))) := by
  obtain ⟨res, hres⟩ : ∃ res, Ev.lookN names up o (a.map (·.l) ++ b.map (·.l)) = res := ⟨_, rfl⟩
  rw [hres]
  have hl0 := h
  obtain ⟨⟨N, U, c1, c2, rfl, -, -⟩, -, -, -⟩ := h
  obtain ⟨W0, hW0⟩ : ∃ W0, w.alloc (.cells #[.slice N names.length c1, .slice U up.length c2] 25) = W0 := ⟨_, rfl⟩
  have hb0 : Below w.heap.size w W0 := hW0 ▸ (Below.refl _ w).alloc (Nat.le_refl _) _
  have hp0 : Blk W0 w.heap.size 25 #[.slice N names.length c1, .slice U up.length c2] := hW0 ▸ Blk.new _ _ _
  have hlb := fun W (hb : Below W0.heap.size W0 W) => labelsA_any ca W ((ha.below (hb0.trans (hb.mono hb0.size))).more (Nat.le_trans hb0.size hb.size)) (by omega)
  have hlb2 := fun W (hW : Below W0.heap.size W0 W) => labelsA_any cb W ((hb.below (hb0.trans (hW.mono hb0.size))).more (Nat.le_trans hb0.size hW.size)) (by omega)
  have hlk := fun g cl W (hW : Below W0.heap.size W0 W) (hg : IntsAt W g [a.map (·.l), b.map (·.l)]) => look_any o g cl W ((hl0.below (hb0.trans (hW.mono hb0.size))).more (Nat.le_trans hb0.size hW.size)) hg (by simp) (by intro l hl; simp at hl; rcases hl with rfl | rfl <;> (rw [List.length_map]; omega))
  have hal := fun A c W (hW : Below W0.heap.size W0 W) (hr : Row W W.heap.size A (vbs (Ev.viewL up o))) (hl1 : LabIn (·.l) (Ev.viewL up o).length a) (hl2 : LabIn (·.l) (Ev.viewL up o).length b) => outs_any (A := A) c ca cb W hr ((ha.below (hb0.trans (hW.mono hb0.size))).more (Nat.le_trans hb0.size hW.size)) ((hb.below (hb0.trans (hW.mono hb0.size))).more (Nat.le_trans hb0.size hW.size)) hl1 hl2 (by omega) (by omega)
  simp only [flat_two, hres, Ev.viewL_len] at hlk hal
  unfold GotInts at hlb hlb2
  rw [List.length_map] at hlb hlb2
  have hhow := fun W => howA_any W
  unfold howA at hlb hlb2 hhow
  have hlz : res = 0 → LabIn (·.l) up.length a ∧ LabIn (·.l) up.length b := fun e => by
    have h9 := (Ev.lookN_zero (hres.trans e)).2
    have e1 := labIn_of (o := o) fun x hx => h9 x (List.mem_append_left _ hx)
    have e2 := labIn_of (o := o) fun x hx => h9 x (List.mem_append_right _ hx)
    rw [Ev.viewL_len] at e1 e2
    exact ⟨e1, e2⟩
  have hla : (a.map (·.l)).length = a.length := List.length_map ..
  have hlb3 : (b.map (·.l)).length = b.length := List.length_map ..
  generalize Ev.outs (Ev.viewL up o) a b = ans at *
  generalize a.map (·.l) = la at *
  generalize b.map (·.l) = lb at *
  have l0 : W0.cell? ⟨w.heap.size, 0, none⟩ = some (.slice N names.length c1) := hp0.cell 0
  have l1 : W0.cell? ⟨w.heap.size, 1, none⟩ = some (.slice U up.length c2) := hp0.cell 1
  have HLA := Lib.hid hlb
  have HLB := Lib.hid hlb2
  have HLK := Lib.hid hlk
  have HAL := Lib.hid hal
  have HLZ := Lib.hid hlz
  have HHOW := Lib.hid hhow
  have HB0 := Lib.hid hb0
  have HP := Lib.hid hp0
  have HNA := Lib.hid hla
  have HNB := Lib.hid hlb3
  clear ha hb hb0 hp0 hlb hlb2 hlk hal hlz hla hlb3 hres hl0 hhow
  go_enter Try.func11, Try.ntmps11
  go_wp2_with (fail)
  clear hW0
  refine Free.region_seq [3, 4, 6, 7, 8, 9] [0] 9 (fun W' => W'.cell? ⟨w.heap.size, 0, none⟩ = some (.slice N names.length c1) ∧ W'.cell? ⟨w.heap.size, 1, none⟩ = some (.slice U up.length c2)) (by kernel_rfl) (by kernel_rfl) (by kernel_rfl) (by kernel_rfl) (⟨l0, l1⟩) (fun ops hops => ?_)
  clear hops
  iterate 3
    refine Free.Seq.quiet (v := ?_) (a' := ?_) rfl rfl (fun W' hW' => ?_) ?_ ?_
    rotate_left 2
    · first | obtain ⟨s0, s1⟩ := hW' rfl | skip
      go_simp
      try with_reducible rfl
    · simp only [Act.put, List.setIfInBounds_toArray, List.set_cons_zero, List.set_cons_succ]
      try with_reducible rfl
  refine Free.Seq.loud_ rfl (.inl rfl) (fun K hK => ?_)
  go_simp
  refine (HHOW.out W0.drew).mono ?_
  rintro e u1 ⟨rfl, hbu⟩
  have hb1 := (Below.refl _ W0).drew.trans hbu
  have hp1 := HP.out.below hb1 HP.out.lt
  have HB1 := Lib.hid hb1
  refine hK.out _ _ rfl (fun _ => ⟨hp1.cell 0, hp1.cell 1⟩) ?_
  clear hK K hp1 hb1 hbu
  refine Free.Seq.loud_ rfl (.inl rfl) (fun K hK => ?_)
  go_simp
  refine (HLA.out u1 HB1.out).mono ?_
  rintro e u2 ⟨A1, d1, rfl, hown1, hbu⟩
  have hb2 := HB1.out.trans (hbu.mono HB1.out.size)
  have hp2 := HP.out.below hb2 HP.out.lt
  have HB2 := Lib.hid hb2
  have HR1 := Lib.hid (ownT_row hown1).1
  refine hK.out _ _ rfl (fun _ => ⟨hp2.cell 0, hp2.cell 1⟩) ?_
  clear hK K hp2 hb2 hbu hown1
  iterate 1
    refine Free.Seq.quiet (v := ?_) (a' := ?_) rfl rfl (fun W' hW' => ?_) ?_ ?_
    rotate_left 2
    · first | obtain ⟨s0, s1⟩ := hW' rfl | skip
      go_simp
      try with_reducible rfl
    · simp only [Act.put, List.setIfInBounds_toArray, List.set_cons_zero, List.set_cons_succ]
      try with_reducible rfl
  refine Free.Seq.loud_ rfl (.inl rfl) (fun K hK => ?_)
  go_simp
  refine (HHOW.out u2).mono ?_
  rintro e u3 ⟨rfl, hbu⟩
  have hb3 := HB2.out.trans (hbu.mono HB2.out.size)
  have hp3 := HP.out.below hb3 HP.out.lt
  have HB3 := Lib.hid hb3
  have HR1a := Lib.hid ((HR1.out.below hbu).more hbu.size)
  refine hK.out _ _ rfl (fun _ => ⟨hp3.cell 0, hp3.cell 1⟩) ?_
  clear hK K hp3 hb3 hbu HR1
  refine Free.Seq.loud_ rfl (.inl rfl) (fun K hK => ?_)
  go_simp
  refine (HLB.out u3 HB3.out).mono ?_
  rintro e w2 ⟨A2, d2, rfl, hown2, hb2⟩
  have hB2 := HB3.out.trans (hb2.mono HB3.out.size)
  have hp2 := HP.out.below hB2 HP.out.lt
  have HB4 := Lib.hid hB2
  have HR1b := Lib.hid ((HR1a.out.below hb2).more hb2.size)
  have HR2 := Lib.hid (ownT_row hown2).1
  refine hK.out _ _ rfl (fun _ => ⟨hp2.cell 0, hp2.cell 1⟩) ?_
  clear hK K hp2 hB2 hb2 hown2 HR1a
  refine Free.Seq.loud_ rfl (.inl rfl) (fun K hK => ?_)
  go_simp
  have hk3 := Blk.new w2 83 #[.slice A1 a.length d1, .slice A2 b.length d2]
  have hb3 := (Below.refl _ w2).alloc (Nat.le_refl _) (.cells #[.slice A1 a.length d1, .slice A2 b.length d2] 83)
  have hi3 := ints_two w2.heap.size HNA.out HNB.out hk3 ((HR1b.out.below hb3).more hb3.size) ((HR2.out.below hb3).more hb3.size)
  have HI3 := Lib.hid hi3
  have hB3 := HB4.out.trans (hb3.mono HB4.out.size)
  have hp3 := HP.out.below hB3 HP.out.lt
  have HB5 := Lib.hid hB3
  refine hK.out _ _ rfl (fun _ => ⟨hp3.cell 0, hp3.cell 1⟩) ?_
  clear hK K hp3 hk3 hb3 hi3 hB3
  refine Free.Seq.loud_ rfl (.inl rfl) (fun K hK => ?_)
  go_simp
  refine (HLK.out w2.heap.size 2 _ HB5.out HI3.out).mono ?_
  rintro e w4 ⟨A4, n4, c4, rfl, hz4, hb4⟩
  have HZ4 := Lib.hid hz4
  have HB6 := Lib.hid (HB5.out.trans (hb4.mono HB5.out.size))
  refine hK.out _ _ rfl (fun h => absurd h (by decide)) ?_
  clear hK K hb4 hz4
  iterate 5
    refine Free.Seq.quiet (v := ?_) (a' := ?_) rfl rfl (fun W' hW' => ?_) ?_ ?_
    rotate_left 2
    · skip
      go_simp
      try with_reducible rfl
    · simp only [Act.put, List.setIfInBounds_toArray, List.set_cons_zero, List.set_cons_succ]
      try with_reducible rfl
  refine Free.Seq.nil_ ?_
  clear l0 l1
  by_cases hz : res = 0
  · subst hz
    obtain ⟨rfl, hr4⟩ := HZ4.out rfl
    have hcall := HAL.out A4 c4 w4 HB6.out hr4 (HLZ.out rfl).1 (HLZ.out rfl).2
    have HC := Lib.hid hcall
    clear hr4 hcall
    go_wp2_with (fail)
    refine HC.out.mono ?_
    rintro e w5 ⟨rfl, hb5⟩
    have HB7 := Lib.hid (HB0.out.trans ((HB6.out.trans (hb5.mono HB6.out.size)).mono HB0.out.size))
    clear hb5
    go_wp2
    go_ret2
    exact ⟨rfl, HB7.out⟩
  · have hz1 : ((res : Int) == 0) = false := by rw [beq_eq_false_iff_ne]; omega
    have hz2 : ((res : Int) != 0) = true := by rw [bne_iff_ne]; omega
    have HT := Lib.hid (show Ev.told res ans = false from if_neg hz)
    clear hz
    go_wp2
    go_ret2
    exact ⟨by rw [HT.out]; rfl, HB0.out.trans (HB6.out.mono HB0.out.size)⟩

end Go.Proofs.Ytlddglhjpiahfaa

/- The reference of layer 12: Sees, one, Atoms, Codes, Stacks. -/
namespace Go.Proofs.Ytlddglhjpiahfaa
set_option maxRecDepth 100000
open Go.RowKit Go.Shelf Go.Sort
attribute [local go_sem] Oper.semAt_some
set_option maxHeartbeats 4000000 in
theorem rSees12_any {v : Value} {names : List ByteArray} {up : List Nat} (o a : Int) (w : World) (h : IsLat w w.heap.size v names up) (ho : isLab up o = true) (ha : isLab up a = true) :
    Calls Try.prog 40 #[v, .int .i64 o, .int .i64 a] w (Tells w (Ev.at_ (Ev.viewL up o) a)) := by
  rw [Ev.at_viewL ha]
  unfold isLab at ho ha
  rw [decide_eq_true_eq] at ho ha
  obtain ⟨p, rfl⟩ : ∃ p : Nat, o = p := ⟨o.toNat, by omega⟩
  obtain ⟨q, rfl⟩ : ∃ q : Nat, a = q := ⟨a.toNat, by omega⟩
  have hf := h.few.2
  have hc := fun W (hb : Below w.heap.size w W) => rFlows_any q p W ((h.below hb).more hb.size) (by omega) (by omega)
  obtain ⟨⟨N, U, c1, c2, rfl, -, -⟩, -, -, -⟩ := h
  have hb0 := (Below.refl w.heap.size w).alloc (Nat.le_refl _) (.cells #[.slice N names.length c1, .slice U up.length c2] 25)
  have HC := Lib.hid (hc _ hb0)
  have HB := Lib.hid hb0
  rw [Int.toNat_natCast, Int.toNat_natCast]
  clear hc hb0
  generalize Lat.fl up q p = f at *
  go_enter Try.func40, Try.ntmps40
  go_wp2_with (fail)
  refine HC.out.mono ?_
  rintro e w1 ⟨rfl, hb1⟩
  have HB1 := Lib.hid (HB.out.trans (hb1.mono HB.out.size))
  clear hb1
  go_wp2
  go_ret
  exact ⟨rfl, HB1.out⟩
set_option maxHeartbeats 4000000 in
theorem rOne12_any {v : Value} {names : List ByteArray} {up : List Nat} (o x a y b : Int) (w : World) (h : IsLat w w.heap.size v names up) (ho : isLab up o = true) (ha : isLab up a = true) :
    Calls Try.prog 39 #[v, .int .i64 o, .int .i64 x, .int .i64 a, .int .i64 y, .int .i64 b] w (Tells w (decide (Ev.seenA (Ev.viewL up o) ⟨x, a⟩ = Ev.seenA (Ev.viewL up o) ⟨y, b⟩))) := by
  have hc := fun W (hb : Below w.heap.size w W) => rSees12_any o a W ((h.below hb).more hb.size) ho ha
  have hd : decide (Ev.seenA (Ev.viewL up o) ⟨x, a⟩ = Ev.seenA (Ev.viewL up o) ⟨y, b⟩) = (decide (a = b) && (!Ev.at_ (Ev.viewL up o) a || decide (x = y))) := by
    rw [Bool.eq_iff_iff, decide_eq_true_eq, Ev.seenA_eq]
    simp
  rw [hd]
  obtain ⟨⟨N, U, c1, c2, rfl, -, -⟩, -, -, -⟩ := h
  have hb0 := (Below.refl w.heap.size w).alloc (Nat.le_refl _) (.cells #[.slice N names.length c1, .slice U up.length c2] 25)
  have HC := Lib.hid (hc _ hb0)
  have HB := Lib.hid hb0
  clear hc hb0 hd ho ha
  generalize Ev.at_ (Ev.viewL up o) a = s at *
  by_cases hab : a = b
  · have hab1 : (a == b) = true := by rw [beq_iff_eq]; exact hab
    rw [decide_eq_true hab]
    by_cases hxy : x = y
    · have hxy1 : (x == y) = true := by rw [beq_iff_eq]; exact hxy
      rw [decide_eq_true hxy]
      clear hab hxy
      cases s
      all_goals
        go_enter Try.func39, Try.ntmps39
        go_wp2_with (fail)
        refine HC.out.mono ?_
        rintro e w1 ⟨rfl, hb1⟩
        have HB1 := Lib.hid (HB.out.trans (hb1.mono HB.out.size))
        clear hb1
        go_wp2
        go_ret
        exact ⟨rfl, HB1.out⟩
    · have hxy1 : (x == y) = false := by rw [beq_eq_false_iff_ne]; exact hxy
      rw [decide_eq_false hxy]
      clear hab hxy
      cases s
      all_goals
        go_enter Try.func39, Try.ntmps39
        go_wp2_with (fail)
        refine HC.out.mono ?_
        rintro e w1 ⟨rfl, hb1⟩
        have HB1 := Lib.hid (HB.out.trans (hb1.mono HB.out.size))
        clear hb1
        go_wp2
        go_ret
        exact ⟨rfl, HB1.out⟩
  · have hab1 : (a == b) = false := by rw [beq_eq_false_iff_ne]; exact hab
    rw [decide_eq_false hab]
    clear hab
    go_enter Try.func39, Try.ntmps39
    go_wp2
    go_ret
    exact ⟨rfl, HB.out⟩
/-- The head of the reference's rounds: the lattice's box, and what is below. -/
structure RH (w : World) (x0 x1 : Value) (W : World) : Prop where
  box : Blk W w.heap.size 25 #[x0, x1]
  below : Below w.heap.size w W
theorem RH.start (w : World) (x0 x1 : Value) : RH w x0 x1 (w.alloc (.cells #[x0, x1] 25)) := ⟨Blk.new _ _ _, (Below.refl _ w).alloc (Nat.le_refl _) _⟩
theorem RH.next {w : World} {x0 x1 : Value} {W W' : World} (h : RH w x0 x1 W) (hb : Below W.heap.size W W') : RH w x0 x1 W' := ⟨h.box.below hb h.box.lt, h.below.trans (hb.mono h.below.size)⟩
theorem neq_len {n m : Nat} (h : n ≠ m) : ((n : Int) != (m : Int)) = true := by rw [bne_iff_ne]; omega
theorem eq_len (n : Nat) : ((n : Int) != (n : Int)) = false := by rw [bne_eq_false_iff_eq]
set_option maxHeartbeats 8000000 in
theorem rAtoms12_any {v : Value} {names : List ByteArray} {up : List Nat} {B D : Option Addr} {a b : List St.Atom} (o : Int) (ca cb : Nat) (w : World) (h : IsLat w w.heap.size v names up) (ho : isLab up o = true) (ha : Row w w.heap.size B (fcells avs a)) (hb : Row w w.heap.size D (fcells avs b)) (hla : ∀ x ∈ a, isLab up x.l = true) (hn : a.length ≤ 100000) :
    Calls Try.prog 14 #[v, .int .i64 o, .slice B a.length ca, .slice D b.length cb] w (Tells w (Ev.alike (Ev.seenA (Ev.viewL up o)) a b)) := by
  by_cases hl : a.length = b.length
  · obtain ⟨res, hres⟩ : ∃ res, Ev.alike (Ev.seenA (Ev.viewL up o)) a b = res := ⟨_, rfl⟩
    rw [hres]
    obtain ⟨n, hna⟩ : ∃ n, a.length = n := ⟨_, rfl⟩
    have hnb : b.length = n := by omega
    have hc := fun x ax y by_ W (hW : Below w.heap.size w W) hax => rOne12_any (names := names) (up := up) (v := v) o x ax y by_ W ((h.below hW).more hW.size) ho hax
    obtain ⟨⟨N, U, c1, c2, rfl, -, -⟩, -, -, -⟩ := h
    have HC := Lib.hid hc
    have HRES := Lib.hid hres
    have H := Lib.hid ha
    have H' := Lib.hid hb
    have HLA := Lib.hid hla
    have HNA := Lib.hid hna
    have HNB := Lib.hid hnb
    have HRH := Lib.hid (RH.start w (.slice N names.length c1) (.slice U up.length c2))
    have hn9 : n ≤ 100000 := by omega
    have hnn := eq_len n
    rw [hna, hnb]
    clear hres ha hb hla hna hnb hn hl hc ho
    go_enter Try.func14, Try.ntmps14
    go_wp2
    go_loopw [17] (fun i wr => ∃ k : Nat, k ≤ n ∧ i = .int .i64 k ∧ Hid ((a.take k).map (Ev.seenA (Ev.viewL up o)) = (b.take k).map (Ev.seenA (Ev.viewL up o))) ∧ Hid (RH w (.slice N names.length c1) (.slice U up.length c2) wr)) (fun i _ => n - (intOf i).toNat)
    case atStart => exact ⟨0, Nat.zero_le _, rfl, Lib.hid rfl, HRH⟩
    case round =>
      clear HRH
      obtain ⟨k, hk, rfl, HT, HR⟩ := hrel
      have HB := Lib.hid HR.out.below
      by_cases hlt : k < n
      · obtain ⟨ad, x, rfl, hxb, hx, x0, x1⟩ := arow_at (H.out.below HB.out) (show k < a.length by rw [HNA.out]; exact hlt)
        obtain ⟨bd, y, rfl, hyb, hy, y0, y1⟩ := arow_at (H'.out.below HB.out) (show k < b.length by rw [HNB.out]; exact hlt)
        have hz := HB.out.size
        have hxb2 : (ad.add (k * 2)).block < wr.heap.size := by rw [add_block]; omega
        have hyb2 : (bd.add (k * 2)).block < wr.heap.size := by rw [add_block]; omega
        have hcall := fun W hW => HC.out x.v x.l y.v y.l W hW (HLA.out x (List.mem_of_getElem? hx))
        have hnx := Ev.take_map_succ (f := Ev.seenA (Ev.viewL up o)) hx hy HT.out
        obtain ⟨s, hs⟩ : ∃ s, decide (Ev.seenA (Ev.viewL up o) x = Ev.seenA (Ev.viewL up o) y) = s := ⟨_, rfl⟩
        rw [show (⟨x.v, x.l⟩ : St.Atom) = x from rfl, show (⟨y.v, y.l⟩ : St.Atom) = y from rfl, hs] at hcall
        have HCALL := Lib.hid (fun W (hW : Below wr.heap.size wr W) => hcall W (HB.out.trans (hW.mono hz)))
        have HNX := Lib.hid hnx
        have HS := Lib.hid hs
        have l0 : wr.cell? ⟨w.heap.size, 0, none⟩ = some (.slice N names.length c1) := HR.out.box.cell 0
        have l1 : wr.cell? ⟨w.heap.size, 1, none⟩ = some (.slice U up.length c2) := HR.out.box.cell 1
        have hltI : (k : Int) < (n : Int) := by omega
        clear hx hy hcall hnx hs
        generalize x.v = xv at *
        generalize x.l = xl at *
        generalize y.v = yv at *
        generalize y.l = yl at *
        have r0 := fun d os => cell_regrown x0 d os
        have r1 := fun d os => cell_regrown x1 d os
        have r2 := fun d os => cell_regrown y0 d os
        have r3 := fun d os => cell_regrown y1 d os
        have r4 := fun d os => cell_regrown l0 d os
        have r5 := fun d os => cell_regrown l1 d os
        go_wp2
        refine wp_region_quiet_below (by kernel_rfl) (by kernel_rfl) ?_
        repeat (quiet_step ((go_at_call 39; with_reducible exact Calls.regrown_of (HCALL.out _ (below_regrown _ _ _)))))
        refine wpQuiet_nil ?_
        rintro _ ⟨⟨d9, os9⟩, rfl⟩
        have HR9 := Lib.hid (HR.out.next (below_regrown wr d9 os9))
        clear r0 r1 r2 r3 r4 r5 x0 x1 y0 y1 l0 l1
        generalize grow (redrawn wr d9) os9 = w9 at *
        cases s
        · have hff : res = false := by
            rw [← HRES.out]
            exact Ev.alike_no (k := k + 1) fun e => of_decide_eq_false HS.out (HNX.out.1 e)
          have HFF := Lib.hid hff
          clear hff
          go_wp2
          go_ret
          exact ⟨by rw [HFF.out]; rfl, HR9.out.below⟩
        · have HN2 := Lib.hid (HNX.out.2 (of_decide_eq_true HS.out))
          go_wp2
          go_roundw
          case rel => exact ⟨k + 1, by omega, by go_num, HN2, HR9⟩
          case measure => simp [intOf]; omega
      · obtain rfl : n = k := by omega
        have htt : res = true := by
          rw [← HRES.out]
          exact Ev.alike_all HNA.out HNB.out HT.out
        have HTT := Lib.hid htt
        clear htt
        go_wp2
        go_ret
        exact ⟨by rw [HTT.out]; rfl, HB.out⟩
  · rw [Ev.alike_len hl]
    have h1 := neq_len hl
    generalize a.length = n at *
    generalize b.length = m at *
    obtain ⟨⟨N, U, c1, c2, rfl, -, -⟩, -, -, -⟩ := h
    clear ha hb hla
    go_enter Try.func14, Try.ntmps14
    go_wp2
    go_ret
    exact ⟨rfl, (Below.refl _ w).alloc (Nat.le_refl _) _⟩
end Go.Proofs.Ytlddglhjpiahfaa

/- The reference of layer 12: Stacks, Codes. -/
namespace Go.Proofs.Ytlddglhjpiahfaa
set_option maxRecDepth 100000
open Go.RowKit Go.Shelf Go.Sort
attribute [local go_sem] Oper.semAt_some
set_option maxHeartbeats 8000000 in
theorem rStacks12_any {v : Value} {names : List ByteArray} {up : List Nat} {B D : Option Addr} {a b : List St.Slot} (o : Int) (ca cb : Nat) (w : World) (h : IsLat w w.heap.size v names up) (ho : isLab up o = true) (ha : Row w w.heap.size B (fcells svs a)) (hb : Row w w.heap.size D (fcells svs b)) (hla : ∀ x ∈ a, isLab up x.l = true) (hn : a.length ≤ 100000) :
    Calls Try.prog 16 #[v, .int .i64 o, .slice B a.length ca, .slice D b.length cb] w (Tells w (Ev.alike (Ev.seenS (Ev.viewL up o)) a b)) := by
  by_cases hl : a.length = b.length
  · obtain ⟨res, hres⟩ : ∃ res, Ev.alike (Ev.seenS (Ev.viewL up o)) a b = res := ⟨_, rfl⟩
    rw [hres]
    obtain ⟨n, hna⟩ : ∃ n, a.length = n := ⟨_, rfl⟩
    have hnb : b.length = n := by omega
    have hc := fun x ax y by_ W (hW : Below w.heap.size w W) hax => rOne12_any (names := names) (up := up) (v := v) o x ax y by_ W ((h.below hW).more hW.size) ho hax
    obtain ⟨⟨N, U, c1, c2, rfl, -, -⟩, -, -, -⟩ := h
    have HC := Lib.hid hc
    have HRES := Lib.hid hres
    have H := Lib.hid ha
    have H' := Lib.hid hb
    have HLA := Lib.hid hla
    have HNA := Lib.hid hna
    have HNB := Lib.hid hnb
    have HRH := Lib.hid (RH.start w (.slice N names.length c1) (.slice U up.length c2))
    have hn9 : n ≤ 100000 := by omega
    have hnn := eq_len n
    rw [hna, hnb]
    clear hres ha hb hla hna hnb hn hl hc ho
    go_enter Try.func16, Try.ntmps16
    go_wp2
    go_loopw [17] (fun i wr => ∃ k : Nat, k ≤ n ∧ i = .int .i64 k ∧ Hid ((a.take k).map (Ev.seenS (Ev.viewL up o)) = (b.take k).map (Ev.seenS (Ev.viewL up o))) ∧ Hid (RH w (.slice N names.length c1) (.slice U up.length c2) wr)) (fun i _ => n - (intOf i).toNat)
    case atStart => exact ⟨0, Nat.zero_le _, rfl, Lib.hid rfl, HRH⟩
    case round =>
      clear HRH
      obtain ⟨k, hk, rfl, HT, HR⟩ := hrel
      have HB := Lib.hid HR.out.below
      by_cases hlt : k < n
      · obtain ⟨ad, x, rfl, hxb, hx, x0, x1, x2⟩ := srow_at (H.out.below HB.out) (show k < a.length by rw [HNA.out]; exact hlt)
        obtain ⟨bd, y, rfl, hyb, hy, y0, y1, y2⟩ := srow_at (H'.out.below HB.out) (show k < b.length by rw [HNB.out]; exact hlt)
        have hz := HB.out.size
        have hxb2 : (ad.add (k * 3)).block < wr.heap.size := by rw [add_block]; omega
        have hyb2 : (bd.add (k * 3)).block < wr.heap.size := by rw [add_block]; omega
        have hcall := fun W hW => HC.out x.v x.l y.v y.l W hW (HLA.out x (List.mem_of_getElem? hx))
        obtain ⟨q, hq⟩ : ∃ q, decide (Ev.seenA (Ev.viewL up o) ⟨x.v, x.l⟩ = Ev.seenA (Ev.viewL up o) ⟨y.v, y.l⟩) = q := ⟨_, rfl⟩
        have hsq : decide (Ev.seenS (Ev.viewL up o) x = Ev.seenS (Ev.viewL up o) y) = (decide (x.ret = y.ret) && q) := by
          rw [← hq, Bool.eq_iff_iff, decide_eq_true_eq, Ev.seenS_eq, Bool.and_eq_true, decide_eq_true_eq, decide_eq_true_eq, Ev.seenA_eq]
        have hnx := Ev.take_map_succ (f := Ev.seenS (Ev.viewL up o)) hx hy HT.out
        obtain ⟨s, hs⟩ : ∃ s, decide (Ev.seenS (Ev.viewL up o) x = Ev.seenS (Ev.viewL up o) y) = s := ⟨_, rfl⟩
        rw [hq] at hcall
        rw [hs] at hsq
        have HSQ := Lib.hid hsq
        have HCALL := Lib.hid (fun W (hW : Below wr.heap.size wr W) => hcall W (HB.out.trans (hW.mono hz)))
        have HNX := Lib.hid hnx
        have HS := Lib.hid hs
        have l0 : wr.cell? ⟨w.heap.size, 0, none⟩ = some (.slice N names.length c1) := HR.out.box.cell 0
        have l1 : wr.cell? ⟨w.heap.size, 1, none⟩ = some (.slice U up.length c2) := HR.out.box.cell 1
        have hltI : (k : Int) < (n : Int) := by omega
        clear hx hy hcall hnx hs hsq hq
        generalize x.ret = xr at *
        generalize y.ret = yr at *
        generalize x.v = xv at *
        generalize x.l = xl at *
        generalize y.v = yv at *
        generalize y.l = yl at *
        have r0 := fun d os => cell_regrown x0 d os
        have r1 := fun d os => cell_regrown x1 d os
        have r2 := fun d os => cell_regrown y0 d os
        have r3 := fun d os => cell_regrown y1 d os
        have r6 := fun d os => cell_regrown x2 d os
        have r7 := fun d os => cell_regrown y2 d os
        have r4 := fun d os => cell_regrown l0 d os
        have r5 := fun d os => cell_regrown l1 d os
        have hsv := HSQ.out
        clear HSQ
        cases xr <;> cases yr
        · cases q
          · have HSV : Hid (s = false) := Lib.hid hsv
            clear hsv
            go_wp2
            refine wp_region_quiet_below (by kernel_rfl) (by kernel_rfl) ?_
            refine quiet_hideE fun ops hops => ?_
            have hy11 : (ops[11]?.bind fun x => x.dst) = some 31 := by rw [hops]; rfl
            clear hops
            repeat (quiet_step ((go_at_call 39; with_reducible exact Calls.regrown_of (HCALL.out _ (below_regrown _ _ _)))))
            refine wpQuiet_nil ?_
            rintro _ ⟨⟨d9, os9⟩, rfl⟩
            have HR9 := Lib.hid (HR.out.next (below_regrown wr d9 os9))
            clear r0 r1 r2 r3 r4 r5 r6 r7 x0 x1 x2 y0 y1 y2 l0 l1
            generalize grow (redrawn wr d9) os9 = w9 at *
            have hff : res = false := by
              rw [← HRES.out]
              exact Ev.alike_no (k := k + 1) fun e => of_decide_eq_false (HS.out.trans HSV.out) (HNX.out.1 e)
            have HFF := Lib.hid hff
            clear hff
            go_wp2
            go_ret
            exact ⟨by rw [HFF.out]; rfl, HR9.out.below⟩
          · have HSV : Hid (s = true) := Lib.hid hsv
            clear hsv
            go_wp2
            refine wp_region_quiet_below (by kernel_rfl) (by kernel_rfl) ?_
            refine quiet_hideE fun ops hops => ?_
            have hy11 : (ops[11]?.bind fun x => x.dst) = some 31 := by rw [hops]; rfl
            clear hops
            repeat (quiet_step ((go_at_call 39; with_reducible exact Calls.regrown_of (HCALL.out _ (below_regrown _ _ _)))))
            refine wpQuiet_nil ?_
            rintro _ ⟨⟨d9, os9⟩, rfl⟩
            have HR9 := Lib.hid (HR.out.next (below_regrown wr d9 os9))
            clear r0 r1 r2 r3 r4 r5 r6 r7 x0 x1 x2 y0 y1 y2 l0 l1
            generalize grow (redrawn wr d9) os9 = w9 at *
            have HN2 := Lib.hid (HNX.out.2 (of_decide_eq_true (HS.out.trans HSV.out)))
            go_wp2
            go_roundw
            case rel => exact ⟨k + 1, by omega, by go_num, HN2, HR9⟩
            case measure => simp [intOf]; omega
        · have HSV : Hid (s = false) := Lib.hid hsv
          clear hsv
          go_wp2
          refine wp_region_quiet_below (by kernel_rfl) (by kernel_rfl) ?_
          refine quiet_hideE fun ops hops => ?_
          have hy11 : (ops[11]?.bind fun x => x.dst) = some 31 := by rw [hops]; rfl
          clear hops
          repeat (quiet_step ((go_at_call 39; with_reducible exact Calls.regrown_of (HCALL.out _ (below_regrown _ _ _)))))
          refine wpQuiet_nil ?_
          rintro _ ⟨⟨d9, os9⟩, rfl⟩
          have HR9 := Lib.hid (HR.out.next (below_regrown wr d9 os9))
          clear r0 r1 r2 r3 r4 r5 r6 r7 x0 x1 x2 y0 y1 y2 l0 l1
          generalize grow (redrawn wr d9) os9 = w9 at *
          have hff : res = false := by
            rw [← HRES.out]
            exact Ev.alike_no (k := k + 1) fun e => of_decide_eq_false (HS.out.trans HSV.out) (HNX.out.1 e)
          have HFF := Lib.hid hff
          clear hff
          go_wp2
          go_ret
          exact ⟨by rw [HFF.out]; rfl, HR9.out.below⟩
        · have HSV : Hid (s = false) := Lib.hid hsv
          clear hsv
          go_wp2
          refine wp_region_quiet_below (by kernel_rfl) (by kernel_rfl) ?_
          refine quiet_hideE fun ops hops => ?_
          have hy11 : (ops[11]?.bind fun x => x.dst) = some 31 := by rw [hops]; rfl
          clear hops
          repeat (quiet_step ((go_at_call 39; with_reducible exact Calls.regrown_of (HCALL.out _ (below_regrown _ _ _)))))
          refine wpQuiet_nil ?_
          rintro _ ⟨⟨d9, os9⟩, rfl⟩
          have HR9 := Lib.hid (HR.out.next (below_regrown wr d9 os9))
          clear r0 r1 r2 r3 r4 r5 r6 r7 x0 x1 x2 y0 y1 y2 l0 l1
          generalize grow (redrawn wr d9) os9 = w9 at *
          have hff : res = false := by
            rw [← HRES.out]
            exact Ev.alike_no (k := k + 1) fun e => of_decide_eq_false (HS.out.trans HSV.out) (HNX.out.1 e)
          have HFF := Lib.hid hff
          clear hff
          go_wp2
          go_ret
          exact ⟨by rw [HFF.out]; rfl, HR9.out.below⟩
        · cases q
          · have HSV : Hid (s = false) := Lib.hid hsv
            clear hsv
            go_wp2
            refine wp_region_quiet_below (by kernel_rfl) (by kernel_rfl) ?_
            refine quiet_hideE fun ops hops => ?_
            have hy11 : (ops[11]?.bind fun x => x.dst) = some 31 := by rw [hops]; rfl
            clear hops
            repeat (quiet_step ((go_at_call 39; with_reducible exact Calls.regrown_of (HCALL.out _ (below_regrown _ _ _)))))
            refine wpQuiet_nil ?_
            rintro _ ⟨⟨d9, os9⟩, rfl⟩
            have HR9 := Lib.hid (HR.out.next (below_regrown wr d9 os9))
            clear r0 r1 r2 r3 r4 r5 r6 r7 x0 x1 x2 y0 y1 y2 l0 l1
            generalize grow (redrawn wr d9) os9 = w9 at *
            have hff : res = false := by
              rw [← HRES.out]
              exact Ev.alike_no (k := k + 1) fun e => of_decide_eq_false (HS.out.trans HSV.out) (HNX.out.1 e)
            have HFF := Lib.hid hff
            clear hff
            go_wp2
            go_ret
            exact ⟨by rw [HFF.out]; rfl, HR9.out.below⟩
          · have HSV : Hid (s = true) := Lib.hid hsv
            clear hsv
            go_wp2
            refine wp_region_quiet_below (by kernel_rfl) (by kernel_rfl) ?_
            refine quiet_hideE fun ops hops => ?_
            have hy11 : (ops[11]?.bind fun x => x.dst) = some 31 := by rw [hops]; rfl
            clear hops
            repeat (quiet_step ((go_at_call 39; with_reducible exact Calls.regrown_of (HCALL.out _ (below_regrown _ _ _)))))
            refine wpQuiet_nil ?_
            rintro _ ⟨⟨d9, os9⟩, rfl⟩
            have HR9 := Lib.hid (HR.out.next (below_regrown wr d9 os9))
            clear r0 r1 r2 r3 r4 r5 r6 r7 x0 x1 x2 y0 y1 y2 l0 l1
            generalize grow (redrawn wr d9) os9 = w9 at *
            have HN2 := Lib.hid (HNX.out.2 (of_decide_eq_true (HS.out.trans HSV.out)))
            go_wp2
            go_roundw
            case rel => exact ⟨k + 1, by omega, by go_num, HN2, HR9⟩
            case measure => simp [intOf]; omega
      · obtain rfl : n = k := by omega
        have htt : res = true := by
          rw [← HRES.out]
          exact Ev.alike_all HNA.out HNB.out HT.out
        have HTT := Lib.hid htt
        clear htt
        go_wp2
        go_ret
        exact ⟨by rw [HTT.out]; rfl, HB.out⟩
  · rw [Ev.alike_len hl]
    have h1 := neq_len hl
    generalize a.length = n at *
    generalize b.length = m at *
    obtain ⟨⟨N, U, c1, c2, rfl, -, -⟩, -, -, -⟩ := h
    clear ha hb hla
    go_enter Try.func16, Try.ntmps16
    go_wp2
    go_ret
    exact ⟨rfl, (Below.refl _ w).alloc (Nat.le_refl _) _⟩
set_option maxHeartbeats 8000000 in
theorem rCodes12_any {v : Value} {names : List ByteArray} {up : List Nat} {B D : Option Addr} {a b : List Cd.In} (o : Int) (ca cb : Nat) (w : World) (h : IsLat w w.heap.size v names up) (ho : isLab up o = true) (ha : Row w w.heap.size B (icells a)) (hb : Row w w.heap.size D (icells b)) (hla : ∀ x ∈ a, isLab up x.l = true) (hn : a.length ≤ 100000) :
    Calls Try.prog 15 #[v, .int .i64 o, .slice B a.length ca, .slice D b.length cb] w (Tells w (Ev.alike (Ev.seenI (Ev.viewL up o)) a b)) := by
  by_cases hl : a.length = b.length
  · obtain ⟨res, hres⟩ : ∃ res, Ev.alike (Ev.seenI (Ev.viewL up o)) a b = res := ⟨_, rfl⟩
    rw [hres]
    obtain ⟨n, hna⟩ : ∃ n, a.length = n := ⟨_, rfl⟩
    have hnb : b.length = n := by omega
    have hc := fun ax W (hW : Below w.heap.size w W) hax => rSees12_any (names := names) (up := up) (v := v) o ax W ((h.below hW).more hW.size) ho hax
    obtain ⟨⟨N, U, c1, c2, rfl, -, -⟩, -, -, -⟩ := h
    have HC := Lib.hid hc
    have HRES := Lib.hid hres
    have H := Lib.hid ha
    have H' := Lib.hid hb
    have HLA := Lib.hid hla
    have HNA := Lib.hid hna
    have HNB := Lib.hid hnb
    have HRH := Lib.hid (RH.start w (.slice N names.length c1) (.slice U up.length c2))
    have hn9 : n ≤ 100000 := by omega
    have hnn := eq_len n
    rw [hna, hnb]
    clear hres ha hb hla hna hnb hn hl hc ho
    go_enter Try.func15, Try.ntmps15
    go_wp2
    go_loopw [19] (fun i wr => ∃ k : Nat, k ≤ n ∧ i = .int .i64 k ∧ Hid ((a.take k).map (Ev.seenI (Ev.viewL up o)) = (b.take k).map (Ev.seenI (Ev.viewL up o))) ∧ Hid (RH w (.slice N names.length c1) (.slice U up.length c2) wr)) (fun i _ => n - (intOf i).toNat)
    case atStart => exact ⟨0, Nat.zero_le _, rfl, Lib.hid rfl, HRH⟩
    case round =>
      clear HRH
      obtain ⟨k, hk, rfl, HT, HR⟩ := hrel
      have HB := Lib.hid HR.out.below
      by_cases hlt : k < n
      · obtain ⟨ad, x, rfl, hxb, hx, x0, x1, x2⟩ := inrow_at (H.out.below HB.out) (show k < a.length by rw [HNA.out]; exact hlt)
        obtain ⟨bd, y, rfl, hyb, hy, y0, y1, y2⟩ := inrow_at (H'.out.below HB.out) (show k < b.length by rw [HNB.out]; exact hlt)
        have hz := HB.out.size
        have hxb2 : (ad.add (k * 3)).block < wr.heap.size := by rw [add_block]; omega
        have hyb2 : (bd.add (k * 3)).block < wr.heap.size := by rw [add_block]; omega
        have hcall := fun W hW => HC.out x.l W hW (HLA.out x (List.mem_of_getElem? hx))
        have hnx := Ev.take_map_succ (f := Ev.seenI (Ev.viewL up o)) hx hy HT.out
        have hse := Ev.seenI_eq (Ev.viewL up o) x y
        obtain ⟨q, hq⟩ : ∃ q, Ev.at_ (Ev.viewL up o) x.l = q := ⟨_, rfl⟩
        rw [hq] at hcall hse
        have hba := (HB.out.alloc hz (.cells #[.int .i64 x.op, .int .i64 x.n, .int .i64 x.l] 67)).alloc (by simp; omega) (.cells #[.int .i64 y.op, .int .i64 y.n, .int .i64 y.l] 67)
        have hbr := ((Below.refl wr.heap.size wr).alloc (Nat.le_refl _) (.cells #[.int .i64 x.op, .int .i64 x.n, .int .i64 x.l] 67)).alloc (by simp) (.cells #[.int .i64 y.op, .int .i64 y.n, .int .i64 y.l] 67)
        have HCALL := Lib.hid (hcall _ hba)
        have HRA := Lib.hid (HR.out.next hbr)
        have HNX := Lib.hid hnx
        have HSE := Lib.hid hse
        have l0 : wr.cell? ⟨w.heap.size, 0, none⟩ = some (.slice N names.length c1) := HR.out.box.cell 0
        have l1 : wr.cell? ⟨w.heap.size, 1, none⟩ = some (.slice U up.length c2) := HR.out.box.cell 1
        have hwlt : w.heap.size < wr.heap.size := HR.out.box.lt
        clear hx hy hcall hnx hse hba hbr hq HT HB
        have key : ∀ s : Bool, (Ev.seenI (Ev.viewL up o) x = Ev.seenI (Ev.viewL up o) y ↔ s = true) → Hid (if s then (a.take (k + 1)).map (Ev.seenI (Ev.viewL up o)) = (b.take (k + 1)).map (Ev.seenI (Ev.viewL up o)) else res = false) := fun s hs => Lib.hid (by
          cases s
          · simp only [Bool.false_eq_true, if_false]
            rw [← HRES.out]
            exact Ev.alike_no (k := k + 1) fun e => by have := hs.1 (HNX.out.1 e); cases this
          · simp only [if_true]
            exact HNX.out.2 (hs.2 rfl))
        have HKEY := Lib.hid key
        clear key HNX
        generalize hx1 : x.op = xo at *
        generalize hx2 : x.n = xn at *
        generalize hx3 : x.l = xl at *
        generalize hy1 : y.op = yo at *
        generalize hy2 : y.n = yn at *
        generalize hy3 : y.l = yl at *
        clear hx1 hx2 hx3 hy1 hy2 hy3
        by_cases e1 : xo = yo
        · by_cases e2 : xl = yl
          · by_cases e3 : xn = yn
            · have f1 : (xo != yo) = false := by rw [bne_eq_false_iff_eq]; exact e1
              have f2 : (xl != yl) = false := by rw [bne_eq_false_iff_eq]; exact e2
              have f3 : (xn != yn) = false := by rw [bne_eq_false_iff_eq]; exact e3
              have HGO := HKEY.out true ⟨fun _ => rfl, fun _ => HSE.out.2 ⟨e1, e2, .inl e3⟩⟩
              clear e1 e2 e3 HKEY HSE
              go_wp2
              go_roundw
              case rel => exact ⟨k + 1, by omega, by go_num, Lib.hid (by have := HGO.out; simpa using this), HRA⟩
              case measure => simp [intOf]; omega
            · have f1 : (xo != yo) = false := by rw [bne_eq_false_iff_eq]; exact e1
              have f2 : (xl != yl) = false := by rw [bne_eq_false_iff_eq]; exact e2
              have f3 : (xn != yn) = true := by rw [bne_iff_ne]; exact e3
              by_cases e4 : xo = 1
              · have f4 : (xo != 1) = false := by rw [bne_eq_false_iff_eq]; exact e4
                have hk2 := HKEY.out (!q) (by
                  rw [HSE.out]
                  cases q
                  · exact ⟨fun _ => rfl, fun _ => ⟨e1, e2, .inr ⟨e4, rfl⟩⟩⟩
                  · exact ⟨fun h => (h.2.2.elim (fun h => absurd h e3) (fun h => absurd h.2 (by decide))), fun h => absurd h (by decide)⟩)
                have HK2 := Lib.hid hk2
                clear e1 e2 e3 e4 HKEY HSE hk2
                go_wp2_with (fail)
                refine HCALL.out.mono ?_
                rintro e w5 ⟨rfl, hb5⟩
                have HR5 := Lib.hid (HRA.out.next hb5)
                clear hb5 l0 l1 x0 x1 x2 y0 y1 y2
                cases q
                · have HGO := HK2.out
                  clear HK2
                  go_wp2
                  go_roundw
                  case rel => exact ⟨k + 1, by omega, by go_num, Lib.hid (by have := HGO.out; simpa using this), HR5⟩
                  case measure => simp [intOf]; omega
                · have hff : res = false := by have := HK2.out.out; simpa using this
                  have HFF := Lib.hid hff
                  clear hff HK2
                  go_wp2
                  go_ret
                  exact ⟨by rw [HFF.out]; rfl, HR5.out.below⟩
              · have f4 : (xo != 1) = true := by rw [bne_iff_ne]; exact e4
                have hff : res = false := by
                  have := (HKEY.out false (by rw [HSE.out]; simp [e3, e4])).out
                  simpa using this
                have HFF := Lib.hid hff
                clear e1 e2 e3 e4 HKEY HSE hff
                go_wp2
                go_ret
                exact ⟨by rw [HFF.out]; rfl, HRA.out.below⟩
          · have f1 : (xo != yo) = false := by rw [bne_eq_false_iff_eq]; exact e1
            have f2 : (xl != yl) = true := by rw [bne_iff_ne]; exact e2
            have hff : res = false := by
              have := (HKEY.out false (by rw [HSE.out]; simp [e2])).out
              simpa using this
            have HFF := Lib.hid hff
            clear e1 e2 HKEY HSE hff
            go_wp2
            go_ret
            exact ⟨by rw [HFF.out]; rfl, HRA.out.below⟩
        · have f1 : (xo != yo) = true := by rw [bne_iff_ne]; exact e1
          have hff : res = false := by
            have := (HKEY.out false (by rw [HSE.out]; simp [e1])).out
            simpa using this
          have HFF := Lib.hid hff
          clear e1 HKEY HSE hff
          go_wp2
          go_ret
          exact ⟨by rw [HFF.out]; rfl, HRA.out.below⟩
      · obtain rfl : n = k := by omega
        have htt : res = true := by
          rw [← HRES.out]
          exact Ev.alike_all HNA.out HNB.out HT.out
        have HTT := Lib.hid htt
        clear htt
        go_wp2
        go_ret
        exact ⟨by rw [HTT.out]; rfl, HB.out⟩
  · rw [Ev.alike_len hl]
    have h1 := neq_len hl
    generalize a.length = n at *
    generalize b.length = m at *
    obtain ⟨⟨N, U, c1, c2, rfl, -, -⟩, -, -, -⟩ := h
    clear ha hb hla
    go_enter Try.func15, Try.ntmps15
    go_wp2
    go_ret
    exact ⟨rfl, (Below.refl _ w).alloc (Nat.le_refl _) _⟩
end Go.Proofs.Ytlddglhjpiahfaa

/- The reference of layer 12: Seen, Outs, Crop. -/
namespace Go.Proofs.Ytlddglhjpiahfaa
set_option maxRecDepth 100000
open Go.RowKit Go.Shelf Go.Sort
attribute [local go_sem] Oper.semAt_some
set_option maxHeartbeats 8000000 in
theorem rSeen12_any {v : Value} {names : List ByteArray} {up : List Nat} {B : Option Addr} {a : List St.Atom} (o : Int) (ca : Nat) (w : World) (h : IsLat w w.heap.size v names up) (ho : isLab up o = true) (ha : Row w w.heap.size B (fcells avs a)) (hla : ∀ x ∈ a, isLab up x.l = true) (hn : a.length ≤ 100000) :
    Calls Try.prog 38 #[v, .int .i64 o, .slice B a.length ca] w (GotAtoms w (Ev.pub (Ev.viewL up o) a)) := by
  obtain ⟨i0, hi, hz0, hz1, hz2⟩ := info_parts Try.infoAtomE
  have hc := fun ax W (hW : Below w.heap.size w W) hax => rSees12_any (names := names) (up := up) (v := v) o ax W ((h.below hW).more hW.size) ho hax
  obtain ⟨⟨N, U, c1, c2, rfl, -, -⟩, -, -, -⟩ := h
  obtain ⟨n, hna⟩ : ∃ n, a.length = n := ⟨_, rfl⟩
  rw [hna]
  have hn9 : n ≤ 100000 := by omega
  have hr0 := (RH.start w (.slice N names.length c1) (.slice U up.length c2))
  obtain ⟨W0, hW0⟩ : ∃ W0, w.alloc (.cells #[.slice N names.length c1, .slice U up.length c2] 25) = W0 := ⟨_, rfl⟩
  have hs0 : W0.heap.size = w.heap.size + 1 := by rw [← hW0]; simp
  rw [hW0] at hr0
  have hr1 := hr0.next ((Below.refl _ W0).alloc (Nat.le_refl _) (.cells #[] 27))
  have hown0 := own_emptyK W0 27 2
  rw [hs0] at hown0
  have HR0 := Lib.hid hr1
  have HO0 := Lib.hid hown0
  have HS0 := Lib.hid hs0
  have HC := Lib.hid hc
  have H := Lib.hid ha
  have HLA := Lib.hid hla
  have HNA := Lib.hid hna
  generalize Ev.viewL up o = vw at *
  clear ha hla hna hn hc ho hr0 hr1 hown0 hs0
  go_enter Try.func38, Try.ntmps38
  go_wp2
  go_loopw [7, 13] (fun r i wr => ∃ k m : Nat, k ≤ n ∧ m ≤ k ∧ i = .int .i64 k ∧ Hid ((Ev.pub vw (a.take k)).length = m) ∧ Hid (wr.ownsRow (w.heap.size + 1) 27 2 r m (fcells avs (Ev.pub vw (a.take k)))) ∧ Hid (RH w (.slice N names.length c1) (.slice U up.length c2) wr)) (fun _ i _ => n - (intOf i).toNat)
  case atStart => exact ⟨0, 0, Nat.zero_le _, Nat.le_refl _, rfl, Lib.hid rfl, Lib.hid (by rw [HS0.out]; exact HO0.out), HR0⟩
  case round =>
    clear HR0 HO0 hW0
    obtain ⟨k, m, hk, hmk, rfl, HM, HO, HR⟩ := hrel
    obtain ⟨An, cn, rfl⟩ := ownT_slice HO.out
    by_cases hlt : k < n
    · obtain ⟨bd, x, rfl, hxb, hx, x0, x1⟩ := arow_at (H.out.below HR.out.below) (show k < a.length by rw [HNA.out]; exact hlt)
      have hps := Ev.pub_snoc vw (a.take k) x
      rw [← Ev.take_snoc hx] at hps
      obtain ⟨s, hs⟩ : ∃ s, Ev.at_ vw x.l = s := ⟨_, rfl⟩
      have hcall := fun W hW => HC.out x.l W hW (HLA.out x (List.mem_of_getElem? hx))
      have hfc : avs x = [.int .i64 x.v, .int .i64 x.l] := rfl
      rw [hs] at hps hcall
      have HPS := Lib.hid hps
      have HFC := Lib.hid hfc
      have hz := HR.out.below.size
      have hwlt : w.heap.size < wr.heap.size := HR.out.box.lt
      have hxb2 : (bd.add (k * 2)).block < wr.heap.size := by rw [add_block]; omega
      have HCALL0 := Lib.hid hcall
      clear hs hps hfc hx hcall
      generalize x.v = xv at *
      generalize x.l = xl at *
      have hal := (Below.refl wr.heap.size wr).alloc (Nat.le_refl _) (.cells #[.int .i64 xv, .int .i64 xl] 27)
      obtain ⟨Wb, hWb⟩ : ∃ Wb, wr.alloc (.cells #[.int .i64 xv, .int .i64 xl] 27) = Wb := ⟨_, rfl⟩
      have hob := HO.out.alloc (.cells #[.int .i64 xv, .int .i64 xl] 27)
      have hkb := Blk.new wr 27 #[.int .i64 xv, .int .i64 xl]
      have hrb := HR.out.next hal
      rw [hWb] at hob hkb hrb
      have z0 : Wb.cell? ⟨wr.heap.size, 0, none⟩ = some (.int .i64 xv) := hkb.cell 0
      have z1 : Wb.cell? ⟨wr.heap.size, 1, none⟩ = some (.int .i64 xl) := hkb.cell 1
      have l0 : Wb.cell? ⟨w.heap.size, 0, none⟩ = some (.slice N names.length c1) := hrb.box.cell 0
      have l1 : Wb.cell? ⟨w.heap.size, 1, none⟩ = some (.slice U up.length c2) := hrb.box.cell 1
      have HCALL := Lib.hid (HCALL0.out Wb hrb.below)
      have HRB := Lib.hid hrb
      have HOB := Lib.hid hob
      have HKB := Lib.hid hkb
      clear hal hob hkb hrb HCALL0
      go_wp2_with (fail)
      refine HCALL.out.mono ?_
      rintro e w3 ⟨rfl, hb3⟩
      have hr3 := HRB.out.next hb3
      have ho3 := ownT_below HOB.out hb3
      have hk3 := HKB.out.below hb3 HKB.out.lt
      have HR3 := Lib.hid hr3
      clear z0 z1 l0 l1 x0 x1
      have z0 : w3.cell? ⟨wr.heap.size, 0, none⟩ = some (.int .i64 xv) := hk3.cell 0
      have z1 : w3.cell? ⟨wr.heap.size, 1, none⟩ = some (.int .i64 xl) := hk3.cell 1
      cases s
      · have HO6 : Hid (w3.ownsRow (w.heap.size + 1) 27 2 (.slice An m cn) m (fcells avs (Ev.pub vw (a.take (k + 1))))) := Lib.hid (by rw [HPS.out]; exact ho3)
        have HM6 : Hid ((Ev.pub vw (a.take (k + 1))).length = m) := Lib.hid (by rw [HPS.out]; exact HM.out)
        clear hb3 hr3 ho3 hk3
        go_wp2
        go_roundw
        case rel => exact ⟨k + 1, m, by omega, by omega, by go_num, HM6, HO6, HR3⟩
        case measure => simp [intOf]; omega
      · obtain ⟨v', W5, hrun, hown5, hb5, hk5⟩ := append_runE (P := Try.prog) (w := w3.alloc (.cells #[.int .i64 xv, .int .i64 xl] 27)) (w.heap.size + 1) 29 29 27 i0 (.agg #[.int .i64 0, .int .i64 0]) 2 16 Try.underlying29 hi hz0 hz1 hz2 rfl (by decide) _ m _ (ho3.alloc _) (some ⟨w3.heap.size, 0, none⟩) 1 1 [.int .i64 xv, .int .i64 xl] rfl (two_row w3 _ _ _) (by intro u hu; simp at hu; rcases hu with rfl | rfl <;> rfl) (by unfold maxLen; omega) (by omega) (by have := hr3.box.lt; simp; omega)
        have hbox6 := hk5 _ _ _ (fun he => by have := (ho3.lt _ he.symm).1; omega) (hr3.box.alloc (.cells #[.int .i64 xv, .int .i64 xl] 27))
        have HRUN := Lib.hid hrun
        have HR6 : Hid (RH w (.slice N names.length c1) (.slice U up.length c2) W5) := Lib.hid ⟨hbox6, (hr3.below.alloc hr3.below.size (.cells #[.int .i64 xv, .int .i64 xl] 27)).trans (hb5.mono (Nat.le_succ _))⟩
        have HO6 : Hid (W5.ownsRow (w.heap.size + 1) 27 2 v' (m + 1) (fcells avs (Ev.pub vw (a.take (k + 1))))) := Lib.hid (by rw [HPS.out, if_pos rfl, fcells_snoc, HFC.out]; exact hown5)
        have HM6 : Hid ((Ev.pub vw (a.take (k + 1))).length = m + 1) := Lib.hid (by rw [HPS.out, if_pos rfl, List.length_append, HM.out]; rfl)
        clear hb3 hr3 ho3 hk3 hrun hown5 hb5 hk5 hbox6
        go_wp2_with (at_builtin; refine wpList_app_run rfl _ _ 29 29 rfl _ _ rfl rfl _ _ HRUN.out ?_)
        go_wp2
        go_roundw
        case rel => exact ⟨k + 1, m + 1, by omega, by omega, by go_num, HM6, HO6, HR6⟩
        case measure => simp [intOf]; omega
    · obtain rfl : n = k := by omega
      have hall : a.take n = a := List.take_of_length_le (by rw [HNA.out]; exact Nat.le_refl _)
      have hres := HO.out
      have hlen := HM.out
      rw [hall] at hres hlen
      have HRES := Lib.hid (ownT_row hres).1
      have HLEN := Lib.hid hlen
      clear hall hres hlen
      go_wp2
      go_ret
      exact ⟨An, cn, by rw [HLEN.out]; rfl, HRES.out, HR.out.below⟩
set_option maxHeartbeats 8000000 in
theorem rOuts12_any {v : Value} {names : List ByteArray} {up : List Nat} {B D : Option Addr} {a b : List St.Atom} (o : Int) (ca cb : Nat) (w : World) (h : IsLat w w.heap.size v names up) (ho : isLab up o = true) (ha : Row w w.heap.size B (fcells avs a)) (hb : Row w w.heap.size D (fcells avs b)) (hla : ∀ x ∈ a, isLab up x.l = true) (hlb : ∀ x ∈ b, isLab up x.l = true) (hn : a.length ≤ 1000) (hn2 : b.length ≤ 1000) :
    Calls Try.prog 13 #[v, .int .i64 o, .slice B a.length ca, .slice D b.length cb] w (Tells w (Ev.outs (Ev.viewL up o) a b)) := by
  have h1 := fun W (hW : Below w.heap.size w W) => rSeen12_any o ca W ((h.below hW).more hW.size) ho ((ha.below hW).more hW.size) hla (by omega)
  have h2 := fun W (hW : Below w.heap.size w W) => rSeen12_any o cb W ((h.below hW).more hW.size) ho ((hb.below hW).more hW.size) hlb (by omega)
  have h3 := fun (A1 A2 : Option Addr) d1 d2 W (r1 : Row W W.heap.size A1 (fcells avs (Ev.pub (Ev.viewL up o) a))) (r2 : Row W W.heap.size A2 (fcells avs (Ev.pub (Ev.viewL up o) b))) => rAtomsSame_any d1 d2 W r1 r2 (Nat.le_trans (pub_len _ a) hn) (Nat.le_trans (pub_len _ b) hn2)
  unfold GotAtoms at h1 h2
  have hout : Ev.outs (Ev.viewL up o) a b = decide (Ev.pub (Ev.viewL up o) a = Ev.pub (Ev.viewL up o) b) := rfl
  rw [hout]
  obtain ⟨⟨N, U, c1, c2, rfl, -, -⟩, -, -, -⟩ := h
  generalize Ev.pub (Ev.viewL up o) a = pa at *
  generalize Ev.pub (Ev.viewL up o) b = pb at *
  generalize decide (pa = pb) = ans at *
  have hr0 := (RH.start w (.slice N names.length c1) (.slice U up.length c2))
  obtain ⟨W0, hW0⟩ : ∃ W0, w.alloc (.cells #[.slice N names.length c1, .slice U up.length c2] 25) = W0 := ⟨_, rfl⟩
  rw [hW0] at hr0
  have H1 := Lib.hid h1
  have H2 := Lib.hid h2
  have H3 := Lib.hid h3
  have HR0 := Lib.hid hr0
  have l0 : W0.cell? ⟨w.heap.size, 0, none⟩ = some (.slice N names.length c1) := hr0.box.cell 0
  have l1 : W0.cell? ⟨w.heap.size, 1, none⟩ = some (.slice U up.length c2) := hr0.box.cell 1
  clear ha hb hla hlb hn hn2 h1 h2 h3 hout hr0 ho
  go_enter Try.func13, Try.ntmps13
  go_wp2_with (fail)
  clear hW0
  refine Free.region_seq [3, 7, 8] [0, 4] 8 (fun W' => W'.cell? ⟨w.heap.size, 0, none⟩ = some (.slice N names.length c1) ∧ W'.cell? ⟨w.heap.size, 1, none⟩ = some (.slice U up.length c2)) (by kernel_rfl) (by kernel_rfl) (by kernel_rfl) (by kernel_rfl) (⟨l0, l1⟩) (fun ops hops => ?_)
  clear hops
  iterate 3
    refine Free.Seq.quiet (v := ?_) (a' := ?_) rfl rfl (fun W' hW' => ?_) ?_ ?_
    rotate_left 2
    · first | obtain ⟨s0, s1⟩ := hW' rfl | skip
      go_simp
      try with_reducible rfl
    · simp only [Act.put, List.setIfInBounds_toArray, List.set_cons_zero, List.set_cons_succ]
      try with_reducible rfl
  refine Free.Seq.loud_ rfl (.inl rfl) (fun K hK => ?_)
  go_simp
  refine (H1.out W0.drew HR0.out.below.drew).mono ?_
  rintro e w1 ⟨A1, d1, rfl, hr1, hb1⟩
  have hb1 := (Below.refl _ W0).drew.trans hb1
  have HR1 := Lib.hid (HR0.out.next hb1)
  have HX1 := Lib.hid hr1
  refine hK.out _ _ rfl (fun _ => ⟨HR1.out.box.cell 0, HR1.out.box.cell 1⟩) ?_
  clear hK K hb1 hr1 HR0
  iterate 3
    refine Free.Seq.quiet (v := ?_) (a' := ?_) rfl rfl (fun W' hW' => ?_) ?_ ?_
    rotate_left 2
    · first | obtain ⟨s0, s1⟩ := hW' rfl | skip
      go_simp
      try with_reducible rfl
    · simp only [Act.put, List.setIfInBounds_toArray, List.set_cons_zero, List.set_cons_succ]
      try with_reducible rfl
  refine Free.Seq.loud_ rfl (.inl rfl) (fun K hK => ?_)
  go_simp
  refine (H2.out w1 HR1.out.below).mono ?_
  rintro e w2 ⟨A2, d2, rfl, hr2, hb2⟩
  have HR2 := Lib.hid (HR1.out.next hb2)
  have HC := Lib.hid (H3.out A1 A2 d1 d2 w2 ((HX1.out.below hb2).more hb2.size) hr2)
  refine hK.out _ _ rfl (fun _ => ⟨HR2.out.box.cell 0, HR2.out.box.cell 1⟩) ?_
  clear hK K hb2 hr2 HR1
  refine Free.Seq.loud_ rfl (.inl rfl) (fun K hK => ?_)
  go_simp
  refine HC.out.mono ?_
  rintro e w3 ⟨rfl, hb3⟩
  have HR3 := Lib.hid (HR2.out.next hb3)
  refine hK.out _ _ rfl (fun h => absurd h (by decide)) ?_
  clear hK K hb3
  iterate 1
    refine Free.Seq.quiet (v := ?_) (a' := ?_) rfl rfl (fun W' hW' => ?_) ?_ ?_
    rotate_left 2
    · skip
      go_simp
      try with_reducible rfl
    · simp only [Act.put, List.setIfInBounds_toArray, List.set_cons_zero, List.set_cons_succ]
      try with_reducible rfl
  refine Free.Seq.nil_ ?_
  clear l0 l1
  go_wp2
  go_ret
  exact ⟨rfl, HR3.out.below⟩
end Go.Proofs.Ytlddglhjpiahfaa

/- The reference of layer 12: label, Labels, May (by gen_eqvx.py). -/
namespace Go.Proofs.Ytlddglhjpiahfaa
set_option maxRecDepth 100000
open Go.RowKit Go.Shelf Go.Sort
attribute [local go_sem] Oper.semAt_some
set_option maxHeartbeats 4000000 in
theorem rLabel12_any {v : Value} {names : List ByteArray} {up : List Nat} (a : Int) (w : World) (h : IsLat w w.heap.size v names up) :
    Calls Try.prog 35 #[v, .int .i64 a] w (Tells w (isLab up a)) := by
  obtain ⟨⟨N, U, c1, c2, rfl, -, -⟩, -, ⟨-, hf⟩, -⟩ := h
  have hb0 := (Below.refl w.heap.size w).alloc (Nat.le_refl _) (.cells #[.slice N names.length c1, .slice U up.length c2] 25)
  have HB := Lib.hid hb0
  have hd : isLab up a = (decide (0 ≤ a) && decide (a < up.length)) := by unfold isLab; rw [Bool.eq_iff_iff]; simp
  rw [hd]
  clear hb0 hd
  generalize up.length = n at *
  by_cases h1 : 0 ≤ a
  · by_cases h2 : a < n
    · rw [decide_eq_true h1, decide_eq_true h2]
      go_enter Try.func35, Try.ntmps35
      go_wp2
      go_ret
      exact ⟨rfl, HB.out⟩
    · have h3 : (a < (n : Int)) = False := eq_false h2
      rw [decide_eq_true h1, decide_eq_false h2]
      clear h2
      go_enter Try.func35, Try.ntmps35
      go_wp2
      go_ret
      exact ⟨rfl, HB.out⟩
  · have h3 : (0 ≤ a) = False := eq_false h1
    rw [decide_eq_false h1]
    clear h1
    go_enter Try.func35, Try.ntmps35
    go_wp2
    go_ret
    exact ⟨rfl, HB.out⟩
/-- The head of Labels' rounds: two boxes. -/
structure RLb (w : World) (x0 x1 : Value) (cs : Array Value) (W : World) : Prop where
  rh : RH w x0 x1 W
  st : Blk W (w.heap.size + 1) 32 cs
theorem RLb.next {w : World} {x0 x1 : Value} {cs : Array Value} {W W' : World} (h : RLb w x0 x1 cs W) (hb : Below W.heap.size W W') : RLb w x0 x1 cs W' := ⟨h.rh.next hb, h.st.below hb h.st.lt⟩
theorem RLb.start (w : World) (x0 x1 : Value) (cs : Array Value) : RLb w x0 x1 cs ((w.alloc (.cells #[x0, x1] 25)).alloc (.cells cs 32)) :=
  ⟨(RH.start w x0 x1).next ((Below.refl _ _).alloc (Nat.le_refl _) _), Blk.new' _ _ _ _ (by simp)⟩
theorem labs_no {up : List Nat} {ls : List Int} {x : Int} (h : x ∈ ls) (hx : isLab up x = false) : ls.all (isLab up) = false := by
  rw [Bool.eq_false_iff]
  intro e
  rw [List.all_eq_true.1 e x h] at hx
  cases hx

set_option maxRecDepth 100000 in
set_option maxHeartbeats 32000000 in
theorem rLabels12_any {v sv : Value} {names : List ByteArray} {up : List Nat} {s : St.State} (w : World) (h : IsLat w w.heap.size v names up) (hs : IsSt w w.heap.size sv s) (hsf : Fif s) :
    Calls Try.prog 36 #[v, sv] w (Tells w ((Ev.labsOf s).all (isLab up))) := by
  obtain ⟨res, hres⟩ : ∃ res, (Ev.labsOf s).all (isLab up) = res := ⟨_, rfl⟩
  rw [hres]
  have hc := fun a W (hW : Below w.heap.size w W) => rLabel12_any (names := names) (up := up) (v := v) a W ((h.below hW).more hW.size)
  obtain ⟨⟨N, U, c1, c2, rfl, -, -⟩, -, -, -⟩ := h
  obtain ⟨cv, mv, stv_, ov, rfl, ⟨cA, cc, rfl, hcr, -⟩, ⟨mA, mc, rfl, hmr, -⟩, ⟨sA, sc, rfl, hsr, -⟩, ⟨oA, oc, rfl, hor, -⟩⟩ := hs
  obtain ⟨f1, f2, f3, f4⟩ := hsf
  unfold stv
  obtain ⟨n1, hn1⟩ : ∃ n, s.code.length = n := ⟨_, rfl⟩
  obtain ⟨n2, hn2⟩ : ∃ n, s.mem.length = n := ⟨_, rfl⟩
  obtain ⟨n3, hn3⟩ : ∃ n, s.stack.length = n := ⟨_, rfl⟩
  obtain ⟨n4, hn4⟩ : ∃ n, s.out.length = n := ⟨_, rfl⟩
  rw [hn1, hn2, hn3, hn4]
  rw [hn1] at f1
  rw [hn2] at f2
  rw [hn3] at f3
  rw [hn4] at f4
  obtain ⟨W0, hW0⟩ : ∃ W0, (w.alloc (.cells #[.slice N names.length c1, .slice U up.length c2] 25)).alloc (.cells #[.int .i64 s.pc.v, .int .i64 s.pc.l, .slice cA n1 cc, .slice mA n2 mc, .slice sA n3 sc, .slice oA n4 oc] 32) = W0 := ⟨_, rfl⟩
  have hr0 := RLb.start w (.slice N names.length c1) (.slice U up.length c2) #[.int .i64 s.pc.v, .int .i64 s.pc.l, .slice cA n1 cc, .slice mA n2 mc, .slice sA n3 sc, .slice oA n4 oc]
  rw [hW0] at hr0
  have HR0 := Lib.hid hr0
  have HC := Lib.hid hc
  have HRES := Lib.hid hres
  have HN0 := Lib.hid hn1
  have HN1 := Lib.hid hn2
  have HN2 := Lib.hid hn3
  have HN3 := Lib.hid hn4
  have H1 := Lib.hid hcr
  have H2 := Lib.hid hmr
  have H3 := Lib.hid hsr
  have H4 := Lib.hid hor
  clear hr0 hc hres hn1 hn2 hn3 hn4 hcr hmr hsr hor
  go_enter Try.func36, Try.ntmps36
  have l2 : W0.cell? ⟨w.heap.size + 1, 2, none⟩ = some (.slice cA n1 cc) := HR0.out.st.cell 2
  go_wp2
  go_loopw [16] (fun i wr => ∃ k : Nat, k ≤ n1 ∧ i = .int .i64 k ∧ Hid (∀ x ∈ s.code.take k, isLab up x.l = true) ∧ Hid (RLb w (.slice N names.length c1) (.slice U up.length c2) #[.int .i64 s.pc.v, .int .i64 s.pc.l, .slice cA n1 cc, .slice mA n2 mc, .slice sA n3 sc, .slice oA n4 oc] wr)) (fun i _ => n1 - (intOf i).toNat)
  case atStart => exact ⟨0, Nat.zero_le _, rfl, Lib.hid (by simp), HR0⟩
  case round =>
    clear HR0 l2
    obtain ⟨k, hk, rfl, HA, HR⟩ := hrel
    have HB := Lib.hid HR.out.rh.below
    by_cases hlt : k < n1
    · obtain ⟨bd, x, rfl, hxb, hx, x0, x1, x2⟩ := inrow_at (H1.out.below HB.out) (show k < s.code.length by rw [HN0.out]; exact hlt)
      have hz := HB.out.size
      have hxb2 : (bd.add (k * 3)).block < wr.heap.size := by rw [add_block]; omega
      have HTS := Lib.hid (Ev.take_snoc hx)
      have HX := Lib.hid (List.mem_of_getElem? hx)
      obtain ⟨q, hq⟩ : ∃ q, isLab up x.l = q := ⟨_, rfl⟩
      have hcall := fun W hW => HC.out x.l W hW
      rw [hq] at hcall
      have HQ := Lib.hid hq
      have HCALL0 := Lib.hid hcall
      have hwlt : w.heap.size < wr.heap.size := HR.out.rh.box.lt
      clear hx hq hcall
      obtain ⟨xl, hxl⟩ : ∃ l, x.l = l := ⟨_, rfl⟩
      rw [hxl] at HCALL0 x2
      obtain ⟨xa, hxxa⟩ : ∃ l, x.op = l := ⟨_, rfl⟩
      rw [hxxa] at x0
      clear hxxa
      obtain ⟨xb, hxxb⟩ : ∃ l, x.n = l := ⟨_, rfl⟩
      rw [hxxb] at x1
      clear hxxb
      clear hxl
      have hal := (Below.refl wr.heap.size wr).alloc (Nat.le_refl _) (.cells #[.int .i64 xa, .int .i64 xb, .int .i64 xl] 67)
      obtain ⟨Wb, hWb⟩ : ∃ Wb, wr.alloc (.cells #[.int .i64 xa, .int .i64 xb, .int .i64 xl] 67) = Wb := ⟨_, rfl⟩
      have hkb := Blk.new wr 67 #[.int .i64 xa, .int .i64 xb, .int .i64 xl]
      have hrb := HR.out.next hal
      rw [hWb] at hkb hrb
      have z2 : Wb.cell? ⟨wr.heap.size, 2, none⟩ = some (.int .i64 xl) := hkb.cell 2
      have l0 : Wb.cell? ⟨w.heap.size, 0, none⟩ = some (.slice N names.length c1) := hrb.rh.box.cell 0
      have l1 : Wb.cell? ⟨w.heap.size, 1, none⟩ = some (.slice U up.length c2) := hrb.rh.box.cell 1
      have HCALL := Lib.hid (HCALL0.out Wb hrb.rh.below)
      have HRB := Lib.hid hrb
      clear hal hkb hrb HCALL0
      go_wp2_with (fail)
      refine HCALL.out.mono ?_
      rintro e w3 ⟨rfl, hb3⟩
      have HR3 := Lib.hid (HRB.out.next hb3)
      clear hb3 z2 l0 l1 x0 x1 x2
      cases q
      · have hff : res = false := by
          rw [← HRES.out]
          refine labs_no (x := x.l) ?_ HQ.out
          unfold Ev.labsOf
          simp only [List.mem_append, List.mem_map]
          exact .inr (.inl ⟨x, HX.out, rfl⟩)
        have HFF := Lib.hid hff
        clear hff
        go_wp2
        go_ret
        exact ⟨by rw [HFF.out]; rfl, HR3.out.rh.below⟩
      · have HA2 : Hid (∀ x ∈ s.code.take (k + 1), isLab up x.l = true) := Lib.hid fun y hy => by
          rw [HTS.out, List.mem_append, List.mem_singleton] at hy
          rcases hy with hy | rfl
          · exact HA.out y hy
          · exact HQ.out
        go_wp2
        go_roundw
        case rel => exact ⟨k + 1, by omega, by go_num, HA2, HR3⟩
        case measure => simp [intOf]; omega
    · have hkn : n1 = k := by omega
      have hall : ∀ x ∈ s.code, isLab up x.l = true := by
        have h9 := HA.out
        rw [List.take_of_length_le (by rw [HN0.out]; omega)] at h9
        exact h9
      have HALL0 := Lib.hid hall
      have hge : ((k : Int) < (n1 : Int)) = False := eq_false (by omega)
      clear hall HA hlt hk
      obtain ⟨W1, hW1⟩ : ∃ W, wr = W := ⟨_, rfl⟩
      rw [hW1] at HR HB ⊢
      clear hW1
      have HR1 := Lib.hid HR.out
      clear HR HB hkn
      have l3 : W1.cell? ⟨w.heap.size + 1, 3, none⟩ = some (.slice mA n2 mc) := HR1.out.st.cell 3
      go_wp2
      go_loopw [29] (fun i wr => ∃ k : Nat, k ≤ n2 ∧ i = .int .i64 k ∧ Hid (∀ x ∈ s.mem.take k, isLab up x.l = true) ∧ Hid (RLb w (.slice N names.length c1) (.slice U up.length c2) #[.int .i64 s.pc.v, .int .i64 s.pc.l, .slice cA n1 cc, .slice mA n2 mc, .slice sA n3 sc, .slice oA n4 oc] wr)) (fun i _ => n2 - (intOf i).toNat)
      case atStart => exact ⟨0, Nat.zero_le _, rfl, Lib.hid (by simp), HR1⟩
      case round =>
        clear HR1 l3
        obtain ⟨k, hk, rfl, HA, HR⟩ := hrel
        have HB := Lib.hid HR.out.rh.below
        by_cases hlt : k < n2
        · obtain ⟨bd, x, rfl, hxb, hx, x0, x1⟩ := arow_at (H2.out.below HB.out) (show k < s.mem.length by rw [HN1.out]; exact hlt)
          have hz := HB.out.size
          have hxb2 : (bd.add (k * 2)).block < wr.heap.size := by rw [add_block]; omega
          have HTS := Lib.hid (Ev.take_snoc hx)
          have HX := Lib.hid (List.mem_of_getElem? hx)
          obtain ⟨q, hq⟩ : ∃ q, isLab up x.l = q := ⟨_, rfl⟩
          have hcall := fun W hW => HC.out x.l W hW
          rw [hq] at hcall
          have HQ := Lib.hid hq
          have HCALL0 := Lib.hid hcall
          have hwlt : w.heap.size < wr.heap.size := HR.out.rh.box.lt
          clear hx hq hcall
          obtain ⟨xl, hxl⟩ : ∃ l, x.l = l := ⟨_, rfl⟩
          rw [hxl] at HCALL0 x1
          obtain ⟨xa, hxxa⟩ : ∃ l, x.v = l := ⟨_, rfl⟩
          rw [hxxa] at x0
          clear hxxa
          clear hxl
          have hal := (Below.refl wr.heap.size wr).alloc (Nat.le_refl _) (.cells #[.int .i64 xa, .int .i64 xl] 27)
          obtain ⟨Wb, hWb⟩ : ∃ Wb, wr.alloc (.cells #[.int .i64 xa, .int .i64 xl] 27) = Wb := ⟨_, rfl⟩
          have hkb := Blk.new wr 27 #[.int .i64 xa, .int .i64 xl]
          have hrb := HR.out.next hal
          rw [hWb] at hkb hrb
          have z1 : Wb.cell? ⟨wr.heap.size, 1, none⟩ = some (.int .i64 xl) := hkb.cell 1
          have l0 : Wb.cell? ⟨w.heap.size, 0, none⟩ = some (.slice N names.length c1) := hrb.rh.box.cell 0
          have l1 : Wb.cell? ⟨w.heap.size, 1, none⟩ = some (.slice U up.length c2) := hrb.rh.box.cell 1
          have HCALL := Lib.hid (HCALL0.out Wb hrb.rh.below)
          have HRB := Lib.hid hrb
          clear hal hkb hrb HCALL0
          go_wp2_with (fail)
          refine HCALL.out.mono ?_
          rintro e w3 ⟨rfl, hb3⟩
          have HR3 := Lib.hid (HRB.out.next hb3)
          clear hb3 z1 l0 l1 x0 x1
          cases q
          · have hff : res = false := by
              rw [← HRES.out]
              refine labs_no (x := x.l) ?_ HQ.out
              unfold Ev.labsOf
              simp only [List.mem_append, List.mem_map]
              exact .inr (.inr (.inl ⟨x, HX.out, rfl⟩))
            have HFF := Lib.hid hff
            clear hff
            go_wp2
            go_ret
            exact ⟨by rw [HFF.out]; rfl, HR3.out.rh.below⟩
          · have HA2 : Hid (∀ x ∈ s.mem.take (k + 1), isLab up x.l = true) := Lib.hid fun y hy => by
              rw [HTS.out, List.mem_append, List.mem_singleton] at hy
              rcases hy with hy | rfl
              · exact HA.out y hy
              · exact HQ.out
            go_wp2
            go_roundw
            case rel => exact ⟨k + 1, by omega, by go_num, HA2, HR3⟩
            case measure => simp [intOf]; omega
        · have hkn : n2 = k := by omega
          have hall : ∀ x ∈ s.mem, isLab up x.l = true := by
            have h9 := HA.out
            rw [List.take_of_length_le (by rw [HN1.out]; omega)] at h9
            exact h9
          have HALL1 := Lib.hid hall
          have hge : ((k : Int) < (n2 : Int)) = False := eq_false (by omega)
          clear hall HA hlt hk
          obtain ⟨W2, hW2⟩ : ∃ W, wr = W := ⟨_, rfl⟩
          rw [hW2] at HR HB ⊢
          clear hW2
          have HR2 := Lib.hid HR.out
          clear HR HB hkn
          have l4 : W2.cell? ⟨w.heap.size + 1, 4, none⟩ = some (.slice sA n3 sc) := HR2.out.st.cell 4
          go_wp2
          go_loopw [42] (fun i wr => ∃ k : Nat, k ≤ n3 ∧ i = .int .i64 k ∧ Hid (∀ x ∈ s.stack.take k, isLab up x.l = true) ∧ Hid (RLb w (.slice N names.length c1) (.slice U up.length c2) #[.int .i64 s.pc.v, .int .i64 s.pc.l, .slice cA n1 cc, .slice mA n2 mc, .slice sA n3 sc, .slice oA n4 oc] wr)) (fun i _ => n3 - (intOf i).toNat)
          case atStart => exact ⟨0, Nat.zero_le _, rfl, Lib.hid (by simp), HR2⟩
          case round =>
            clear HR2 l4
            obtain ⟨k, hk, rfl, HA, HR⟩ := hrel
            have HB := Lib.hid HR.out.rh.below
            by_cases hlt : k < n3
            · obtain ⟨bd, x, rfl, hxb, hx, x0, x1, x2⟩ := srow_at (H3.out.below HB.out) (show k < s.stack.length by rw [HN2.out]; exact hlt)
              have hz := HB.out.size
              have hxb2 : (bd.add (k * 3)).block < wr.heap.size := by rw [add_block]; omega
              have HTS := Lib.hid (Ev.take_snoc hx)
              have HX := Lib.hid (List.mem_of_getElem? hx)
              obtain ⟨q, hq⟩ : ∃ q, isLab up x.l = q := ⟨_, rfl⟩
              have hcall := fun W hW => HC.out x.l W hW
              rw [hq] at hcall
              have HQ := Lib.hid hq
              have HCALL0 := Lib.hid hcall
              have hwlt : w.heap.size < wr.heap.size := HR.out.rh.box.lt
              clear hx hq hcall
              obtain ⟨xl, hxl⟩ : ∃ l, x.l = l := ⟨_, rfl⟩
              rw [hxl] at HCALL0 x2
              obtain ⟨xa, hxxa⟩ : ∃ l, x.ret = l := ⟨_, rfl⟩
              rw [hxxa] at x0
              clear hxxa
              obtain ⟨xb, hxxb⟩ : ∃ l, x.v = l := ⟨_, rfl⟩
              rw [hxxb] at x1
              clear hxxb
              clear hxl
              have hal := (Below.refl wr.heap.size wr).alloc (Nat.le_refl _) (.cells #[.bool xa, .int .i64 xb, .int .i64 xl] 53)
              obtain ⟨Wb, hWb⟩ : ∃ Wb, wr.alloc (.cells #[.bool xa, .int .i64 xb, .int .i64 xl] 53) = Wb := ⟨_, rfl⟩
              have hkb := Blk.new wr 53 #[.bool xa, .int .i64 xb, .int .i64 xl]
              have hrb := HR.out.next hal
              rw [hWb] at hkb hrb
              have z2 : Wb.cell? ⟨wr.heap.size, 2, none⟩ = some (.int .i64 xl) := hkb.cell 2
              have l0 : Wb.cell? ⟨w.heap.size, 0, none⟩ = some (.slice N names.length c1) := hrb.rh.box.cell 0
              have l1 : Wb.cell? ⟨w.heap.size, 1, none⟩ = some (.slice U up.length c2) := hrb.rh.box.cell 1
              have HCALL := Lib.hid (HCALL0.out Wb hrb.rh.below)
              have HRB := Lib.hid hrb
              clear hal hkb hrb HCALL0
              go_wp2_with (fail)
              refine HCALL.out.mono ?_
              rintro e w3 ⟨rfl, hb3⟩
              have HR3 := Lib.hid (HRB.out.next hb3)
              clear hb3 z2 l0 l1 x0 x1 x2
              cases q
              · have hff : res = false := by
                  rw [← HRES.out]
                  refine labs_no (x := x.l) ?_ HQ.out
                  unfold Ev.labsOf
                  simp only [List.mem_append, List.mem_map]
                  exact .inr (.inr (.inr (.inl ⟨x, HX.out, rfl⟩)))
                have HFF := Lib.hid hff
                clear hff
                go_wp2
                go_ret
                exact ⟨by rw [HFF.out]; rfl, HR3.out.rh.below⟩
              · have HA2 : Hid (∀ x ∈ s.stack.take (k + 1), isLab up x.l = true) := Lib.hid fun y hy => by
                  rw [HTS.out, List.mem_append, List.mem_singleton] at hy
                  rcases hy with hy | rfl
                  · exact HA.out y hy
                  · exact HQ.out
                go_wp2
                go_roundw
                case rel => exact ⟨k + 1, by omega, by go_num, HA2, HR3⟩
                case measure => simp [intOf]; omega
            · have hkn : n3 = k := by omega
              have hall : ∀ x ∈ s.stack, isLab up x.l = true := by
                have h9 := HA.out
                rw [List.take_of_length_le (by rw [HN2.out]; omega)] at h9
                exact h9
              have HALL2 := Lib.hid hall
              have hge : ((k : Int) < (n3 : Int)) = False := eq_false (by omega)
              clear hall HA hlt hk
              obtain ⟨W3, hW3⟩ : ∃ W, wr = W := ⟨_, rfl⟩
              rw [hW3] at HR HB ⊢
              clear hW3
              have HR3 := Lib.hid HR.out
              clear HR HB hkn
              have l5 : W3.cell? ⟨w.heap.size + 1, 5, none⟩ = some (.slice oA n4 oc) := HR3.out.st.cell 5
              go_wp2
              go_loopw [55] (fun i wr => ∃ k : Nat, k ≤ n4 ∧ i = .int .i64 k ∧ Hid (∀ x ∈ s.out.take k, isLab up x.l = true) ∧ Hid (RLb w (.slice N names.length c1) (.slice U up.length c2) #[.int .i64 s.pc.v, .int .i64 s.pc.l, .slice cA n1 cc, .slice mA n2 mc, .slice sA n3 sc, .slice oA n4 oc] wr)) (fun i _ => n4 - (intOf i).toNat)
              case atStart => exact ⟨0, Nat.zero_le _, rfl, Lib.hid (by simp), HR3⟩
              case round =>
                clear HR3 l5
                obtain ⟨k, hk, rfl, HA, HR⟩ := hrel
                have HB := Lib.hid HR.out.rh.below
                by_cases hlt : k < n4
                · obtain ⟨bd, x, rfl, hxb, hx, x0, x1⟩ := arow_at (H4.out.below HB.out) (show k < s.out.length by rw [HN3.out]; exact hlt)
                  have hz := HB.out.size
                  have hxb2 : (bd.add (k * 2)).block < wr.heap.size := by rw [add_block]; omega
                  have HTS := Lib.hid (Ev.take_snoc hx)
                  have HX := Lib.hid (List.mem_of_getElem? hx)
                  obtain ⟨q, hq⟩ : ∃ q, isLab up x.l = q := ⟨_, rfl⟩
                  have hcall := fun W hW => HC.out x.l W hW
                  rw [hq] at hcall
                  have HQ := Lib.hid hq
                  have HCALL0 := Lib.hid hcall
                  have hwlt : w.heap.size < wr.heap.size := HR.out.rh.box.lt
                  clear hx hq hcall
                  obtain ⟨xl, hxl⟩ : ∃ l, x.l = l := ⟨_, rfl⟩
                  rw [hxl] at HCALL0 x1
                  obtain ⟨xa, hxxa⟩ : ∃ l, x.v = l := ⟨_, rfl⟩
                  rw [hxxa] at x0
                  clear hxxa
                  clear hxl
                  have hal := (Below.refl wr.heap.size wr).alloc (Nat.le_refl _) (.cells #[.int .i64 xa, .int .i64 xl] 27)
                  obtain ⟨Wb, hWb⟩ : ∃ Wb, wr.alloc (.cells #[.int .i64 xa, .int .i64 xl] 27) = Wb := ⟨_, rfl⟩
                  have hkb := Blk.new wr 27 #[.int .i64 xa, .int .i64 xl]
                  have hrb := HR.out.next hal
                  rw [hWb] at hkb hrb
                  have z1 : Wb.cell? ⟨wr.heap.size, 1, none⟩ = some (.int .i64 xl) := hkb.cell 1
                  have l0 : Wb.cell? ⟨w.heap.size, 0, none⟩ = some (.slice N names.length c1) := hrb.rh.box.cell 0
                  have l1 : Wb.cell? ⟨w.heap.size, 1, none⟩ = some (.slice U up.length c2) := hrb.rh.box.cell 1
                  have HCALL := Lib.hid (HCALL0.out Wb hrb.rh.below)
                  have HRB := Lib.hid hrb
                  clear hal hkb hrb HCALL0
                  go_wp2_with (fail)
                  refine HCALL.out.mono ?_
                  rintro e w3 ⟨rfl, hb3⟩
                  have HR3 := Lib.hid (HRB.out.next hb3)
                  clear hb3 z1 l0 l1 x0 x1
                  cases q
                  · have hff : res = false := by
                      rw [← HRES.out]
                      refine labs_no (x := x.l) ?_ HQ.out
                      unfold Ev.labsOf
                      simp only [List.mem_append, List.mem_map]
                      exact .inr (.inr (.inr (.inr ⟨x, HX.out, rfl⟩)))
                    have HFF := Lib.hid hff
                    clear hff
                    go_wp2
                    go_ret
                    exact ⟨by rw [HFF.out]; rfl, HR3.out.rh.below⟩
                  · have HA2 : Hid (∀ x ∈ s.out.take (k + 1), isLab up x.l = true) := Lib.hid fun y hy => by
                      rw [HTS.out, List.mem_append, List.mem_singleton] at hy
                      rcases hy with hy | rfl
                      · exact HA.out y hy
                      · exact HQ.out
                    go_wp2
                    go_roundw
                    case rel => exact ⟨k + 1, by omega, by go_num, HA2, HR3⟩
                    case measure => simp [intOf]; omega
                · have hkn : n4 = k := by omega
                  have hall : ∀ x ∈ s.out, isLab up x.l = true := by
                    have h9 := HA.out
                    rw [List.take_of_length_le (by rw [HN3.out]; omega)] at h9
                    exact h9
                  have HALL3 := Lib.hid hall
                  have hge : ((k : Int) < (n4 : Int)) = False := eq_false (by omega)
                  clear hall HA hlt hk
                  obtain ⟨W4, hW4⟩ : ∃ W, wr = W := ⟨_, rfl⟩
                  rw [hW4] at HR HB ⊢
                  clear hW4
                  have HR4 := Lib.hid HR.out
                  clear HR HB hkn
                  have l0 : W4.cell? ⟨w.heap.size, 0, none⟩ = some (.slice N names.length c1) := HR4.out.rh.box.cell 0
                  have l1 : W4.cell? ⟨w.heap.size, 1, none⟩ = some (.slice U up.length c2) := HR4.out.rh.box.cell 1
                  have p1 : W4.cell? ⟨w.heap.size + 1, 1, none⟩ = some (.int .i64 s.pc.l) := HR4.out.st.cell 1
                  have hcall := HC.out s.pc.l W4 HR4.out.rh.below
                  have hre : res = isLab up s.pc.l := by
                    rw [← HRES.out, Bool.eq_iff_iff, List.all_eq_true]
                    unfold Ev.labsOf
                    simp only [List.mem_append, List.mem_map, List.mem_singleton]
                    refine ⟨fun h => h _ (.inl rfl), fun h l hl => ?_⟩
                    rcases hl with rfl | ⟨x, hx, rfl⟩ | ⟨x, hx, rfl⟩ | ⟨x, hx, rfl⟩ | ⟨x, hx, rfl⟩
                    · exact h
                    · exact HALL0.out x hx
                    · exact HALL1.out x hx
                    · exact HALL2.out x hx
                    · exact HALL3.out x hx
                  rw [← hre] at hcall
                  have HCALL := Lib.hid hcall
                  clear hre hcall HALL0 HALL1 HALL2 HALL3
                  generalize s.pc.l = spl at *
                  go_wp2_with (fail)
                  refine HCALL.out.mono ?_
                  rintro e w9 ⟨rfl, hb9⟩
                  have HR9 := Lib.hid (HR4.out.next hb9)
                  clear hb9 l0 l1 p1
                  go_wp2
                  go_ret
                  exact ⟨rfl, HR9.out.rh.below⟩

set_option maxHeartbeats 8000000 in
theorem rMay12_any {v sv tv : Value} {names : List ByteArray} {up : List Nat} {s t : St.State} (o : Int) (w : World) (h : IsLat w w.heap.size v names up) (hs : IsSt w w.heap.size sv s) (ht : IsSt w w.heap.size tv t) (hsf : Fif s) (htf : Fif t) :
    Calls Try.prog 12 #[v, .int .i64 o, sv, tv] w (TellsN w (Ev.lookN names up o (Ev.labsOf s ++ Ev.labsOf t) : Nat)) := by
  have hck := fun W (hW : Below w.heap.size w W) => rCheck_any W ((h.below hW).more hW.size)
  have hlb := fun W (hW : Below w.heap.size w W) => rLabel12_any o W ((h.below hW).more hW.size)
  have hl1 := fun W (hW : Below w.heap.size w W) => rLabels12_any W ((h.below hW).more hW.size) ((hs.below hW).more hW.size) hsf
  have hl2 := fun W (hW : Below w.heap.size w W) => rLabels12_any W ((h.below hW).more hW.size) ((ht.below hW).more hW.size) htf
  have hres : Ev.lookN names up o (Ev.labsOf s ++ Ev.labsOf t) = if rCheckN names up = 0 then (if isLab up o = true then (if (Ev.labsOf s).all (isLab up) = true then (if (Ev.labsOf t).all (isLab up) = true then 0 else 9) else 9) else 9) else rCheckN names up := by
    unfold Ev.lookN
    rw [Ev.labN_same, List.all_append]
    by_cases h1 : rCheckN names up = 0
    · rw [if_pos h1, if_pos h1]
      cases isLab up o <;> cases (Ev.labsOf s).all (isLab up) <;> cases (Ev.labsOf t).all (isLab up) <;> rfl
    · rw [if_neg h1, if_neg h1, if_neg h1]
  rw [hres]
  obtain ⟨⟨N, U, c1, c2, rfl, -, -⟩, -, -, -⟩ := h
  obtain ⟨cv, mv, stv_, ov, rfl, ⟨cA, cc, rfl, -, -⟩, ⟨mA, mc, rfl, -, -⟩, ⟨sA, sc, rfl, -, -⟩, ⟨oA, oc, rfl, -, -⟩⟩ := hs
  obtain ⟨cv', mv', stv', ov', rfl, ⟨cB, cd, rfl, -, -⟩, ⟨mB, md, rfl, -, -⟩, ⟨sB, sd, rfl, -, -⟩, ⟨oB, od, rfl, -, -⟩⟩ := ht
  unfold stv at hl1 hl2 ⊢
  have HCK := Lib.hid hck
  have HLB := Lib.hid hlb
  have HL1 := Lib.hid hl1
  have HL2 := Lib.hid hl2
  clear hck hlb hl1 hl2 hres hsf htf
  generalize rCheckN names up = r at *
  generalize isLab up o = b1 at *
  generalize (Ev.labsOf s).all (isLab up) = b2 at *
  generalize (Ev.labsOf t).all (isLab up) = b3 at *
  generalize s.code.length = n1 at *
  generalize s.mem.length = n2 at *
  generalize s.stack.length = n3 at *
  generalize s.out.length = n4 at *
  generalize t.code.length = m1 at *
  generalize t.mem.length = m2 at *
  generalize t.stack.length = m3 at *
  generalize t.out.length = m4 at *
  generalize s.pc.v = spv at *
  generalize s.pc.l = spl at *
  generalize t.pc.v = tpv at *
  generalize t.pc.l = tpl at *
  obtain ⟨ans, hans⟩ : ∃ ans : Nat, (if r = 0 then (if b1 = true then (if b2 = true then (if b3 = true then 0 else 9) else 9) else 9) else r) = ans := ⟨_, rfl⟩
  rw [hans]
  have HANS := Lib.hid hans
  clear hans
  obtain ⟨W0, hW0⟩ : ∃ W0, ((w.alloc (.cells #[.slice N names.length c1, .slice U up.length c2] 25)).alloc (.cells #[.int .i64 spv, .int .i64 spl, .slice cA n1 cc, .slice mA n2 mc, .slice sA n3 sc, .slice oA n4 oc] 32)).alloc (.cells #[.int .i64 tpv, .int .i64 tpl, .slice cB m1 cd, .slice mB m2 md, .slice sB m3 sd, .slice oB m4 od] 32) = W0 := ⟨_, rfl⟩
  have hr0 : RLb w (.slice N names.length c1) (.slice U up.length c2) #[.int .i64 spv, .int .i64 spl, .slice cA n1 cc, .slice mA n2 mc, .slice sA n3 sc, .slice oA n4 oc] W0 := by rw [← hW0]; exact (RLb.start w _ _ _).next ((Below.refl _ _).alloc (Nat.le_refl _) _)
  have hk0 : Blk W0 (w.heap.size + 1 + 1) 32 #[.int .i64 tpv, .int .i64 tpl, .slice cB m1 cd, .slice mB m2 md, .slice sB m3 sd, .slice oB m4 od] := by rw [← hW0]; exact Blk.new' _ _ _ _ (by simp)
  have HR0 := Lib.hid hr0
  have HK0 := Lib.hid hk0
  have l0 : W0.cell? ⟨w.heap.size, 0, none⟩ = some (.slice N names.length c1) := hr0.rh.box.cell 0
  have l1 : W0.cell? ⟨w.heap.size, 1, none⟩ = some (.slice U up.length c2) := hr0.rh.box.cell 1
  clear hr0 hk0
  by_cases hz : r = 0
  · subst hz
    go_enter Try.func12, Try.ntmps12
    go_wp2_with (fail)
    refine (HCK.out W0 HR0.out.rh.below).mono ?_
    rintro e w1 ⟨rfl, hb1⟩
    have hr1 := HR0.out.next hb1
    have hk1 := HK0.out.below hb1 HK0.out.lt
    clear hW0 l0 l1 HR0 HK0 HCK hb1
    have l0 : w1.cell? ⟨w.heap.size, 0, none⟩ = some (.slice N names.length c1) := hr1.rh.box.cell 0
    have l1 : w1.cell? ⟨w.heap.size, 1, none⟩ = some (.slice U up.length c2) := hr1.rh.box.cell 1
    have x0 : w1.cell? ⟨w.heap.size + 1, 0, none⟩ = some (.int .i64 spv) := hr1.st.cell 0
    have x1 : w1.cell? ⟨w.heap.size + 1, 1, none⟩ = some (.int .i64 spl) := hr1.st.cell 1
    have x2 : w1.cell? ⟨w.heap.size + 1, 2, none⟩ = some (.slice cA n1 cc) := hr1.st.cell 2
    have x3 : w1.cell? ⟨w.heap.size + 1, 3, none⟩ = some (.slice mA n2 mc) := hr1.st.cell 3
    have x4 : w1.cell? ⟨w.heap.size + 1, 4, none⟩ = some (.slice sA n3 sc) := hr1.st.cell 4
    have x5 : w1.cell? ⟨w.heap.size + 1, 5, none⟩ = some (.slice oA n4 oc) := hr1.st.cell 5
    have y0 : w1.cell? ⟨w.heap.size + 1 + 1, 0, none⟩ = some (.int .i64 tpv) := hk1.cell 0
    have y1 : w1.cell? ⟨w.heap.size + 1 + 1, 1, none⟩ = some (.int .i64 tpl) := hk1.cell 1
    have y2 : w1.cell? ⟨w.heap.size + 1 + 1, 2, none⟩ = some (.slice cB m1 cd) := hk1.cell 2
    have y3 : w1.cell? ⟨w.heap.size + 1 + 1, 3, none⟩ = some (.slice mB m2 md) := hk1.cell 3
    have y4 : w1.cell? ⟨w.heap.size + 1 + 1, 4, none⟩ = some (.slice sB m3 sd) := hk1.cell 4
    have y5 : w1.cell? ⟨w.heap.size + 1 + 1, 5, none⟩ = some (.slice oB m4 od) := hk1.cell 5
    have HR1 := Lib.hid hr1
    have HK1 := Lib.hid hk1
    clear hr1 hk1
    go_wp2_with (fail)
    refine (HLB.out w1 HR1.out.rh.below).mono ?_
    rintro e w2 ⟨rfl, hb2⟩
    have hr2 := HR1.out.next hb2
    have hk2 := HK1.out.below hb2 HK1.out.lt
    clear l0 l1 x0 x1 x2 x3 x4 x5 y0 y1 y2 y3 y4 y5 HR1 HK1 HLB hb2
    cases b1
    · have HB := Lib.hid hr2.rh.below
      clear hr2 hk2
      go_wp2
      go_ret
      exact ⟨by have h := HANS.out; simp at h; rw [← h]; rfl, HB.out⟩
    · skip
      have l0 : w2.cell? ⟨w.heap.size, 0, none⟩ = some (.slice N names.length c1) := hr2.rh.box.cell 0
      have l1 : w2.cell? ⟨w.heap.size, 1, none⟩ = some (.slice U up.length c2) := hr2.rh.box.cell 1
      have x0 : w2.cell? ⟨w.heap.size + 1, 0, none⟩ = some (.int .i64 spv) := hr2.st.cell 0
      have x1 : w2.cell? ⟨w.heap.size + 1, 1, none⟩ = some (.int .i64 spl) := hr2.st.cell 1
      have x2 : w2.cell? ⟨w.heap.size + 1, 2, none⟩ = some (.slice cA n1 cc) := hr2.st.cell 2
      have x3 : w2.cell? ⟨w.heap.size + 1, 3, none⟩ = some (.slice mA n2 mc) := hr2.st.cell 3
      have x4 : w2.cell? ⟨w.heap.size + 1, 4, none⟩ = some (.slice sA n3 sc) := hr2.st.cell 4
      have x5 : w2.cell? ⟨w.heap.size + 1, 5, none⟩ = some (.slice oA n4 oc) := hr2.st.cell 5
      have y0 : w2.cell? ⟨w.heap.size + 1 + 1, 0, none⟩ = some (.int .i64 tpv) := hk2.cell 0
      have y1 : w2.cell? ⟨w.heap.size + 1 + 1, 1, none⟩ = some (.int .i64 tpl) := hk2.cell 1
      have y2 : w2.cell? ⟨w.heap.size + 1 + 1, 2, none⟩ = some (.slice cB m1 cd) := hk2.cell 2
      have y3 : w2.cell? ⟨w.heap.size + 1 + 1, 3, none⟩ = some (.slice mB m2 md) := hk2.cell 3
      have y4 : w2.cell? ⟨w.heap.size + 1 + 1, 4, none⟩ = some (.slice sB m3 sd) := hk2.cell 4
      have y5 : w2.cell? ⟨w.heap.size + 1 + 1, 5, none⟩ = some (.slice oB m4 od) := hk2.cell 5
      have HR2 := Lib.hid hr2
      have HK2 := Lib.hid hk2
      clear hr2 hk2
      go_wp2_with (fail)
      refine (HL1.out w2 HR2.out.rh.below).mono ?_
      rintro e w3 ⟨rfl, hb3⟩
      have hr3 := HR2.out.next hb3
      have hk3 := HK2.out.below hb3 HK2.out.lt
      clear l0 l1 x0 x1 x2 x3 x4 x5 y0 y1 y2 y3 y4 y5 HR2 HK2 HL1 hb3
      cases b2
      · have HB := Lib.hid hr3.rh.below
        clear hr3 hk3
        go_wp2
        go_ret
        exact ⟨by have h := HANS.out; simp at h; rw [← h]; rfl, HB.out⟩
      · skip
        have l0 : w3.cell? ⟨w.heap.size, 0, none⟩ = some (.slice N names.length c1) := hr3.rh.box.cell 0
        have l1 : w3.cell? ⟨w.heap.size, 1, none⟩ = some (.slice U up.length c2) := hr3.rh.box.cell 1
        have x0 : w3.cell? ⟨w.heap.size + 1, 0, none⟩ = some (.int .i64 spv) := hr3.st.cell 0
        have x1 : w3.cell? ⟨w.heap.size + 1, 1, none⟩ = some (.int .i64 spl) := hr3.st.cell 1
        have x2 : w3.cell? ⟨w.heap.size + 1, 2, none⟩ = some (.slice cA n1 cc) := hr3.st.cell 2
        have x3 : w3.cell? ⟨w.heap.size + 1, 3, none⟩ = some (.slice mA n2 mc) := hr3.st.cell 3
        have x4 : w3.cell? ⟨w.heap.size + 1, 4, none⟩ = some (.slice sA n3 sc) := hr3.st.cell 4
        have x5 : w3.cell? ⟨w.heap.size + 1, 5, none⟩ = some (.slice oA n4 oc) := hr3.st.cell 5
        have y0 : w3.cell? ⟨w.heap.size + 1 + 1, 0, none⟩ = some (.int .i64 tpv) := hk3.cell 0
        have y1 : w3.cell? ⟨w.heap.size + 1 + 1, 1, none⟩ = some (.int .i64 tpl) := hk3.cell 1
        have y2 : w3.cell? ⟨w.heap.size + 1 + 1, 2, none⟩ = some (.slice cB m1 cd) := hk3.cell 2
        have y3 : w3.cell? ⟨w.heap.size + 1 + 1, 3, none⟩ = some (.slice mB m2 md) := hk3.cell 3
        have y4 : w3.cell? ⟨w.heap.size + 1 + 1, 4, none⟩ = some (.slice sB m3 sd) := hk3.cell 4
        have y5 : w3.cell? ⟨w.heap.size + 1 + 1, 5, none⟩ = some (.slice oB m4 od) := hk3.cell 5
        have HR3 := Lib.hid hr3
        have HK3 := Lib.hid hk3
        clear hr3 hk3
        go_wp2_with (fail)
        refine (HL2.out w3 HR3.out.rh.below).mono ?_
        rintro e w4 ⟨rfl, hb4⟩
        have HB := Lib.hid (HR3.out.next hb4).rh.below
        clear l0 l1 x0 x1 x2 x3 x4 x5 y0 y1 y2 y3 y4 y5 HR3 HK3 HL2 hb4
        cases b3
        all_goals
          go_wp2
          go_ret
          exact ⟨by have h := HANS.out; simp at h; rw [← h]; rfl, HB.out⟩
  · have hz1 : ((r : Int) == 0) = false := by rw [beq_eq_false_iff_ne]; omega
    have hz2 : ((r : Int) != 0) = true := by rw [bne_iff_ne]; omega
    have HZ := Lib.hid hz
    clear hz
    go_enter Try.func12, Try.ntmps12
    go_wp2_with (fail)
    refine (HCK.out W0 HR0.out.rh.below).mono ?_
    rintro e w1 ⟨rfl, hb1⟩
    have HB := Lib.hid (HR0.out.next hb1).rh.below
    clear hb1 l0 l1 hW0
    go_wp2
    go_ret
    exact ⟨by have h := HANS.out; rw [if_neg HZ.out] at h; rw [← h]; rfl, HB.out⟩
end Go.Proofs.Ytlddglhjpiahfaa

/- The reference of layer 12: States (by gen_eqvy.py). -/
namespace Go.Proofs.Ytlddglhjpiahfaa
set_option maxRecDepth 100000
open Go.RowKit Go.Shelf Go.Sort
attribute [local go_sem] Oper.semAt_some
/-- All labels of a state are the lattice's. -/
def LabsOk (up : List Nat) (s : St.State) : Prop := ∀ l ∈ Ev.labsOf s, isLab up l = true
section
variable {up : List Nat} {s : St.State} (h : LabsOk up s)
include h
end
end Go.Proofs.Ytlddglhjpiahfaa
