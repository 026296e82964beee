/- The walks of the reference's Check and Text. -/
import Derived.Test.YtdgelfjnppjbgaaGreatDoorGTabC
import Derived.Test.YtdgelfjnppjbgaaGreatDoorGTabF
import Derived.Test.YtdgelfjnppjbgaaGreatDoorGShoK
namespace Go.Proofs.YtdgelfjnppjbgaaGreatDoor
set_option maxRecDepth 100000
open Go.RowKit Go.Shelf
attribute [local go_sem] Oper.semAt_some

theorem rowR_eq {op : Nat} (hop : op < 13) (x : Tb.PR) : rowR (Rl.right x.m false) (Rl.right x.r true) (Rl.right x.p true) (noOver op x.m) (noOver op x.r) (noOver op x.p) = Tb.rowE op x := by
  unfold rowR Tb.rowE
  by_cases ho : Tb.okRules x = true
  · have ho2 := ho
    unfold Tb.okRules at ho2
    rw [if_pos ho, if_pos ho2]
    simp only [Bool.and_eq_true] at ho2
    unfold Tb.labE
    rw [over_no hop (made_right ho2.1), over_no hop (made_right ho2.2.1), over_no hop (made_right ho2.2.2)]
    cases noOver op x.m <;> cases noOver op x.r <;> cases noOver op x.p <;> rfl
  · have ho2 := ho
    unfold Tb.okRules at ho2
    rw [if_neg ho, if_neg ho2]
/-- A row that is not too long. -/
def Fits (x : Tb.PR) : Prop := x.m.length ≤ 100000 ∧ x.r.length ≤ 100000 ∧ x.p.length ≤ 100000
theorem rRow_any {a0 a1 a2 : Value} {op : Nat} {x : Tb.PR} (hop : op < 13) (w : World) (h0 : IsInts w w.heap.size a0 x.m) (h1 : IsInts w w.heap.size a1 x.r) (h2 : IsInts w w.heap.size a2 x.p) (hf : Fits x) :
    Calls Tryz.prog 32 #[.int .i64 op, .agg #[a0, a1, a2]] w (TellsI w (Tb.rowE op x)) := by
  obtain ⟨A0, c0, rfl, r0, -⟩ := h0
  obtain ⟨A1, c1, rfl, r1, -⟩ := h1
  obtain ⟨A2, c2, rfl, r2, -⟩ := h2
  rw [← rowR_eq hop x]
  exact rRow_parts w (Lib.hid fun W hb => rRight_any c0 false W ((r0.below hb).more hb.size) hf.1) (Lib.hid fun W hb => rRight_any c1 true W ((r1.below hb).more hb.size) hf.2.1) (Lib.hid fun W hb => rRight_any c2 true W ((r2.below hb).more hb.size) hf.2.2)
    (Lib.hid fun W hb => rhas_any c0 op hop W ((r0.below hb).more hb.size) hf.1) (Lib.hid fun W hb => rhas_any c1 op hop W ((r1.below hb).more hb.size) hf.2.1) (Lib.hid fun W hb => rhas_any c2 op hop W ((r2.below hb).more hb.size) hf.2.2)
def TellsW (w : World) (a n : Nat) (e : Ending) (w' : World) : Prop := e = .returned (.agg #[.int .i64 (a : Int), .int .i64 (n : Int)]) ∧ Below w.heap.size w w'
/-- What holds at the head of a round. -/
structure CheckAt (w : World) (A : Option Addr) (n c : Nat) (W : World) : Prop where
  below : Below w.heap.size w W
  k0 : Blk W w.heap.size 24 #[.slice A n c]
  k2 : Blk W (w.heap.size + 1) 44 #[.int .i64 0, .int .i64 0]
theorem CheckAt.step {w W W' : World} {A : Option Addr} {n c : Nat} (h : CheckAt w A n c W) (hb : Below W.heap.size W W') : CheckAt w A n c W' :=
  ⟨h.below.trans (hb.mono h.below.size), h.k0.below hb h.k0.lt, h.k2.below hb h.k2.lt⟩
set_option maxHeartbeats 4000000 in
theorem rCheck_any {A : Option Addr} {l : List Tb.PR} (c : Nat) (w : World) (h : RowsIn w w.heap.size A l) (hs : ∀ x ∈ l, Fits x) : Calls Tryz.prog 19 #[.agg #[.slice A l.length c]] w (TellsW w (Tb.check l).1 (Tb.check l).2) := by
  have hal0 : Below w.heap.size w ((w.alloc (.cells #[.slice A l.length c] 24)).alloc (.cells #[.int .i64 0, .int .i64 0] 44)) := ((Below.refl _ w).alloc (Nat.le_refl _) _).alloc (by simp) _
  have hk0 := (Blk.new w 24 #[.slice A l.length c]).alloc (.cells #[.int .i64 0, .int .i64 0] 44)
  have hk1 := Blk.new (w.alloc (.cells #[.slice A l.length c] 24)) 44 #[.int .i64 0, .int .i64 0]
  rw [World.size_alloc] at hk1
  obtain ⟨w1, hw1⟩ : ∃ w1, (w.alloc (.cells #[.slice A l.length c] 24)).alloc (.cells #[.int .i64 0, .int .i64 0] 44) = w1 := ⟨_, rfl⟩
  have HP : Hid (CheckAt w A l.length c w1) := hw1 ▸ Lib.hid ⟨hal0, hk0, hk1⟩
  have c0 := HP.out.k0.cell 0
  have f0 := HP.out.k2.frozen 0
  have f1 := HP.out.k2.frozen 1
  have d0 := HP.out.k2.cell 0
  have d1 := HP.out.k2.cell 1
  have hne : w.heap.size ≠ w.heap.size + 1 := by omega
  clear hal0 hk0 hk1
  by_cases hl : l.length = 13
  · have e : Tb.check l = Tb.firstBad 0 l := by unfold Tb.check; rw [if_pos hl]
    rw [e]
    have H := Lib.hid h
    have HS := Lib.hid hs
    have HL := Lib.hid hl
    clear e h hs
    rw [hl] at c0 HP hw1 ⊢
    clear hl
    go_enter Tryz.func19, Tryz.ntmps19
    go_wp2
    go_loopw [14] (fun i wr => ∃ (k : Nat), k ≤ 13 ∧ i = .int .i64 k ∧ Hid (CheckAt w A 13 c wr) ∧ Hid (Tb.firstBad 0 l = Tb.firstBad k (l.drop k))) (fun i _ => 13 - (intOf i).toNat)
    case atStart => exact ⟨0, by decide, rfl, HP, Lib.hid rfl⟩
    case round =>
      clear HP c0 f0 f1 d0 d1
      obtain ⟨k, hk, rfl, HP, HF⟩ := hrel
      by_cases hlt : k < 13
      · have hkl : k < l.length := by rw [HL.out]; exact hlt
        obtain ⟨ad, a0, a1, a2, rfl, hb, c0, c1, c2, i0, i1, i2⟩ := (H.out.below HP.out.below).at_ hkl
        have hz := HP.out.below.size
        have hal : Below wr.heap.size wr (wr.alloc (.cells #[a0, a1, a2] 57)) := (Below.refl _ wr).alloc (Nat.le_refl _) _
        have hcr := rRow_any (a0 := a0) (a1 := a1) (a2 := a2) (x := l[k]) hlt (wr.alloc (.cells #[a0, a1, a2] 57))
          ((i0.below (hal.mono hz)).more (by simp; omega)) ((i1.below (hal.mono hz)).more (by simp; omega)) ((i2.below (hal.mono hz)).more (by simp; omega)) (HS.out _ (List.getElem_mem hkl))
        have hon := HF.out.trans (firstBad_on hkl)
        obtain ⟨A0, d0, rfl, -, -⟩ := i0
        obtain ⟨A1, d1, rfl, -, -⟩ := i1
        obtain ⟨A2, d2, rfl, -, -⟩ := i2
        generalize Tb.rowE k l[k] = q at *
        have HCR := Lib.hid hcr
        have HON := Lib.hid hon
        have HAL := Lib.hid hal
        have hadb : (ad.add (k * 3)).block < wr.heap.size := by rw [add_block]; omega
        clear hcr hon hal
        go_wp2_with (fail)
        refine HCR.out.mono ?_
        rintro e w2 ⟨rfl, hb2⟩
        have HP2 := Lib.hid (HP.out.step (HAL.out.trans (hb2.mono HAL.out.size)))
        clear hb2 c0 c1 c2
        by_cases hq0 : q = 0
        · subst hq0
          have HF2 := Lib.hid (HON.out.trans (if_pos rfl))
          go_wp2
          go_roundw
          case rel => exact ⟨k + 1, by omega, by go_num, HP2, HF2⟩
          case measure => simp [intOf]; omega
        · have hq1 : ((q : Int) != 0) = true := by rw [bne_iff_ne]; omega
          have HF2 := Lib.hid (HON.out.trans (if_neg hq0))
          have f0 := HP2.out.k2.frozen 0
          have f1 := HP2.out.k2.frozen 1
          have d0 := HP2.out.k2.cell 0
          have d1 := HP2.out.k2.cell 1
          go_wp2
          have hkk := (HP2.out.k2.set_ 0 (.int .i64 (k : Int))).set_ 1 (.int .i64 (q : Int))
          have e0 := hkk.cell 0
          have e1 := hkk.cell 1
          have hBk := (HP2.out.below.setCell (p := ⟨w.heap.size + 1, 0, none⟩) (by simp) (.int .i64 (k : Int))).setCell (p := ⟨w.heap.size + 1, 1, none⟩) (by simp) (.int .i64 (q : Int))
          exact bodyPost_ret (v := .agg #[.int .i64 (k : Int), .int .i64 (q : Int)]) (by simp [results, Tryz.results19, go_sem, e0, e1]) rfl ⟨by rw [HF2.out], hBk⟩
      · obtain rfl : k = 13 := by omega
        have HF2 := Lib.hid (HF.out.trans (by rw [List.drop_eq_nil_of_le (by rw [HL.out]; omega)]; rfl : _ = ((0, 0) : Nat × Nat)))
        have f0 := HP.out.k2.frozen 0
        have f1 := HP.out.k2.frozen 1
        have d0 := HP.out.k2.cell 0
        have d1 := HP.out.k2.cell 1
        go_wp2
        have hkk := (HP.out.k2.set_ 0 (.int .i64 0)).set_ 1 (.int .i64 0)
        have e0 := hkk.cell 0
        have e1 := hkk.cell 1
        have hBk := (HP.out.below.setCell (p := ⟨w.heap.size + 1, 0, none⟩) (by simp) (.int .i64 0)).setCell (p := ⟨w.heap.size + 1, 1, none⟩) (by simp) (.int .i64 0)
        exact bodyPost_ret (v := .agg #[.int .i64 0, .int .i64 0]) (by simp [results, Tryz.results19, go_sem, e0, e1]) rfl ⟨by rw [HF2.out]; rfl, hBk⟩
  · have e : Tb.check l = (0, 1) := by unfold Tb.check; rw [if_neg hl]
    rw [e]
    have h1 : (((l.length : Nat) : Int) != 13) = true := by rw [bne_iff_ne]; omega
    clear e h hs
    generalize l.length = n at *
    go_enter Tryz.func19, Tryz.ntmps19
    go_wp2
    have hkk := (HP.out.k2.set_ 0 (.int .i64 0)).set_ 1 (.int .i64 1)
    have e0 := hkk.cell 0
    have e1 := hkk.cell 1
    have hBk := (HP.out.below.setCell (p := ⟨w.heap.size + 1, 0, none⟩) (by simp) (.int .i64 0)).setCell (p := ⟨w.heap.size + 1, 1, none⟩) (by simp) (.int .i64 1)
    exact bodyPost_ret (v := .agg #[.int .i64 0, .int .i64 1]) (by simp [results, Tryz.results19, go_sem, e0, e1]) rfl ⟨rfl, hBk⟩
end Go.Proofs.YtdgelfjnppjbgaaGreatDoor

/- The walk of the reference's Text (by gen_tabzt.py). -/
namespace Go.Proofs.YtdgelfjnppjbgaaGreatDoor
set_option maxRecDepth 100000
open Go.RowKit Go.Shelf
attribute [local go_sem] Oper.semAt_some

theorem rRule_text {A : Option Addr} {l : List Int} {b : Bool} (c : Nat) (w : World) (h : Row w w.heap.size A (ints l)) (hr : Rl.right l b = true) : Calls Tryz.prog 40 #[.slice A l.length c] w (Wrote w (Tb.textOf l)) := by
  obtain ⟨h1, h2⟩ := Tb.treeOf_ok hr
  have := rText_any (Tb.treeOf l) b h1 c w (by rw [h2]; exact h) (by rw [h2]; exact Tb.right_len hr)
  rw [h2] at this
  exact this
theorem text_deep {l : List Tb.PR} (hc : Tb.check l = (0, 0)) {k j : Nat} (hk : k < l.length) (hj : j < 3) (hd : ¬ Sh.deep (Tb.treeOf (l[k].nth j)) ≤ 12) : Tb.text l = (ByteArray.empty, 5) := by
  unfold Tb.text
  rw [hc, if_pos rfl, if_neg]
  intro hf
  exact hd (Tb.flat_iff.1 (List.all_eq_true.1 hf _ (List.getElem_mem hk)) j hj)
theorem text_next {l : List Tb.PR} {k : Nat} (hk : k < l.length) :
    Lx.pack (Tb.allTxt (Tb.trees (l.take k))) ++ Tb.word k ++ { data := #[32, 58, 32] } ++ Lx.pack (Sh.txt (Tb.treeOf l[k].m)) ++ { data := #[32, 59, 32] } ++ Lx.pack (Sh.txt (Tb.treeOf l[k].r)) ++ { data := #[32, 59, 32] } ++ Lx.pack (Sh.txt (Tb.treeOf l[k].p)) ++ { data := #[32, 59, 10] } = Lx.pack (Tb.allTxt (Tb.trees (l.take (k + 1)))) := by
  have e : Tb.allTxt (Tb.trees (l.take (k + 1))) = Tb.allTxt (Tb.trees (l.take k)) ++ Tb.wordL k ++ [32, 58, 32] ++ Sh.txt (Tb.treeOf l[k].m) ++ [32, 59, 32] ++ Sh.txt (Tb.treeOf l[k].r) ++ [32, 59, 32] ++ Sh.txt (Tb.treeOf l[k].p) ++ [32, 59, 10] := by
    rw [Tb.trees_next hk, allTxt_snoc]
    simp [Tb.rowTxt, Tb.rowBody, Tb.rowOf]
  rw [e, Sh.pack_append, Sh.pack_append, Sh.pack_append, Sh.pack_append, Sh.pack_append, Sh.pack_append, Sh.pack_append, Sh.pack_append]
  rfl
/-- What holds at the head of a round. -/
structure RTextAt (w : World) (A : Option Addr) (n c : Nat) (W : World) : Prop where
  below : Below w.heap.size w W
  k0 : Blk W w.heap.size 24 #[.slice A n c]
theorem RTextAt.step {w W W' : World} {A : Option Addr} {n c : Nat} (h : RTextAt w A n c W) (hb : Below W.heap.size W W') : RTextAt w A n c W' :=
  ⟨h.below.trans (hb.mono h.below.size), h.k0.below hb h.k0.lt⟩
set_option maxHeartbeats 16000000 in
theorem rTableText_any {A : Option Addr} {l : List Tb.PR} (c : Nat) (w : World) (h : RowsIn w w.heap.size A l) (hc : Tb.check l = (0, 0)) : Calls Tryz.prog 20 #[.agg #[.slice A l.length c]] w (Wrote w (Tb.text l)) := by
  obtain ⟨hl, hrow⟩ := Tb.check_ok hc
  have HP : Hid (RTextAt w A 13 c (w.alloc (.cells #[.slice A 13 c] 24))) := Lib.hid ⟨(Below.refl _ w).alloc (Nat.le_refl _) _, Blk.new w _ _⟩
  have H := Lib.hid h
  have HL := Lib.hid hl
  have HCK := Lib.hid hc
  have HROW := Lib.hid hrow
  have HWD := Lib.hid (fun k (hk : k < 13) W => rIWord_any k hk W)
  rw [hl]
  clear h hc hl hrow
  go_enter Tryz.func20, Tryz.ntmps20
  go_wp2
  go_loopw [4, 16] (fun v i wr => ∃ (k : Nat) (s : ByteArray), k ≤ 13 ∧ i = .int .i64 k ∧ v = .string s ∧ Hid (s = Lx.pack (Tb.allTxt (Tb.trees (l.take k)))) ∧ Hid (RTextAt w A 13 c wr) ∧ Hid (∀ x ∈ l.take k, x.flat = true)) (fun _ i _ => 13 - (intOf i).toNat)
  case atStart => exact ⟨0, _, by decide, rfl, rfl, Lib.hid rfl, HP, Lib.hid fun x hx => by simp at hx⟩
  case round =>
    clear HP
    obtain ⟨k, s, hk, rfl, rfl, HS, HP, HF⟩ := hrel
    by_cases hlt : k < 13
    · have hkl : k < l.length := by rw [HL.out]; exact hlt
      obtain ⟨ad, a0, a1, a2, rfl, hb, c0, c1, c2, i0, i1, i2⟩ := (H.out.below HP.out.below).at_ hkl
      have hz := HP.out.below.size
      have hok := (Tb.rowE_ok (HROW.out k _ (List.getElem?_eq_getElem hkl))).1
      have g0 := Tb.okRules_all hok 0 (by decide)
      have g1 := Tb.okRules_all hok 1 (by decide)
      have g2 := Tb.okRules_all hok 2 (by decide)
      obtain ⟨A0, d0, rfl, r0, -⟩ := i0
      obtain ⟨A1, d1, rfl, r1, -⟩ := i1
      obtain ⟨A2, d2, rfl, r2, -⟩ := i2
      have HNX := Lib.hid (text_next hkl)
      have T0 := Lib.hid (fun W (hB : Below wr.heap.size wr W) => rRule_text d0 W ((r0.below (hB.mono hz)).more (Nat.le_trans hz hB.size)) g0)
      have T1 := Lib.hid (fun W (hB : Below wr.heap.size wr W) => rRule_text d1 W ((r1.below (hB.mono hz)).more (Nat.le_trans hz hB.size)) g1)
      have T2 := Lib.hid (fun W (hB : Below wr.heap.size wr W) => rRule_text d2 W ((r2.below (hB.mono hz)).more (Nat.le_trans hz hB.size)) g2)
      have hadb : (ad.add (k * 3)).block < wr.heap.size := by rw [add_block]; omega
      obtain ⟨w1, hw1⟩ : ∃ w1, wr.alloc (.cells #[.slice A0 l[k].m.length d0, .slice A1 l[k].r.length d1, .slice A2 l[k].p.length d2] 57) = w1 := ⟨_, rfl⟩
      have HAw1 : Hid (Below wr.heap.size wr w1) := hw1 ▸ Lib.hid ((Below.refl _ wr).alloc (Nat.le_refl _) _)
      have HKw1 : Hid (Blk w1 wr.heap.size 57 #[.slice A0 l[k].m.length d0, .slice A1 l[k].r.length d1, .slice A2 l[k].p.length d2]) := hw1 ▸ Lib.hid (Blk.new wr _ _)
      have hF0 : ¬ Sh.deep (Tb.treeOf (l[k].nth 0)) ≤ 12 → Tb.textOf l[k].m = (ByteArray.empty, 5) := fun h => Tb.textOf_deep h
      have hF1 : ¬ Sh.deep (Tb.treeOf (l[k].nth 1)) ≤ 12 → Tb.textOf l[k].r = (ByteArray.empty, 5) := fun h => Tb.textOf_deep h
      have hF2 : ¬ Sh.deep (Tb.treeOf (l[k].nth 2)) ≤ 12 → Tb.textOf l[k].p = (ByteArray.empty, 5) := fun h => Tb.textOf_deep h
      have hG0 : Sh.deep (Tb.treeOf (l[k].nth 0)) ≤ 12 → Tb.textOf l[k].m = (Lx.pack (Sh.txt (Tb.treeOf l[k].m)), 0) := fun h => Tb.textOf_ok h
      have hG1 : Sh.deep (Tb.treeOf (l[k].nth 1)) ≤ 12 → Tb.textOf l[k].r = (Lx.pack (Sh.txt (Tb.treeOf l[k].r)), 0) := fun h => Tb.textOf_ok h
      have hG2 : Sh.deep (Tb.treeOf (l[k].nth 2)) ≤ 12 → Tb.textOf l[k].p = (Lx.pack (Sh.txt (Tb.treeOf l[k].p)), 0) := fun h => Tb.textOf_ok h
      have HFL := Lib.hid (fun (h0 : Sh.deep (Tb.treeOf (l[k].nth 0)) ≤ 12) (h1 : Sh.deep (Tb.treeOf (l[k].nth 1)) ≤ 12) (h2 : Sh.deep (Tb.treeOf (l[k].nth 2)) ≤ 12) => take_all hkl HF.out (flat_yes (x := l[k]) fun j hj => by
        rcases (by omega : j = 0 ∨ j = 1 ∨ j = 2) with rfl | rfl | rfl
        · exact h0
        · exact h1
        · exact h2))
      generalize l[k].m.length = n0 at *
      generalize l[k].r.length = n1 at *
      generalize l[k].p.length = n2 at *
      clear r0 r1 r2 hok hb
      by_cases h0 : Sh.deep (Tb.treeOf (l[k].nth 0)) ≤ 12
      · rw [hG0 h0] at T0
        by_cases h1 : Sh.deep (Tb.treeOf (l[k].nth 1)) ≤ 12
        · rw [hG1 h1] at T1
          by_cases h2 : Sh.deep (Tb.treeOf (l[k].nth 2)) ≤ 12
          · rw [hG2 h2] at T2
            have HFN := Lib.hid (HFL.out h0 h1 h2)
            have hz0 := Tb.textOf_size g0
            have hz1 := Tb.textOf_size g1
            have hz2 := Tb.textOf_size g2
            rw [show l[k].nth 0 = l[k].m from rfl, hG0 h0] at hz0
            rw [show l[k].nth 1 = l[k].r from rfl, hG1 h1] at hz1
            rw [show l[k].nth 2 = l[k].p from rfl, hG2 h2] at hz2
            dsimp only at hz0 hz1 hz2
            have hzs : s.size ≤ 13000 := by
              rw [HS.out, Lx.pack_size]
              have := allTxt_len HL.out (fun k x hk => (Tb.rowE_ok (HROW.out k x hk)).1) k hk
              omega
            have hzw : (Tb.word k).size ≤ 6 := by
              have := (Tb.word_letters hlt).2.2
              unfold Tb.word
              rw [Lx.pack_size]
              exact this
            clear g0 g1 g2
            clear hF0 hF1 hF2 hG0 hG1 hG2 h0 h1 h2 HFL
            generalize Lx.pack (Sh.txt (Tb.treeOf l[k].m)) = s0 at *
            generalize Lx.pack (Sh.txt (Tb.treeOf l[k].r)) = s1 at *
            generalize Lx.pack (Sh.txt (Tb.treeOf l[k].p)) = s2 at *
            have HC := Lib.hid (T0.out w1 HAw1.out)
            have hc0 := HKw1.out.cell 0
            have hc1 := HKw1.out.cell 1
            have hc2 := HKw1.out.cell 2
            go_wp2_with (fail)
            refine HC.out.mono ?_
            rintro e w2 ⟨rfl, hb⟩
            have HAw2 := Lib.hid (HAw1.out.trans (hb.mono HAw1.out.size))
            have HKw2 := Lib.hid (HKw1.out.below hb HKw1.out.lt)
            clear hb HC hc0 hc1 hc2
            dsimp only
            have HC := Lib.hid (T1.out w2 HAw2.out)
            have hc0 := HKw2.out.cell 0
            have hc1 := HKw2.out.cell 1
            have hc2 := HKw2.out.cell 2
            go_wp2_with (fail)
            refine HC.out.mono ?_
            rintro e w3 ⟨rfl, hb⟩
            have HAw3 := Lib.hid (HAw2.out.trans (hb.mono HAw2.out.size))
            have HKw3 := Lib.hid (HKw2.out.below hb HKw2.out.lt)
            clear hb HC hc0 hc1 hc2
            dsimp only
            have HC := Lib.hid (T2.out w3 HAw3.out)
            have hc0 := HKw3.out.cell 0
            have hc1 := HKw3.out.cell 1
            have hc2 := HKw3.out.cell 2
            go_wp2_with (fail)
            refine HC.out.mono ?_
            rintro e w4 ⟨rfl, hb⟩
            have HAw4 := Lib.hid (HAw3.out.trans (hb.mono HAw3.out.size))
            have HKw4 := Lib.hid (HKw3.out.below hb HKw3.out.lt)
            clear hb HC hc0 hc1 hc2
            dsimp only
            have HW := Lib.hid (HWD.out k hlt w4)
            have HP4 := Lib.hid (HP.out.step HAw4.out)
            go_wp2_with (fail)
            refine HW.out.mono ?_
            rintro e w5 ⟨rfl, hb5⟩
            have HP5 := Lib.hid (HP4.out.step hb5)
            clear hb5 c0 c1 c2 hw1
            have q1 : (9223372036854775807 < s.size + (Tb.word k).size) = False := eq_false (by omega)
            have q2 : (9223372036854775807 < s.size + (Tb.word k).size + 3) = False := eq_false (by omega)
            have q3 : (9223372036854775807 < s.size + (Tb.word k).size + 3 + s0.size) = False := eq_false (by omega)
            have q4 : (9223372036854775807 < s.size + (Tb.word k).size + 3 + s0.size + 3) = False := eq_false (by omega)
            have q5 : (9223372036854775807 < s.size + (Tb.word k).size + 3 + s0.size + 3 + s1.size) = False := eq_false (by omega)
            have q6 : (9223372036854775807 < s.size + (Tb.word k).size + 3 + s0.size + 3 + s1.size + 3) = False := eq_false (by omega)
            have q7 : (9223372036854775807 < s.size + (Tb.word k).size + 3 + s0.size + 3 + s1.size + 3 + s2.size) = False := eq_false (by omega)
            have q8 : (9223372036854775807 < s.size + (Tb.word k).size + 3 + s0.size + 3 + s1.size + 3 + s2.size + 3) = False := eq_false (by omega)
            go_wp2
            go_roundw
            case rel => exact ⟨k + 1, _, by omega, by go_num, rfl, Lib.hid (by rw [← HNX.out, ← HS.out]), HP5, HFN⟩
            case measure => simp [intOf]; omega
          · have D2 := Lib.hid h2
            rw [hF2 h2] at T2
            clear hF0 hF1 hF2 hG0 hG1 hG2 h0 h1 h2 HFL
            generalize Lx.pack (Sh.txt (Tb.treeOf l[k].m)) = s0 at *
            generalize Lx.pack (Sh.txt (Tb.treeOf l[k].r)) = s1 at *
            have HNO := Lib.hid (text_deep HCK.out hkl (k := k) (j := 2) (by decide) D2.out)
            have HC := Lib.hid (T0.out w1 HAw1.out)
            have hc0 := HKw1.out.cell 0
            have hc1 := HKw1.out.cell 1
            have hc2 := HKw1.out.cell 2
            go_wp2_with (fail)
            refine HC.out.mono ?_
            rintro e w2 ⟨rfl, hb⟩
            have HAw2 := Lib.hid (HAw1.out.trans (hb.mono HAw1.out.size))
            have HKw2 := Lib.hid (HKw1.out.below hb HKw1.out.lt)
            clear hb HC hc0 hc1 hc2
            dsimp only
            have HC := Lib.hid (T1.out w2 HAw2.out)
            have hc0 := HKw2.out.cell 0
            have hc1 := HKw2.out.cell 1
            have hc2 := HKw2.out.cell 2
            go_wp2_with (fail)
            refine HC.out.mono ?_
            rintro e w3 ⟨rfl, hb⟩
            have HAw3 := Lib.hid (HAw2.out.trans (hb.mono HAw2.out.size))
            have HKw3 := Lib.hid (HKw2.out.below hb HKw2.out.lt)
            clear hb HC hc0 hc1 hc2
            dsimp only
            have HC := Lib.hid (T2.out w3 HAw3.out)
            have hc0 := HKw3.out.cell 0
            have hc1 := HKw3.out.cell 1
            have hc2 := HKw3.out.cell 2
            go_wp2_with (fail)
            refine HC.out.mono ?_
            rintro e w4 ⟨rfl, hb⟩
            have HAw4 := Lib.hid (HAw3.out.trans (hb.mono HAw3.out.size))
            have HKw4 := Lib.hid (HKw3.out.below hb HKw3.out.lt)
            clear hb HC hc0 hc1 hc2
            dsimp only
            have HBE := Lib.hid (HP.out.below.trans (HAw4.out.mono HP.out.below.size))
            go_wp2
            go_ret2
            rw [HNO.out]
            exact ⟨rfl, HBE.out⟩
        · have D1 := Lib.hid h1
          rw [hF1 h1] at T1
          clear hF0 hF1 hF2 hG0 hG1 hG2 h0 h1 HFL
          generalize Lx.pack (Sh.txt (Tb.treeOf l[k].m)) = s0 at *
          generalize Tb.textOf l[k].p = r2 at *
          have HNO := Lib.hid (text_deep HCK.out hkl (k := k) (j := 1) (by decide) D1.out)
          have HC := Lib.hid (T0.out w1 HAw1.out)
          have hc0 := HKw1.out.cell 0
          have hc1 := HKw1.out.cell 1
          have hc2 := HKw1.out.cell 2
          go_wp2_with (fail)
          refine HC.out.mono ?_
          rintro e w2 ⟨rfl, hb⟩
          have HAw2 := Lib.hid (HAw1.out.trans (hb.mono HAw1.out.size))
          have HKw2 := Lib.hid (HKw1.out.below hb HKw1.out.lt)
          clear hb HC hc0 hc1 hc2
          dsimp only
          have HC := Lib.hid (T1.out w2 HAw2.out)
          have hc0 := HKw2.out.cell 0
          have hc1 := HKw2.out.cell 1
          have hc2 := HKw2.out.cell 2
          go_wp2_with (fail)
          refine HC.out.mono ?_
          rintro e w3 ⟨rfl, hb⟩
          have HAw3 := Lib.hid (HAw2.out.trans (hb.mono HAw2.out.size))
          have HKw3 := Lib.hid (HKw2.out.below hb HKw2.out.lt)
          clear hb HC hc0 hc1 hc2
          dsimp only
          have HC := Lib.hid (T2.out w3 HAw3.out)
          have hc0 := HKw3.out.cell 0
          have hc1 := HKw3.out.cell 1
          have hc2 := HKw3.out.cell 2
          go_wp2_with (fail)
          refine HC.out.mono ?_
          rintro e w4 ⟨rfl, hb⟩
          have HAw4 := Lib.hid (HAw3.out.trans (hb.mono HAw3.out.size))
          have HKw4 := Lib.hid (HKw3.out.below hb HKw3.out.lt)
          clear hb HC hc0 hc1 hc2
          dsimp only
          have HBE := Lib.hid (HP.out.below.trans (HAw4.out.mono HP.out.below.size))
          go_wp2
          go_ret2
          rw [HNO.out]
          exact ⟨rfl, HBE.out⟩
      · have D0 := Lib.hid h0
        rw [hF0 h0] at T0
        clear hF0 hF1 hF2 hG0 hG1 hG2 h0 HFL
        generalize Tb.textOf l[k].r = r1 at *
        generalize Tb.textOf l[k].p = r2 at *
        have HNO := Lib.hid (text_deep HCK.out hkl (k := k) (j := 0) (by decide) D0.out)
        have HC := Lib.hid (T0.out w1 HAw1.out)
        have hc0 := HKw1.out.cell 0
        have hc1 := HKw1.out.cell 1
        have hc2 := HKw1.out.cell 2
        go_wp2_with (fail)
        refine HC.out.mono ?_
        rintro e w2 ⟨rfl, hb⟩
        have HAw2 := Lib.hid (HAw1.out.trans (hb.mono HAw1.out.size))
        have HKw2 := Lib.hid (HKw1.out.below hb HKw1.out.lt)
        clear hb HC hc0 hc1 hc2
        dsimp only
        have HC := Lib.hid (T1.out w2 HAw2.out)
        have hc0 := HKw2.out.cell 0
        have hc1 := HKw2.out.cell 1
        have hc2 := HKw2.out.cell 2
        go_wp2_with (fail)
        refine HC.out.mono ?_
        rintro e w3 ⟨rfl, hb⟩
        have HAw3 := Lib.hid (HAw2.out.trans (hb.mono HAw2.out.size))
        have HKw3 := Lib.hid (HKw2.out.below hb HKw2.out.lt)
        clear hb HC hc0 hc1 hc2
        dsimp only
        have HC := Lib.hid (T2.out w3 HAw3.out)
        have hc0 := HKw3.out.cell 0
        have hc1 := HKw3.out.cell 1
        have hc2 := HKw3.out.cell 2
        go_wp2_with (fail)
        refine HC.out.mono ?_
        rintro e w4 ⟨rfl, hb⟩
        have HAw4 := Lib.hid (HAw3.out.trans (hb.mono HAw3.out.size))
        have HKw4 := Lib.hid (HKw3.out.below hb HKw3.out.lt)
        clear hb HC hc0 hc1 hc2
        dsimp only
        have HBE := Lib.hid (HP.out.below.trans (HAw4.out.mono HP.out.below.size))
        go_wp2
        go_ret2
        rw [HNO.out]
        exact ⟨rfl, HBE.out⟩
    · obtain rfl : k = 13 := by omega
      have hfin : Tb.text l = (s, 0) := by
        have ht : l.take 13 = l := List.take_of_length_le (by rw [HL.out]; exact Nat.le_refl _)
        have hf := HF.out
        have hs := HS.out
        rw [ht] at hf hs
        unfold Tb.text
        rw [HCK.out, if_pos rfl, if_pos (List.all_eq_true.2 hf), hs]
      have HFIN := Lib.hid hfin
      clear hfin
      go_wp2
      go_ret2
      rw [HFIN.out]
      exact ⟨rfl, HP.out.below⟩
end Go.Proofs.YtdgelfjnppjbgaaGreatDoor
