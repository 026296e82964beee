/- The reference's Take (by gen_drws.py). -/
import Derived.Test.YtmgaaejghfgbnaaDrwR
namespace Go.Proofs.Ytmgaaejghfgbnaa
set_option maxRecDepth 100000
open Go.RowKit Go.Shelf
attribute [local go_sem] Oper.semAt_some

theorem n6_steps13 {W : World} {g : Nat} {t : TypeId} {u0 u1 u2 u3 u4 u5 : Value} (h : Blk W g t #[u0, u1, u2, u3, u4, u5]) (v0 v1 v2 v3 v4 v5 : Value) : ∃ X1 X2 X3 X4 X5 X6, W.setCell ⟨g, 0, none⟩ v0 = X1 ∧ X1.setCell ⟨g, 1, none⟩ v1 = X2 ∧ X2.setCell ⟨g, 2, none⟩ v2 = X3 ∧ X3.setCell ⟨g, 3, none⟩ v3 = X4 ∧ X4.setCell ⟨g, 4, none⟩ v4 = X5 ∧ X5.setCell ⟨g, 5, none⟩ v5 = X6 ∧ W.frozen? ⟨g, 0, none⟩ = false ∧ X1.frozen? ⟨g, 1, none⟩ = false ∧ X2.frozen? ⟨g, 2, none⟩ = false ∧ X3.frozen? ⟨g, 3, none⟩ = false ∧ X4.frozen? ⟨g, 4, none⟩ = false ∧ X5.frozen? ⟨g, 5, none⟩ = false ∧ W.cell? ⟨g, 0, none⟩ = some u0 ∧ X1.cell? ⟨g, 1, none⟩ = some u1 ∧ X2.cell? ⟨g, 2, none⟩ = some u2 ∧ X3.cell? ⟨g, 3, none⟩ = some u3 ∧ X4.cell? ⟨g, 4, none⟩ = some u4 ∧ X5.cell? ⟨g, 5, none⟩ = some u5 ∧ X6.cell? ⟨g, 0, none⟩ = some v0 ∧ X6.cell? ⟨g, 1, none⟩ = some v1 ∧ X6.cell? ⟨g, 2, none⟩ = some v2 ∧ X6.cell? ⟨g, 3, none⟩ = some v3 ∧ X6.cell? ⟨g, 4, none⟩ = some v4 ∧ X6.cell? ⟨g, 5, none⟩ = some v5 ∧ Hid (Blk X6 g t #[v0, v1, v2, v3, v4, v5]) ∧ Hid (∀ k, k ≠ g → X6.heap[k]? = W.heap[k]?) ∧ Hid (∀ B V, B ≤ g → Below B V W → Below B V X6) := by
  have h0 := h
  obtain ⟨X1, e0⟩ : ∃ X, W.setCell ⟨g, 0, none⟩ v0 = X := ⟨_, rfl⟩
  have h1 : Blk X1 g t #[v0, u1, u2, u3, u4, u5] := e0 ▸ h0.set_ 0 v0
  obtain ⟨X2, e1⟩ : ∃ X, X1.setCell ⟨g, 1, none⟩ v1 = X := ⟨_, rfl⟩
  have h2 : Blk X2 g t #[v0, v1, u2, u3, u4, u5] := e1 ▸ h1.set_ 1 v1
  obtain ⟨X3, e2⟩ : ∃ X, X2.setCell ⟨g, 2, none⟩ v2 = X := ⟨_, rfl⟩
  have h3 : Blk X3 g t #[v0, v1, v2, u3, u4, u5] := e2 ▸ h2.set_ 2 v2
  obtain ⟨X4, e3⟩ : ∃ X, X3.setCell ⟨g, 3, none⟩ v3 = X := ⟨_, rfl⟩
  have h4 : Blk X4 g t #[v0, v1, v2, v3, u4, u5] := e3 ▸ h3.set_ 3 v3
  obtain ⟨X5, e4⟩ : ∃ X, X4.setCell ⟨g, 4, none⟩ v4 = X := ⟨_, rfl⟩
  have h5 : Blk X5 g t #[v0, v1, v2, v3, v4, u5] := e4 ▸ h4.set_ 4 v4
  obtain ⟨X6, e5⟩ : ∃ X, X5.setCell ⟨g, 5, none⟩ v5 = X := ⟨_, rfl⟩
  have h6 : Blk X6 g t #[v0, v1, v2, v3, v4, v5] := e5 ▸ h5.set_ 5 v5
  refine ⟨X1, X2, X3, X4, X5, X6, e0, e1, e2, e3, e4, e5, h0.frozen 0, h1.frozen 1, h2.frozen 2, h3.frozen 3, h4.frozen 4, h5.frozen 5, h0.cell 0, h1.cell 1, h2.cell 2, h3.cell 3, h4.cell 4, h5.cell 5, h6.cell 0, h6.cell 1, h6.cell 2, h6.cell 3, h6.cell 4, h6.cell 5, Lib.hid h6, Lib.hid fun k hk => ?_, Lib.hid fun B V hB hb => ?_⟩
  · rw [← e5, ← e4, ← e3, ← e2, ← e1, ← e0]
    exact (((((Below.heap_setCell _ _ _ k hk).trans (Below.heap_setCell _ _ _ k hk)).trans (Below.heap_setCell _ _ _ k hk)).trans (Below.heap_setCell _ _ _ k hk)).trans (Below.heap_setCell _ _ _ k hk)).trans (Below.heap_setCell _ _ _ k hk)
  · rw [← e5, ← e4, ← e3, ← e2, ← e1, ← e0]
    exact ((((((hb).setCell (p := ⟨g, 0, none⟩) hB _).setCell (p := ⟨g, 1, none⟩) hB _).setCell (p := ⟨g, 2, none⟩) hB _).setCell (p := ⟨g, 3, none⟩) hB _).setCell (p := ⟨g, 4, none⟩) hB _).setCell (p := ⟨g, 5, none⟩) hB _
/-- What the reference's Take answers, where it does not choose. -/
def RTakeNo (w : World) (er : Nat) (e : Ending) (w' : World) : Prop := e = .returned (.agg #[.slice none 0 0, .int .i64 0, .slice none 0 0, .int .i64 0, .slice none 0 0, .int .i64 (er : Int)]) ∧ Below w.heap.size w w'
/-- Where it chooses. -/
def RTake (w : World) (A : Option Addr) (n c m : Nat) (log : List Int) (x : Int) (j : Nat) (e : Ending) (w' : World) : Prop :=
  ∃ L' d', e = .returned (.agg #[.slice A n c, .int .i64 (j : Int), .slice L' (m + 1) d', .int .i64 x, .slice none 0 0, .int .i64 0]) ∧ w'.ownsRow w.heap.size 3 1 (.slice L' (m + 1) d') (m + 1) (ints (log ++ [x])) ∧ Below w.heap.size w w'
set_option maxHeartbeats 4000000 in
theorem rTake13_no {A L : Option Addr} (n c m d : Nat) (i b : Int) (w : World) (hno : ¬ (Dr.right n i m = true ∧ 1 ≤ b ∧ m ≠ 2000)) :
    Calls Try.prog 23 #[.agg #[.slice A n c, .int .i64 i, .slice L m d], .int .i64 b] w (RTakeNo w (if Dr.right n i m = true ∧ 1 ≤ b then 8 else 1)) := by
  have hb := ((Below.refl _ w).alloc (Nat.le_refl _) (.cells #[.slice A n c, .int .i64 i, .slice L m d] 24)).alloc (by simp) (.cells #[.slice none 0 0, .int .i64 0, .slice none 0 0, .int .i64 0, .slice none 0 0, .int .i64 0] 32)
  have hk0 := (Blk.new w 24 #[.slice A n c, .int .i64 i, .slice L m d]).alloc (.cells #[.slice none 0 0, .int .i64 0, .slice none 0 0, .int .i64 0, .slice none 0 0, .int .i64 0] 32)
  have hk1 := Blk.new (w.alloc (.cells #[.slice A n c, .int .i64 i, .slice L m d] 24)) 32 #[.slice none 0 0, .int .i64 0, .slice none 0 0, .int .i64 0, .slice none 0 0, .int .i64 0]
  rw [World.size_alloc] at hk1
  have hrt := fun W => rRight13_any (A := A) (L := L) n c m d i W
  have q0 := hk0.cell 0
  have q1 := hk0.cell 1
  have q2 := hk0.cell 2
  have HK0 := Lib.hid hk0
  have HK1 := Lib.hid hk1
  have HB := Lib.hid hb
  clear hk0 hk1 hb
  by_cases hr : Dr.right n i m = true
  · rw [hr] at hrt
    have HR := Lib.hid hrt
    by_cases hb1 : b < 1
    · rw [if_neg (fun h => by omega)]
      have hl : decide (b < 1) = true := decide_eq_true hb1
      clear hrt hno hr hb1
      go_enter Try.func23, Try.ntmps23
      go_wp2_with (fail)
      refine (HR.out _).mono ?_
      rintro e w1 ⟨rfl, hb1⟩
      obtain ⟨Y1, Y2, Y3, Y4, Y5, Y6, e0, e1, e2, e3, e4, e5, f0, f1, f2, f3, f4, f5, g0, g1, g2, g3, g4, g5, r0, r1, r2, r3, r4, r5, -, -, HYB⟩ := n6_steps13 (HK1.out.below hb1 HK1.out.lt) (.slice none 0 0) (.int .i64 0) (.slice none 0 0) (.int .i64 0) (.slice none 0 0) (.int .i64 1)
      have HB3 := Lib.hid (HYB.out _ _ (Nat.le_succ _) (HB.out.trans (hb1.mono HB.out.size)))
      clear hb1 HYB
      go_wp2
      exact bodyPost_ret (v := .agg #[.slice none 0 0, .int .i64 0, .slice none 0 0, .int .i64 0, .slice none 0 0, .int .i64 1]) (by simp [results, Try.results23, go_sem, r0, r1, r2, r3, r4, r5]) rfl ⟨rfl, HB3.out⟩
    · have hb2 : 1 ≤ b := by omega
      have hm2 : m = 2000 := by
        by_cases h : m = 2000
        · exact h
        · exact absurd ⟨hr, hb2, h⟩ hno
      rw [if_pos ⟨hr, hb2⟩]
      have hl : decide (b < 1) = false := decide_eq_false hb1
      clear hrt hno hr hb1 hb2
      subst hm2
      go_enter Try.func23, Try.ntmps23
      go_wp2_with (fail)
      refine (HR.out _).mono ?_
      rintro e w1 ⟨rfl, hb1⟩
      have x2 := (HK0.out.below hb1 HK0.out.lt).cell 2
      obtain ⟨Y1, Y2, Y3, Y4, Y5, Y6, e0, e1, e2, e3, e4, e5, f0, f1, f2, f3, f4, f5, g0, g1, g2, g3, g4, g5, r0, r1, r2, r3, r4, r5, -, -, HYB⟩ := n6_steps13 (HK1.out.below hb1 HK1.out.lt) (.slice none 0 0) (.int .i64 0) (.slice none 0 0) (.int .i64 0) (.slice none 0 0) (.int .i64 8)
      have HB3 := Lib.hid (HYB.out _ _ (Nat.le_succ _) (HB.out.trans (hb1.mono HB.out.size)))
      clear hb1 HYB
      go_wp2
      exact bodyPost_ret (v := .agg #[.slice none 0 0, .int .i64 0, .slice none 0 0, .int .i64 0, .slice none 0 0, .int .i64 8]) (by simp [results, Try.results23, go_sem, r0, r1, r2, r3, r4, r5]) rfl ⟨rfl, HB3.out⟩
  · rw [if_neg (fun h => hr h.1)]
    rw [Bool.not_eq_true] at hr
    rw [hr] at hrt
    have HR := Lib.hid hrt
    clear hrt hno hr
    go_enter Try.func23, Try.ntmps23
    go_wp2_with (fail)
    refine (HR.out _).mono ?_
    rintro e w1 ⟨rfl, hb1⟩
    obtain ⟨Y1, Y2, Y3, Y4, Y5, Y6, e0, e1, e2, e3, e4, e5, f0, f1, f2, f3, f4, f5, g0, g1, g2, g3, g4, g5, r0, r1, r2, r3, r4, r5, -, -, HYB⟩ := n6_steps13 (HK1.out.below hb1 HK1.out.lt) (.slice none 0 0) (.int .i64 0) (.slice none 0 0) (.int .i64 0) (.slice none 0 0) (.int .i64 1)
    have HB3 := Lib.hid (HYB.out _ _ (Nat.le_succ _) (HB.out.trans (hb1.mono HB.out.size)))
    clear hb1 HYB
    go_wp2
    exact bodyPost_ret (v := .agg #[.slice none 0 0, .int .i64 0, .slice none 0 0, .int .i64 0, .slice none 0 0, .int .i64 1]) (by simp [results, Try.results23, go_sem, r0, r1, r2, r3, r4, r5]) rfl ⟨rfl, HB3.out⟩
set_option maxHeartbeats 8000000 in
theorem rTake13_yes {A L : Option Addr} {list log : List Int} (n c m d i : Nat) (b : Int) (w : World) (hA : Row w w.heap.size A (ints list)) (hL : Row w w.heap.size L (ints log)) (hn : list.length = n) (hm : log.length = m) (hr : Dr.right n (i : Int) m = true) (hb1 : 1 ≤ b) (hm2 : m ≠ 2000) (hB : b < 9223372036854775808) :
    Calls Try.prog 23 #[.agg #[.slice A n c, .int .i64 (i : Int), .slice L m d], .int .i64 b] w (RTake w A n c m log (Dr.choice list i b) (Dr.next list i)) := by
  have hb := ((Below.refl _ w).alloc (Nat.le_refl _) (.cells #[.slice A n c, .int .i64 (i : Int), .slice L m d] 24)).alloc (by simp) (.cells #[.slice none 0 0, .int .i64 0, .slice none 0 0, .int .i64 0, .slice none 0 0, .int .i64 0] 32)
  have hk0 := (Blk.new w 24 #[.slice A n c, .int .i64 (i : Int), .slice L m d]).alloc (.cells #[.slice none 0 0, .int .i64 0, .slice none 0 0, .int .i64 0, .slice none 0 0, .int .i64 0] 32)
  have hk1 := Blk.new (w.alloc (.cells #[.slice A n c, .int .i64 (i : Int), .slice L m d] 24)) 32 #[.slice none 0 0, .int .i64 0, .slice none 0 0, .int .i64 0, .slice none 0 0, .int .i64 0]
  rw [World.size_alloc] at hk1
  have hrt := fun W => rRight13_any (A := A) (L := L) n c m d (i : Int) W
  rw [hr] at hrt
  have hn9 : n ≤ 500 ∧ m ≤ 2000 ∧ 0 ≤ (i : Int) := of_decide_eq_true hr
  obtain ⟨hn9, hm9, -⟩ := hn9
  have hlog : ∀ x W, Below w.heap.size w W → Calls Try.prog 36 #[.slice L m d, .int .i64 x] W (fun e w' => ∃ L' d', e = .returned (.slice L' (m + 1) d') ∧ w'.ownsRow W.heap.size 3 1 (.slice L' (m + 1) d') (m + 1) (ints (log ++ [x])) ∧ Below W.heap.size W w') := fun x W hW => rLog13_any m d x W ((hL.below hW).more hW.size) hm (by omega)
  have hl : decide (b < 1) = false := decide_eq_false (by omega)
  have hmz : ((m : Int) == 2000) = false := by rw [beq_eq_false_iff_ne]; omega
  have q0 := hk0.cell 0
  have q1 := hk0.cell 1
  have q2 := hk0.cell 2
  have HR := Lib.hid hrt
  have HK0 := Lib.hid hk0
  have HK1 := Lib.hid hk1
  have HB := Lib.hid hb
  by_cases hlt : i < n
  · obtain ⟨ad, hA1, hba, -⟩ := irow_at hA (show i < list.length by omega)
    have hx : list[i]? = some (list[i]'(by omega)) := List.getElem?_eq_getElem _
    have hch : Dr.choice list i b = (list[i]'(by omega)) % b := by unfold Dr.choice; rw [if_pos (by omega), List.getD_eq_getElem?_getD, hx]; rfl
    have hnx : Dr.next list i = i + 1 := by unfold Dr.next; rw [if_pos (by omega)]
    rw [hch, hnx]
    have hrow : ∀ W, Below w.heap.size w W → W.cell? (ad.add i) = some (.int .i64 (list[i]'(by omega))) := fun W hW => by
      obtain ⟨ad', e1, _, h2⟩ := irow_at (hA.below hW) (show i < list.length by omega)
      rw [hA1] at e1
      injection e1 with e1
      rw [e1]
      exact h2
    generalize list[i]'(by omega) = y at *
    obtain ⟨x, hy⟩ : ∃ x, y % b = x := ⟨_, rfl⟩
    have hleft := fun W => rLeft13_any y b (by omega) hB W
    rw [hy] at hleft ⊢
    subst hA1
    have HC := Lib.hid hleft
    have HLOG := Lib.hid (hlog x)
    have HROW := Lib.hid hrow
    clear hk0 hk1 hb hrt hr hA hL hn hm hlog hb1 hm2 hx hch hnx hleft hy hrow hB
    go_enter Try.func23, Try.ntmps23
    go_wp2_with (fail)
    refine (HR.out _).mono ?_
    rintro e w1 ⟨rfl, hb1⟩
    have hbw := HB.out.trans (hb1.mono HB.out.size)
    have hk2 := HK0.out.below hb1 HK0.out.lt
    have hk3 := HK1.out.below hb1 HK1.out.lt
    have x0 := hk2.cell 0
    have x1 := hk2.cell 1
    have x2 := hk2.cell 2
    have xf1 := hk2.frozen 1
    have cy := HROW.out w1 hbw
    obtain ⟨Wa, hWa⟩ : ∃ Wa, w1.setCell ⟨w.heap.size, 1, none⟩ (.int .i64 ((i : Int) + 1)) = Wa := ⟨_, rfl⟩
    have hk4 : Blk Wa w.heap.size 24 #[.slice (some ad) n c, .int .i64 ((i : Int) + 1), .slice L m d] := hWa ▸ hk2.set_ 1 _
    have hk5 : Blk Wa (w.heap.size + 1) 32 #[.slice none 0 0, .int .i64 0, .slice none 0 0, .int .i64 0, .slice none 0 0, .int .i64 0] := hWa ▸ hk3.other (p := ⟨w.heap.size, 1, none⟩) (by show w.heap.size ≠ _; omega) _
    have hba2 : Below w.heap.size w Wa := hWa ▸ hbw.setCell (p := ⟨w.heap.size, 1, none⟩) (Nat.le_refl _) _
    have y2 := hk4.cell 2
    have HBA := Lib.hid hba2
    have HK4 := Lib.hid hk4
    have HK5 := Lib.hid hk5
    clear hk2 hk3 hk4 hk5 hba2 hbw hb1
    go_wp2_with (fail)
    refine (HC.out _).mono ?_
    rintro e w2 ⟨rfl, rfl⟩
    go_wp2_with (fail)
    refine (HLOG.out _ HBA.out).mono ?_
    rintro e w3 ⟨L', d', rfl, hown, hb3⟩
    have hk6 := HK4.out.below hb3 HK4.out.lt
    have hk7 := HK5.out.below hb3 HK5.out.lt
    have z2 := hk6.cell 2
    have zf2 := hk6.frozen 2
    obtain ⟨Wb, hWb⟩ : ∃ Wb, w3.setCell ⟨w.heap.size, 2, none⟩ (.slice L' (m + 1) d') = Wb := ⟨_, rfl⟩
    have hk8 : Blk Wb w.heap.size 24 #[.slice (some ad) n c, .int .i64 ((i : Int) + 1), .slice L' (m + 1) d'] := hWb ▸ hk6.set_ 2 _
    have hk9 : Blk Wb (w.heap.size + 1) 32 #[.slice none 0 0, .int .i64 0, .slice none 0 0, .int .i64 0, .slice none 0 0, .int .i64 0] := hWb ▸ hk7.other (p := ⟨w.heap.size, 2, none⟩) (by show w.heap.size ≠ _; omega) _
    have hbb : Below w.heap.size w Wb := hWb ▸ (HBA.out.trans (hb3.mono HBA.out.size)).setCell (p := ⟨w.heap.size, 2, none⟩) (Nat.le_refl _) _
    have u0 := hk8.cell 0
    have u1 := hk8.cell 1
    have u2 := hk8.cell 2
    obtain ⟨Y1, Y2, Y3, Y4, Y5, Y6, e0, e1, e2, e3, e4, e5, f0, f1, f2, f3, f4, f5, g0, g1, g2, g3, g4, g5, r0, r1, r2, r3, r4, r5, -, hyh, HYB⟩ := n6_steps13 hk9 (.slice (some ad) n c) (.int .i64 ((i : Int) + 1)) (.slice L' (m + 1) d') (.int .i64 x) (.slice none 0 0) (.int .i64 0)
    have HBF := Lib.hid (HYB.out _ _ (Nat.le_succ _) hbb)
    have hlo := own_ofD hown fun g' hg' => (hyh.out g' (by have h8 := (hown.lt g' hg').1; have h9 := HK5.out.lt; omega)).trans (show Wb.heap[g']? = w3.heap[g']? from hWb ▸ Below.heap_setCell w3 _ _ g' (by show g' ≠ w.heap.size; have h8 := (hown.lt g' hg').1; have h9 := HK4.out.lt; omega))
    have HLO := Lib.hid (ownT_mono hlo HBA.out.size)
    clear hk6 hk7 hk8 hk9 hbb hyh HYB hlo hown hb3
    go_wp2
    exact bodyPost_ret (v := .agg #[.slice (some ad) n c, .int .i64 ((i : Int) + 1), .slice L' (m + 1) d', .int .i64 x, .slice none 0 0, .int .i64 0]) (by simp [results, Try.results23, go_sem, r0, r1, r2, r3, r4, r5]) rfl ⟨L', d', rfl, HLO.out, HBF.out⟩
  · have hch : Dr.choice list i b = 0 := by unfold Dr.choice; rw [if_neg (by omega)]
    have hnx : Dr.next list i = i := by unfold Dr.next; rw [if_neg (by omega)]
    rw [hch, hnx]
    have HLOG := Lib.hid (hlog 0)
    clear hk0 hk1 hb hrt hr hA hL hn hm hlog hb1 hm2 hch hnx hB
    go_enter Try.func23, Try.ntmps23
    go_wp2_with (fail)
    refine (HR.out _).mono ?_
    rintro e w1 ⟨rfl, hb1⟩
    have hbw := HB.out.trans (hb1.mono HB.out.size)
    have hk2 := HK0.out.below hb1 HK0.out.lt
    have hk3 := HK1.out.below hb1 HK1.out.lt
    have x0 := hk2.cell 0
    have x1 := hk2.cell 1
    have x2 := hk2.cell 2
    have HBA := Lib.hid hbw
    have HK4 := Lib.hid hk2
    have HK5 := Lib.hid hk3
    clear hk2 hk3 hbw hb1
    go_wp2_with (fail)
    refine (HLOG.out _ HBA.out).mono ?_
    rintro e w3 ⟨L', d', rfl, hown, hb3⟩
    have hk6 := HK4.out.below hb3 HK4.out.lt
    have hk7 := HK5.out.below hb3 HK5.out.lt
    have z2 := hk6.cell 2
    have zf2 := hk6.frozen 2
    obtain ⟨Wb, hWb⟩ : ∃ Wb, w3.setCell ⟨w.heap.size, 2, none⟩ (.slice L' (m + 1) d') = Wb := ⟨_, rfl⟩
    have hk8 : Blk Wb w.heap.size 24 #[.slice A n c, .int .i64 (i : Int), .slice L' (m + 1) d'] := hWb ▸ hk6.set_ 2 _
    have hk9 : Blk Wb (w.heap.size + 1) 32 #[.slice none 0 0, .int .i64 0, .slice none 0 0, .int .i64 0, .slice none 0 0, .int .i64 0] := hWb ▸ hk7.other (p := ⟨w.heap.size, 2, none⟩) (by show w.heap.size ≠ _; omega) _
    have hbb : Below w.heap.size w Wb := hWb ▸ (HBA.out.trans (hb3.mono HBA.out.size)).setCell (p := ⟨w.heap.size, 2, none⟩) (Nat.le_refl _) _
    have u0 := hk8.cell 0
    have u1 := hk8.cell 1
    have u2 := hk8.cell 2
    obtain ⟨Y1, Y2, Y3, Y4, Y5, Y6, e0, e1, e2, e3, e4, e5, f0, f1, f2, f3, f4, f5, g0, g1, g2, g3, g4, g5, r0, r1, r2, r3, r4, r5, -, hyh, HYB⟩ := n6_steps13 hk9 (.slice A n c) (.int .i64 (i : Int)) (.slice L' (m + 1) d') (.int .i64 0) (.slice none 0 0) (.int .i64 0)
    have HBF := Lib.hid (HYB.out _ _ (Nat.le_succ _) hbb)
    have hlo := own_ofD hown fun g' hg' => (hyh.out g' (by have h8 := (hown.lt g' hg').1; have h9 := HK5.out.lt; omega)).trans (show Wb.heap[g']? = w3.heap[g']? from hWb ▸ Below.heap_setCell w3 _ _ g' (by show g' ≠ w.heap.size; have h8 := (hown.lt g' hg').1; have h9 := HK4.out.lt; omega))
    have HLO := Lib.hid (ownT_mono hlo HBA.out.size)
    clear hk6 hk7 hk8 hk9 hbb hyh HYB hlo hown hb3
    go_wp2
    exact bodyPost_ret (v := .agg #[.slice A n c, .int .i64 (i : Int), .slice L' (m + 1) d', .int .i64 0, .slice none 0 0, .int .i64 0]) (by simp [results, Try.results23, go_sem, r0, r1, r2, r3, r4, r5]) rfl ⟨L', d', rfl, HLO.out, HBF.out⟩
end Go.Proofs.Ytmgaaejghfgbnaa
