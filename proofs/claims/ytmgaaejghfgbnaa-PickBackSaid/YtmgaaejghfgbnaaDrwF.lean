/- The walk of package draw's Take; the law's alive. -/
import Derived.Test.YtmgaaejghfgbnaaDrwE
namespace Go.Proofs.Ytmgaaejghfgbnaa
set_option maxRecDepth 100000
open Go.RowKit Go.Shelf
attribute [local go_sem] Oper.semAt_some

/-- What Take answers, where it chooses. -/
def Take13 (w : World) (n m : Nat) (list log : List Int) (x : Int) (i : Nat) (e : Ending) (w' : World) : Prop :=
  ∃ A c L d, e = .returned (.tuple #[.agg #[.slice A n c, .int .i64 (i : Int), .slice L (m + 1) d], .int .i64 x, .int .i64 0]) ∧ w'.ownsRow w.heap.size 3 1 (.slice A n c) n (ints list) ∧
    w'.ownsRow w.heap.size 3 1 (.slice L (m + 1) d) (m + 1) (ints (log ++ [x])) ∧ Below w.heap.size w w'
/-- What it answers, where it does not. -/
def TakeNo13 (w : World) (er : Nat) (e : Ending) (w' : World) : Prop := e = .returned (.tuple #[.agg #[.slice none 0 0, .int .i64 0, .slice none 0 0], .int .i64 0, .int .i64 (er : Int)]) ∧ Below w.heap.size w w'
set_option maxHeartbeats 2000000 in
theorem take13_no {A L : Option Addr} (n c m d : Nat) (i b : Int) (er : Nat) (w : World) (he : er = 1 ∨ er = 8)
    (hm : ∀ W M, Below w.heap.size w W → Row W W.heap.size M (ints [b]) → Calls Try.prog 32 #[.agg #[.slice A n c, .int .i64 i, .slice L m d], .slice M 1 1] W (None13 W er)) :
    Calls Try.prog 19 #[.agg #[.slice A n c, .int .i64 i, .slice L m d], .int .i64 b] w (TakeNo13 w er) := by
  have hb := (((Below.refl _ w).alloc (Nat.le_refl _) (.cells #[.slice A n c, .int .i64 i, .slice L m d] 24)).alloc (by simp) (.cells #[.slice none 0 0, .int .i64 0, .slice none 0 0] 24)).alloc (by simp; omega) (.cells #[.int .i64 b] 3)
  have hk0 := (Blk.new w 24 #[.slice A n c, .int .i64 i, .slice L m d]).alloc (.cells #[.slice none 0 0, .int .i64 0, .slice none 0 0] 24)
  have hk1 := (Blk.new (w.alloc (.cells #[.slice A n c, .int .i64 i, .slice L m d] 24)) 24 #[.slice none 0 0, .int .i64 0, .slice none 0 0]).alloc (.cells #[.int .i64 b] 3)
  rw [World.size_alloc] at hk1
  have hr := (Blk.new ((w.alloc (.cells #[.slice A n c, .int .i64 i, .slice L m d] 24)).alloc (.cells #[.slice none 0 0, .int .i64 0, .slice none 0 0] 24)) 3 #[.int .i64 b]).row (cs := [.int .i64 b])
  have hcall := hm _ (some ⟨w.heap.size + 1 + 1, 0, none⟩) hb (by simp only [World.size_alloc] at hr ⊢; exact hr)
  have q0 := hk0.cell 0
  have q1 := hk0.cell 1
  have q2 := hk0.cell 2
  have hez : ((er : Int) != 0) = true := by rw [bne_iff_ne]; omega
  have hez2 : ¬ er = 0 := by omega
  have HC := Lib.hid hcall
  have HK1 := Lib.hid hk1
  have HB := Lib.hid hb
  clear hk0 hk1 hb hr hcall hm he
  go_enter Try.func19, Try.ntmps19
  go_wp2_with (fail)
  refine HC.out.mono ?_
  rintro e w1 ⟨rfl, hb1⟩
  have hk2 := (HK1.out.below hb1 HK1.out.lt).alloc (.cells #[.slice none 0 0, .int .i64 0, .slice none 0 0] 24)
  have hk3 := Blk.new w1 24 #[.slice none 0 0, .int .i64 0, .slice none 0 0]
  have hne : w.heap.size + 1 ≠ w1.heap.size := by have := (HK1.out.below hb1 HK1.out.lt).lt; omega
  obtain ⟨Z1, Z2, Z3, d0, d1, d2, h0, h1, h2, i0, i1, i2, j0, j1, j2, hz, hzh, hzb⟩ := n3_steps hk3 (.slice none 0 0) (.int .i64 0) (.slice none 0 0)
  have hk4 : Blk Z3 (w.heap.size + 1) 24 #[.slice none 0 0, .int .i64 0, .slice none 0 0] := (hzh.out _ hne).trans hk2
  obtain ⟨Y1, Y2, Y3, e0, e1, e2, f0, f1, f2, g0, g1, g2, r0, r1, r2, -, -, HYB⟩ := n3_steps hk4 (.slice none 0 0) (.int .i64 0) (.slice none 0 0)
  have hbw := HB.out.trans (hb1.mono HB.out.size)
  have HB3 := Lib.hid (HYB.out _ _ (Nat.le_succ _) (hzb.out _ _ hbw.size (hbw.alloc hbw.size (.cells #[.slice none 0 0, .int .i64 0, .slice none 0 0] 24))))
  clear hk2 hk3 hk4 hb1 HYB hz hzh hzb hbw hne
  go_wp2
  exact bodyPost_ret (v := .tuple #[.agg #[.slice none 0 0, .int .i64 0, .slice none 0 0], .int .i64 0, .int .i64 (er : Int)]) (by simp [results, Try.results19, go_sem, r0, r1, r2]) rfl ⟨rfl, HB3.out⟩
set_option maxHeartbeats 4000000 in
theorem take13_yes {A L : Option Addr} {list log : List Int} (n c m d i i2 : Nat) (b x : Int) (w : World)
    (hm : ∀ W M, Below w.heap.size w W → Row W W.heap.size M (ints [b]) → Calls Try.prog 32 #[.agg #[.slice A n c, .int .i64 (i : Int), .slice L m d], .slice M 1 1] W (Many13 W n m 1 list log [x] i2)) :
    Calls Try.prog 19 #[.agg #[.slice A n c, .int .i64 (i : Int), .slice L m d], .int .i64 b] w (Take13 w n m list log x i2) := by
  have hb := (((Below.refl _ w).alloc (Nat.le_refl _) (.cells #[.slice A n c, .int .i64 (i : Int), .slice L m d] 24)).alloc (by simp) (.cells #[.slice none 0 0, .int .i64 0, .slice none 0 0] 24)).alloc (by simp; omega) (.cells #[.int .i64 b] 3)
  have hk0 := (Blk.new w 24 #[.slice A n c, .int .i64 (i : Int), .slice L m d]).alloc (.cells #[.slice none 0 0, .int .i64 0, .slice none 0 0] 24)
  have hk1 := (Blk.new (w.alloc (.cells #[.slice A n c, .int .i64 (i : Int), .slice L m d] 24)) 24 #[.slice none 0 0, .int .i64 0, .slice none 0 0]).alloc (.cells #[.int .i64 b] 3)
  rw [World.size_alloc] at hk1
  have hr := (Blk.new ((w.alloc (.cells #[.slice A n c, .int .i64 (i : Int), .slice L m d] 24)).alloc (.cells #[.slice none 0 0, .int .i64 0, .slice none 0 0] 24)) 3 #[.int .i64 b]).row (cs := [.int .i64 b])
  have hcall := hm _ (some ⟨w.heap.size + 1 + 1, 0, none⟩) hb (by simp only [World.size_alloc] at hr ⊢; exact hr)
  have q0 := hk0.cell 0
  have q1 := hk0.cell 1
  have q2 := hk0.cell 2
  have HC := Lib.hid hcall
  have HK1 := Lib.hid hk1
  have HB := Lib.hid hb
  clear hk0 hk1 hb hr hcall hm
  go_enter Try.func19, Try.ntmps19
  go_wp2_with (fail)
  refine HC.out.mono ?_
  rintro e w1 ⟨A1, c1, L1, d1, M, f, rfl, hla, hlo, hlm, hb1⟩
  have hk2 := (HK1.out.below hb1 HK1.out.lt).alloc (.cells #[.slice none 0 0, .int .i64 0, .slice none 0 0] 24)
  have hk3 := Blk.new w1 24 #[.slice none 0 0, .int .i64 0, .slice none 0 0]
  have hlt := (HK1.out.below hb1 HK1.out.lt).lt
  obtain ⟨Z1, Z2, Z3, d0, d1', d2, h0, h1, h2, i0, i1, i2', j0, j1, j2, hz, hzh, hzb⟩ := n3_steps hk3 (.slice A1 n c1) (.int .i64 (i2 : Int)) (.slice L1 (m + 1) d1)
  have hbz : Below w1.heap.size w1 Z3 := hzb.out _ _ (Nat.le_refl _) ((Below.refl _ w1).alloc (Nat.le_refl _) (.cells #[.slice none 0 0, .int .i64 0, .slice none 0 0] 24))
  have hk4 : Blk Z3 (w.heap.size + 1) 24 #[.slice none 0 0, .int .i64 0, .slice none 0 0] := (hzh.out _ (by omega)).trans hk2
  obtain ⟨adM, hM, hMb, m0⟩ := irow_at ((ownT_row hlm).1.below hbz) (show 0 < [x].length by simp)
  subst hM
  have m0 : Z3.cell? adM = some (.int .i64 x) := m0
  obtain ⟨Y1, Y2, Y3, e0, e1, e2, f0, f1, f2, g0, g1, g2, r0, r1, r2, -, hyh, HYB⟩ := n3_steps hk4 (.slice A1 n c1) (.int .i64 (i2 : Int)) (.slice L1 (m + 1) d1)
  have hbw := HB.out.trans (hb1.mono HB.out.size)
  have HB3 := Lib.hid (HYB.out _ _ (Nat.le_succ _) (hbw.trans (hbz.mono hbw.size)))
  have hge := hb1.size
  simp only [World.size_alloc] at hge hla hlo hlm
  have m1 : Y3.cell? adM = some (.int .i64 x) := (World.cell?_of_block (hyh.out adM.block (by have := (hlm.lt adM.block rfl).1; omega))).trans m0
  have hA2 := own_ofD (ownT_below hla hbz) fun g' hg' => hyh.out g' (by have := (hla.lt g' hg').1; omega)
  have hL2 := own_ofD (ownT_below hlo hbz) fun g' hg' => hyh.out g' (by have := (hlo.lt g' hg').1; omega)
  have HA2 := Lib.hid (ownT_mono hA2 (show w.heap.size ≤ w.heap.size + 1 + 1 + 1 by omega))
  have HL2 := Lib.hid (ownT_mono hL2 (show w.heap.size ≤ w.heap.size + 1 + 1 + 1 by omega))
  clear hk2 hk3 hk4 hb1 HYB hz hzh hzb hbw hlt hyh hA2 hL2 hge hla hlo hlm hbz hMb
  go_wp2
  go_region
  go_wp2
  exact bodyPost_ret (v := .tuple #[.agg #[.slice A1 n c1, .int .i64 (i2 : Int), .slice L1 (m + 1) d1], .int .i64 x, .int .i64 0]) (by simp [results, Try.results19, go_sem, r0, r1, r2]) rfl ⟨A1, c1, L1, d1, rfl, HA2.out, HL2.out, HB3.out.drew⟩
end Go.Proofs.Ytmgaaejghfgbnaa
