/- Rows of things told alike: slices.EqualFunc with package equiv's closure, and alike (by gen_eqvb.py). -/
import Derived.Test.YtlddglhjpiahfaaGEqvA
import Derived.Test.YtlddglhjpiahfaaGCodE
namespace Go.Proofs.Ytlddglhjpiahfaa
set_option maxRecDepth 100000
open Go.RowKit Go.Shelf Go.Sort
attribute [local go_sem] Oper.semAt_some
/-- All labels of a row are places of the view. -/
def LabIn {α : Type} (lab : α → Int) (n : Nat) (l : List α) : Prop := ∀ x ∈ l, 0 ≤ lab x ∧ lab x < n

/-! atoms -/
theorem seeA_any {A : Option Addr} {v : List Bool} (x : St.Atom) (c : Nat) (w : World) (h : Row w w.heap.size A (vbs v)) (hl : 0 ≤ x.l ∧ x.l < v.length) :
    Calls Try.prog 79 #[.slice A v.length c, .agg #[.int .i64 x.v, .int .i64 x.l], howA] w fun e w' => e = .returned (.agg #[.int .i64 (Ev.seenA v x).v, .int .i64 (Ev.seenA v x).l]) ∧ Below w.heap.size w w' := by
  refine (seenA_any x.v x.l c w h hl).mono ?_
  rintro e w' ⟨rfl, hb⟩
  refine ⟨?_, hb⟩
  unfold Ev.seenA Ev.leftA
  by_cases h1 : Ev.at_ v x.l = true <;> simp [h1]
set_option maxHeartbeats 4000000 in
theorem alikeA1_any {A : Option Addr} {v : List Bool} (x y : St.Atom) (c g q : Nat) (w : World) (h : Row w w.heap.size A (vbs v)) (hx : 0 ≤ x.l ∧ x.l < v.length) (hy : 0 ≤ y.l ∧ y.l < v.length) (hg : Blk w g 80 #[.slice A v.length c]) (hq : Blk w q 63 #[.func (.func 52) #[] #[], .func (.func 53) #[] #[]]) :
    Calls Try.prog 78 #[.agg #[.int .i64 x.v, .int .i64 x.l], .agg #[.int .i64 y.v, .int .i64 y.l], .pointer (some ⟨g, 0, none⟩), .pointer (some ⟨q, 0, none⟩)] w (Tells w (decide (Ev.seenA v x = Ev.seenA v y))) := by
  have hb0 := ((Below.refl w.heap.size w).alloc (Nat.le_refl _) (.cells #[.int .i64 x.v, .int .i64 x.l] 27)).alloc (by simp) (.cells #[.int .i64 y.v, .int .i64 y.l] 27)
  have hk0 := (Blk.new w 27 #[.int .i64 x.v, .int .i64 x.l]).alloc (.cells #[.int .i64 y.v, .int .i64 y.l] 27)
  have hk1 := Blk.new (w.alloc (.cells #[.int .i64 x.v, .int .i64 x.l] 27)) 27 #[.int .i64 y.v, .int .i64 y.l]
  rw [show (w.alloc (.cells #[.int .i64 x.v, .int .i64 x.l] 27)).heap.size = w.heap.size + 1 by simp] at hk1
  obtain ⟨W0, hW0⟩ : ∃ W0, (w.alloc (.cells #[.int .i64 x.v, .int .i64 x.l] 27)).alloc (.cells #[.int .i64 y.v, .int .i64 y.l] 27) = W0 := ⟨_, rfl⟩
  rw [hW0] at hb0 hk0 hk1
  have hs := fun (z : St.Atom) (hz : 0 ≤ z.l ∧ z.l < v.length) W (hb : Below W0.heap.size W0 W) => seeA_any z c W ((h.below (hb0.trans (hb.mono hb0.size))).more (Nat.le_trans hb0.size hb.size)) hz
  have HX := Lib.hid (hs x hx)
  have HY := Lib.hid (hs y hy)
  have hg0 := hg.below hb0 hg.lt
  have hq0 := hq.below hb0 hq.lt
  have heq := fun w => run_at_eql (Ev.seenA v x) (Ev.seenA v y) w
  skip
  have HB0 := Lib.hid hb0
  clear hs h hx hy hg hq hb0
  generalize decide (Ev.seenA v x = Ev.seenA v y) = res at *
  generalize Ev.seenA v x = sx at *
  generalize Ev.seenA v y = sy at *
  have x0 : W0.cell? ⟨w.heap.size, 0, none⟩ = some (.int .i64 x.v) := hk0.cell 0
  have x1 : W0.cell? ⟨w.heap.size, 1, none⟩ = some (.int .i64 x.l) := hk0.cell 1
  have y0 : W0.cell? ⟨w.heap.size + 1, 0, none⟩ = some (.int .i64 y.v) := hk1.cell 0
  have y1 : W0.cell? ⟨w.heap.size + 1, 1, none⟩ = some (.int .i64 y.l) := hk1.cell 1
  have g0 : W0.cell? ⟨g, 0, none⟩ = some (.slice A v.length c) := hg0.cell 0
  have q0 : W0.cell? ⟨q, 0, none⟩ = some (.func (.func 52) #[] #[]) := hq0.cell 0
  have q1 : W0.cell? ⟨q, 1, none⟩ = some (.func (.func 53) #[] #[]) := hq0.cell 1
  clear hk0 hk1 hg0 hq0
  unfold howA at HX HY
  go_enter Try.func78, Try.ntmps78
  go_wp2_with (fail)
  clear hW0
  have r0 := fun d os => cell_regrown x0 d os
  have r1 := fun d os => cell_regrown x1 d os
  have r2 := fun d os => cell_regrown y0 d os
  have r3 := fun d os => cell_regrown y1 d os
  have r4 := fun d os => cell_regrown g0 d os
  have r5 := fun d os => cell_regrown q0 d os
  have r6 := fun d os => cell_regrown q1 d os
  refine wp_region_quiet_below (by kernel_rfl) (by kernel_rfl) ?_
  repeat (quiet_step (first | (go_at_call 79; first | with_reducible exact Calls.regrown_of (HX.out _ (below_regrown _ _ _)) | with_reducible exact Calls.regrown_of (HY.out _ (below_regrown _ _ _)))))
  refine wpQuiet_nil ?_
  rintro _ ⟨⟨d9, os9⟩, rfl⟩
  have HB9 := Lib.hid (HB0.out.trans ((below_regrown W0 d9 os9).mono HB0.out.size))
  clear r0 r1 r2 r3 r4 r5 r6 x0 x1 y0 y1 g0 q0 q1
  generalize grow (redrawn W0 d9) os9 = w9 at *
  go_wp2
  go_ret
  exact ⟨rfl, HB9.out⟩
set_option maxHeartbeats 4000000 in
theorem eqFuncA_any {A B D : Option Addr} {v : List Bool} {a b : List St.Atom} (c ca cb g q : Nat) (w : World) (h : Row w w.heap.size A (vbs v)) (ha : Row w w.heap.size B (fcells avs a)) (hb : Row w w.heap.size D (fcells avs b)) (hla : LabIn (·.l) v.length a) (hlb : LabIn (·.l) v.length b) (hn : a.length ≤ 1000000) (hg : Blk w g 80 #[.slice A v.length c]) (hq : Blk w q 63 #[.func (.func 52) #[] #[], .func (.func 53) #[] #[]]) :
    Calls Try.prog 77 #[.slice B a.length ca, .slice D b.length cb, .func (.func 78) #[] #[.pointer (some ⟨g, 0, none⟩), .pointer (some ⟨q, 0, none⟩)]] w (Tells w (Ev.alike (Ev.seenA v) a b)) := by
  by_cases hl : a.length = b.length
  · obtain ⟨res, hres⟩ : ∃ res, Ev.alike (Ev.seenA v) a b = res := ⟨_, rfl⟩
    rw [hres]
    obtain ⟨n, hna⟩ : ∃ n, a.length = n := ⟨_, rfl⟩
    have hnb : b.length = n := by omega
    have hc := fun (x y : St.Atom) hx hy W (hW : Below w.heap.size w W) => alikeA1_any x y c g q W ((h.below hW).more hW.size) hx hy (hg.below hW hg.lt) (hq.below hW hq.lt)
    have HC := Lib.hid hc
    have HRES := Lib.hid hres
    have H := Lib.hid ha
    have H' := Lib.hid hb
    have HLA := Lib.hid hla
    have HLB := Lib.hid hlb
    have HNA := Lib.hid hna
    have HNB := Lib.hid hnb
    have hn9 : n ≤ 1000000 := by omega
    rw [hna, hnb]
    have hen : ∀ args W, (callFunc 78 args).run Try.prog W = .ok (.enter 78 args) W := Try.call78
    clear hres ha hb hla hlb hna hnb hn hl h hg hq hc
    go_enter Try.func77, Try.ntmps77
    go_wp2
    go_loopw [17] (fun i wr => ∃ k : Nat, k ≤ n ∧ i = .int .i64 k ∧ Hid ((a.take k).map (Ev.seenA v) = (b.take k).map (Ev.seenA v)) ∧ Hid (Below w.heap.size w wr)) (fun i _ => n - (intOf i).toNat)
    case atStart => exact ⟨0, Nat.zero_le _, rfl, Lib.hid rfl, Lib.hid (Below.refl _ _)⟩
    case round =>
      obtain ⟨k, hk, rfl, HT, HB⟩ := hrel
      by_cases hlt : k < n
      · obtain ⟨ad, x, rfl, hxb, hx, x0, x1⟩ := arow_at (H.out.below HB.out) (show k < a.length by rw [HNA.out]; exact hlt)
        obtain ⟨bd, y, rfl, hyb, hy, y0, y1⟩ := arow_at (H'.out.below HB.out) (show k < b.length by rw [HNB.out]; exact hlt)
        have hz := HB.out.size
        have hba := (HB.out.alloc hz (.cells #[.int .i64 x.v, .int .i64 x.l] 27)).alloc (by simp; omega) (.cells #[.int .i64 y.v, .int .i64 y.l] 27)
        have hxb2 : (ad.add (k * 2)).block < wr.heap.size := by rw [add_block]; omega
        have hyb2 : (bd.add (k * 2)).block < wr.heap.size := by rw [add_block]; omega
        have hcall := HC.out x y (HLA.out x (List.mem_of_getElem? hx)) (HLB.out y (List.mem_of_getElem? hy)) _ hba
        have hnx := Ev.take_map_succ (f := Ev.seenA v) hx hy HT.out
        obtain ⟨s, hs⟩ : ∃ s, decide (Ev.seenA v x = Ev.seenA v y) = s := ⟨_, rfl⟩
        rw [hs] at hcall
        have HCALL := Lib.hid hcall
        have HBA := Lib.hid hba
        have HNX := Lib.hid hnx
        have HS := Lib.hid hs
        clear hx hy hcall hba hnx hs
        generalize x.v = xx0 at *
        generalize x.l = xx1 at *
        generalize y.v = yy0 at *
        generalize y.l = yy1 at *
        go_wp2_with (fail)
        refine HCALL.out.mono ?_
        rintro e w3 ⟨rfl, hb3⟩
        have HB3 := Lib.hid (HBA.out.trans (hb3.mono HBA.out.size))
        clear hb3 x0 x1 y0 y1
        cases s
        · have hff : res = false := by
            rw [← HRES.out]
            exact Ev.alike_no (k := k + 1) fun e => of_decide_eq_false HS.out (HNX.out.1 e)
          have HFF := Lib.hid hff
          clear hff
          go_wp2
          go_ret
          exact ⟨by rw [HFF.out]; rfl, HB3.out⟩
        · have HN2 := Lib.hid (HNX.out.2 (of_decide_eq_true HS.out))
          go_wp2
          go_roundw
          case rel => exact ⟨k + 1, by omega, by go_num, HN2, HB3⟩
          case measure => simp [intOf]; omega
      · obtain rfl : k = n := by omega
        have htt : res = true := by
          rw [← HRES.out]
          exact Ev.alike_all HNA.out HNB.out HT.out
        have HTT := Lib.hid htt
        clear htt
        go_wp2
        go_ret
        exact ⟨by rw [HTT.out]; rfl, HB.out⟩
  · rw [Ev.alike_len hl]
    generalize a.length = n at *
    generalize b.length = m at *
    have h1 : ((n : Int) != (m : Int)) = true := by rw [bne_iff_ne]; omega
    clear h ha hb hla hlb hg hq
    go_enter Try.func77, Try.ntmps77
    go_wp2
    go_ret
    exact ⟨rfl, Below.refl _ _⟩
set_option maxHeartbeats 4000000 in
theorem alikeA_any {A B D : Option Addr} {v : List Bool} {a b : List St.Atom} (c ca cb : Nat) (w : World) (h : Row w w.heap.size A (vbs v)) (ha : Row w w.heap.size B (fcells avs a)) (hb : Row w w.heap.size D (fcells avs b)) (hla : LabIn (·.l) v.length a) (hlb : LabIn (·.l) v.length b) (hn : a.length ≤ 1000000) :
    Calls Try.prog 51 #[.slice A v.length c, .slice B a.length ca, .slice D b.length cb, howA] w (Tells w (Ev.alike (Ev.seenA v) a b)) := by
  have hmf : ∀ (fn : Fn) (first cap : Array Value) (w : World), (Instr.makeFunc fn first cap).run Try.prog w = .ok (.func fn first cap) w := fun _ _ _ _ => rfl
  have hb0 := ((Below.refl w.heap.size w).alloc (Nat.le_refl _) (.cells #[.slice A v.length c] 80)).alloc (by simp) (.cells #[.func (.func 52) #[] #[], .func (.func 53) #[] #[]] 63)
  have hk0 := (Blk.new w 80 #[.slice A v.length c]).alloc (.cells #[.func (.func 52) #[] #[], .func (.func 53) #[] #[]] 63)
  have hk1 := Blk.new (w.alloc (.cells #[.slice A v.length c] 80)) 63 #[.func (.func 52) #[] #[], .func (.func 53) #[] #[]]
  rw [show (w.alloc (.cells #[.slice A v.length c] 80)).heap.size = w.heap.size + 1 by simp] at hk1
  have hcall := eqFuncA_any c ca cb w.heap.size (w.heap.size + 1) _ ((h.below hb0).more hb0.size) ((ha.below hb0).more hb0.size) ((hb.below hb0).more hb0.size) hla hlb hn hk0 hk1
  generalize Ev.alike (Ev.seenA v) a b = res at *
  generalize a.length = na at *
  generalize b.length = nb at *
  have HB0 := Lib.hid hb0
  have HC := Lib.hid hcall
  clear h ha hb hla hlb hb0 hk0 hk1 hcall
  unfold howA
  go_enter Try.func51, Try.ntmps51
  go_wp2_with (fail)
  refine HC.out.mono ?_
  rintro e w1 ⟨rfl, hb1⟩
  have HB1 := Lib.hid (HB0.out.trans (hb1.mono HB0.out.size))
  clear hb1
  go_wp2
  go_ret
  exact ⟨rfl, HB1.out⟩

/-! slots -/
theorem seeS_any {A : Option Addr} {v : List Bool} (x : St.Slot) (c : Nat) (w : World) (h : Row w w.heap.size A (vbs v)) (hl : 0 ≤ x.l ∧ x.l < v.length) :
    Calls Try.prog 85 #[.slice A v.length c, .agg #[.bool x.ret, .int .i64 x.v, .int .i64 x.l], howS] w fun e w' => e = .returned (.agg #[.bool (Ev.seenS v x).ret, .int .i64 (Ev.seenS v x).v, .int .i64 (Ev.seenS v x).l]) ∧ Below w.heap.size w w' := by
  refine (seenS_any x.ret x.v x.l c w h hl).mono ?_
  rintro e w' ⟨rfl, hb⟩
  refine ⟨?_, hb⟩
  unfold Ev.seenS Ev.leftS
  by_cases h1 : Ev.at_ v x.l = true <;> simp [h1]
set_option maxHeartbeats 4000000 in
theorem alikeS1_any {A : Option Addr} {v : List Bool} (x y : St.Slot) (c g q : Nat) (w : World) (h : Row w w.heap.size A (vbs v)) (hx : 0 ≤ x.l ∧ x.l < v.length) (hy : 0 ≤ y.l ∧ y.l < v.length) (hg : Blk w g 80 #[.slice A v.length c]) (hq : Blk w q 77 #[.func (.func 59) #[] #[], .func (.func 60) #[] #[]]) :
    Calls Try.prog 84 #[.agg #[.bool x.ret, .int .i64 x.v, .int .i64 x.l], .agg #[.bool y.ret, .int .i64 y.v, .int .i64 y.l], .pointer (some ⟨g, 0, none⟩), .pointer (some ⟨q, 0, none⟩)] w (Tells w (decide (Ev.seenS v x = Ev.seenS v y))) := by
  have hb0 := ((Below.refl w.heap.size w).alloc (Nat.le_refl _) (.cells #[.bool x.ret, .int .i64 x.v, .int .i64 x.l] 53)).alloc (by simp) (.cells #[.bool y.ret, .int .i64 y.v, .int .i64 y.l] 53)
  have hk0 := (Blk.new w 53 #[.bool x.ret, .int .i64 x.v, .int .i64 x.l]).alloc (.cells #[.bool y.ret, .int .i64 y.v, .int .i64 y.l] 53)
  have hk1 := Blk.new (w.alloc (.cells #[.bool x.ret, .int .i64 x.v, .int .i64 x.l] 53)) 53 #[.bool y.ret, .int .i64 y.v, .int .i64 y.l]
  rw [show (w.alloc (.cells #[.bool x.ret, .int .i64 x.v, .int .i64 x.l] 53)).heap.size = w.heap.size + 1 by simp] at hk1
  obtain ⟨W0, hW0⟩ : ∃ W0, (w.alloc (.cells #[.bool x.ret, .int .i64 x.v, .int .i64 x.l] 53)).alloc (.cells #[.bool y.ret, .int .i64 y.v, .int .i64 y.l] 53) = W0 := ⟨_, rfl⟩
  rw [hW0] at hb0 hk0 hk1
  have hs := fun (z : St.Slot) (hz : 0 ≤ z.l ∧ z.l < v.length) W (hb : Below W0.heap.size W0 W) => seeS_any z c W ((h.below (hb0.trans (hb.mono hb0.size))).more (Nat.le_trans hb0.size hb.size)) hz
  have HX := Lib.hid (hs x hx)
  have HY := Lib.hid (hs y hy)
  have hg0 := hg.below hb0 hg.lt
  have hq0 := hq.below hb0 hq.lt
  have heq := fun w => run_sl_eql (Ev.seenS v x) (Ev.seenS v y) w
  skip
  have HB0 := Lib.hid hb0
  clear hs h hx hy hg hq hb0
  generalize decide (Ev.seenS v x = Ev.seenS v y) = res at *
  generalize Ev.seenS v x = sx at *
  generalize Ev.seenS v y = sy at *
  have x0 : W0.cell? ⟨w.heap.size, 0, none⟩ = some (.bool x.ret) := hk0.cell 0
  have x1 : W0.cell? ⟨w.heap.size, 1, none⟩ = some (.int .i64 x.v) := hk0.cell 1
  have x2 : W0.cell? ⟨w.heap.size, 2, none⟩ = some (.int .i64 x.l) := hk0.cell 2
  have y0 : W0.cell? ⟨w.heap.size + 1, 0, none⟩ = some (.bool y.ret) := hk1.cell 0
  have y1 : W0.cell? ⟨w.heap.size + 1, 1, none⟩ = some (.int .i64 y.v) := hk1.cell 1
  have y2 : W0.cell? ⟨w.heap.size + 1, 2, none⟩ = some (.int .i64 y.l) := hk1.cell 2
  have g0 : W0.cell? ⟨g, 0, none⟩ = some (.slice A v.length c) := hg0.cell 0
  have q0 : W0.cell? ⟨q, 0, none⟩ = some (.func (.func 59) #[] #[]) := hq0.cell 0
  have q1 : W0.cell? ⟨q, 1, none⟩ = some (.func (.func 60) #[] #[]) := hq0.cell 1
  clear hk0 hk1 hg0 hq0
  unfold howS at HX HY
  go_enter Try.func84, Try.ntmps84
  go_wp2_with (fail)
  clear hW0
  have r0 := fun d os => cell_regrown x0 d os
  have r1 := fun d os => cell_regrown x1 d os
  have r2 := fun d os => cell_regrown x2 d os
  have r3 := fun d os => cell_regrown y0 d os
  have r4 := fun d os => cell_regrown y1 d os
  have r5 := fun d os => cell_regrown y2 d os
  have r6 := fun d os => cell_regrown g0 d os
  have r7 := fun d os => cell_regrown q0 d os
  have r8 := fun d os => cell_regrown q1 d os
  refine wp_region_quiet_below (by kernel_rfl) (by kernel_rfl) ?_
  repeat (quiet_step (first | (go_at_call 85; first | with_reducible exact Calls.regrown_of (HX.out _ (below_regrown _ _ _)) | with_reducible exact Calls.regrown_of (HY.out _ (below_regrown _ _ _)))))
  refine wpQuiet_nil ?_
  rintro _ ⟨⟨d9, os9⟩, rfl⟩
  have HB9 := Lib.hid (HB0.out.trans ((below_regrown W0 d9 os9).mono HB0.out.size))
  clear r0 r1 r2 r3 r4 r5 r6 r7 r8 x0 x1 x2 y0 y1 y2 g0 q0 q1
  generalize grow (redrawn W0 d9) os9 = w9 at *
  go_wp2
  go_ret
  exact ⟨rfl, HB9.out⟩
set_option maxHeartbeats 4000000 in
theorem eqFuncS_any {A B D : Option Addr} {v : List Bool} {a b : List St.Slot} (c ca cb g q : Nat) (w : World) (h : Row w w.heap.size A (vbs v)) (ha : Row w w.heap.size B (fcells svs a)) (hb : Row w w.heap.size D (fcells svs b)) (hla : LabIn (·.l) v.length a) (hlb : LabIn (·.l) v.length b) (hn : a.length ≤ 1000000) (hg : Blk w g 80 #[.slice A v.length c]) (hq : Blk w q 77 #[.func (.func 59) #[] #[], .func (.func 60) #[] #[]]) :
    Calls Try.prog 83 #[.slice B a.length ca, .slice D b.length cb, .func (.func 84) #[] #[.pointer (some ⟨g, 0, none⟩), .pointer (some ⟨q, 0, none⟩)]] w (Tells w (Ev.alike (Ev.seenS v) a b)) := by
  by_cases hl : a.length = b.length
  · obtain ⟨res, hres⟩ : ∃ res, Ev.alike (Ev.seenS v) a b = res := ⟨_, rfl⟩
    rw [hres]
    obtain ⟨n, hna⟩ : ∃ n, a.length = n := ⟨_, rfl⟩
    have hnb : b.length = n := by omega
    have hc := fun (x y : St.Slot) hx hy W (hW : Below w.heap.size w W) => alikeS1_any x y c g q W ((h.below hW).more hW.size) hx hy (hg.below hW hg.lt) (hq.below hW hq.lt)
    have HC := Lib.hid hc
    have HRES := Lib.hid hres
    have H := Lib.hid ha
    have H' := Lib.hid hb
    have HLA := Lib.hid hla
    have HLB := Lib.hid hlb
    have HNA := Lib.hid hna
    have HNB := Lib.hid hnb
    have hn9 : n ≤ 1000000 := by omega
    rw [hna, hnb]
    have hen : ∀ args W, (callFunc 84 args).run Try.prog W = .ok (.enter 84 args) W := Try.call84
    clear hres ha hb hla hlb hna hnb hn hl h hg hq hc
    go_enter Try.func83, Try.ntmps83
    go_wp2
    go_loopw [17] (fun i wr => ∃ k : Nat, k ≤ n ∧ i = .int .i64 k ∧ Hid ((a.take k).map (Ev.seenS v) = (b.take k).map (Ev.seenS v)) ∧ Hid (Below w.heap.size w wr)) (fun i _ => n - (intOf i).toNat)
    case atStart => exact ⟨0, Nat.zero_le _, rfl, Lib.hid rfl, Lib.hid (Below.refl _ _)⟩
    case round =>
      obtain ⟨k, hk, rfl, HT, HB⟩ := hrel
      by_cases hlt : k < n
      · obtain ⟨ad, x, rfl, hxb, hx, x0, x1, x2⟩ := srow_at (H.out.below HB.out) (show k < a.length by rw [HNA.out]; exact hlt)
        obtain ⟨bd, y, rfl, hyb, hy, y0, y1, y2⟩ := srow_at (H'.out.below HB.out) (show k < b.length by rw [HNB.out]; exact hlt)
        have hz := HB.out.size
        have hba := (HB.out.alloc hz (.cells #[.bool x.ret, .int .i64 x.v, .int .i64 x.l] 53)).alloc (by simp; omega) (.cells #[.bool y.ret, .int .i64 y.v, .int .i64 y.l] 53)
        have hxb2 : (ad.add (k * 3)).block < wr.heap.size := by rw [add_block]; omega
        have hyb2 : (bd.add (k * 3)).block < wr.heap.size := by rw [add_block]; omega
        have hcall := HC.out x y (HLA.out x (List.mem_of_getElem? hx)) (HLB.out y (List.mem_of_getElem? hy)) _ hba
        have hnx := Ev.take_map_succ (f := Ev.seenS v) hx hy HT.out
        obtain ⟨s, hs⟩ : ∃ s, decide (Ev.seenS v x = Ev.seenS v y) = s := ⟨_, rfl⟩
        rw [hs] at hcall
        have HCALL := Lib.hid hcall
        have HBA := Lib.hid hba
        have HNX := Lib.hid hnx
        have HS := Lib.hid hs
        clear hx hy hcall hba hnx hs
        generalize x.ret = xx0 at *
        generalize x.v = xx1 at *
        generalize x.l = xx2 at *
        generalize y.ret = yy0 at *
        generalize y.v = yy1 at *
        generalize y.l = yy2 at *
        go_wp2_with (fail)
        refine HCALL.out.mono ?_
        rintro e w3 ⟨rfl, hb3⟩
        have HB3 := Lib.hid (HBA.out.trans (hb3.mono HBA.out.size))
        clear hb3 x0 x1 x2 y0 y1 y2
        cases s
        · have hff : res = false := by
            rw [← HRES.out]
            exact Ev.alike_no (k := k + 1) fun e => of_decide_eq_false HS.out (HNX.out.1 e)
          have HFF := Lib.hid hff
          clear hff
          go_wp2
          go_ret
          exact ⟨by rw [HFF.out]; rfl, HB3.out⟩
        · have HN2 := Lib.hid (HNX.out.2 (of_decide_eq_true HS.out))
          go_wp2
          go_roundw
          case rel => exact ⟨k + 1, by omega, by go_num, HN2, HB3⟩
          case measure => simp [intOf]; omega
      · obtain rfl : k = n := by omega
        have htt : res = true := by
          rw [← HRES.out]
          exact Ev.alike_all HNA.out HNB.out HT.out
        have HTT := Lib.hid htt
        clear htt
        go_wp2
        go_ret
        exact ⟨by rw [HTT.out]; rfl, HB.out⟩
  · rw [Ev.alike_len hl]
    generalize a.length = n at *
    generalize b.length = m at *
    have h1 : ((n : Int) != (m : Int)) = true := by rw [bne_iff_ne]; omega
    clear h ha hb hla hlb hg hq
    go_enter Try.func83, Try.ntmps83
    go_wp2
    go_ret
    exact ⟨rfl, Below.refl _ _⟩
set_option maxHeartbeats 4000000 in
theorem alikeS_any {A B D : Option Addr} {v : List Bool} {a b : List St.Slot} (c ca cb : Nat) (w : World) (h : Row w w.heap.size A (vbs v)) (ha : Row w w.heap.size B (fcells svs a)) (hb : Row w w.heap.size D (fcells svs b)) (hla : LabIn (·.l) v.length a) (hlb : LabIn (·.l) v.length b) (hn : a.length ≤ 1000000) :
    Calls Try.prog 58 #[.slice A v.length c, .slice B a.length ca, .slice D b.length cb, howS] w (Tells w (Ev.alike (Ev.seenS v) a b)) := by
  have hmf : ∀ (fn : Fn) (first cap : Array Value) (w : World), (Instr.makeFunc fn first cap).run Try.prog w = .ok (.func fn first cap) w := fun _ _ _ _ => rfl
  have hb0 := ((Below.refl w.heap.size w).alloc (Nat.le_refl _) (.cells #[.slice A v.length c] 80)).alloc (by simp) (.cells #[.func (.func 59) #[] #[], .func (.func 60) #[] #[]] 77)
  have hk0 := (Blk.new w 80 #[.slice A v.length c]).alloc (.cells #[.func (.func 59) #[] #[], .func (.func 60) #[] #[]] 77)
  have hk1 := Blk.new (w.alloc (.cells #[.slice A v.length c] 80)) 77 #[.func (.func 59) #[] #[], .func (.func 60) #[] #[]]
  rw [show (w.alloc (.cells #[.slice A v.length c] 80)).heap.size = w.heap.size + 1 by simp] at hk1
  have hcall := eqFuncS_any c ca cb w.heap.size (w.heap.size + 1) _ ((h.below hb0).more hb0.size) ((ha.below hb0).more hb0.size) ((hb.below hb0).more hb0.size) hla hlb hn hk0 hk1
  generalize Ev.alike (Ev.seenS v) a b = res at *
  generalize a.length = na at *
  generalize b.length = nb at *
  have HB0 := Lib.hid hb0
  have HC := Lib.hid hcall
  clear h ha hb hla hlb hb0 hk0 hk1 hcall
  unfold howS
  go_enter Try.func58, Try.ntmps58
  go_wp2_with (fail)
  refine HC.out.mono ?_
  rintro e w1 ⟨rfl, hb1⟩
  have HB1 := Lib.hid (HB0.out.trans (hb1.mono HB0.out.size))
  clear hb1
  go_wp2
  go_ret
  exact ⟨rfl, HB1.out⟩

/-! instructions -/
theorem seeI_any {A : Option Addr} {v : List Bool} (x : Cd.In) (c : Nat) (w : World) (h : Row w w.heap.size A (vbs v)) (hl : 0 ≤ x.l ∧ x.l < v.length) :
    Calls Try.prog 82 #[.slice A v.length c, .agg #[.int .i64 x.op, .int .i64 x.n, .int .i64 x.l], howI] w fun e w' => e = .returned (.agg #[.int .i64 (Ev.seenI v x).op, .int .i64 (Ev.seenI v x).n, .int .i64 (Ev.seenI v x).l]) ∧ Below w.heap.size w w' := by
  refine (seenI_any x.op x.n x.l c w h hl).mono ?_
  rintro e w' ⟨rfl, hb⟩
  refine ⟨?_, hb⟩
  unfold Ev.seenI Ev.leftI
  by_cases h1 : Ev.at_ v x.l = true <;> by_cases h2 : x.op = 1 <;> simp [h1, h2]
set_option maxHeartbeats 4000000 in
theorem alikeI1_any {A : Option Addr} {v : List Bool} (x y : Cd.In) (c g q : Nat) (w : World) (h : Row w w.heap.size A (vbs v)) (hx : 0 ≤ x.l ∧ x.l < v.length) (hy : 0 ≤ y.l ∧ y.l < v.length) (hg : Blk w g 80 #[.slice A v.length c]) (hq : Blk w q 71 #[.func (.func 56) #[] #[], .func (.func 57) #[] #[]]) :
    Calls Try.prog 81 #[.agg #[.int .i64 x.op, .int .i64 x.n, .int .i64 x.l], .agg #[.int .i64 y.op, .int .i64 y.n, .int .i64 y.l], .pointer (some ⟨g, 0, none⟩), .pointer (some ⟨q, 0, none⟩)] w (Tells w (decide (Ev.seenI v x = Ev.seenI v y))) := by
  have hb0 := ((Below.refl w.heap.size w).alloc (Nat.le_refl _) (.cells #[.int .i64 x.op, .int .i64 x.n, .int .i64 x.l] 67)).alloc (by simp) (.cells #[.int .i64 y.op, .int .i64 y.n, .int .i64 y.l] 67)
  have hk0 := (Blk.new w 67 #[.int .i64 x.op, .int .i64 x.n, .int .i64 x.l]).alloc (.cells #[.int .i64 y.op, .int .i64 y.n, .int .i64 y.l] 67)
  have hk1 := Blk.new (w.alloc (.cells #[.int .i64 x.op, .int .i64 x.n, .int .i64 x.l] 67)) 67 #[.int .i64 y.op, .int .i64 y.n, .int .i64 y.l]
  rw [show (w.alloc (.cells #[.int .i64 x.op, .int .i64 x.n, .int .i64 x.l] 67)).heap.size = w.heap.size + 1 by simp] at hk1
  obtain ⟨W0, hW0⟩ : ∃ W0, (w.alloc (.cells #[.int .i64 x.op, .int .i64 x.n, .int .i64 x.l] 67)).alloc (.cells #[.int .i64 y.op, .int .i64 y.n, .int .i64 y.l] 67) = W0 := ⟨_, rfl⟩
  rw [hW0] at hb0 hk0 hk1
  have hs := fun (z : Cd.In) (hz : 0 ≤ z.l ∧ z.l < v.length) W (hb : Below W0.heap.size W0 W) => seeI_any z c W ((h.below (hb0.trans (hb.mono hb0.size))).more (Nat.le_trans hb0.size hb.size)) hz
  have HX := Lib.hid (hs x hx)
  have HY := Lib.hid (hs y hy)
  have hg0 := hg.below hb0 hg.lt
  have hq0 := hq.below hb0 hq.lt
  have heq := fun w => run_in_eql (Ev.seenI v x) (Ev.seenI v y) w
  unfold inv at heq
  have HB0 := Lib.hid hb0
  clear hs h hx hy hg hq hb0
  generalize decide (Ev.seenI v x = Ev.seenI v y) = res at *
  generalize Ev.seenI v x = sx at *
  generalize Ev.seenI v y = sy at *
  have x0 : W0.cell? ⟨w.heap.size, 0, none⟩ = some (.int .i64 x.op) := hk0.cell 0
  have x1 : W0.cell? ⟨w.heap.size, 1, none⟩ = some (.int .i64 x.n) := hk0.cell 1
  have x2 : W0.cell? ⟨w.heap.size, 2, none⟩ = some (.int .i64 x.l) := hk0.cell 2
  have y0 : W0.cell? ⟨w.heap.size + 1, 0, none⟩ = some (.int .i64 y.op) := hk1.cell 0
  have y1 : W0.cell? ⟨w.heap.size + 1, 1, none⟩ = some (.int .i64 y.n) := hk1.cell 1
  have y2 : W0.cell? ⟨w.heap.size + 1, 2, none⟩ = some (.int .i64 y.l) := hk1.cell 2
  have g0 : W0.cell? ⟨g, 0, none⟩ = some (.slice A v.length c) := hg0.cell 0
  have q0 : W0.cell? ⟨q, 0, none⟩ = some (.func (.func 56) #[] #[]) := hq0.cell 0
  have q1 : W0.cell? ⟨q, 1, none⟩ = some (.func (.func 57) #[] #[]) := hq0.cell 1
  clear hk0 hk1 hg0 hq0
  unfold howI at HX HY
  go_enter Try.func81, Try.ntmps81
  go_wp2_with (fail)
  clear hW0
  have r0 := fun d os => cell_regrown x0 d os
  have r1 := fun d os => cell_regrown x1 d os
  have r2 := fun d os => cell_regrown x2 d os
  have r3 := fun d os => cell_regrown y0 d os
  have r4 := fun d os => cell_regrown y1 d os
  have r5 := fun d os => cell_regrown y2 d os
  have r6 := fun d os => cell_regrown g0 d os
  have r7 := fun d os => cell_regrown q0 d os
  have r8 := fun d os => cell_regrown q1 d os
  refine wp_region_quiet_below (by kernel_rfl) (by kernel_rfl) ?_
  repeat (quiet_step (first | (go_at_call 82; first | with_reducible exact Calls.regrown_of (HX.out _ (below_regrown _ _ _)) | with_reducible exact Calls.regrown_of (HY.out _ (below_regrown _ _ _)))))
  refine wpQuiet_nil ?_
  rintro _ ⟨⟨d9, os9⟩, rfl⟩
  have HB9 := Lib.hid (HB0.out.trans ((below_regrown W0 d9 os9).mono HB0.out.size))
  clear r0 r1 r2 r3 r4 r5 r6 r7 r8 x0 x1 x2 y0 y1 y2 g0 q0 q1
  generalize grow (redrawn W0 d9) os9 = w9 at *
  go_wp2
  go_ret
  exact ⟨rfl, HB9.out⟩
set_option maxHeartbeats 4000000 in
theorem eqFuncI_any {A B D : Option Addr} {v : List Bool} {a b : List Cd.In} (c ca cb g q : Nat) (w : World) (h : Row w w.heap.size A (vbs v)) (ha : Row w w.heap.size B (icells a)) (hb : Row w w.heap.size D (icells b)) (hla : LabIn (·.l) v.length a) (hlb : LabIn (·.l) v.length b) (hn : a.length ≤ 1000000) (hg : Blk w g 80 #[.slice A v.length c]) (hq : Blk w q 71 #[.func (.func 56) #[] #[], .func (.func 57) #[] #[]]) :
    Calls Try.prog 80 #[.slice B a.length ca, .slice D b.length cb, .func (.func 81) #[] #[.pointer (some ⟨g, 0, none⟩), .pointer (some ⟨q, 0, none⟩)]] w (Tells w (Ev.alike (Ev.seenI v) a b)) := by
  by_cases hl : a.length = b.length
  · obtain ⟨res, hres⟩ : ∃ res, Ev.alike (Ev.seenI v) a b = res := ⟨_, rfl⟩
    rw [hres]
    obtain ⟨n, hna⟩ : ∃ n, a.length = n := ⟨_, rfl⟩
    have hnb : b.length = n := by omega
    have hc := fun (x y : Cd.In) hx hy W (hW : Below w.heap.size w W) => alikeI1_any x y c g q W ((h.below hW).more hW.size) hx hy (hg.below hW hg.lt) (hq.below hW hq.lt)
    have HC := Lib.hid hc
    have HRES := Lib.hid hres
    have H := Lib.hid ha
    have H' := Lib.hid hb
    have HLA := Lib.hid hla
    have HLB := Lib.hid hlb
    have HNA := Lib.hid hna
    have HNB := Lib.hid hnb
    have hn9 : n ≤ 1000000 := by omega
    rw [hna, hnb]
    have hen : ∀ args W, (callFunc 81 args).run Try.prog W = .ok (.enter 81 args) W := Try.call81
    clear hres ha hb hla hlb hna hnb hn hl h hg hq hc
    go_enter Try.func80, Try.ntmps80
    go_wp2
    go_loopw [17] (fun i wr => ∃ k : Nat, k ≤ n ∧ i = .int .i64 k ∧ Hid ((a.take k).map (Ev.seenI v) = (b.take k).map (Ev.seenI v)) ∧ Hid (Below w.heap.size w wr)) (fun i _ => n - (intOf i).toNat)
    case atStart => exact ⟨0, Nat.zero_le _, rfl, Lib.hid rfl, Lib.hid (Below.refl _ _)⟩
    case round =>
      obtain ⟨k, hk, rfl, HT, HB⟩ := hrel
      by_cases hlt : k < n
      · obtain ⟨ad, x, rfl, hxb, hx, x0, x1, x2⟩ := inrow_at (H.out.below HB.out) (show k < a.length by rw [HNA.out]; exact hlt)
        obtain ⟨bd, y, rfl, hyb, hy, y0, y1, y2⟩ := inrow_at (H'.out.below HB.out) (show k < b.length by rw [HNB.out]; exact hlt)
        have hz := HB.out.size
        have hba := (HB.out.alloc hz (.cells #[.int .i64 x.op, .int .i64 x.n, .int .i64 x.l] 67)).alloc (by simp; omega) (.cells #[.int .i64 y.op, .int .i64 y.n, .int .i64 y.l] 67)
        have hxb2 : (ad.add (k * 3)).block < wr.heap.size := by rw [add_block]; omega
        have hyb2 : (bd.add (k * 3)).block < wr.heap.size := by rw [add_block]; omega
        have hcall := HC.out x y (HLA.out x (List.mem_of_getElem? hx)) (HLB.out y (List.mem_of_getElem? hy)) _ hba
        have hnx := Ev.take_map_succ (f := Ev.seenI v) hx hy HT.out
        obtain ⟨s, hs⟩ : ∃ s, decide (Ev.seenI v x = Ev.seenI v y) = s := ⟨_, rfl⟩
        rw [hs] at hcall
        have HCALL := Lib.hid hcall
        have HBA := Lib.hid hba
        have HNX := Lib.hid hnx
        have HS := Lib.hid hs
        clear hx hy hcall hba hnx hs
        generalize x.op = xx0 at *
        generalize x.n = xx1 at *
        generalize x.l = xx2 at *
        generalize y.op = yy0 at *
        generalize y.n = yy1 at *
        generalize y.l = yy2 at *
        go_wp2_with (fail)
        refine HCALL.out.mono ?_
        rintro e w3 ⟨rfl, hb3⟩
        have HB3 := Lib.hid (HBA.out.trans (hb3.mono HBA.out.size))
        clear hb3 x0 x1 x2 y0 y1 y2
        cases s
        · have hff : res = false := by
            rw [← HRES.out]
            exact Ev.alike_no (k := k + 1) fun e => of_decide_eq_false HS.out (HNX.out.1 e)
          have HFF := Lib.hid hff
          clear hff
          go_wp2
          go_ret
          exact ⟨by rw [HFF.out]; rfl, HB3.out⟩
        · have HN2 := Lib.hid (HNX.out.2 (of_decide_eq_true HS.out))
          go_wp2
          go_roundw
          case rel => exact ⟨k + 1, by omega, by go_num, HN2, HB3⟩
          case measure => simp [intOf]; omega
      · obtain rfl : k = n := by omega
        have htt : res = true := by
          rw [← HRES.out]
          exact Ev.alike_all HNA.out HNB.out HT.out
        have HTT := Lib.hid htt
        clear htt
        go_wp2
        go_ret
        exact ⟨by rw [HTT.out]; rfl, HB.out⟩
  · rw [Ev.alike_len hl]
    generalize a.length = n at *
    generalize b.length = m at *
    have h1 : ((n : Int) != (m : Int)) = true := by rw [bne_iff_ne]; omega
    clear h ha hb hla hlb hg hq
    go_enter Try.func80, Try.ntmps80
    go_wp2
    go_ret
    exact ⟨rfl, Below.refl _ _⟩
set_option maxHeartbeats 4000000 in
theorem alikeI_any {A B D : Option Addr} {v : List Bool} {a b : List Cd.In} (c ca cb : Nat) (w : World) (h : Row w w.heap.size A (vbs v)) (ha : Row w w.heap.size B (icells a)) (hb : Row w w.heap.size D (icells b)) (hla : LabIn (·.l) v.length a) (hlb : LabIn (·.l) v.length b) (hn : a.length ≤ 1000000) :
    Calls Try.prog 55 #[.slice A v.length c, .slice B a.length ca, .slice D b.length cb, howI] w (Tells w (Ev.alike (Ev.seenI v) a b)) := by
  have hmf : ∀ (fn : Fn) (first cap : Array Value) (w : World), (Instr.makeFunc fn first cap).run Try.prog w = .ok (.func fn first cap) w := fun _ _ _ _ => rfl
  have hb0 := ((Below.refl w.heap.size w).alloc (Nat.le_refl _) (.cells #[.slice A v.length c] 80)).alloc (by simp) (.cells #[.func (.func 56) #[] #[], .func (.func 57) #[] #[]] 71)
  have hk0 := (Blk.new w 80 #[.slice A v.length c]).alloc (.cells #[.func (.func 56) #[] #[], .func (.func 57) #[] #[]] 71)
  have hk1 := Blk.new (w.alloc (.cells #[.slice A v.length c] 80)) 71 #[.func (.func 56) #[] #[], .func (.func 57) #[] #[]]
  rw [show (w.alloc (.cells #[.slice A v.length c] 80)).heap.size = w.heap.size + 1 by simp] at hk1
  have hcall := eqFuncI_any c ca cb w.heap.size (w.heap.size + 1) _ ((h.below hb0).more hb0.size) ((ha.below hb0).more hb0.size) ((hb.below hb0).more hb0.size) hla hlb hn hk0 hk1
  generalize Ev.alike (Ev.seenI v) a b = res at *
  generalize a.length = na at *
  generalize b.length = nb at *
  have HB0 := Lib.hid hb0
  have HC := Lib.hid hcall
  clear h ha hb hla hlb hb0 hk0 hk1 hcall
  unfold howI
  go_enter Try.func55, Try.ntmps55
  go_wp2_with (fail)
  refine HC.out.mono ?_
  rintro e w1 ⟨rfl, hb1⟩
  have HB1 := Lib.hid (HB0.out.trans (hb1.mono HB0.out.size))
  clear hb1
  go_wp2
  go_ret
  exact ⟨rfl, HB1.out⟩
end Go.Proofs.Ytlddglhjpiahfaa
