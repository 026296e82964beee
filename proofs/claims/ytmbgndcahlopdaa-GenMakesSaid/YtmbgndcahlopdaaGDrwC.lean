/- The walks of package draw's Right, New, and the parts of Many. -/
import Derived.Deep.RegionHeld3
import Derived.Deep.Cut
import Derived.Deep.CutRange
import Derived.Test.YtmbgndcahlopdaaGClI
import Derived.Test.YtmbgndcahlopdaaGFree
import Derived.Test.YtmbgndcahlopdaaGRulA
import Derived.Test.YtmbgndcahlopdaaGBase
import Derived.Test.YtmbgndcahlopdaaGPairs
namespace Go.Proofs.Ytmbgndcahlopdaa
set_option maxRecDepth 100000
open Go.RowKit Go.Shelf
attribute [local go_sem] Oper.semAt_some

/-- May draws be? -/
def Dr.right (n : Nat) (i : Int) (m : Nat) : Bool := decide (n ≤ 500 ∧ m ≤ 2000 ∧ 0 ≤ i)
theorem right13_any {A L : Option Addr} (n c m d : Nat) (i : Int) (w : World) : Calls Try.prog 125 #[.agg #[.slice A n c, .int .i64 i, .slice L m d]] w (Tells w (Dr.right n i m)) := by
  unfold Dr.right
  have hb := (Below.refl _ w).alloc (Nat.le_refl _) (.cells #[.slice A n c, .int .i64 i, .slice L m d] 30)
  have HB := Lib.hid hb
  clear hb
  by_cases h1 : n ≤ 500
  · by_cases h2 : m ≤ 2000
    · by_cases h3 : 0 ≤ i
      · have h4 : decide (i ≥ 0) = true := decide_eq_true h3
        rw [decide_eq_true (show n ≤ 500 ∧ m ≤ 2000 ∧ 0 ≤ i from ⟨h1, h2, h3⟩)]
        go_enter Try.func125, Try.ntmps125
        go_wp2
        go_ret
        exact ⟨rfl, HB.out⟩
      · have h4 : decide (i ≥ 0) = false := decide_eq_false h3
        rw [decide_eq_false (show ¬ (n ≤ 500 ∧ m ≤ 2000 ∧ 0 ≤ i) from fun h => h3 h.2.2)]
        go_enter Try.func125, Try.ntmps125
        go_wp2
        go_ret
        exact ⟨rfl, HB.out⟩
    · rw [decide_eq_false (show ¬ (n ≤ 500 ∧ m ≤ 2000 ∧ 0 ≤ i) from fun h => h2 h.2.1)]
      go_enter Try.func125, Try.ntmps125
      go_wp2
      go_ret
      exact ⟨rfl, HB.out⟩
  · rw [decide_eq_false (show ¬ (n ≤ 500 ∧ m ≤ 2000 ∧ 0 ≤ i) from fun h => h1 h.1)]
    go_enter Try.func125, Try.ntmps125
    go_wp2
    go_ret
    exact ⟨rfl, HB.out⟩
/-- New draws: the row's copy, from its start on. -/
def New13 (w : World) (l : List Int) (e : Ending) (w' : World) : Prop := ∃ A c, e = .returned (.agg #[.slice A l.length c, .int .i64 0, .slice none 0 0]) ∧ w'.ownsRow w.heap.size 3 1 (.slice A l.length c) l.length (ints l) ∧ Below w.heap.size w w'
theorem new13_any {A : Option Addr} (c : Nat) (l : List Int) (w : World) (h : Row w w.heap.size A (ints l)) (hl : l.length ≤ 1000000) : Calls Try.prog 14 #[.slice A l.length c] w (New13 w l) := by
  have hb := (Below.refl _ w).alloc (Nat.le_refl _) (.cells #[.slice none 0 0, .int .i64 0, .slice none 0 0] 30)
  have hk := Blk.new w 30 #[.slice none 0 0, .int .i64 0, .slice none 0 0]
  have hc := cloneI_any A c l _ ((h.below hb).more hb.size) hl
  unfold New13
  have HB := Lib.hid hb
  have HK := Lib.hid hk
  have HC := Lib.hid hc
  clear h hl hb hk hc
  unfold Cloned at HC
  generalize ints l = xs at *
  generalize l.length = n at *
  go_enter Try.func14, Try.ntmps14
  go_wp2_with (fail)
  refine HC.out.mono ?_
  rintro e w1 ⟨v, rfl, hown, hb1⟩
  obtain ⟨A', c', rfl⟩ := ownT_slice hown
  have hk1 := HK.out.below hb1 HK.out.lt
  have q0 := hk1.cell 0
  have q1 := hk1.cell 1
  have q2 := hk1.cell 2
  have f0 := hk1.frozen 0
  have f1 := hk1.frozen 1
  have f2 := hk1.frozen 2
  have hap : ∀ g, (Value.slice A' n c').ownBlock = some g → g ≠ w.heap.size := fun g hg => by
    obtain ⟨cs, hbk⟩ := own_blkD hown hg
    exact hbk.ty_neD hk1 (by decide)
  have hown2 : (((w1.setCell ⟨w.heap.size, 0, none⟩ (.slice A' n c')).setCell ⟨w.heap.size, 1, none⟩ (.int .i64 0)).setCell ⟨w.heap.size, 2, none⟩ (.slice none 0 0)).ownsRow w.heap.size 3 1 (.slice A' n c') n xs :=
    own_ofD (ownT_mono hown (by simp)) fun g hg => ((Below.heap_setCell _ _ _ g (hap g hg)).trans (Below.heap_setCell _ _ _ g (hap g hg))).trans (Below.heap_setCell _ _ _ g (hap g hg))
  have hk2 := ((hk1.set_ 0 (.slice A' n c')).set_ 1 (.int .i64 0)).set_ 2 (.slice none 0 0)
  have r0 := hk2.cell 0
  have r1 := hk2.cell 1
  have r2 := hk2.cell 2
  have HO := Lib.hid hown2
  have HB2 := Lib.hid ((((HB.out.trans (hb1.mono HB.out.size)).setCell (p := ⟨w.heap.size, 0, none⟩) (Nat.le_refl _) (.slice A' n c')).setCell (p := ⟨w.heap.size, 1, none⟩) (Nat.le_refl _) (.int .i64 0)).setCell (p := ⟨w.heap.size, 2, none⟩) (Nat.le_refl _) (.slice none 0 0))
  clear hown hown2 hb1 hap hk1 hk2
  go_wp2
  exact bodyPost_ret (v := .agg #[.slice A' n c', .int .i64 0, .slice none 0 0]) (by simp [results, Try.results14, go_sem, r0, r1, r2]) rfl ⟨A', c', rfl, HO.out, HB2.out⟩
end Go.Proofs.Ytmbgndcahlopdaa

/- The walk of package draw's Many. -/
namespace Go.Proofs.Ytmbgndcahlopdaa
set_option maxRecDepth 100000
open Go.RowKit Go.Shelf
attribute [local go_sem] Oper.semAt_some

section
variable {W : World} {g : Nat} {t : TypeId} {u0 u1 u2 : Value}
theorem n3_steps (h : Blk W g t #[u0, u1, u2]) (v0 v1 v2 : Value) : ∃ X1 X2 X3, W.setCell ⟨g, 0, none⟩ v0 = X1 ∧ X1.setCell ⟨g, 1, none⟩ v1 = X2 ∧ X2.setCell ⟨g, 2, none⟩ v2 = X3 ∧
    W.frozen? ⟨g, 0, none⟩ = false ∧ X1.frozen? ⟨g, 1, none⟩ = false ∧ X2.frozen? ⟨g, 2, none⟩ = false ∧ W.cell? ⟨g, 0, none⟩ = some u0 ∧ X1.cell? ⟨g, 1, none⟩ = some u1 ∧ X2.cell? ⟨g, 2, none⟩ = some u2 ∧
    X3.cell? ⟨g, 0, none⟩ = some v0 ∧ X3.cell? ⟨g, 1, none⟩ = some v1 ∧ X3.cell? ⟨g, 2, none⟩ = some v2 ∧
    Hid (Blk X3 g t #[v0, v1, v2]) ∧ Hid (∀ k, k ≠ g → X3.heap[k]? = W.heap[k]?) ∧ Hid (∀ B V, B ≤ g → Below B V W → Below B V X3) := by
  obtain ⟨X1, e0⟩ : ∃ X, W.setCell ⟨g, 0, none⟩ v0 = X := ⟨_, rfl⟩
  have h1 : Blk X1 g t #[v0, u1, u2] := e0 ▸ h.set_ 0 v0
  obtain ⟨X2, e1⟩ : ∃ X, X1.setCell ⟨g, 1, none⟩ v1 = X := ⟨_, rfl⟩
  have h2 : Blk X2 g t #[v0, v1, u2] := e1 ▸ h1.set_ 1 v1
  obtain ⟨X3, e2⟩ : ∃ X, X2.setCell ⟨g, 2, none⟩ v2 = X := ⟨_, rfl⟩
  have h3 : Blk X3 g t #[v0, v1, v2] := e2 ▸ h2.set_ 2 v2
  refine ⟨X1, X2, X3, e0, e1, e2, h.frozen 0, h1.frozen 1, h2.frozen 2, h.cell 0, h1.cell 1, h2.cell 2, h3.cell 0, h3.cell 1, h3.cell 2, Lib.hid h3, Lib.hid fun k hk => ?_, Lib.hid fun B V hB hb => ?_⟩
  · rw [← e2, ← e1, ← e0]
    exact ((Below.heap_setCell _ _ _ k hk).trans (Below.heap_setCell _ _ _ k hk)).trans (Below.heap_setCell _ _ _ k hk)
  · rw [← e2, ← e1, ← e0]
    exact ((hb.setCell (p := ⟨g, 0, none⟩) hB _).setCell (p := ⟨g, 1, none⟩) hB _).setCell (p := ⟨g, 2, none⟩) hB _
end
theorem drws_mk {wa WB X : World} {B B1 B2 g n m : Nat} {list log : List Int} {i : Nat} {A L : Option Addr} {c d : Nat} {zs : Array Value} (ha : wa.ownsRow B1 3 1 (.slice A n c) n (ints list)) (hwa : Below wa.heap.size wa WB) (hb : WB.ownsRow B2 3 1 (.slice L m d) m (ints log))
    (h1 : B ≤ B1) (h2 : wa.heap.size ≤ B2) (hwB : B ≤ wa.heap.size) (hg : B ≤ g) (hG : Blk WB g 30 zs) (hk : Hid (Blk X g 30 #[.slice A n c, .int .i64 (i : Int), .slice L m d])) (hh : Hid (∀ k, k ≠ g → X.heap[k]? = WB.heap[k]?)) : Drws X B g n m list log i A c L d := by
  have ha2 := ownT_below ha hwa
  have hap : ∀ g', (Value.slice A n c).ownBlock = some g' ∨ (Value.slice L m d).ownBlock = some g' → g' ≠ g := by
    rintro g' (hg' | hg')
    · obtain ⟨cs, hb'⟩ := own_blkD ha2 hg'
      exact hb'.ty_neD hG (by decide)
    · obtain ⟨cs, hb'⟩ := own_blkD hb hg'
      exact hb'.ty_neD hG (by decide)
  refine ⟨hk.out, ownT_mono (own_ofD ha2 fun g' hg' => hh.out g' (hap g' (.inl hg'))) h1, ownT_mono (own_ofD hb fun g' hg' => hh.out g' (hap g' (.inr hg'))) (Nat.le_trans hwB h2), fun g' hg' he => ?_, hg⟩
  have g1 := (ha.lt g' hg').2
  have g2 := (hb.lt g' he).1
  omega
theorem slice_from13 {L2 : Option Addr} (m q d2 : Nat) (W : World) : (Instr.slice 26 (.slice L2 (m + q) d2) (some (.int .i64 (m : Int))) none none).run Try.prog W = .ok (.slice (if d2 = m then L2 else L2.map (·.add m)) q (d2 - m)) W := by
  obtain ⟨i0, hi, hz0, hz1, hz2⟩ := info_parts Try.infoInt
  have he : Try.prog.elem 26 = 3 := by kernel_rfl
  rw [run_slice_l (P := Try.prog) W 26 L2 (m + q) d2 Try.underlying26 .i64 (m : Int) (by omega) (by omega)]
  simp [sizeOf, typeInfo, hi, hz1, sliced, he]
theorem add_add13 (a : Addr) (i j : Nat) : (a.add i).add j = a.add (i + j) := by
  unfold Addr.add
  by_cases hi : i = 0
  · subst hi; simp
  · by_cases hj : j = 0
    · subst hj; simp
    · rw [if_neg hi, if_neg hj, if_neg (by omega), Nat.add_assoc]
theorem row_from13 {W : World} {B m q d2 : Nat} {L2 : Option Addr} {log ch : List Int} (h : Row W B L2 (ints (log ++ ch))) (hm : log.length = m) (hq : ch.length = q) (hd : m + q ≤ d2) : Row W B (if d2 = m then L2 else L2.map (·.add m)) (ints ch) := fun hne => by
  have hq0 : 0 < q := by
    rw [← hq]
    cases ch with
    | nil => exact absurd rfl hne
    | cons x r => simp
  rw [if_neg (by omega)]
  obtain ⟨ad, rfl, hb, hc⟩ := h (by intro e; have := congrArg List.length e; rw [ints_length, List.length_append] at this; have h0 : ([] : List Value).length = 0 := rfl; omega)
  refine ⟨ad.add m, rfl, by rw [add_block]; exact hb, fun j u hu => ?_⟩
  rw [add_add13]
  refine hc _ _ ?_
  unfold ints at hu ⊢
  rw [List.map_append, List.getElem?_append_right (by rw [List.length_map]; omega), List.length_map, hm, Nat.add_sub_cancel_left]
  exact hu
theorem ends_le13 (list : List Int) : ∀ (k i : Nat), Dr.ends list k i ≤ max i list.length
  | 0, i => by unfold Dr.ends; omega
  | k + 1, i => by
    unfold Dr.ends
    have := ends_le13 list k (Dr.next list i)
    have h : Dr.next list i ≤ max i list.length := by unfold Dr.next; split <;> omega
    omega
/-- What Many answers, where it chooses. -/
def Many13 (w : World) (n m q : Nat) (list log ch : List Int) (i : Nat) (e : Ending) (w' : World) : Prop :=
  ∃ A c L d M f, e = .returned (.tuple #[.agg #[.slice A n c, .int .i64 (i : Int), .slice L (m + q) d], .slice M q f, .int .i64 0]) ∧ w'.ownsRow w.heap.size 3 1 (.slice A n c) n (ints list) ∧
    w'.ownsRow w.heap.size 3 1 (.slice L (m + q) d) (m + q) (ints (log ++ ch)) ∧ w'.ownsRow w.heap.size 3 1 (.slice M q f) q (ints ch) ∧ Below w.heap.size w w'
/-- What it answers, where it does not. -/
def None13 (w : World) (er : Nat) (e : Ending) (w' : World) : Prop := e = .returned (.tuple #[.agg #[.slice none 0 0, .int .i64 0, .slice none 0 0], .slice none 0 0, .int .i64 (er : Int)]) ∧ Below w.heap.size w w'
theorem many13_no {A L Q : Option Addr} (n c m d q f : Nat) (i : Int) (w : World) (hr : Dr.right n i m = false) :
    Calls Try.prog 118 #[.agg #[.slice A n c, .int .i64 i, .slice L m d], .slice Q q f] w (None13 w 1) := by
  have hk0 := (Blk.new w 30 #[.slice A n c, .int .i64 i, .slice L m d]).alloc (.cells #[.slice none 0 0, .int .i64 0, .slice none 0 0] 30)
  have hk1 := Blk.new (w.alloc (.cells #[.slice A n c, .int .i64 i, .slice L m d] 30)) 30 #[.slice none 0 0, .int .i64 0, .slice none 0 0]
  rw [World.size_alloc] at hk1
  have hb := ((Below.refl _ w).alloc (Nat.le_refl _) (.cells #[.slice A n c, .int .i64 i, .slice L m d] 30)).alloc (by simp) (.cells #[.slice none 0 0, .int .i64 0, .slice none 0 0] 30)
  have hrt := fun W => right13_any (A := A) (L := L) n c m d i W
  rw [hr] at hrt
  have q0 := hk0.cell 0
  have q1 := hk0.cell 1
  have q2 := hk0.cell 2
  have HR := Lib.hid hrt
  have HK1 := Lib.hid hk1
  have HB := Lib.hid hb
  clear hk0 hk1 hb hrt hr
  go_enter Try.func118, Try.ntmps118
  go_wp2_with (fail)
  refine (HR.out _).mono ?_
  rintro e w1 ⟨rfl, hb1⟩
  have hk2 := HK1.out.below hb1 HK1.out.lt
  obtain ⟨Y1, Y2, Y3, e0, e1, e2, f0, f1, f2, g0, g1, g2, r0, r1, r2, -, -, HYB⟩ := n3_steps hk2 (.slice none 0 0) (.int .i64 0) (.slice none 0 0)
  have HB3 := Lib.hid (HYB.out _ _ (Nat.le_succ _) (HB.out.trans (hb1.mono HB.out.size)))
  clear hk2 hb1 HYB
  go_wp2
  exact bodyPost_ret (v := .tuple #[.agg #[.slice none 0 0, .int .i64 0, .slice none 0 0], .slice none 0 0, .int .i64 1]) (by simp [results, Try.results118, go_sem, r0, r1, r2]) rfl ⟨rfl, HB3.out⟩
set_option maxHeartbeats 4000000 in
theorem many13_yes {A L Q : Option Addr} {list log bounds : List Int} (n c m d q f i : Nat) (w : World) (hA : Row w w.heap.size A (ints list)) (hL : Row w w.heap.size L (ints log)) (hQ : Row w w.heap.size Q (ints bounds)) (hn : list.length = n) (hm : log.length = m) (hq : bounds.length = q)
    (hr : Dr.right n (i : Int) m = true) (hq9 : q ≤ 1000000) (hi : i ≤ 9223372036854775807) (hbd : ∀ b ∈ bounds, b < 9223372036854775808) :
    Calls Try.prog 118 #[.agg #[.slice A n c, .int .i64 (i : Int), .slice L m d], .slice Q q f] w (fun e w' => if Dr.err bounds m = 0 then Many13 w n m q list log (Dr.chs list bounds i) (Dr.ends list q i) e w' else None13 w (Dr.err bounds m) e w') := by
  obtain ⟨er, her⟩ : ∃ er, Dr.err bounds m = er := ⟨_, rfl⟩
  rw [her]
  obtain ⟨ch, hch⟩ : ∃ ch, Dr.chs list bounds i = ch := ⟨_, rfl⟩
  obtain ⟨en, hen⟩ : ∃ en, Dr.ends list q i = en := ⟨_, rfl⟩
  rw [hch, hen]
  have HCH := Lib.hid hch
  have HEN := Lib.hid hen
  clear hch hen
  have hn9 : n ≤ 500 ∧ m ≤ 2000 ∧ 0 ≤ (i : Int) := of_decide_eq_true hr
  obtain ⟨hn9, hm9, -⟩ := hn9
  have hk0 := (Blk.new w 30 #[.slice A n c, .int .i64 (i : Int), .slice L m d]).alloc (.cells #[.slice none 0 0, .int .i64 0, .slice none 0 0] 30)
  have hk1 := Blk.new (w.alloc (.cells #[.slice A n c, .int .i64 (i : Int), .slice L m d] 30)) 30 #[.slice none 0 0, .int .i64 0, .slice none 0 0]
  rw [World.size_alloc] at hk1
  have hb := ((Below.refl _ w).alloc (Nat.le_refl _) (.cells #[.slice A n c, .int .i64 (i : Int), .slice L m d] 30)).alloc (by simp) (.cells #[.slice none 0 0, .int .i64 0, .slice none 0 0] 30)
  have hrt := fun W => right13_any (A := A) (L := L) n c m d (i : Int) W
  rw [hr] at hrt
  have hca : ∀ W, Below w.heap.size w W → Calls Try.prog 27 #[.slice A n c] W (fun e w' => ∃ A' c', e = .returned (.slice A' n c') ∧ w'.ownsRow W.heap.size 3 1 (.slice A' n c') n (ints list) ∧ Below W.heap.size W w') := fun W hW => by
    have h := cloneI_any A c list W ((hA.below hW).more hW.size) (by omega)
    rw [hn] at h
    refine h.mono ?_
    rintro e w' ⟨v, rfl, ho, hb⟩
    rw [hn] at ho
    obtain ⟨A', c', rfl⟩ := ownT_slice ho
    exact ⟨A', c', rfl, ho, hb⟩
  have hcb : ∀ W, Below w.heap.size w W → Calls Try.prog 27 #[.slice L m d] W (fun e w' => ∃ A' c', e = .returned (.slice A' m c') ∧ w'.ownsRow W.heap.size 3 1 (.slice A' m c') m (ints log) ∧ Below W.heap.size W w') := fun W hW => by
    have h := cloneI_any L d log W ((hL.below hW).more hW.size) (by omega)
    rw [hm] at h
    refine h.mono ?_
    rintro e w' ⟨v, rfl, ho, hb⟩
    rw [hm] at ho
    obtain ⟨A', c', rfl⟩ := ownT_slice ho
    exact ⟨A', c', rfl, ho, hb⟩
  have q0 := hk0.cell 0
  have q1 := hk0.cell 1
  have q2 := hk0.cell 2
  have HR := Lib.hid hrt
  have HK0 := Lib.hid hk0
  have HK1 := Lib.hid hk1
  have HB := Lib.hid hb
  have HCA := Lib.hid hca
  have HCB := Lib.hid hcb
  have HQ := Lib.hid hQ
  have HQL := Lib.hid hq
  have HBD := Lib.hid hbd
  have HER := Lib.hid her
  have HI := Lib.hid hi
  clear hk0 hk1 hb hrt hr hca hcb hA hL hQ hbd her hi hn hm hq
  go_enter Try.func118, Try.ntmps118
  go_wp2_with (fail)
  refine (HR.out _).mono ?_
  rintro e w1 ⟨rfl, hb1⟩
  have HK2 := Lib.hid (HK0.out.below hb1 HK0.out.lt)
  have HK3 := Lib.hid (HK1.out.below hb1 HK1.out.lt)
  have HBW := Lib.hid (HB.out.trans (hb1.mono HB.out.size))
  clear hb1 HK0 HK1 HB HR q0 q1 q2
  have HSK : Hid (∀ W, Below w1.heap.size w1 W → W.cell? ⟨w.heap.size, 0, none⟩ = some (.slice A n c) ∧ W.cell? ⟨w.heap.size, 1, none⟩ = some (.int .i64 (i : Int)) ∧ W.cell? ⟨w.heap.size, 2, none⟩ = some (.slice L m d)) := Lib.hid fun W hb =>
    have h1 := HK2.out.below hb HK2.out.lt
    ⟨h1.cell 0, h1.cell 1, h1.cell 2⟩
  have BR := Lib.hid (Below.refl w1.heap.size w1)
  have BD := Lib.hid ((Below.refl w1.heap.size w1).drew)
  have BDA := Lib.hid (((Below.refl w1.heap.size w1).alloc (Nat.le_refl _) (.cells #[.slice none 0 0, .int .i64 0, .slice none 0 0] 30)).drew)
  have HWB : Hid (∀ W, Below w1.heap.size w1 W → Below w.heap.size w W) := Lib.hid fun W hb => HBW.out.trans (hb.mono HBW.out.size)
  go_wp2_with (fail)
  go_cut [7] from 15 to 23 (fun bx wx => ∃ (g : Nat) (A1 L1 : Option Addr) (c1 d1 : Nat), bx = .pointer (some ⟨g, 0, none⟩) ∧ Hid (Below w1.heap.size w1 wx) ∧ Hid (Drws wx w1.heap.size g n m list log i A1 c1 L1 d1))
  case first =>
    go_region_held3 (fun W => W.cell? ⟨w.heap.size, 0, none⟩ = some (.slice A n c) ∧ W.cell? ⟨w.heap.size, 1, none⟩ = some (.int .i64 (i : Int)) ∧ W.cell? ⟨w.heap.size, 2, none⟩ = some (.slice L m d))
      (first | (refine HSK.out _ ?_; first | with_reducible exact BR.out | with_reducible exact BD.out | with_reducible exact BDA.out | with_reducible exact hA | with_reducible exact hA.alloc hA.size _ | with_reducible exact hB | with_reducible exact hAA | with_reducible exact hYY))
      (first
        | (go_at_call 27; refine (HCA.out _ (HWB.out _ ?_)).mono ?_; (first | with_reducible exact BD.out | with_reducible exact BDA.out); rintro e wa ⟨A1, c1, rfl, hoa, hba⟩; have hA : Below w1.heap.size w1 wa := (by first | with_reducible exact BD.out.trans (hba.mono BD.out.size) | with_reducible exact BDA.out.trans (hba.mono BDA.out.size)); have HOA := Lib.hid hoa; clear hoa)
        | (go_at_call 27; refine (HCB.out _ (HWB.out _ ?_)).mono ?_; (first | with_reducible exact hA | with_reducible exact hA.alloc hA.size _); rintro e wb ⟨L1, d1, rfl, hob, hbb⟩; have hB : Below w1.heap.size w1 wb := (by first | with_reducible exact hA.trans (hbb.mono hA.size) | with_reducible exact (hA.alloc hA.size _).trans (hbb.mono (hA.alloc hA.size _).size)); (first
            | (have hG := ((Blk.new w1 30 #[.slice none 0 0, .int .i64 0, .slice none 0 0]).drew.below hba (Blk.new w1 30 #[.slice none 0 0, .int .i64 0, .slice none 0 0]).drew.lt).below hbb ((Blk.new w1 30 #[.slice none 0 0, .int .i64 0, .slice none 0 0]).drew.below hba (Blk.new w1 30 #[.slice none 0 0, .int .i64 0, .slice none 0 0]).drew.lt).lt; have hAA := hB; have hsz := Nat.le_refl w1.heap.size; have hgw := hbb; have hgo := hob; have hg1 : w1.heap.size ≤ (w1.alloc (.cells #[.slice none 0 0, .int .i64 0, .slice none 0 0] 30)).drew.heap.size := BDA.out.size; have hgl := Nat.le_refl wa.heap.size; obtain ⟨Y1, Y2, Y3, e0, e1, e2, f0, f1, f2, g0, g1, g2, -, -, -, hk9, hh9, hb9⟩ := n3_steps hG (.slice A1 n c1) (.int .i64 (i : Int)) (.slice L1 m d1); have hYY : Below w1.heap.size w1 Y3 := hb9.out _ _ hsz hAA; have HD := Lib.hid (drws_mk HOA.out hgw hgo hg1 hgl hA.size hsz hG hk9 hh9); clear hk9 hh9 hb9 hgw hgo hg1 hgl hG)
            | (have hG := (Blk.new wa 30 #[.slice none 0 0, .int .i64 0, .slice none 0 0]).below hbb (Blk.new wa 30 #[.slice none 0 0, .int .i64 0, .slice none 0 0]).lt; have hAA := hB; have hsz := hA.size; have hgw : Below wa.heap.size wa wb := ((Below.refl _ wa).alloc (Nat.le_refl _) (.cells #[.slice none 0 0, .int .i64 0, .slice none 0 0] 30)).trans (hbb.mono (by simp)); have hgo := hob; have hg1 : w1.heap.size ≤ w1.drew.heap.size := BD.out.size; have hgl : wa.heap.size ≤ (wa.alloc (.cells #[.slice none 0 0, .int .i64 0, .slice none 0 0] 30)).heap.size := (by simp); obtain ⟨Y1, Y2, Y3, e0, e1, e2, f0, f1, f2, g0, g1, g2, -, -, -, hk9, hh9, hb9⟩ := n3_steps hG (.slice A1 n c1) (.int .i64 (i : Int)) (.slice L1 m d1); have hYY : Below w1.heap.size w1 Y3 := hb9.out _ _ hsz hAA; have HD := Lib.hid (drws_mk HOA.out hgw hgo hg1 hgl hA.size hsz hG hk9 hh9); clear hk9 hh9 hb9 hgw hgo hg1 hgl hG)
            | (obtain ⟨WB, hWB⟩ : ∃ WB, wb.alloc (.cells #[.slice none 0 0, .int .i64 0, .slice none 0 0] 30) = WB := ⟨_, rfl⟩; have hG : Blk WB wb.heap.size 30 #[.slice none 0 0, .int .i64 0, .slice none 0 0] := hWB ▸ Blk.new _ _ _; have hAA : Below w1.heap.size w1 WB := hWB ▸ hB.alloc hB.size _; have hsz := hB.size; have hgw : Below wa.heap.size wa WB := hWB ▸ hbb.alloc hbb.size _; have hgo := hWB ▸ hob.alloc (.cells #[.slice none 0 0, .int .i64 0, .slice none 0 0] 30); have hg1 : w1.heap.size ≤ w1.drew.heap.size := BD.out.size; have hgl := Nat.le_refl wa.heap.size; obtain ⟨Y1, Y2, Y3, e0, e1, e2, f0, f1, f2, g0, g1, g2, -, -, -, hk9, hh9, hb9⟩ := n3_steps hG (.slice A1 n c1) (.int .i64 (i : Int)) (.slice L1 m d1); have hYY : Below w1.heap.size w1 Y3 := hb9.out _ _ hsz hAA; have HD := Lib.hid (drws_mk HOA.out hgw hgo hg1 hgl hA.size hsz hG hk9 hh9); clear hk9 hh9 hb9 hgw hgo hg1 hgl hG))))
    all_goals go_wp2_with fail
    all_goals go_meet
    all_goals exact ⟨_, _, _, _, _, rfl, Lib.hid hYY, HD⟩
  case rest =>
    obtain ⟨g, A1, L1, c1, d1, rfl, HBC, HD⟩ := hcut
    have HBG := Lib.hid HD.out.bg
    have HLL := Lib.hid HD.out.len
    have HZ := Lib.hid (show w.heap.size + 2 ≤ w1.heap.size from HK3.out.lt)
    have HD0 : Hid (∃ L2 d2, Drws wc w1.heap.size g n (m + 0) list (log ++ Dr.chs list (bounds.take 0) i) (Dr.ends list 0 i) A1 c1 L2 d2) := Lib.hid ⟨L1, d1, by rw [show Dr.chs list (bounds.take 0) i = [] from rfl, List.append_nil]; exact HD.out⟩
    clear BR BD BDA HSK HD HCA HCB
    go_wp2
    go_loopw [26] (fun iv wr => ∃ k : Nat, k ≤ q ∧ m + k ≤ 2000 ∧ iv = .int .i64 k ∧ Hid (∃ L2 d2, Drws wr w1.heap.size g n (m + k) list (log ++ Dr.chs list (bounds.take k) i) (Dr.ends list k i) A1 c1 L2 d2) ∧ Hid (Below w1.heap.size w1 wr) ∧ Hid (Dr.err (bounds.drop k) (m + k) = er)) (fun iv _ => q - (intOf iv).toNat)
    case atStart => exact ⟨0, Nat.zero_le _, hm9, rfl, HD0, HBC, Lib.hid HER.out⟩
    case round =>
      obtain ⟨k, hk, hmk, rfl, HDk, HBk, HEk⟩ := hrel
      obtain ⟨L2, d2, hD⟩ := HDk.out
      clear HD0 HBC HDk
      have hk3 := HK3.out.below HBk.out HK3.out.lt
      by_cases hlt : k < q
      · obtain ⟨ad, hQA, hbq, c0⟩ := irow_at (HQ.out.below (HWB.out _ HBk.out)) (show k < bounds.length by rw [HQL.out]; exact hlt)
        have hx : bounds[k]? = some (bounds[k]'(by rw [HQL.out]; exact hlt)) := List.getElem?_eq_getElem _
        subst hQA
        generalize bounds[k]'(by rw [HQL.out]; exact hlt) = b at *
        have hst := Dr.err_step (n := m + k) hx
        rw [HEk.out] at hst
        have hcs := Dr.chs_take (list := list) (i := i) hx
        have hel := ends_le13 list k i
        rw [HLL.out] at hel
        have htk := take13_any b hD (by omega) (by have := HI.out; omega) hmk (HBD.out b (List.mem_of_getElem? hx))
        unfold Took13 at htk
        by_cases hb1 : b < 1
        · simp only [if_pos hb1] at htk
          rw [if_pos hb1] at hst
          subst hst
          obtain ⟨Y1, Y2, Y3, e0, e1, e2, f0, f1, f2, g0, g1, g2, r0, r1, r2, -, -, HYB⟩ := n3_steps hk3 (.slice none 0 0) (.int .i64 0) (.slice none 0 0)
          have HB3 := Lib.hid (HYB.out _ _ (Nat.le_succ _) (HWB.out _ HBk.out))
          have HT := Lib.hid htk
          clear htk hD hk3 hx hcs hel HYB HK2 HK3
          go_wp2_with (fail)
          refine HT.out.mono ?_
          rintro e w2 ⟨rfl, rfl⟩
          go_wp2
          exact bodyPost_ret (v := .tuple #[.agg #[.slice none 0 0, .int .i64 0, .slice none 0 0], .slice none 0 0, .int .i64 1]) (by simp [results, Try.results118, go_sem, r0, r1, r2]) rfl ⟨rfl, HB3.out⟩
        · simp only [if_neg hb1] at htk
          rw [if_neg hb1] at hst
          by_cases hm2 : m + k = 2000
          · simp only [if_pos hm2] at htk
            rw [if_pos hm2] at hst
            subst hst
            obtain ⟨Y1, Y2, Y3, e0, e1, e2, f0, f1, f2, g0, g1, g2, r0, r1, r2, -, -, HYB⟩ := n3_steps hk3 (.slice none 0 0) (.int .i64 0) (.slice none 0 0)
            have HB3 := Lib.hid (HYB.out _ _ (Nat.le_succ _) (HWB.out _ HBk.out))
            have HT := Lib.hid htk
            clear htk hD hk3 hx hcs hel HYB HK2 HK3
            go_wp2_with (fail)
            refine HT.out.mono ?_
            rintro e w2 ⟨rfl, rfl⟩
            go_wp2
            exact bodyPost_ret (v := .tuple #[.agg #[.slice none 0 0, .int .i64 0, .slice none 0 0], .slice none 0 0, .int .i64 8]) (by simp [results, Try.results118, go_sem, r0, r1, r2]) rfl ⟨rfl, HB3.out⟩
          · simp only [if_neg hm2] at htk
            rw [if_neg hm2] at hst
            have HE2 : Hid (Dr.err (bounds.drop (k + 1)) (m + (k + 1)) = er) := Lib.hid hst.symm
            have hres : ∀ w', Drws w' w1.heap.size g n (m + k + 1) list (log ++ Dr.chs list (bounds.take k) i ++ [Dr.choice list (Dr.ends list k i) b]) (Dr.next list (Dr.ends list k i)) A1 c1 = Drws w' w1.heap.size g n (m + (k + 1)) list (log ++ Dr.chs list (bounds.take (k + 1)) i) (Dr.ends list (k + 1) i) A1 c1 := fun w' => by
              rw [hcs, Dr.ends_succ, List.append_assoc, Nat.add_assoc]
            have HRS := Lib.hid hres
            have HT := Lib.hid htk
            clear htk hD hk3 hx hcs hel hst hres HK2 HK3 HER
            go_wp2_with (fail)
            refine HT.out.mono ?_
            rintro e w2 ⟨rfl, L3, d3, hD3, hb3⟩
            have HD3 : Hid (∃ L2 d2, Drws w2 w1.heap.size g n (m + (k + 1)) list (log ++ Dr.chs list (bounds.take (k + 1)) i) (Dr.ends list (k + 1) i) A1 c1 L2 d2) := Lib.hid ⟨L3, d3, by rw [← HRS.out]; exact hD3⟩
            have HB3 := Lib.hid (HBk.out.trans hb3)
            clear hD3 hb3 HRS HT HBk
            go_wp2
            go_roundw
            case rel => exact ⟨k + 1, by omega, by omega, by go_num, HD3, HB3, HE2⟩
            case measure => simp [intOf]; omega
      · obtain rfl : k = q := by omega
        have hall : bounds.take k = bounds := List.take_of_length_le (by rw [HQL.out]; exact Nat.le_refl _)
        have hez := HEk.out
        rw [List.drop_of_length_le (by rw [HQL.out]; exact Nat.le_refl _)] at hez
        obtain rfl : er = 0 := hez.symm
        rw [hall] at hD
        have hcl : (Dr.chs list bounds i).length = k := by rw [Dr.chs_length]; exact HQL.out
        have hml : log.length = m := by have h := hD.len2; rw [List.length_append, hcl] at h; omega
        rw [HCH.out] at hD hcl
        rw [HEN.out] at hD
        have hrl := ownT_row hD.lo
        have hrow := row_from13 hrl.1 hml hcl hrl.2
        have hsl := fun W => slice_from13 (L2 := L2) m k d2 W
        obtain ⟨A6, hA6⟩ : ∃ A6, (if d2 = m then L2 else L2.map (·.add m)) = A6 := ⟨_, rfl⟩
        rw [hA6] at hrow hsl
        have hcc : ∀ W, Below wr.heap.size wr W → Calls Try.prog 27 #[.slice A6 k (d2 - m)] W (fun e w' => ∃ A' c', e = .returned (.slice A' k c') ∧ w'.ownsRow W.heap.size 3 1 (.slice A' k c') k (ints ch) ∧ Below W.heap.size W w') := fun W hW => by
          have h := cloneI_any A6 (d2 - m) ch W ((hrow.below hW).more hW.size) (by omega)
          rw [hcl] at h
          refine h.mono ?_
          rintro e w' ⟨v, rfl, ho, hb⟩
          rw [hcl] at ho
          obtain ⟨A', c', rfl⟩ := ownT_slice ho
          exact ⟨A', c', rfl, ho, hb⟩
        have HCC := Lib.hid hcc
        have HS : Hid (∀ W, Below wr.heap.size wr W → W.cell? ⟨g, 0, none⟩ = some (.slice A1 n c1) ∧ W.cell? ⟨g, 1, none⟩ = some (.int .i64 (en : Int)) ∧ W.cell? ⟨g, 2, none⟩ = some (.slice L2 (m + k) d2) ∧ W.cell? ⟨w.heap.size, 2, none⟩ = some (.slice L m d)) := Lib.hid fun W hb =>
          have h1 := hD.box.below hb hD.box.lt
          have h2 := (HK2.out.below HBk.out HK2.out.lt).below hb (HK2.out.below HBk.out HK2.out.lt).lt
          ⟨h1.cell 0, h1.cell 1, h1.cell 2, h2.cell 2⟩
        have HD := Lib.hid hD
        have HK3k := Lib.hid hk3
        have HWR := Lib.hid (HWB.out _ HBk.out)
        have hs0 := HS.out wr.drew (Below.refl _ wr).drew
        have HS0 := Lib.hid hs0
        clear hall hez hcl hml hrl hrow hA6 hcc hD hk3 hs0 HK2 HK3
        go_wp2_with (fail)
        refine Free.region_seq [7, 8] [0, 2, 4] 8 (fun W' => W'.cell? ⟨g, 0, none⟩ = some (.slice A1 n c1) ∧ W'.cell? ⟨g, 1, none⟩ = some (.int .i64 (en : Int)) ∧ W'.cell? ⟨g, 2, none⟩ = some (.slice L2 (m + k) d2) ∧ W'.cell? ⟨w.heap.size, 2, none⟩ = some (.slice L m d)) (by kernel_rfl) (by kernel_rfl) (by kernel_rfl) (by kernel_rfl) (HS0.out) (fun ops hops => ?_)
        clear hops
        iterate 7
          refine Free.Seq.quiet (v := ?_) (a' := ?_) rfl rfl (fun W' hW' => ?_) ?_ ?_
          rotate_left 2
          · first | obtain ⟨s0, s1, s2, s3⟩ := hW' rfl | skip
            go_simp
            try with_reducible rfl
          · simp only [Act.put, List.setIfInBounds_toArray, List.set_cons_zero, List.set_cons_succ]
            try with_reducible rfl
        refine Free.Seq.loud_ rfl (.inl rfl) (fun K hK => ?_)
        go_simp
        refine (HCC.out wr.drew (Below.refl _ wr).drew).mono ?_
        rintro e w3 ⟨M, f3, rfl, hown3, hb3⟩
        have hb4 : Below wr.heap.size wr w3 := (Below.refl _ wr).drew.trans hb3
        have hk4 := HK3k.out.below hb4 HK3k.out.lt
        obtain ⟨Y1, Y2, Y3, e0, e1, e2, f0, f1, f2, g0, g1, g2, r0, r1, r2, -, hh9, hb9⟩ := n3_steps hk4 (.slice A1 n c1) (.int .i64 (en : Int)) (.slice L2 (m + k) d2)
        have hla := own_ofD (ownT_below HD.out.la hb4) fun g' hg' => hh9.out g' (by have := (HD.out.la.lt g' hg').1; have := HZ.out; omega)
        have hlo := own_ofD (ownT_below HD.out.lo hb4) fun g' hg' => hh9.out g' (by have := (HD.out.lo.lt g' hg').1; have := HZ.out; omega)
        have hlm := own_ofD hown3 fun g' hg' => hh9.out g' (by have h5 := (hown3.lt g' hg').1; have h6 : wr.heap.size ≤ g' := h5; have := HK3k.out.lt; omega)
        have HLA := Lib.hid (ownT_mono hla (HBW.out.size))
        have HLO := Lib.hid (ownT_mono hlo (HBW.out.size))
        have HLM := Lib.hid (ownT_mono hlm (show w.heap.size ≤ wr.drew.heap.size from HWR.out.size))
        have HBF := Lib.hid (hb9.out _ _ (Nat.le_succ _) (HWR.out.trans (hb4.mono HWR.out.size)))
        have HS3 := Lib.hid (HS.out _ hb4)
        refine hK.out _ _ rfl (fun _ => HS3.out) ?_
        clear hK K hla hlo hlm hown3 hb3 hb4 hk4 hh9 hb9
        refine Free.Seq.loud_ rfl (.inl rfl) (fun K hK => ?_)
        go_simp
        refine hK.out _ _ rfl (fun h => absurd h (by decide)) ?_
        clear hK K
        iterate 2
          refine Free.Seq.quiet (v := ?_) (a' := ?_) rfl rfl (fun W' hW' => ?_) ?_ ?_
          rotate_left 2
          · skip
            go_simp
            try with_reducible rfl
          · simp only [Act.put, List.setIfInBounds_toArray, List.set_cons_zero, List.set_cons_succ]
            try with_reducible rfl
        refine Free.Seq.nil_ ?_
        go_wp2
        exact bodyPost_ret (v := .tuple #[.agg #[.slice A1 n c1, .int .i64 (en : Int), .slice L2 (m + k) d2], .slice M k f3, .int .i64 0]) (by simp [results, Try.results118, go_sem, r0, r1, r2]) rfl ⟨A1, c1, L2, d2, M, f3, rfl, HLA.out, HLO.out, HLM.out, HBF.out⟩
end Go.Proofs.Ytmbgndcahlopdaa

/- The walk of package draw's Take; the law's alive. -/
namespace Go.Proofs.Ytmbgndcahlopdaa
set_option maxRecDepth 100000
open Go.RowKit Go.Shelf
attribute [local go_sem] Oper.semAt_some

/-- What Take answers, where it chooses. -/
def Take13 (w : World) (n m : Nat) (list log : List Int) (x : Int) (i : Nat) (e : Ending) (w' : World) : Prop :=
  ∃ A c L d, e = .returned (.tuple #[.agg #[.slice A n c, .int .i64 (i : Int), .slice L (m + 1) d], .int .i64 x, .int .i64 0]) ∧ w'.ownsRow w.heap.size 3 1 (.slice A n c) n (ints list) ∧
    w'.ownsRow w.heap.size 3 1 (.slice L (m + 1) d) (m + 1) (ints (log ++ [x])) ∧ Below w.heap.size w w'
/-- What it answers, where it does not. -/
def TakeNo13 (w : World) (er : Nat) (e : Ending) (w' : World) : Prop := e = .returned (.tuple #[.agg #[.slice none 0 0, .int .i64 0, .slice none 0 0], .int .i64 0, .int .i64 (er : Int)]) ∧ Below w.heap.size w w'
set_option maxHeartbeats 2000000 in
theorem take13_no {A L : Option Addr} (n c m d : Nat) (i b : Int) (er : Nat) (w : World) (he : er = 1 ∨ er = 8)
    (hm : ∀ W M, Below w.heap.size w W → Row W W.heap.size M (ints [b]) → Calls Try.prog 118 #[.agg #[.slice A n c, .int .i64 i, .slice L m d], .slice M 1 1] W (None13 W er)) :
    Calls Try.prog 100 #[.agg #[.slice A n c, .int .i64 i, .slice L m d], .int .i64 b] w (TakeNo13 w er) := by
  have hb := (((Below.refl _ w).alloc (Nat.le_refl _) (.cells #[.slice A n c, .int .i64 i, .slice L m d] 30)).alloc (by simp) (.cells #[.slice none 0 0, .int .i64 0, .slice none 0 0] 30)).alloc (by simp; omega) (.cells #[.int .i64 b] 3)
  have hk0 := (Blk.new w 30 #[.slice A n c, .int .i64 i, .slice L m d]).alloc (.cells #[.slice none 0 0, .int .i64 0, .slice none 0 0] 30)
  have hk1 := (Blk.new (w.alloc (.cells #[.slice A n c, .int .i64 i, .slice L m d] 30)) 30 #[.slice none 0 0, .int .i64 0, .slice none 0 0]).alloc (.cells #[.int .i64 b] 3)
  rw [World.size_alloc] at hk1
  have hr := (Blk.new ((w.alloc (.cells #[.slice A n c, .int .i64 i, .slice L m d] 30)).alloc (.cells #[.slice none 0 0, .int .i64 0, .slice none 0 0] 30)) 3 #[.int .i64 b]).row (cs := [.int .i64 b])
  have hcall := hm _ (some ⟨w.heap.size + 1 + 1, 0, none⟩) hb (by simp only [World.size_alloc] at hr ⊢; exact hr)
  have q0 := hk0.cell 0
  have q1 := hk0.cell 1
  have q2 := hk0.cell 2
  have hez : ((er : Int) != 0) = true := by rw [bne_iff_ne]; omega
  have hez2 : ¬ er = 0 := by omega
  have HC := Lib.hid hcall
  have HK1 := Lib.hid hk1
  have HB := Lib.hid hb
  clear hk0 hk1 hb hr hcall hm he
  go_enter Try.func100, Try.ntmps100
  go_wp2_with (fail)
  refine HC.out.mono ?_
  rintro e w1 ⟨rfl, hb1⟩
  have hk2 := (HK1.out.below hb1 HK1.out.lt).alloc (.cells #[.slice none 0 0, .int .i64 0, .slice none 0 0] 30)
  have hk3 := Blk.new w1 30 #[.slice none 0 0, .int .i64 0, .slice none 0 0]
  have hne : w.heap.size + 1 ≠ w1.heap.size := by have := (HK1.out.below hb1 HK1.out.lt).lt; omega
  obtain ⟨Z1, Z2, Z3, d0, d1, d2, h0, h1, h2, i0, i1, i2, j0, j1, j2, hz, hzh, hzb⟩ := n3_steps hk3 (.slice none 0 0) (.int .i64 0) (.slice none 0 0)
  have hk4 : Blk Z3 (w.heap.size + 1) 30 #[.slice none 0 0, .int .i64 0, .slice none 0 0] := (hzh.out _ hne).trans hk2
  obtain ⟨Y1, Y2, Y3, e0, e1, e2, f0, f1, f2, g0, g1, g2, r0, r1, r2, -, -, HYB⟩ := n3_steps hk4 (.slice none 0 0) (.int .i64 0) (.slice none 0 0)
  have hbw := HB.out.trans (hb1.mono HB.out.size)
  have HB3 := Lib.hid (HYB.out _ _ (Nat.le_succ _) (hzb.out _ _ hbw.size (hbw.alloc hbw.size (.cells #[.slice none 0 0, .int .i64 0, .slice none 0 0] 30))))
  clear hk2 hk3 hk4 hb1 HYB hz hzh hzb hbw hne
  go_wp2
  exact bodyPost_ret (v := .tuple #[.agg #[.slice none 0 0, .int .i64 0, .slice none 0 0], .int .i64 0, .int .i64 (er : Int)]) (by simp [results, Try.results100, go_sem, r0, r1, r2]) rfl ⟨rfl, HB3.out⟩
set_option maxHeartbeats 4000000 in
theorem take13_yes {A L : Option Addr} {list log : List Int} (n c m d i i2 : Nat) (b x : Int) (w : World)
    (hm : ∀ W M, Below w.heap.size w W → Row W W.heap.size M (ints [b]) → Calls Try.prog 118 #[.agg #[.slice A n c, .int .i64 (i : Int), .slice L m d], .slice M 1 1] W (Many13 W n m 1 list log [x] i2)) :
    Calls Try.prog 100 #[.agg #[.slice A n c, .int .i64 (i : Int), .slice L m d], .int .i64 b] w (Take13 w n m list log x i2) := by
  have hb := (((Below.refl _ w).alloc (Nat.le_refl _) (.cells #[.slice A n c, .int .i64 (i : Int), .slice L m d] 30)).alloc (by simp) (.cells #[.slice none 0 0, .int .i64 0, .slice none 0 0] 30)).alloc (by simp; omega) (.cells #[.int .i64 b] 3)
  have hk0 := (Blk.new w 30 #[.slice A n c, .int .i64 (i : Int), .slice L m d]).alloc (.cells #[.slice none 0 0, .int .i64 0, .slice none 0 0] 30)
  have hk1 := (Blk.new (w.alloc (.cells #[.slice A n c, .int .i64 (i : Int), .slice L m d] 30)) 30 #[.slice none 0 0, .int .i64 0, .slice none 0 0]).alloc (.cells #[.int .i64 b] 3)
  rw [World.size_alloc] at hk1
  have hr := (Blk.new ((w.alloc (.cells #[.slice A n c, .int .i64 (i : Int), .slice L m d] 30)).alloc (.cells #[.slice none 0 0, .int .i64 0, .slice none 0 0] 30)) 3 #[.int .i64 b]).row (cs := [.int .i64 b])
  have hcall := hm _ (some ⟨w.heap.size + 1 + 1, 0, none⟩) hb (by simp only [World.size_alloc] at hr ⊢; exact hr)
  have q0 := hk0.cell 0
  have q1 := hk0.cell 1
  have q2 := hk0.cell 2
  have HC := Lib.hid hcall
  have HK1 := Lib.hid hk1
  have HB := Lib.hid hb
  clear hk0 hk1 hb hr hcall hm
  go_enter Try.func100, Try.ntmps100
  go_wp2_with (fail)
  refine HC.out.mono ?_
  rintro e w1 ⟨A1, c1, L1, d1, M, f, rfl, hla, hlo, hlm, hb1⟩
  have hk2 := (HK1.out.below hb1 HK1.out.lt).alloc (.cells #[.slice none 0 0, .int .i64 0, .slice none 0 0] 30)
  have hk3 := Blk.new w1 30 #[.slice none 0 0, .int .i64 0, .slice none 0 0]
  have hlt := (HK1.out.below hb1 HK1.out.lt).lt
  obtain ⟨Z1, Z2, Z3, d0, d1', d2, h0, h1, h2, i0, i1, i2', j0, j1, j2, hz, hzh, hzb⟩ := n3_steps hk3 (.slice A1 n c1) (.int .i64 (i2 : Int)) (.slice L1 (m + 1) d1)
  have hbz : Below w1.heap.size w1 Z3 := hzb.out _ _ (Nat.le_refl _) ((Below.refl _ w1).alloc (Nat.le_refl _) (.cells #[.slice none 0 0, .int .i64 0, .slice none 0 0] 30))
  have hk4 : Blk Z3 (w.heap.size + 1) 30 #[.slice none 0 0, .int .i64 0, .slice none 0 0] := (hzh.out _ (by omega)).trans hk2
  obtain ⟨adM, hM, hMb, m0⟩ := irow_at ((ownT_row hlm).1.below hbz) (show 0 < [x].length by simp)
  subst hM
  have m0 : Z3.cell? adM = some (.int .i64 x) := m0
  obtain ⟨Y1, Y2, Y3, e0, e1, e2, f0, f1, f2, g0, g1, g2, r0, r1, r2, -, hyh, HYB⟩ := n3_steps hk4 (.slice A1 n c1) (.int .i64 (i2 : Int)) (.slice L1 (m + 1) d1)
  have hbw := HB.out.trans (hb1.mono HB.out.size)
  have HB3 := Lib.hid (HYB.out _ _ (Nat.le_succ _) (hbw.trans (hbz.mono hbw.size)))
  have hge := hb1.size
  simp only [World.size_alloc] at hge hla hlo hlm
  have m1 : Y3.cell? adM = some (.int .i64 x) := (World.cell?_of_block (hyh.out adM.block (by have := (hlm.lt adM.block rfl).1; omega))).trans m0
  have hA2 := own_ofD (ownT_below hla hbz) fun g' hg' => hyh.out g' (by have := (hla.lt g' hg').1; omega)
  have hL2 := own_ofD (ownT_below hlo hbz) fun g' hg' => hyh.out g' (by have := (hlo.lt g' hg').1; omega)
  have HA2 := Lib.hid (ownT_mono hA2 (show w.heap.size ≤ w.heap.size + 1 + 1 + 1 by omega))
  have HL2 := Lib.hid (ownT_mono hL2 (show w.heap.size ≤ w.heap.size + 1 + 1 + 1 by omega))
  clear hk2 hk3 hk4 hb1 HYB hz hzh hzb hbw hlt hyh hA2 hL2 hge hla hlo hlm hbz hMb
  go_wp2
  go_region
  go_wp2
  exact bodyPost_ret (v := .tuple #[.agg #[.slice A1 n c1, .int .i64 (i2 : Int), .slice L1 (m + 1) d1], .int .i64 x, .int .i64 0]) (by simp [results, Try.results100, go_sem, r0, r1, r2]) rfl ⟨A1, c1, L1, d1, rfl, HA2.out, HL2.out, HB3.out.drew⟩
end Go.Proofs.Ytmbgndcahlopdaa

/- The reference of stage 13: Right, left, log, Take, Same. -/
namespace Go.Proofs.Ytmbgndcahlopdaa
set_option maxRecDepth 100000
open Go.RowKit Go.Shelf
attribute [local go_sem] Oper.semAt_some

theorem run_append_none13 {P : Program} {w : World} {base : Nat} (t ty e : TypeId) (i : TypeInfo) (size c : Nat) (ht : P.underlying t = some (.slice e)) (hi : P.info? e = some i)
    (v : Value) (n : Nat) (xs : List Value) (hown : w.ownsRow base e size v n xs) : (Builtin.append_ #[t, t] ty #[v, .slice none 0 c]).run P w = .ok v w := by
  rcases hown.2 with ⟨rfl, rfl⟩ | ⟨g, cap, cur, rfl, _, _, hnc, _⟩
  · simp [Builtin.append_, run_underlying ht, sizeOf, typeInfo, hi, Builtin.lenOf, Builtin.firstCells]
  · simp [Builtin.append_, run_underlying ht, sizeOf, typeInfo, hi, Builtin.lenOf, Builtin.firstCells, hnc, storeCells]
/-- append of a row of numbers, without a place or with one. -/
theorem append_run13 {w : World} (base : Nat) (v : Value) (n : Nat) (l : List Int) (hown : w.ownsRow base 3 1 v n (ints l)) (A : Option Addr) (m c : Nat) (news : List Int) (hn : news.length = m) (hr : Row w w.heap.size A (ints news)) (h63 : n + m ≤ 1000000) (hbase : base ≤ w.heap.size) :
    ∃ v' w', (Builtin.append_ #[26, 26] 26 #[v, .slice A m c]).run Try.prog w = .ok v' w' ∧ w'.ownsRow base 3 1 v' (n + m) (ints (l ++ news)) ∧ Below base w w' ∧ ∀ (g : Nat) (t : TypeId) (cs : Array Value), some g ≠ v.ownBlock → Blk w g t cs → Blk w' g t cs := by
  obtain ⟨i0, hi, hz0, hz1, hz2⟩ := info_parts Try.infoInt
  cases A with
  | some ad =>
    obtain ⟨v', w', h1, h2, h3, _, h5⟩ := run_append_own_at (P := Try.prog) w base 26 26 3 i0 (.int .i64 0) 1 8 Try.underlying26 hi hz0 hz1 hz2 rfl (by decide) v n _ hown ad m c (ints news) (by rw [ints_length, hn, Nat.mul_one])
      (fun j u hu => by
        obtain ⟨ad', e, _, hc⟩ := hr (by rintro e; rw [e] at hu; simp at hu)
        injection e with e
        subst e
        exact hc j u hu) (by intro u hu; obtain ⟨x, _, rfl⟩ := List.mem_map.1 hu; rfl) (by unfold maxLen; omega) (by omega) hbase
    refine ⟨v', w', h1, by unfold ints at h2 ⊢; rw [List.map_append]; exact h2, (Below.refl base w).grown h3 hbase (fun k he => (hown.lt k he).1), fun g t cs hg hb => (h3.block g hb.lt hg).trans hb⟩
  | none =>
    have hn0 : news = [] := by
      cases news with
      | nil => rfl
      | cons y r => obtain ⟨ad, e, _⟩ := hr (by simp [ints]); cases e
    subst hn0
    subst hn
    exact ⟨v, w, run_append_none13 (P := Try.prog) (w := w) 26 26 3 i0 1 c Try.underlying26 hi v n _ hown, by simpa using hown, Below.refl _ _, fun _ _ _ _ h => h⟩
theorem rRight13_any {A L : Option Addr} (n c m d : Nat) (i : Int) (w : World) : Calls Try.prog 9 #[.agg #[.slice A n c, .int .i64 i, .slice L m d]] w (Tells w (Dr.right n i m)) := by
  unfold Dr.right
  have hb := (Below.refl _ w).alloc (Nat.le_refl _) (.cells #[.slice A n c, .int .i64 i, .slice L m d] 30)
  have HB := Lib.hid hb
  clear hb
  by_cases h1 : n ≤ 500
  · by_cases h2 : m ≤ 2000
    · by_cases h3 : 0 ≤ i
      · have h4 : decide (i ≥ 0) = true := decide_eq_true h3
        rw [decide_eq_true (show n ≤ 500 ∧ m ≤ 2000 ∧ 0 ≤ i from ⟨h1, h2, h3⟩)]
        go_enter Try.func9, Try.ntmps9
        go_wp2
        go_ret
        exact ⟨rfl, HB.out⟩
      · have h4 : decide (i ≥ 0) = false := decide_eq_false h3
        rw [decide_eq_false (show ¬ (n ≤ 500 ∧ m ≤ 2000 ∧ 0 ≤ i) from fun h => h3 h.2.2)]
        go_enter Try.func9, Try.ntmps9
        go_wp2
        go_ret
        exact ⟨rfl, HB.out⟩
    · rw [decide_eq_false (show ¬ (n ≤ 500 ∧ m ≤ 2000 ∧ 0 ≤ i) from fun h => h2 h.2.1)]
      go_enter Try.func9, Try.ntmps9
      go_wp2
      go_ret
      exact ⟨rfl, HB.out⟩
  · rw [decide_eq_false (show ¬ (n ≤ 500 ∧ m ≤ 2000 ∧ 0 ≤ i) from fun h => h1 h.1)]
    go_enter Try.func9, Try.ntmps9
    go_wp2
    go_ret
    exact ⟨rfl, HB.out⟩
theorem rLeft13_any (n b : Int) (hb : 0 < b) (hB : b < 9223372036854775808) (w : World) : Calls Try.prog 78 #[.int .i64 n, .int .i64 b] w fun e w' => e = .returned (.int .i64 (n % b)) ∧ w = w' := by
  have he := Dr.left_eq n b hb
  have h1 := Int.lt_tmod_of_pos n hb
  have h2 := Int.tmod_lt_of_pos n hb
  have hw : wrap64 (n.tmod b) = n.tmod b := by unfold wrap64; omega
  have hw2 : n.tmod b < 0 → wrap64 (n.tmod b + b) = n.tmod b + b := fun h => by unfold wrap64; omega
  have hb0 : (b == 0) = false := by rw [beq_eq_false_iff_ne]; omega
  have hb1 : ¬ b = 0 := by omega
  by_cases hn : n.tmod b < 0
  · rw [if_pos hn] at he
    have HE := Lib.hid (he.trans (hw2 hn).symm)
    have hl : decide (n.tmod b < 0) = true := decide_eq_true hn
    clear h1 h2 hw2 he hn
    go_enter Try.func78, Try.ntmps78
    go_wp2
    go_ret
    exact ⟨by rw [HE.out]; rfl, rfl⟩
  · rw [if_neg hn] at he
    have hl : decide (n.tmod b < 0) = false := decide_eq_false hn
    have HE := Lib.hid he
    clear h1 h2 hw2 he hn
    go_enter Try.func78, Try.ntmps78
    go_wp2
    go_ret
    exact ⟨by rw [HE.out]; rfl, rfl⟩
theorem rLog13_any {L : Option Addr} {log : List Int} (m d : Nat) (x : Int) (w : World) (h : Row w w.heap.size L (ints log)) (hm : log.length = m) (hm9 : m ≤ 100000) :
    Calls Try.prog 79 #[.slice L m d, .int .i64 x] w fun e w' => ∃ L' d', e = .returned (.slice L' (m + 1) d') ∧ w'.ownsRow w.heap.size 3 1 (.slice L' (m + 1) d') (m + 1) (ints (log ++ [x])) ∧ Below w.heap.size w w' := by
  have hb0 := (Below.refl _ w).alloc (Nat.le_refl _) (.cells #[] 3)
  obtain ⟨v1, W1, hrun1, hown1, hb1, -⟩ := append_run13 w.heap.size _ 0 [] (own_empty1 w 3) L m d log hm ((h.below hb0).more hb0.size) (by omega) hb0.size
  rw [Nat.zero_add, List.nil_append] at hown1
  have hb2 := hb0.trans hb1
  have hb3 := hb2.alloc hb2.size (.cells #[.int .i64 x] 3)
  have hr3 := (Blk.new W1 3 #[.int .i64 x]).row (cs := [.int .i64 x])
  obtain ⟨v2, W2, hrun2, hown2, hb4, -⟩ := append_run13 w.heap.size _ m log (hown1.alloc (.cells #[.int .i64 x] 3)) (some ⟨W1.heap.size, 0, none⟩) 1 1 [x] rfl (by simp only [World.size_alloc]; exact hr3) (by omega) hb3.size
  obtain ⟨L', d', rfl⟩ := ownT_slice hown2
  have HR1 := Lib.hid hrun1
  have HR2 := Lib.hid hrun2
  have HO := Lib.hid hown2
  have HB := Lib.hid (hb3.trans hb4)
  clear h hb0 hb1 hb2 hb3 hb4 hr3 hrun1 hrun2 hown1 hown2 hm
  go_enter Try.func79, Try.ntmps79
  go_wp2_with (at_builtin; first | (refine wpList_appD rfl _ _ 26 26 rfl _ _ rfl rfl _ _ HR1.out ?_) | (refine wpList_appD rfl _ _ 26 26 rfl _ _ rfl rfl _ _ HR2.out ?_))
  go_ret
  exact ⟨L', d', rfl, HO.out, HB.out⟩
theorem rSame13_any {A B L M : Option Addr} {l1 l2 g1 g2 : List Int} (n1 n2 m1 m2 c1 c2 d1 d2 : Nat) (i j : Int) (w : World) (hA : Row w w.heap.size A (ints l1)) (hB : Row w w.heap.size B (ints l2)) (hL : Row w w.heap.size L (ints g1)) (hM : Row w w.heap.size M (ints g2))
    (e1 : l1.length = n1) (e2 : l2.length = n2) (e3 : g1.length = m1) (e4 : g2.length = m2) (s1 : n1 ≤ 1000000) (s2 : n2 ≤ 1000000) (s3 : m1 ≤ 1000000) (s4 : m2 ≤ 1000000) :
    Calls Try.prog 11 #[.agg #[.slice A n1 c1, .int .i64 i, .slice L m1 d1], .agg #[.slice B n2 c2, .int .i64 j, .slice M m2 d2]] w (Tells w (decide (i = j ∧ l1 = l2 ∧ g1 = g2))) := by
  have hb := ((Below.refl _ w).alloc (Nat.le_refl _) (.cells #[.slice A n1 c1, .int .i64 i, .slice L m1 d1] 30)).alloc (by simp) (.cells #[.slice B n2 c2, .int .i64 j, .slice M m2 d2] 30)
  have hi1 : ∀ W, Below w.heap.size w W → Calls Try.prog 16 #[.slice A n1 c1, .slice B n2 c2] W (Tells W (decide (l1 = l2))) := fun W hW => by
    have h := rInts13_any c1 c2 W ((hA.below hW).more hW.size) ((hB.below hW).more hW.size) (by omega) (by omega)
    rwa [e1, e2] at h
  have hi2 : ∀ W, Below w.heap.size w W → Calls Try.prog 16 #[.slice L m1 d1, .slice M m2 d2] W (Tells W (decide (g1 = g2))) := fun W hW => by
    have h := rInts13_any d1 d2 W ((hL.below hW).more hW.size) ((hM.below hW).more hW.size) (by omega) (by omega)
    rwa [e3, e4] at h
  have hk0 := (Blk.new w 30 #[.slice A n1 c1, .int .i64 i, .slice L m1 d1]).alloc (.cells #[.slice B n2 c2, .int .i64 j, .slice M m2 d2] 30)
  have hk1 := Blk.new (w.alloc (.cells #[.slice A n1 c1, .int .i64 i, .slice L m1 d1] 30)) 30 #[.slice B n2 c2, .int .i64 j, .slice M m2 d2]
  rw [World.size_alloc] at hk1
  have q0 := hk0.cell 0
  have q1 := hk0.cell 1
  have p0 := hk1.cell 0
  have p1 := hk1.cell 1
  have HK0 := Lib.hid hk0
  have HK1 := Lib.hid hk1
  have HB := Lib.hid hb
  have HI1 := Lib.hid hi1
  have HI2 := Lib.hid hi2
  clear hb hk0 hk1 hi1 hi2 hA hB hL hM e1 e2 e3 e4 s1 s2 s3 s4
  by_cases h1 : i = j
  · subst h1
    have ht : (decide (i = i ∧ l1 = l2 ∧ g1 = g2)) = (decide (l1 = l2) && decide (g1 = g2)) := by simp
    rw [ht]
    generalize decide (l1 = l2) = b1 at *
    generalize decide (g1 = g2) = b2 at *
    clear ht
    cases b1
    · go_enter Try.func11, Try.ntmps11
      go_wp2_with (fail)
      refine (HI1.out _ HB.out).mono ?_
      rintro e w1 ⟨rfl, hb1⟩
      have HB1 := Lib.hid (HB.out.trans (hb1.mono HB.out.size))
      clear hb1
      go_wp2
      go_ret
      exact ⟨rfl, HB1.out⟩
    · go_enter Try.func11, Try.ntmps11
      go_wp2_with (fail)
      refine (HI1.out _ HB.out).mono ?_
      rintro e w1 ⟨rfl, hb1⟩
      have HB1 := Lib.hid (HB.out.trans (hb1.mono HB.out.size))
      have x2 := (HK0.out.below hb1 HK0.out.lt).cell 2
      have y2 := (HK1.out.below hb1 HK1.out.lt).cell 2
      clear hb1
      go_wp2_with (fail)
      refine (HI2.out _ HB1.out).mono ?_
      rintro e w2 ⟨rfl, hb2⟩
      have HB2 := Lib.hid (HB1.out.trans (hb2.mono HB1.out.size))
      clear hb2
      go_wp2
      go_ret
      exact ⟨by simp, HB2.out⟩
  · have ht : (decide (i = j ∧ l1 = l2 ∧ g1 = g2)) = false := decide_eq_false fun h => h1 h.1
    have h2 : (i == j) = false := by rw [beq_eq_false_iff_ne]; exact h1
    rw [ht]
    clear h1 ht
    go_enter Try.func11, Try.ntmps11
    go_wp2
    go_ret
    exact ⟨rfl, HB.out⟩
end Go.Proofs.Ytmbgndcahlopdaa

/- The reference's Take (by gen_drws.py). -/
namespace Go.Proofs.Ytmbgndcahlopdaa
set_option maxRecDepth 100000
open Go.RowKit Go.Shelf
attribute [local go_sem] Oper.semAt_some

theorem n6_steps13 {W : World} {g : Nat} {t : TypeId} {u0 u1 u2 u3 u4 u5 : Value} (h : Blk W g t #[u0, u1, u2, u3, u4, u5]) (v0 v1 v2 v3 v4 v5 : Value) : ∃ X1 X2 X3 X4 X5 X6, W.setCell ⟨g, 0, none⟩ v0 = X1 ∧ X1.setCell ⟨g, 1, none⟩ v1 = X2 ∧ X2.setCell ⟨g, 2, none⟩ v2 = X3 ∧ X3.setCell ⟨g, 3, none⟩ v3 = X4 ∧ X4.setCell ⟨g, 4, none⟩ v4 = X5 ∧ X5.setCell ⟨g, 5, none⟩ v5 = X6 ∧ W.frozen? ⟨g, 0, none⟩ = false ∧ X1.frozen? ⟨g, 1, none⟩ = false ∧ X2.frozen? ⟨g, 2, none⟩ = false ∧ X3.frozen? ⟨g, 3, none⟩ = false ∧ X4.frozen? ⟨g, 4, none⟩ = false ∧ X5.frozen? ⟨g, 5, none⟩ = false ∧ W.cell? ⟨g, 0, none⟩ = some u0 ∧ X1.cell? ⟨g, 1, none⟩ = some u1 ∧ X2.cell? ⟨g, 2, none⟩ = some u2 ∧ X3.cell? ⟨g, 3, none⟩ = some u3 ∧ X4.cell? ⟨g, 4, none⟩ = some u4 ∧ X5.cell? ⟨g, 5, none⟩ = some u5 ∧ X6.cell? ⟨g, 0, none⟩ = some v0 ∧ X6.cell? ⟨g, 1, none⟩ = some v1 ∧ X6.cell? ⟨g, 2, none⟩ = some v2 ∧ X6.cell? ⟨g, 3, none⟩ = some v3 ∧ X6.cell? ⟨g, 4, none⟩ = some v4 ∧ X6.cell? ⟨g, 5, none⟩ = some v5 ∧ Hid (Blk X6 g t #[v0, v1, v2, v3, v4, v5]) ∧ Hid (∀ k, k ≠ g → X6.heap[k]? = W.heap[k]?) ∧ Hid (∀ B V, B ≤ g → Below B V W → Below B V X6) := by
  have h0 := h
  obtain ⟨X1, e0⟩ : ∃ X, W.setCell ⟨g, 0, none⟩ v0 = X := ⟨_, rfl⟩
  have h1 : Blk X1 g t #[v0, u1, u2, u3, u4, u5] := e0 ▸ h0.set_ 0 v0
  obtain ⟨X2, e1⟩ : ∃ X, X1.setCell ⟨g, 1, none⟩ v1 = X := ⟨_, rfl⟩
  have h2 : Blk X2 g t #[v0, v1, u2, u3, u4, u5] := e1 ▸ h1.set_ 1 v1
  obtain ⟨X3, e2⟩ : ∃ X, X2.setCell ⟨g, 2, none⟩ v2 = X := ⟨_, rfl⟩
  have h3 : Blk X3 g t #[v0, v1, v2, u3, u4, u5] := e2 ▸ h2.set_ 2 v2
  obtain ⟨X4, e3⟩ : ∃ X, X3.setCell ⟨g, 3, none⟩ v3 = X := ⟨_, rfl⟩
  have h4 : Blk X4 g t #[v0, v1, v2, v3, u4, u5] := e3 ▸ h3.set_ 3 v3
  obtain ⟨X5, e4⟩ : ∃ X, X4.setCell ⟨g, 4, none⟩ v4 = X := ⟨_, rfl⟩
  have h5 : Blk X5 g t #[v0, v1, v2, v3, v4, u5] := e4 ▸ h4.set_ 4 v4
  obtain ⟨X6, e5⟩ : ∃ X, X5.setCell ⟨g, 5, none⟩ v5 = X := ⟨_, rfl⟩
  have h6 : Blk X6 g t #[v0, v1, v2, v3, v4, v5] := e5 ▸ h5.set_ 5 v5
  refine ⟨X1, X2, X3, X4, X5, X6, e0, e1, e2, e3, e4, e5, h0.frozen 0, h1.frozen 1, h2.frozen 2, h3.frozen 3, h4.frozen 4, h5.frozen 5, h0.cell 0, h1.cell 1, h2.cell 2, h3.cell 3, h4.cell 4, h5.cell 5, h6.cell 0, h6.cell 1, h6.cell 2, h6.cell 3, h6.cell 4, h6.cell 5, Lib.hid h6, Lib.hid fun k hk => ?_, Lib.hid fun B V hB hb => ?_⟩
  · rw [← e5, ← e4, ← e3, ← e2, ← e1, ← e0]
    exact (((((Below.heap_setCell _ _ _ k hk).trans (Below.heap_setCell _ _ _ k hk)).trans (Below.heap_setCell _ _ _ k hk)).trans (Below.heap_setCell _ _ _ k hk)).trans (Below.heap_setCell _ _ _ k hk)).trans (Below.heap_setCell _ _ _ k hk)
  · rw [← e5, ← e4, ← e3, ← e2, ← e1, ← e0]
    exact ((((((hb).setCell (p := ⟨g, 0, none⟩) hB _).setCell (p := ⟨g, 1, none⟩) hB _).setCell (p := ⟨g, 2, none⟩) hB _).setCell (p := ⟨g, 3, none⟩) hB _).setCell (p := ⟨g, 4, none⟩) hB _).setCell (p := ⟨g, 5, none⟩) hB _
/-- What the reference's Take answers, where it does not choose. -/
def RTakeNo (w : World) (er : Nat) (e : Ending) (w' : World) : Prop := e = .returned (.agg #[.slice none 0 0, .int .i64 0, .slice none 0 0, .int .i64 0, .slice none 0 0, .int .i64 (er : Int)]) ∧ Below w.heap.size w w'
/-- Where it chooses. -/
def RTake (w : World) (A : Option Addr) (n c m : Nat) (log : List Int) (x : Int) (j : Nat) (e : Ending) (w' : World) : Prop :=
  ∃ L' d', e = .returned (.agg #[.slice A n c, .int .i64 (j : Int), .slice L' (m + 1) d', .int .i64 x, .slice none 0 0, .int .i64 0]) ∧ w'.ownsRow w.heap.size 3 1 (.slice L' (m + 1) d') (m + 1) (ints (log ++ [x])) ∧ Below w.heap.size w w'
set_option maxHeartbeats 4000000 in
theorem rTake13_no {A L : Option Addr} (n c m d : Nat) (i b : Int) (w : World) (hno : ¬ (Dr.right n i m = true ∧ 1 ≤ b ∧ m ≠ 2000)) :
    Calls Try.prog 48 #[.agg #[.slice A n c, .int .i64 i, .slice L m d], .int .i64 b] w (RTakeNo w (if Dr.right n i m = true ∧ 1 ≤ b then 8 else 1)) := by
  have hb := ((Below.refl _ w).alloc (Nat.le_refl _) (.cells #[.slice A n c, .int .i64 i, .slice L m d] 30)).alloc (by simp) (.cells #[.slice none 0 0, .int .i64 0, .slice none 0 0, .int .i64 0, .slice none 0 0, .int .i64 0] 98)
  have hk0 := (Blk.new w 30 #[.slice A n c, .int .i64 i, .slice L m d]).alloc (.cells #[.slice none 0 0, .int .i64 0, .slice none 0 0, .int .i64 0, .slice none 0 0, .int .i64 0] 98)
  have hk1 := Blk.new (w.alloc (.cells #[.slice A n c, .int .i64 i, .slice L m d] 30)) 98 #[.slice none 0 0, .int .i64 0, .slice none 0 0, .int .i64 0, .slice none 0 0, .int .i64 0]
  rw [World.size_alloc] at hk1
  have hrt := fun W => rRight13_any (A := A) (L := L) n c m d i W
  have q0 := hk0.cell 0
  have q1 := hk0.cell 1
  have q2 := hk0.cell 2
  have HK0 := Lib.hid hk0
  have HK1 := Lib.hid hk1
  have HB := Lib.hid hb
  clear hk0 hk1 hb
  by_cases hr : Dr.right n i m = true
  · rw [hr] at hrt
    have HR := Lib.hid hrt
    by_cases hb1 : b < 1
    · rw [if_neg (fun h => by omega)]
      have hl : decide (b < 1) = true := decide_eq_true hb1
      clear hrt hno hr hb1
      go_enter Try.func48, Try.ntmps48
      go_wp2_with (fail)
      refine (HR.out _).mono ?_
      rintro e w1 ⟨rfl, hb1⟩
      obtain ⟨Y1, Y2, Y3, Y4, Y5, Y6, e0, e1, e2, e3, e4, e5, f0, f1, f2, f3, f4, f5, g0, g1, g2, g3, g4, g5, r0, r1, r2, r3, r4, r5, -, -, HYB⟩ := n6_steps13 (HK1.out.below hb1 HK1.out.lt) (.slice none 0 0) (.int .i64 0) (.slice none 0 0) (.int .i64 0) (.slice none 0 0) (.int .i64 1)
      have HB3 := Lib.hid (HYB.out _ _ (Nat.le_succ _) (HB.out.trans (hb1.mono HB.out.size)))
      clear hb1 HYB
      go_wp2
      exact bodyPost_ret (v := .agg #[.slice none 0 0, .int .i64 0, .slice none 0 0, .int .i64 0, .slice none 0 0, .int .i64 1]) (by simp [results, Try.results48, go_sem, r0, r1, r2, r3, r4, r5]) rfl ⟨rfl, HB3.out⟩
    · have hb2 : 1 ≤ b := by omega
      have hm2 : m = 2000 := by
        by_cases h : m = 2000
        · exact h
        · exact absurd ⟨hr, hb2, h⟩ hno
      rw [if_pos ⟨hr, hb2⟩]
      have hl : decide (b < 1) = false := decide_eq_false hb1
      clear hrt hno hr hb1 hb2
      subst hm2
      go_enter Try.func48, Try.ntmps48
      go_wp2_with (fail)
      refine (HR.out _).mono ?_
      rintro e w1 ⟨rfl, hb1⟩
      have x2 := (HK0.out.below hb1 HK0.out.lt).cell 2
      obtain ⟨Y1, Y2, Y3, Y4, Y5, Y6, e0, e1, e2, e3, e4, e5, f0, f1, f2, f3, f4, f5, g0, g1, g2, g3, g4, g5, r0, r1, r2, r3, r4, r5, -, -, HYB⟩ := n6_steps13 (HK1.out.below hb1 HK1.out.lt) (.slice none 0 0) (.int .i64 0) (.slice none 0 0) (.int .i64 0) (.slice none 0 0) (.int .i64 8)
      have HB3 := Lib.hid (HYB.out _ _ (Nat.le_succ _) (HB.out.trans (hb1.mono HB.out.size)))
      clear hb1 HYB
      go_wp2
      exact bodyPost_ret (v := .agg #[.slice none 0 0, .int .i64 0, .slice none 0 0, .int .i64 0, .slice none 0 0, .int .i64 8]) (by simp [results, Try.results48, go_sem, r0, r1, r2, r3, r4, r5]) rfl ⟨rfl, HB3.out⟩
  · rw [if_neg (fun h => hr h.1)]
    rw [Bool.not_eq_true] at hr
    rw [hr] at hrt
    have HR := Lib.hid hrt
    clear hrt hno hr
    go_enter Try.func48, Try.ntmps48
    go_wp2_with (fail)
    refine (HR.out _).mono ?_
    rintro e w1 ⟨rfl, hb1⟩
    obtain ⟨Y1, Y2, Y3, Y4, Y5, Y6, e0, e1, e2, e3, e4, e5, f0, f1, f2, f3, f4, f5, g0, g1, g2, g3, g4, g5, r0, r1, r2, r3, r4, r5, -, -, HYB⟩ := n6_steps13 (HK1.out.below hb1 HK1.out.lt) (.slice none 0 0) (.int .i64 0) (.slice none 0 0) (.int .i64 0) (.slice none 0 0) (.int .i64 1)
    have HB3 := Lib.hid (HYB.out _ _ (Nat.le_succ _) (HB.out.trans (hb1.mono HB.out.size)))
    clear hb1 HYB
    go_wp2
    exact bodyPost_ret (v := .agg #[.slice none 0 0, .int .i64 0, .slice none 0 0, .int .i64 0, .slice none 0 0, .int .i64 1]) (by simp [results, Try.results48, go_sem, r0, r1, r2, r3, r4, r5]) rfl ⟨rfl, HB3.out⟩
set_option maxHeartbeats 8000000 in
theorem rTake13_yes {A L : Option Addr} {list log : List Int} (n c m d i : Nat) (b : Int) (w : World) (hA : Row w w.heap.size A (ints list)) (hL : Row w w.heap.size L (ints log)) (hn : list.length = n) (hm : log.length = m) (hr : Dr.right n (i : Int) m = true) (hb1 : 1 ≤ b) (hm2 : m ≠ 2000) (hB : b < 9223372036854775808) :
    Calls Try.prog 48 #[.agg #[.slice A n c, .int .i64 (i : Int), .slice L m d], .int .i64 b] w (RTake w A n c m log (Dr.choice list i b) (Dr.next list i)) := by
  have hb := ((Below.refl _ w).alloc (Nat.le_refl _) (.cells #[.slice A n c, .int .i64 (i : Int), .slice L m d] 30)).alloc (by simp) (.cells #[.slice none 0 0, .int .i64 0, .slice none 0 0, .int .i64 0, .slice none 0 0, .int .i64 0] 98)
  have hk0 := (Blk.new w 30 #[.slice A n c, .int .i64 (i : Int), .slice L m d]).alloc (.cells #[.slice none 0 0, .int .i64 0, .slice none 0 0, .int .i64 0, .slice none 0 0, .int .i64 0] 98)
  have hk1 := Blk.new (w.alloc (.cells #[.slice A n c, .int .i64 (i : Int), .slice L m d] 30)) 98 #[.slice none 0 0, .int .i64 0, .slice none 0 0, .int .i64 0, .slice none 0 0, .int .i64 0]
  rw [World.size_alloc] at hk1
  have hrt := fun W => rRight13_any (A := A) (L := L) n c m d (i : Int) W
  rw [hr] at hrt
  have hn9 : n ≤ 500 ∧ m ≤ 2000 ∧ 0 ≤ (i : Int) := of_decide_eq_true hr
  obtain ⟨hn9, hm9, -⟩ := hn9
  have hlog : ∀ x W, Below w.heap.size w W → Calls Try.prog 79 #[.slice L m d, .int .i64 x] W (fun e w' => ∃ L' d', e = .returned (.slice L' (m + 1) d') ∧ w'.ownsRow W.heap.size 3 1 (.slice L' (m + 1) d') (m + 1) (ints (log ++ [x])) ∧ Below W.heap.size W w') := fun x W hW => rLog13_any m d x W ((hL.below hW).more hW.size) hm (by omega)
  have hl : decide (b < 1) = false := decide_eq_false (by omega)
  have hmz : ((m : Int) == 2000) = false := by rw [beq_eq_false_iff_ne]; omega
  have q0 := hk0.cell 0
  have q1 := hk0.cell 1
  have q2 := hk0.cell 2
  have HR := Lib.hid hrt
  have HK0 := Lib.hid hk0
  have HK1 := Lib.hid hk1
  have HB := Lib.hid hb
  by_cases hlt : i < n
  · obtain ⟨ad, hA1, hba, -⟩ := irow_at hA (show i < list.length by omega)
    have hx : list[i]? = some (list[i]'(by omega)) := List.getElem?_eq_getElem _
    have hch : Dr.choice list i b = (list[i]'(by omega)) % b := by unfold Dr.choice; rw [if_pos (by omega), List.getD_eq_getElem?_getD, hx]; rfl
    have hnx : Dr.next list i = i + 1 := by unfold Dr.next; rw [if_pos (by omega)]
    rw [hch, hnx]
    have hrow : ∀ W, Below w.heap.size w W → W.cell? (ad.add i) = some (.int .i64 (list[i]'(by omega))) := fun W hW => by
      obtain ⟨ad', e1, _, h2⟩ := irow_at (hA.below hW) (show i < list.length by omega)
      rw [hA1] at e1
      injection e1 with e1
      rw [e1]
      exact h2
    generalize list[i]'(by omega) = y at *
    obtain ⟨x, hy⟩ : ∃ x, y % b = x := ⟨_, rfl⟩
    have hleft := fun W => rLeft13_any y b (by omega) hB W
    rw [hy] at hleft ⊢
    subst hA1
    have HC := Lib.hid hleft
    have HLOG := Lib.hid (hlog x)
    have HROW := Lib.hid hrow
    clear hk0 hk1 hb hrt hr hA hL hn hm hlog hb1 hm2 hx hch hnx hleft hy hrow hB
    go_enter Try.func48, Try.ntmps48
    go_wp2_with (fail)
    refine (HR.out _).mono ?_
    rintro e w1 ⟨rfl, hb1⟩
    have hbw := HB.out.trans (hb1.mono HB.out.size)
    have hk2 := HK0.out.below hb1 HK0.out.lt
    have hk3 := HK1.out.below hb1 HK1.out.lt
    have x0 := hk2.cell 0
    have x1 := hk2.cell 1
    have x2 := hk2.cell 2
    have xf1 := hk2.frozen 1
    have cy := HROW.out w1 hbw
    obtain ⟨Wa, hWa⟩ : ∃ Wa, w1.setCell ⟨w.heap.size, 1, none⟩ (.int .i64 ((i : Int) + 1)) = Wa := ⟨_, rfl⟩
    have hk4 : Blk Wa w.heap.size 30 #[.slice (some ad) n c, .int .i64 ((i : Int) + 1), .slice L m d] := hWa ▸ hk2.set_ 1 _
    have hk5 : Blk Wa (w.heap.size + 1) 98 #[.slice none 0 0, .int .i64 0, .slice none 0 0, .int .i64 0, .slice none 0 0, .int .i64 0] := hWa ▸ hk3.other (p := ⟨w.heap.size, 1, none⟩) (by show w.heap.size ≠ _; omega) _
    have hba2 : Below w.heap.size w Wa := hWa ▸ hbw.setCell (p := ⟨w.heap.size, 1, none⟩) (Nat.le_refl _) _
    have y2 := hk4.cell 2
    have HBA := Lib.hid hba2
    have HK4 := Lib.hid hk4
    have HK5 := Lib.hid hk5
    clear hk2 hk3 hk4 hk5 hba2 hbw hb1
    go_wp2_with (fail)
    refine (HC.out _).mono ?_
    rintro e w2 ⟨rfl, rfl⟩
    go_wp2_with (fail)
    refine (HLOG.out _ HBA.out).mono ?_
    rintro e w3 ⟨L', d', rfl, hown, hb3⟩
    have hk6 := HK4.out.below hb3 HK4.out.lt
    have hk7 := HK5.out.below hb3 HK5.out.lt
    have z2 := hk6.cell 2
    have zf2 := hk6.frozen 2
    obtain ⟨Wb, hWb⟩ : ∃ Wb, w3.setCell ⟨w.heap.size, 2, none⟩ (.slice L' (m + 1) d') = Wb := ⟨_, rfl⟩
    have hk8 : Blk Wb w.heap.size 30 #[.slice (some ad) n c, .int .i64 ((i : Int) + 1), .slice L' (m + 1) d'] := hWb ▸ hk6.set_ 2 _
    have hk9 : Blk Wb (w.heap.size + 1) 98 #[.slice none 0 0, .int .i64 0, .slice none 0 0, .int .i64 0, .slice none 0 0, .int .i64 0] := hWb ▸ hk7.other (p := ⟨w.heap.size, 2, none⟩) (by show w.heap.size ≠ _; omega) _
    have hbb : Below w.heap.size w Wb := hWb ▸ (HBA.out.trans (hb3.mono HBA.out.size)).setCell (p := ⟨w.heap.size, 2, none⟩) (Nat.le_refl _) _
    have u0 := hk8.cell 0
    have u1 := hk8.cell 1
    have u2 := hk8.cell 2
    obtain ⟨Y1, Y2, Y3, Y4, Y5, Y6, e0, e1, e2, e3, e4, e5, f0, f1, f2, f3, f4, f5, g0, g1, g2, g3, g4, g5, r0, r1, r2, r3, r4, r5, -, hyh, HYB⟩ := n6_steps13 hk9 (.slice (some ad) n c) (.int .i64 ((i : Int) + 1)) (.slice L' (m + 1) d') (.int .i64 x) (.slice none 0 0) (.int .i64 0)
    have HBF := Lib.hid (HYB.out _ _ (Nat.le_succ _) hbb)
    have hlo := own_ofD hown fun g' hg' => (hyh.out g' (by have h8 := (hown.lt g' hg').1; have h9 := HK5.out.lt; omega)).trans (show Wb.heap[g']? = w3.heap[g']? from hWb ▸ Below.heap_setCell w3 _ _ g' (by show g' ≠ w.heap.size; have h8 := (hown.lt g' hg').1; have h9 := HK4.out.lt; omega))
    have HLO := Lib.hid (ownT_mono hlo HBA.out.size)
    clear hk6 hk7 hk8 hk9 hbb hyh HYB hlo hown hb3
    go_wp2
    exact bodyPost_ret (v := .agg #[.slice (some ad) n c, .int .i64 ((i : Int) + 1), .slice L' (m + 1) d', .int .i64 x, .slice none 0 0, .int .i64 0]) (by simp [results, Try.results48, go_sem, r0, r1, r2, r3, r4, r5]) rfl ⟨L', d', rfl, HLO.out, HBF.out⟩
  · have hch : Dr.choice list i b = 0 := by unfold Dr.choice; rw [if_neg (by omega)]
    have hnx : Dr.next list i = i := by unfold Dr.next; rw [if_neg (by omega)]
    rw [hch, hnx]
    have HLOG := Lib.hid (hlog 0)
    clear hk0 hk1 hb hrt hr hA hL hn hm hlog hb1 hm2 hch hnx hB
    go_enter Try.func48, Try.ntmps48
    go_wp2_with (fail)
    refine (HR.out _).mono ?_
    rintro e w1 ⟨rfl, hb1⟩
    have hbw := HB.out.trans (hb1.mono HB.out.size)
    have hk2 := HK0.out.below hb1 HK0.out.lt
    have hk3 := HK1.out.below hb1 HK1.out.lt
    have x0 := hk2.cell 0
    have x1 := hk2.cell 1
    have x2 := hk2.cell 2
    have HBA := Lib.hid hbw
    have HK4 := Lib.hid hk2
    have HK5 := Lib.hid hk3
    clear hk2 hk3 hbw hb1
    go_wp2_with (fail)
    refine (HLOG.out _ HBA.out).mono ?_
    rintro e w3 ⟨L', d', rfl, hown, hb3⟩
    have hk6 := HK4.out.below hb3 HK4.out.lt
    have hk7 := HK5.out.below hb3 HK5.out.lt
    have z2 := hk6.cell 2
    have zf2 := hk6.frozen 2
    obtain ⟨Wb, hWb⟩ : ∃ Wb, w3.setCell ⟨w.heap.size, 2, none⟩ (.slice L' (m + 1) d') = Wb := ⟨_, rfl⟩
    have hk8 : Blk Wb w.heap.size 30 #[.slice A n c, .int .i64 (i : Int), .slice L' (m + 1) d'] := hWb ▸ hk6.set_ 2 _
    have hk9 : Blk Wb (w.heap.size + 1) 98 #[.slice none 0 0, .int .i64 0, .slice none 0 0, .int .i64 0, .slice none 0 0, .int .i64 0] := hWb ▸ hk7.other (p := ⟨w.heap.size, 2, none⟩) (by show w.heap.size ≠ _; omega) _
    have hbb : Below w.heap.size w Wb := hWb ▸ (HBA.out.trans (hb3.mono HBA.out.size)).setCell (p := ⟨w.heap.size, 2, none⟩) (Nat.le_refl _) _
    have u0 := hk8.cell 0
    have u1 := hk8.cell 1
    have u2 := hk8.cell 2
    obtain ⟨Y1, Y2, Y3, Y4, Y5, Y6, e0, e1, e2, e3, e4, e5, f0, f1, f2, f3, f4, f5, g0, g1, g2, g3, g4, g5, r0, r1, r2, r3, r4, r5, -, hyh, HYB⟩ := n6_steps13 hk9 (.slice A n c) (.int .i64 (i : Int)) (.slice L' (m + 1) d') (.int .i64 0) (.slice none 0 0) (.int .i64 0)
    have HBF := Lib.hid (HYB.out _ _ (Nat.le_succ _) hbb)
    have hlo := own_ofD hown fun g' hg' => (hyh.out g' (by have h8 := (hown.lt g' hg').1; have h9 := HK5.out.lt; omega)).trans (show Wb.heap[g']? = w3.heap[g']? from hWb ▸ Below.heap_setCell w3 _ _ g' (by show g' ≠ w.heap.size; have h8 := (hown.lt g' hg').1; have h9 := HK4.out.lt; omega))
    have HLO := Lib.hid (ownT_mono hlo HBA.out.size)
    clear hk6 hk7 hk8 hk9 hbb hyh HYB hlo hown hb3
    go_wp2
    exact bodyPost_ret (v := .agg #[.slice A n c, .int .i64 (i : Int), .slice L' (m + 1) d', .int .i64 0, .slice none 0 0, .int .i64 0]) (by simp [results, Try.results48, go_sem, r0, r1, r2, r3, r4, r5]) rfl ⟨L', d', rfl, HLO.out, HBF.out⟩
end Go.Proofs.Ytmbgndcahlopdaa

/- The reference of stage 14: Sum, Weights, Picks, Made, Least, Unsigned. -/
namespace Go.Proofs.Ytmbgndcahlopdaa
set_option maxRecDepth 100000
open Go.RowKit Go.Shelf
attribute [local go_sem] Oper.semAt_some

theorem rSum14_any {A : Option Addr} {l : List Int} (n c : Nat) (w : World) (h : Row w w.heap.size A (ints l)) (hn : l.length = n) (hg : Pk.good l = true) (hl : n ≤ 1000) :
    Calls Try.prog 77 #[.slice A n c] w fun e w' => e = .returned (.int .i64 (Pk.sum l)) ∧ w = w' := by
  have H := Lib.hid h
  have HN := Lib.hid hn
  have HG := Lib.hid hg
  clear h hn hg
  go_enter Try.func77, Try.ntmps77
  go_wp2
  go_loopw [3, 8] (fun s i wr => ∃ (k : Nat), k ≤ n ∧ i = .int .i64 k ∧ s = .int .i64 (Pk.sum (l.take k)) ∧ wr = w) (fun _ i _ => n - (intOf i).toNat)
  case atStart => exact ⟨0, Nat.zero_le _, rfl, rfl, rfl⟩
  case round =>
    obtain ⟨k, hk, rfl, rfl, hwr⟩ := hrel
    obtain rfl := hwr.symm
    by_cases hlt : k < n
    · obtain ⟨ad, hA, hb, c0⟩ := irow_at H.out (show k < l.length by rw [HN.out]; exact hlt)
      have hx : l[k]? = some (l[k]'(by rw [HN.out]; exact hlt)) := List.getElem?_eq_getElem _
      subst hA
      have hgx := Pk.good_of HG.out (List.mem_of_getElem? hx)
      generalize l[k]'(by rw [HN.out]; exact hlt) = x at *
      have hs := Pk.sum_step hx
      have h0 := Pk.sum_low (Pk.good_take HG.out k)
      rw [List.length_take, HN.out] at h0
      obtain ⟨s0, hs0⟩ : ∃ s0, Pk.sum (l.take k) = s0 := ⟨_, rfl⟩
      rw [hs0] at hs h0 ⊢
      have hw : wrap64 (s0 + x) = s0 + x := by unfold wrap64; omega
      have HS := Lib.hid hs
      clear hx hgx hs h0 hs0
      go_wp2
      go_roundw
      case rel => exact ⟨k + 1, by omega, by go_num, by rw [HS.out, hw], trivial⟩
      case measure => simp [intOf]; omega
    · obtain rfl : k = n := by omega
      have hall : l.take k = l := List.take_of_length_le (by rw [HN.out]; exact Nat.le_refl _)
      rw [hall]
      clear hall
      go_wp2
      go_ret
      exact ⟨rfl, rfl⟩
theorem rWeights14_any {A : Option Addr} {l : List Int} (n c : Nat) (w : World) (h : Row w w.heap.size A (ints l)) (hn : l.length = n) (hn9 : n ≤ 1000000) :
    Calls Try.prog 46 #[.slice A n c] w fun e w' => e = .returned (.bool (Pk.right l)) ∧ w = w' := by
  obtain ⟨res, hres⟩ : ∃ res, Pk.right l = res := ⟨_, rfl⟩
  rw [hres]
  have hsum := fun (hg : Pk.good l = true) (hl : n ≤ 1000) => rSum14_any (A := A) n c w h hn hg hl
  have H := Lib.hid h
  have HN := Lib.hid hn
  have HRES := Lib.hid hres
  have HSUM := Lib.hid hsum
  clear h hn hres hsum
  go_enter Try.func46, Try.ntmps46
  go_wp2
  go_loopw [7] (fun i wr => ∃ (k : Nat), k ≤ n ∧ i = .int .i64 k ∧ Hid (Pk.good (l.take k) = true) ∧ wr = w) (fun i _ => n - (intOf i).toNat)
  case atStart => exact ⟨0, Nat.zero_le _, rfl, Lib.hid rfl, rfl⟩
  case round =>
    obtain ⟨k, hk, rfl, HK, hwr⟩ := hrel
    obtain rfl := hwr.symm
    by_cases hlt : k < n
    · obtain ⟨ad, hA, hb, c0⟩ := irow_at H.out (show k < l.length by rw [HN.out]; exact hlt)
      have hx : l[k]? = some (l[k]'(by rw [HN.out]; exact hlt)) := List.getElem?_eq_getElem _
      subst hA
      generalize l[k]'(by rw [HN.out]; exact hlt) = x at *
      by_cases hgx : 0 ≤ x ∧ x ≤ 100
      · have HK2 : Hid (Pk.good (l.take (k + 1)) = true) := Lib.hid (by
          rw [List.take_add_one, hx, Option.toList_some]
          unfold Pk.good at *
          rw [List.all_append, HK.out]
          simp
          exact hgx)
        have h1 : decide (x < 0) = false := decide_eq_false (by omega)
        have h2 : decide (x > 100) = false := decide_eq_false (by omega)
        clear hx hgx
        go_wp2
        go_roundw
        case rel => exact ⟨k + 1, by omega, by go_num, HK2, trivial⟩
        case measure => simp [intOf]; omega
      · have hbad : res = false := by
          rw [← HRES.out]
          by_cases e : Pk.right l = true
          · exact absurd (Pk.good_of (Pk.right_good e).1 (List.mem_of_getElem? hx)) hgx
          · simpa using e
        have HBAD := Lib.hid hbad
        clear hx hbad
        by_cases h0 : x < 0
        · have h1 : decide (x < 0) = true := decide_eq_true h0
          clear hgx h0
          go_wp2
          go_ret
          exact ⟨by rw [HBAD.out]; rfl, rfl⟩
        · have h1 : decide (x < 0) = false := decide_eq_false h0
          have h2 : decide (x > 100) = true := decide_eq_true (by omega)
          clear hgx h0
          go_wp2
          go_ret
          exact ⟨by rw [HBAD.out]; rfl, rfl⟩
    · obtain rfl : k = n := by omega
      have hg : Pk.good l = true := by
        have h := HK.out
        rwa [List.take_of_length_le (by rw [HN.out]; exact Nat.le_refl _)] at h
      have hr : res = decide (1 ≤ k ∧ k ≤ 20 ∧ 0 < Pk.sum l) := by
        rw [← HRES.out]
        unfold Pk.right
        rw [hg, HN.out, Bool.true_and]
      have HR := Lib.hid hr
      have HG := Lib.hid hg
      clear hg hr
      by_cases h1 : 1 ≤ k
      · by_cases h2 : k ≤ 20
        · have hsm := HSUM.out HG.out (by omega)
          obtain ⟨s, hs⟩ : ∃ s, Pk.sum l = s := ⟨_, rfl⟩
          rw [hs] at hsm
          have HS := Lib.hid hsm
          have HSE := Lib.hid hs
          clear hsm hs
          by_cases h3 : 0 < s
          · have h4 : decide (s > 0) = true := decide_eq_true h3
            have htt : res = true := by rw [HR.out, HSE.out]; exact decide_eq_true ⟨h1, h2, h3⟩
            have HTT := Lib.hid htt
            clear htt
            go_wp2_with (fail)
            refine HS.out.mono ?_
            rintro e w1 ⟨rfl, rfl⟩
            go_wp2
            go_ret
            exact ⟨by rw [HTT.out]; rfl, rfl⟩
          · have h4 : decide (s > 0) = false := decide_eq_false h3
            have htt : res = false := by rw [HR.out, HSE.out]; exact decide_eq_false fun h => h3 h.2.2
            have HTT := Lib.hid htt
            clear htt
            go_wp2_with (fail)
            refine HS.out.mono ?_
            rintro e w1 ⟨rfl, rfl⟩
            go_wp2
            go_ret
            exact ⟨by rw [HTT.out]; rfl, rfl⟩
        · have htt : res = false := by rw [HR.out]; exact decide_eq_false fun h => h2 h.2.1
          have HTT := Lib.hid htt
          clear htt
          go_wp2
          go_ret
          exact ⟨by rw [HTT.out]; rfl, rfl⟩
      · have htt : res = false := by rw [HR.out]; exact decide_eq_false fun h => h1 h.1
        have HTT := Lib.hid htt
        clear htt
        go_wp2
        go_ret
        exact ⟨by rw [HTT.out]; rfl, rfl⟩
theorem rPicks14_any {A : Option Addr} {l : List Int} (n c : Nat) (v : Int) (w : World) (h : Row w w.heap.size A (ints l)) (hn : l.length = n) (hg : Pk.good l = true) (hl : n ≤ 1000) (hc : n ≤ c) :
    Calls Try.prog 80 #[.slice A n c, .int .i64 v] w fun e w' => e = .returned (.int .i64 (Pk.picks l v : Nat)) ∧ w = w' := by
  have hsum : ∀ k, k < n → Calls Try.prog 77 #[.slice A (k + 1) c] w (fun e w' => e = .returned (.int .i64 (Pk.sum (l.take (k + 1)))) ∧ w = w') := fun k hk => by
    have h2 := h.take (k + 1)
    refine rSum14_any (k + 1) c w ?_ (by rw [List.length_take]; omega) (Pk.good_take hg _) (by omega)
    unfold ints at h2 ⊢
    rwa [List.map_take]
  have HN := Lib.hid hn
  have HSUM := Lib.hid hsum
  clear h hn hg hsum
  go_enter Try.func80, Try.ntmps80
  go_wp2
  go_loopw [8] (fun i wr => ∃ (k : Nat), k ≤ n ∧ i = .int .i64 k ∧ Hid (∀ j, j < k → Pk.sum (l.take (j + 1)) ≤ v) ∧ wr = w) (fun i _ => n - (intOf i).toNat)
  case atStart => exact ⟨0, Nat.zero_le _, rfl, Lib.hid fun j hj => absurd hj (by omega), rfl⟩
  case round =>
    obtain ⟨k, hk, rfl, HK, hwr⟩ := hrel
    obtain rfl := hwr.symm
    by_cases hlt : k < n
    · have hs := HSUM.out k hlt
      obtain ⟨s, hse⟩ : ∃ s, Pk.sum (l.take (k + 1)) = s := ⟨_, rfl⟩
      rw [hse] at hs
      have HS := Lib.hid hs
      clear hs
      by_cases hv : s > v
      · have h1 : decide (s > v) = true := decide_eq_true hv
        have hp := Pk.picks_at (l := l) (n := v) (k := k) (by rw [HN.out]; exact hlt) HK.out (by rw [hse]; exact hv)
        have HP := Lib.hid hp
        clear hp hse hv
        go_wp2_with (fail)
        refine HS.out.mono ?_
        rintro e w1 ⟨rfl, rfl⟩
        go_wp2
        go_ret
        exact ⟨by rw [HP.out]; rfl, rfl⟩
      · have h1 : decide (s > v) = false := decide_eq_false hv
        have HK2 : Hid (∀ j, j < k + 1 → Pk.sum (l.take (j + 1)) ≤ v) := Lib.hid fun j hj => by
          by_cases e : j = k
          · subst e; omega
          · exact HK.out j (by omega)
        clear hse hv
        go_wp2_with (fail)
        refine HS.out.mono ?_
        rintro e w1 ⟨rfl, rfl⟩
        go_wp2
        go_roundw
        case rel => exact ⟨k + 1, by omega, by go_num, HK2, trivial⟩
        case measure => simp [intOf]; omega
    · obtain rfl : k = n := by omega
      have hp := Pk.picks_none (l := l) (n := v) (by rw [HN.out]; exact HK.out)
      have HP := Lib.hid hp
      clear hp
      go_wp2
      go_ret
      exact ⟨by rw [HP.out]; rfl, rfl⟩
theorem rMade14_any (k : Nat) (hk : k ≤ 1000000) (w : World) : Calls Try.prog 109 #[.int .i64 (k : Int)] w fun e w' => e = .returned (.int .i64 (Pk.made k)) ∧ w = w' := by
  have h1 : (k : Int).tmod 2 = ((k % 2 : Nat) : Int) := by rw [Int.tmod_eq_emod_of_nonneg (by omega)]; omega
  have h2 : (k : Int).tdiv 2 = ((k / 2 : Nat) : Int) := by rw [Int.tdiv_eq_ediv_of_nonneg (by omega)]; omega
  unfold Pk.made
  by_cases h : k % 2 = 1
  · rw [if_pos h]
    have h3 : (((k % 2 : Nat) : Int) == 1) = true := by rw [h]; rfl
    have h4 : ((k / 2 : Nat) : Int) ≤ 1000000 := by omega
    obtain ⟨q, hq⟩ : ∃ q, k / 2 = q := ⟨_, rfl⟩
    rw [hq] at h2 h4 ⊢
    clear hq
    go_enter Try.func109, Try.ntmps109
    go_wp2
    go_ret
    exact ⟨rfl, rfl⟩
  · rw [if_neg h]
    have h3 : (((k % 2 : Nat) : Int) == 1) = false := by rw [beq_eq_false_iff_ne]; omega
    have h4 : ((k / 2 : Nat) : Int) ≤ 1000000 := by omega
    obtain ⟨q, hq⟩ : ∃ q, k / 2 = q := ⟨_, rfl⟩
    rw [hq] at h2 h4 ⊢
    clear hq
    have h5 : wrap64 (0 - (q : Int)) = -(q : Int) := by unfold wrap64; omega
    go_enter Try.func109, Try.ntmps109
    go_wp2
    go_ret
    exact ⟨rfl, rfl⟩
end Go.Proofs.Ytmbgndcahlopdaa

/- The reference of stage 14: Least, Unsigned (by gen_pics.py). -/
namespace Go.Proofs.Ytmbgndcahlopdaa
set_option maxRecDepth 100000
open Go.RowKit Go.Shelf
attribute [local go_sem] Oper.semAt_some

end Go.Proofs.Ytmbgndcahlopdaa

/- The reference of stage 14: Signed, Weighted (by gen_pict.py). -/
namespace Go.Proofs.Ytmbgndcahlopdaa
set_option maxRecDepth 100000
open Go.RowKit Go.Shelf
attribute [local go_sem] Oper.semAt_some

set_option maxHeartbeats 4000000 in
theorem rSigned14_no {A L : Option Addr} (n c m d er : Nat) (i most : Int) (w : World) (hin : 0 ≤ most ∧ most ≤ 20) (he : er = 1 ∨ er = 8) (hk : ∀ W, Below w.heap.size w W → Calls Try.prog 48 #[.agg #[.slice A n c, .int .i64 i, .slice L m d], .int .i64 (2 * most + 1)] W (RTakeNo W er)) :
    Calls Try.prog 81 #[.agg #[.slice A n c, .int .i64 i, .slice L m d], .int .i64 most] w (RTakeNo w er) := by
  unfold RTakeNo at hk ⊢
  have hb := ((Below.refl _ w).alloc (Nat.le_refl _) (.cells #[.slice A n c, .int .i64 i, .slice L m d] 30)).alloc (by simp) (.cells #[.slice none 0 0, .int .i64 0, .slice none 0 0, .int .i64 0, .slice none 0 0, .int .i64 0] 98)
  have hk0 := (Blk.new w 30 #[.slice A n c, .int .i64 i, .slice L m d]).alloc (.cells #[.slice none 0 0, .int .i64 0, .slice none 0 0, .int .i64 0, .slice none 0 0, .int .i64 0] 98)
  have hk1 := Blk.new (w.alloc (.cells #[.slice A n c, .int .i64 i, .slice L m d] 30)) 98 #[.slice none 0 0, .int .i64 0, .slice none 0 0, .int .i64 0, .slice none 0 0, .int .i64 0]
  rw [World.size_alloc] at hk1
  obtain ⟨W1, hW1⟩ : ∃ W1, (w.alloc (.cells #[.slice A n c, .int .i64 i, .slice L m d] 30)).alloc (.cells #[.slice none 0 0, .int .i64 0, .slice none 0 0, .int .i64 0, .slice none 0 0, .int .i64 0] 98) = W1 := ⟨_, rfl⟩
  rw [hW1] at hb hk0 hk1
  have q0 := hk0.cell 0
  have q1 := hk0.cell 1
  have q2 := hk0.cell 2
  have HK1 := Lib.hid hk1
  have HB := Lib.hid hb
  clear hk0 hk1 hb
  have h1 : decide (most < 0) = false := decide_eq_false (by omega)
  have h2 : decide (most > 20) = false := decide_eq_false (by omega)
  have h3 : wrap64 (2 * most) = 2 * most := by unfold wrap64; omega
  have h4 : wrap64 (2 * most + 1) = 2 * most + 1 := by unfold wrap64; omega
  have h5 : ((er : Int) == 0) = false := by rw [beq_eq_false_iff_ne]; omega
  have HT := Lib.hid (hk W1 HB.out)
  clear hk hin he
  go_enter Try.func81, Try.ntmps81
  go_wp2_with (fail)
  refine HT.out.mono ?_
  rintro e w2 ⟨rfl, hb2⟩
  have hbw := HB.out.trans (hb2.mono HB.out.size)
  have hz := Blk.new w2 98 #[.slice none 0 0, .int .i64 0, .slice none 0 0, .int .i64 0, .slice none 0 0, .int .i64 0]
  have hk2 := (HK1.out.below hb2 HK1.out.lt).alloc (.cells #[.slice none 0 0, .int .i64 0, .slice none 0 0, .int .i64 0, .slice none 0 0, .int .i64 0] 98)
  have hlt := (HK1.out.below hb2 HK1.out.lt).lt
  obtain ⟨Z1, Z2, Z3, Z4, Z5, Z6, a0, a1, a2, a3, a4, a5, b0, b1, b2, b3, b4, b5, k0, k1, k2, k3, k4, k5, s0, s1, s2, s3, s4, s5, -, hzh, hzb⟩ := n6_steps13 hz (.slice none 0 0) (.int .i64 0) (.slice none 0 0) (.int .i64 0) (.slice none 0 0) (.int .i64 (er : Int))
  have hk3 : Blk Z6 (w.heap.size + 1) 98 #[.slice none 0 0, .int .i64 0, .slice none 0 0, .int .i64 0, .slice none 0 0, .int .i64 0] := (hzh.out _ (by omega)).trans hk2
  obtain ⟨Y1, Y2, Y3, Y4, Y5, Y6, e0, e1, e2, e3, e4, e5, f0, f1, f2, f3, f4, f5, g0, g1, g2, g3, g4, g5, r0, r1, r2, r3, r4, r5, -, -, HYB⟩ := n6_steps13 hk3 (.slice none 0 0) (.int .i64 0) (.slice none 0 0) (.int .i64 0) (.slice none 0 0) (.int .i64 (er : Int))
  have HB3 := Lib.hid (HYB.out _ _ (Nat.le_succ _) (hzb.out _ _ hbw.size (hbw.alloc hbw.size (.cells #[.slice none 0 0, .int .i64 0, .slice none 0 0, .int .i64 0, .slice none 0 0, .int .i64 0] 98))))
  clear hb2 hbw hz hk2 hk3 hlt hzh hzb HYB
  go_wp2
  exact bodyPost_ret (v := .agg #[.slice none 0 0, .int .i64 0, .slice none 0 0, .int .i64 0, .slice none 0 0, .int .i64 (er : Int)]) (by simp [results, Try.results81, go_sem, r0, r1, r2, r3, r4, r5]) rfl ⟨rfl, HB3.out⟩
set_option maxHeartbeats 8000000 in
theorem rSigned14_yes {A L : Option Addr} {log : List Int} (n c m d j k : Nat) (i most : Int) (w : World) (hin : 0 ≤ most ∧ most ≤ 20) (hk9 : k ≤ 1000000) (hk : ∀ W, Below w.heap.size w W → Calls Try.prog 48 #[.agg #[.slice A n c, .int .i64 i, .slice L m d], .int .i64 (2 * most + 1)] W (RTake W A n c m log (k : Int) j)) :
    Calls Try.prog 81 #[.agg #[.slice A n c, .int .i64 i, .slice L m d], .int .i64 most] w (fun e w' => ∃ L' d', e = .returned (.agg #[.slice A n c, .int .i64 (j : Int), .slice L' (m + 1) d', .int .i64 (Pk.made k), .slice none 0 0, .int .i64 0]) ∧ w'.ownsRow w.heap.size 3 1 (.slice L' (m + 1) d') (m + 1) (ints (log ++ [(k : Int)])) ∧ Below w.heap.size w w') := by
  unfold RTake at hk
  have hb := ((Below.refl _ w).alloc (Nat.le_refl _) (.cells #[.slice A n c, .int .i64 i, .slice L m d] 30)).alloc (by simp) (.cells #[.slice none 0 0, .int .i64 0, .slice none 0 0, .int .i64 0, .slice none 0 0, .int .i64 0] 98)
  have hk0 := (Blk.new w 30 #[.slice A n c, .int .i64 i, .slice L m d]).alloc (.cells #[.slice none 0 0, .int .i64 0, .slice none 0 0, .int .i64 0, .slice none 0 0, .int .i64 0] 98)
  have hk1 := Blk.new (w.alloc (.cells #[.slice A n c, .int .i64 i, .slice L m d] 30)) 98 #[.slice none 0 0, .int .i64 0, .slice none 0 0, .int .i64 0, .slice none 0 0, .int .i64 0]
  rw [World.size_alloc] at hk1
  obtain ⟨W1, hW1⟩ : ∃ W1, (w.alloc (.cells #[.slice A n c, .int .i64 i, .slice L m d] 30)).alloc (.cells #[.slice none 0 0, .int .i64 0, .slice none 0 0, .int .i64 0, .slice none 0 0, .int .i64 0] 98) = W1 := ⟨_, rfl⟩
  rw [hW1] at hb hk0 hk1
  have q0 := hk0.cell 0
  have q1 := hk0.cell 1
  have q2 := hk0.cell 2
  have HK1 := Lib.hid hk1
  have HB := Lib.hid hb
  clear hk0 hk1 hb
  have h1 : decide (most < 0) = false := decide_eq_false (by omega)
  have h2 : decide (most > 20) = false := decide_eq_false (by omega)
  have h3 : wrap64 (2 * most) = 2 * most := by unfold wrap64; omega
  have h4 : wrap64 (2 * most + 1) = 2 * most + 1 := by unfold wrap64; omega
  have hmade := fun W => rMade14_any k hk9 W
  obtain ⟨x, hx⟩ : ∃ x, Pk.made k = x := ⟨_, rfl⟩
  rw [hx] at hmade ⊢
  have HT := Lib.hid (hk W1 HB.out)
  have HM := Lib.hid hmade
  clear hk hin hk9 hmade hx
  go_enter Try.func81, Try.ntmps81
  go_wp2_with (fail)
  refine HT.out.mono ?_
  rintro e w2 ⟨L', d', rfl, hown, hb2⟩
  have hbw := HB.out.trans (hb2.mono HB.out.size)
  have hz := Blk.new w2 98 #[.slice none 0 0, .int .i64 0, .slice none 0 0, .int .i64 0, .slice none 0 0, .int .i64 0]
  have hk2 := (HK1.out.below hb2 HK1.out.lt).alloc (.cells #[.slice none 0 0, .int .i64 0, .slice none 0 0, .int .i64 0, .slice none 0 0, .int .i64 0] 98)
  have hlt := (HK1.out.below hb2 HK1.out.lt).lt
  obtain ⟨Z1, Z2, Z3, Z4, Z5, Z6, a0, a1, a2, a3, a4, a5, b0, b1, b2, b3, b4, b5, k0, k1, k2, k3, k4, k5, s0, s1, s2, s3, s4, s5, hzk, hzh, hzb⟩ := n6_steps13 hz (.slice A n c) (.int .i64 (j : Int)) (.slice L' (m + 1) d') (.int .i64 (k : Int)) (.slice none 0 0) (.int .i64 0)
  have hbz := hzb.out _ _ hbw.size (hbw.alloc hbw.size (.cells #[.slice none 0 0, .int .i64 0, .slice none 0 0, .int .i64 0, .slice none 0 0, .int .i64 0] 98))
  have hk3 : Blk Z6 (w.heap.size + 1) 98 #[.slice none 0 0, .int .i64 0, .slice none 0 0, .int .i64 0, .slice none 0 0, .int .i64 0] := (hzh.out _ (by omega)).trans hk2
  have hown2 := own_ofD (ownT_below hown ((Below.refl _ w2).alloc (Nat.le_refl _) (.cells #[.slice none 0 0, .int .i64 0, .slice none 0 0, .int .i64 0, .slice none 0 0, .int .i64 0] 98))) fun g' hg' => hzh.out g' (by have := (hown.lt g' hg').2; omega)
  have zf := hzk.out.frozen 3
  obtain ⟨Za, hZa⟩ : ∃ Za, Z6.setCell ⟨w2.heap.size, 3, none⟩ (.int .i64 x) = Za := ⟨_, rfl⟩
  have hzk2 : Blk Za w2.heap.size 98 #[.slice A n c, .int .i64 (j : Int), .slice L' (m + 1) d', .int .i64 x, .slice none 0 0, .int .i64 0] := hZa ▸ hzk.out.set_ 3 (.int .i64 x)
  have hk4 : Blk Za (w.heap.size + 1) 98 #[.slice none 0 0, .int .i64 0, .slice none 0 0, .int .i64 0, .slice none 0 0, .int .i64 0] := hZa ▸ hk3.other (p := ⟨w2.heap.size, 3, none⟩) (by show w2.heap.size ≠ _; omega) _
  have hown3 := own_ofD hown2 fun g' hg' => (show Za.heap[g']? = Z6.heap[g']? from hZa ▸ Below.heap_setCell Z6 ⟨w2.heap.size, 3, none⟩ _ g' (by show g' ≠ w2.heap.size; have := (hown.lt g' hg').2; omega))
  have hba : Below w.heap.size w Za := hZa ▸ hbz.setCell (p := ⟨w2.heap.size, 3, none⟩) hbw.size _
  have t0 := hzk2.cell 0
  have t1 := hzk2.cell 1
  have t2 := hzk2.cell 2
  have t3 := hzk2.cell 3
  have t4 := hzk2.cell 4
  have t5 := hzk2.cell 5
  obtain ⟨Y1, Y2, Y3, Y4, Y5, Y6, e0, e1, e2, e3, e4, e5, f0, f1, f2, f3, f4, f5, g0, g1, g2, g3, g4, g5, r0, r1, r2, r3, r4, r5, -, hyh, HYB⟩ := n6_steps13 hk4 (.slice A n c) (.int .i64 (j : Int)) (.slice L' (m + 1) d') (.int .i64 x) (.slice none 0 0) (.int .i64 0)
  have HB3 := Lib.hid (HYB.out _ _ (Nat.le_succ _) hba)
  have hown4 := own_ofD hown3 fun g' hg' => hyh.out g' (by have h8 := (hown.lt g' hg').1; have h9 := HK1.out.lt; omega)
  have HO := Lib.hid (ownT_mono hown4 HB.out.size)
  clear hb2 hbw hz hk2 hk3 hlt hzh hzb hbz HYB hzk hzk2 hk4 hown hown2 hown3 hown4 hba hyh
  go_wp2_with (fail)
  refine (HM.out _).mono ?_
  rintro e w4 ⟨rfl, rfl⟩
  go_wp2
  exact bodyPost_ret (v := .agg #[.slice A n c, .int .i64 (j : Int), .slice L' (m + 1) d', .int .i64 x, .slice none 0 0, .int .i64 0]) (by simp [results, Try.results81, go_sem, r0, r1, r2, r3, r4, r5]) rfl ⟨L', d', rfl, HO.out, HB3.out⟩
set_option maxHeartbeats 8000000 in
theorem rWeighted14_no {A L Q : Option Addr} {l : List Int} (n c m d q f er : Nat) (i : Int) (w : World) (hA : Row w w.heap.size Q (ints l)) (hq : l.length = q) (hq9 : q ≤ 1000000) (_ : q ≤ f) (hr : Pk.right l = true) (he : er = 1 ∨ er = 8) (hk : ∀ W, Below w.heap.size w W → Calls Try.prog 48 #[.agg #[.slice A n c, .int .i64 i, .slice L m d], .int .i64 (Pk.sum l)] W (RTakeNo W er)) :
    Calls Try.prog 49 #[.agg #[.slice A n c, .int .i64 i, .slice L m d], .slice Q q f] w (RTakeNo w er) := by
  unfold RTakeNo at hk ⊢
  obtain ⟨hg, h1, h20, hs0⟩ := Pk.right_good hr
  have hb := ((Below.refl _ w).alloc (Nat.le_refl _) (.cells #[.slice A n c, .int .i64 i, .slice L m d] 30)).alloc (by simp) (.cells #[.slice none 0 0, .int .i64 0, .slice none 0 0, .int .i64 0, .slice none 0 0, .int .i64 0] 98)
  have hk0 := (Blk.new w 30 #[.slice A n c, .int .i64 i, .slice L m d]).alloc (.cells #[.slice none 0 0, .int .i64 0, .slice none 0 0, .int .i64 0, .slice none 0 0, .int .i64 0] 98)
  have hk1 := Blk.new (w.alloc (.cells #[.slice A n c, .int .i64 i, .slice L m d] 30)) 98 #[.slice none 0 0, .int .i64 0, .slice none 0 0, .int .i64 0, .slice none 0 0, .int .i64 0]
  rw [World.size_alloc] at hk1
  obtain ⟨W1, hW1⟩ : ∃ W1, (w.alloc (.cells #[.slice A n c, .int .i64 i, .slice L m d] 30)).alloc (.cells #[.slice none 0 0, .int .i64 0, .slice none 0 0, .int .i64 0, .slice none 0 0, .int .i64 0] 98) = W1 := ⟨_, rfl⟩
  rw [hW1] at hb hk0 hk1
  have hwt := rWeights14_any q f W1 ((hA.below hb).more hb.size) hq hq9
  rw [hr] at hwt
  have hsum := fun W (hW : Below w.heap.size w W) => rSum14_any q f W ((hA.below hW).more hW.size) hq hg (by omega)
  obtain ⟨s, hs⟩ : ∃ s, Pk.sum l = s := ⟨_, rfl⟩
  rw [hs] at hsum hk
  have HWT := Lib.hid hwt
  have HSUM := Lib.hid hsum
  have HTK := Lib.hid hk
  have HK0 := Lib.hid hk0
  have q0 := hk0.cell 0
  have q1 := hk0.cell 1
  have q2 := hk0.cell 2
  have HK1 := Lib.hid hk1
  have HB := Lib.hid hb
  clear hk0 hk1 hb
  clear hwt hsum hk hA hq hq9 hr hg h1 h20 hs0 hs
  have h5 : ((er : Int) == 0) = false := by rw [beq_eq_false_iff_ne]; omega
  clear he
  go_enter Try.func49, Try.ntmps49
  go_wp2_with (fail)
  refine HWT.out.mono ?_
  rintro e w2 ⟨rfl, rfl⟩
  have HSK : Hid (∀ W, Below W1.heap.size W1 W → W.cell? ⟨w.heap.size, 0, none⟩ = some (.slice A n c) ∧ W.cell? ⟨w.heap.size, 1, none⟩ = some (.int .i64 i) ∧ W.cell? ⟨w.heap.size, 2, none⟩ = some (.slice L m d)) := Lib.hid fun W hb =>
    have h1 := HK0.out.below hb HK0.out.lt
    ⟨h1.cell 0, h1.cell 1, h1.cell 2⟩
  have BR := Lib.hid (Below.refl W1.heap.size W1)
  have BD := Lib.hid ((Below.refl W1.heap.size W1).drew)
  have BDA := Lib.hid (((Below.refl W1.heap.size W1).alloc (Nat.le_refl _) (.cells #[.slice none 0 0, .int .i64 0, .slice none 0 0, .int .i64 0, .slice none 0 0, .int .i64 0] 98)).drew)
  have HWB : Hid (∀ W, Below W1.heap.size W1 W → Below w.heap.size w W) := Lib.hid fun W hb => HB.out.trans (hb.mono HB.out.size)
  go_wp2_with (fail)
  go_cut [5] from 10 to 13 (fun bx wx => ∃ (g : Nat), bx = .pointer (some ⟨g, 0, none⟩) ∧ W1.heap.size ≤ g ∧ Hid (Below W1.heap.size W1 wx) ∧ Hid (Blk wx g 98 #[.slice none 0 0, .int .i64 0, .slice none 0 0, .int .i64 0, .slice none 0 0, .int .i64 (er : Int)]))
  case first =>
    go_region_held3 (fun W => W.cell? ⟨w.heap.size, 0, none⟩ = some (.slice A n c) ∧ W.cell? ⟨w.heap.size, 1, none⟩ = some (.int .i64 i) ∧ W.cell? ⟨w.heap.size, 2, none⟩ = some (.slice L m d))
      (first | (refine HSK.out _ ?_; first | with_reducible exact BR.out | with_reducible exact BD.out | with_reducible exact BDA.out | with_reducible exact hA | with_reducible exact hA.alloc hA.size _ | with_reducible exact hAA | with_reducible exact hYY))
      (first
        | (go_at_call 77; refine (HSUM.out _ (HWB.out _ ?_)).mono ?_; (first | with_reducible exact BD.out | with_reducible exact BDA.out); rintro e wq ⟨rfl, rfl⟩)
        | (go_at_call 48; refine (HTK.out _ (HWB.out _ ?_)).mono ?_; (first | with_reducible exact BD.out | with_reducible exact BDA.out); rintro e wa ⟨rfl, hba⟩; (first
            | (have hA : Below W1.heap.size W1 wa := BDA.out.trans (hba.mono BDA.out.size); have hG := (Blk.new W1 98 #[.slice none 0 0, .int .i64 0, .slice none 0 0, .int .i64 0, .slice none 0 0, .int .i64 0]).drew.below hba (Blk.new W1 98 #[.slice none 0 0, .int .i64 0, .slice none 0 0, .int .i64 0, .slice none 0 0, .int .i64 0]).drew.lt; have hAA := hA; have hsz := Nat.le_refl W1.heap.size; have hAW : W1.heap.size ≤ (W1.alloc (.cells #[.slice none 0 0, .int .i64 0, .slice none 0 0, .int .i64 0, .slice none 0 0, .int .i64 0] 98)).drew.heap.size := BDA.out.size; obtain ⟨Y1, Y2, Y3, Y4, Y5, Y6, e0, e1, e2, e3, e4, e5, f0, f1, f2, f3, f4, f5, g0, g1, g2, g3, g4, g5, r0, r1, r2, r3, r4, r5, hk9, hh9, hb9⟩ := n6_steps13 hG (.slice none 0 0) (.int .i64 0) (.slice none 0 0) (.int .i64 0) (.slice none 0 0) (.int .i64 (er : Int)); have hYY : Below W1.heap.size W1 Y6 := hb9.out _ _ hsz hAA; have SHK := hk9; clear hk9 hh9 hb9 hG)
            | (have hA : Below W1.heap.size W1 wa := BD.out.trans (hba.mono BD.out.size); obtain ⟨WB, hWB⟩ : ∃ WB, wa.alloc (.cells #[.slice none 0 0, .int .i64 0, .slice none 0 0, .int .i64 0, .slice none 0 0, .int .i64 0] 98) = WB := ⟨_, rfl⟩; have hG : Blk WB wa.heap.size 98 #[.slice none 0 0, .int .i64 0, .slice none 0 0, .int .i64 0, .slice none 0 0, .int .i64 0] := hWB ▸ Blk.new _ _ _; have hAA : Below W1.heap.size W1 WB := hWB ▸ hA.alloc hA.size _; have hsz := hA.size; have hAW : W1.heap.size ≤ W1.drew.heap.size := BD.out.size; obtain ⟨Y1, Y2, Y3, Y4, Y5, Y6, e0, e1, e2, e3, e4, e5, f0, f1, f2, f3, f4, f5, g0, g1, g2, g3, g4, g5, r0, r1, r2, r3, r4, r5, hk9, hh9, hb9⟩ := n6_steps13 hG (.slice none 0 0) (.int .i64 0) (.slice none 0 0) (.int .i64 0) (.slice none 0 0) (.int .i64 (er : Int)); have hYY : Below W1.heap.size W1 Y6 := hb9.out _ _ hsz hAA; have SHK := hk9; clear hk9 hh9 hb9 hG))))
    all_goals go_wp2_with fail
    all_goals go_meet
    all_goals exact ⟨_, rfl, hsz, Lib.hid hYY, SHK⟩
  case rest =>
    obtain ⟨g, rfl, hwg, HBC, HKG⟩ := hcut
    have hk3 := HK1.out.below HBC.out HK1.out.lt
    have hlt := HK1.out.lt
    have HBW := Lib.hid (HWB.out _ HBC.out)
    clear BR BD BDA HSK
    have t0 := HKG.out.cell 0
    have t1 := HKG.out.cell 1
    have t2 := HKG.out.cell 2
    have t3 := HKG.out.cell 3
    have t4 := HKG.out.cell 4
    have t5 := HKG.out.cell 5
    obtain ⟨Y1, Y2, Y3, Y4, Y5, Y6, e0, e1, e2, e3, e4, e5, f0, f1, f2, f3, f4, f5, g0, g1, g2, g3, g4, g5, r0, r1, r2, r3, r4, r5, -, -, HYB⟩ := n6_steps13 hk3 (.slice none 0 0) (.int .i64 0) (.slice none 0 0) (.int .i64 0) (.slice none 0 0) (.int .i64 (er : Int))
    have HB3 := Lib.hid (HYB.out _ _ (Nat.le_succ _) HBW.out)
    clear hk3 hlt HYB
    go_wp2
    exact bodyPost_ret (v := .agg #[.slice none 0 0, .int .i64 0, .slice none 0 0, .int .i64 0, .slice none 0 0, .int .i64 (er : Int)]) (by simp [results, Try.results49, go_sem, r0, r1, r2, r3, r4, r5]) rfl ⟨rfl, HB3.out⟩
set_option maxHeartbeats 8000000 in
theorem rWeighted14_yes {A L Q : Option Addr} {l log : List Int} (n c m d q f j : Nat) (i x : Int) (w : World) (hA : Row w w.heap.size Q (ints l)) (hq : l.length = q) (hq9 : q ≤ 1000000) (hf : q ≤ f) (hr : Pk.right l = true) (hk : ∀ W, Below w.heap.size w W → Calls Try.prog 48 #[.agg #[.slice A n c, .int .i64 i, .slice L m d], .int .i64 (Pk.sum l)] W (RTake W A n c m log x j)) :
    Calls Try.prog 49 #[.agg #[.slice A n c, .int .i64 i, .slice L m d], .slice Q q f] w (fun e w' => ∃ L' d', e = .returned (.agg #[.slice A n c, .int .i64 (j : Int), .slice L' (m + 1) d', .int .i64 (Pk.picks l x : Nat), .slice none 0 0, .int .i64 0]) ∧ w'.ownsRow w.heap.size 3 1 (.slice L' (m + 1) d') (m + 1) (ints (log ++ [x])) ∧ Below w.heap.size w w') := by
  unfold RTake at hk
  obtain ⟨hg, h1, h20, hs0⟩ := Pk.right_good hr
  have hb := ((Below.refl _ w).alloc (Nat.le_refl _) (.cells #[.slice A n c, .int .i64 i, .slice L m d] 30)).alloc (by simp) (.cells #[.slice none 0 0, .int .i64 0, .slice none 0 0, .int .i64 0, .slice none 0 0, .int .i64 0] 98)
  have hk0 := (Blk.new w 30 #[.slice A n c, .int .i64 i, .slice L m d]).alloc (.cells #[.slice none 0 0, .int .i64 0, .slice none 0 0, .int .i64 0, .slice none 0 0, .int .i64 0] 98)
  have hk1 := Blk.new (w.alloc (.cells #[.slice A n c, .int .i64 i, .slice L m d] 30)) 98 #[.slice none 0 0, .int .i64 0, .slice none 0 0, .int .i64 0, .slice none 0 0, .int .i64 0]
  rw [World.size_alloc] at hk1
  obtain ⟨W1, hW1⟩ : ∃ W1, (w.alloc (.cells #[.slice A n c, .int .i64 i, .slice L m d] 30)).alloc (.cells #[.slice none 0 0, .int .i64 0, .slice none 0 0, .int .i64 0, .slice none 0 0, .int .i64 0] 98) = W1 := ⟨_, rfl⟩
  rw [hW1] at hb hk0 hk1
  have hwt := rWeights14_any q f W1 ((hA.below hb).more hb.size) hq hq9
  rw [hr] at hwt
  have hsum := fun W (hW : Below w.heap.size w W) => rSum14_any q f W ((hA.below hW).more hW.size) hq hg (by omega)
  have hpk := fun W (hW : Below w.heap.size w W) => rPicks14_any q f x W ((hA.below hW).more hW.size) hq hg (by omega) hf
  obtain ⟨p, hp⟩ : ∃ p, Pk.picks l x = p := ⟨_, rfl⟩
  rw [hp] at hpk ⊢
  have HPK := Lib.hid hpk
  obtain ⟨s, hs⟩ : ∃ s, Pk.sum l = s := ⟨_, rfl⟩
  rw [hs] at hsum hk
  have HWT := Lib.hid hwt
  have HSUM := Lib.hid hsum
  have HTK := Lib.hid hk
  have HK0 := Lib.hid hk0
  have q0 := hk0.cell 0
  have q1 := hk0.cell 1
  have q2 := hk0.cell 2
  have HK1 := Lib.hid hk1
  have HB := Lib.hid hb
  clear hk0 hk1 hb
  clear hwt hsum hk hA hq hq9 hr hg h1 h20 hs0 hs hf hpk hp
  go_enter Try.func49, Try.ntmps49
  go_wp2_with (fail)
  refine HWT.out.mono ?_
  rintro e w2 ⟨rfl, rfl⟩
  have HSK : Hid (∀ W, Below W1.heap.size W1 W → W.cell? ⟨w.heap.size, 0, none⟩ = some (.slice A n c) ∧ W.cell? ⟨w.heap.size, 1, none⟩ = some (.int .i64 i) ∧ W.cell? ⟨w.heap.size, 2, none⟩ = some (.slice L m d)) := Lib.hid fun W hb =>
    have h1 := HK0.out.below hb HK0.out.lt
    ⟨h1.cell 0, h1.cell 1, h1.cell 2⟩
  have BR := Lib.hid (Below.refl W1.heap.size W1)
  have BD := Lib.hid ((Below.refl W1.heap.size W1).drew)
  have BDA := Lib.hid (((Below.refl W1.heap.size W1).alloc (Nat.le_refl _) (.cells #[.slice none 0 0, .int .i64 0, .slice none 0 0, .int .i64 0, .slice none 0 0, .int .i64 0] 98)).drew)
  have HWB : Hid (∀ W, Below W1.heap.size W1 W → Below w.heap.size w W) := Lib.hid fun W hb => HB.out.trans (hb.mono HB.out.size)
  go_wp2_with (fail)
  go_cut [5] from 10 to 13 (fun bx wx => ∃ (g : Nat) (L' : Option Addr) (d' : Nat), bx = .pointer (some ⟨g, 0, none⟩) ∧ W1.heap.size ≤ g ∧ Hid (Below W1.heap.size W1 wx) ∧ Hid (Blk wx g 98 #[.slice A n c, .int .i64 (j : Int), .slice L' (m + 1) d', .int .i64 x, .slice none 0 0, .int .i64 0]) ∧ Hid (wx.ownsRow W1.heap.size 3 1 (.slice L' (m + 1) d') (m + 1) (ints (log ++ [x]))))
  case first =>
    go_region_held3 (fun W => W.cell? ⟨w.heap.size, 0, none⟩ = some (.slice A n c) ∧ W.cell? ⟨w.heap.size, 1, none⟩ = some (.int .i64 i) ∧ W.cell? ⟨w.heap.size, 2, none⟩ = some (.slice L m d))
      (first | (refine HSK.out _ ?_; first | with_reducible exact BR.out | with_reducible exact BD.out | with_reducible exact BDA.out | with_reducible exact hA | with_reducible exact hA.alloc hA.size _ | with_reducible exact hAA | with_reducible exact hYY))
      (first
        | (go_at_call 77; refine (HSUM.out _ (HWB.out _ ?_)).mono ?_; (first | with_reducible exact BD.out | with_reducible exact BDA.out); rintro e wq ⟨rfl, rfl⟩)
        | (go_at_call 48; refine (HTK.out _ (HWB.out _ ?_)).mono ?_; (first | with_reducible exact BD.out | with_reducible exact BDA.out); rintro e wa ⟨L', d', rfl, hown, hba⟩; (first
            | (have hA : Below W1.heap.size W1 wa := BDA.out.trans (hba.mono BDA.out.size); have hG := (Blk.new W1 98 #[.slice none 0 0, .int .i64 0, .slice none 0 0, .int .i64 0, .slice none 0 0, .int .i64 0]).drew.below hba (Blk.new W1 98 #[.slice none 0 0, .int .i64 0, .slice none 0 0, .int .i64 0, .slice none 0 0, .int .i64 0]).drew.lt; have hAA := hA; have hsz := Nat.le_refl W1.heap.size; have hAW : W1.heap.size ≤ (W1.alloc (.cells #[.slice none 0 0, .int .i64 0, .slice none 0 0, .int .i64 0, .slice none 0 0, .int .i64 0] 98)).drew.heap.size := BDA.out.size; have hne : ∀ g', (Value.slice L' (m + 1) d').ownBlock = some g' → g' ≠ W1.heap.size := fun g' hg' => (by have h8 : (W1.alloc (.cells #[.slice none 0 0, .int .i64 0, .slice none 0 0, .int .i64 0, .slice none 0 0, .int .i64 0] 98)).heap.size ≤ g' := (hown.lt g' hg').1; rw [World.size_alloc] at h8; omega); obtain ⟨Y1, Y2, Y3, Y4, Y5, Y6, e0, e1, e2, e3, e4, e5, f0, f1, f2, f3, f4, f5, g0, g1, g2, g3, g4, g5, r0, r1, r2, r3, r4, r5, hk9, hh9, hb9⟩ := n6_steps13 hG (.slice A n c) (.int .i64 (j : Int)) (.slice L' (m + 1) d') (.int .i64 x) (.slice none 0 0) (.int .i64 0); have hYY : Below W1.heap.size W1 Y6 := hb9.out _ _ hsz hAA; have hog := hown; have HO := Lib.hid (own_ofD (ownT_mono hog hAW) fun g' hg' => hh9.out g' (hne g' hg')); clear hog; have SHK := hk9; clear hk9 hh9 hb9 hG)
            | (have hA : Below W1.heap.size W1 wa := BD.out.trans (hba.mono BD.out.size); obtain ⟨WB, hWB⟩ : ∃ WB, wa.alloc (.cells #[.slice none 0 0, .int .i64 0, .slice none 0 0, .int .i64 0, .slice none 0 0, .int .i64 0] 98) = WB := ⟨_, rfl⟩; have hG : Blk WB wa.heap.size 98 #[.slice none 0 0, .int .i64 0, .slice none 0 0, .int .i64 0, .slice none 0 0, .int .i64 0] := hWB ▸ Blk.new _ _ _; have hAA : Below W1.heap.size W1 WB := hWB ▸ hA.alloc hA.size _; have hsz := hA.size; have hAW : W1.heap.size ≤ W1.drew.heap.size := BD.out.size; have hne : ∀ g', (Value.slice L' (m + 1) d').ownBlock = some g' → g' ≠ wa.heap.size := fun g' hg' => (by have h8 := (hown.lt g' hg').2; omega); obtain ⟨Y1, Y2, Y3, Y4, Y5, Y6, e0, e1, e2, e3, e4, e5, f0, f1, f2, f3, f4, f5, g0, g1, g2, g3, g4, g5, r0, r1, r2, r3, r4, r5, hk9, hh9, hb9⟩ := n6_steps13 hG (.slice A n c) (.int .i64 (j : Int)) (.slice L' (m + 1) d') (.int .i64 x) (.slice none 0 0) (.int .i64 0); have hYY : Below W1.heap.size W1 Y6 := hb9.out _ _ hsz hAA; have hog := hWB ▸ hown.alloc (.cells #[.slice none 0 0, .int .i64 0, .slice none 0 0, .int .i64 0, .slice none 0 0, .int .i64 0] 98); have HO := Lib.hid (own_ofD (ownT_mono hog hAW) fun g' hg' => hh9.out g' (hne g' hg')); clear hog; have SHK := hk9; clear hk9 hh9 hb9 hG))))
    all_goals go_wp2_with fail
    all_goals go_meet
    all_goals exact ⟨_, _, _, rfl, hsz, Lib.hid hYY, SHK, HO⟩
  case rest =>
    obtain ⟨g, L', d', rfl, hwg, HBC, HKG, HOW⟩ := hcut
    have hk3 := HK1.out.below HBC.out HK1.out.lt
    have hlt := HK1.out.lt
    have HBW := Lib.hid (HWB.out _ HBC.out)
    clear BR BD BDA HSK
    have zf := HKG.out.frozen 3
    have z3 := HKG.out.cell 3
    have z5 := HKG.out.cell 5
    obtain ⟨Za, hZa⟩ : ∃ Za, wc.setCell ⟨g, 3, none⟩ (.int .i64 (p : Int)) = Za := ⟨_, rfl⟩
    have hzk2 : Blk Za g 98 #[.slice A n c, .int .i64 (j : Int), .slice L' (m + 1) d', .int .i64 (p : Int), .slice none 0 0, .int .i64 0] := hZa ▸ HKG.out.set_ 3 (.int .i64 (p : Int))
    have hk4 : Blk Za (w.heap.size + 1) 98 #[.slice none 0 0, .int .i64 0, .slice none 0 0, .int .i64 0, .slice none 0 0, .int .i64 0] := hZa ▸ hk3.other (p := ⟨g, 3, none⟩) (by show g ≠ _; omega) _
    have hown := HOW.out
    have hown3 := own_ofD hown fun g' hg' => (show Za.heap[g']? = wc.heap[g']? from hZa ▸ Below.heap_setCell wc ⟨g, 3, none⟩ _ g' (by
      obtain ⟨cs, hbk⟩ := own_blkD hown hg'
      exact hbk.ty_neD HKG.out (by decide)))
    have hba : Below w.heap.size w Za := hZa ▸ HBW.out.setCell (p := ⟨g, 3, none⟩) (Nat.le_trans HB.out.size hwg) _
    have t0 := hzk2.cell 0
    have t1 := hzk2.cell 1
    have t2 := hzk2.cell 2
    have t3 := hzk2.cell 3
    have t4 := hzk2.cell 4
    have t5 := hzk2.cell 5
    obtain ⟨Y1, Y2, Y3, Y4, Y5, Y6, e0, e1, e2, e3, e4, e5, f0, f1, f2, f3, f4, f5, g0, g1, g2, g3, g4, g5, r0, r1, r2, r3, r4, r5, -, hyh, HYB⟩ := n6_steps13 hk4 (.slice A n c) (.int .i64 (j : Int)) (.slice L' (m + 1) d') (.int .i64 (p : Int)) (.slice none 0 0) (.int .i64 0)
    have HB3 := Lib.hid (HYB.out _ _ (Nat.le_succ _) hba)
    have hown4 := own_ofD hown3 fun g' hg' => hyh.out g' (by have h8 := (hown.lt g' hg').1; omega)
    have HO := Lib.hid (ownT_mono hown4 HB.out.size)
    clear hk3 hzk2 hk4 hown hown3 hown4 hba hyh HYB hlt
    go_wp2_with (fail)
    refine (HPK.out _ HBW.out).mono ?_
    rintro e w4 ⟨rfl, rfl⟩
    go_wp2
    exact bodyPost_ret (v := .agg #[.slice A n c, .int .i64 (j : Int), .slice L' (m + 1) d', .int .i64 (p : Int), .slice none 0 0, .int .i64 0]) (by simp [results, Try.results49, go_sem, r0, r1, r2, r3, r4, r5]) rfl ⟨L', d', rfl, HO.out, HB3.out⟩
end Go.Proofs.Ytmbgndcahlopdaa

/- Package pick: sums (its iterator), total, picked, mayBe. -/
namespace Go.Proofs.Ytmbgndcahlopdaa
set_option maxRecDepth 100000
open Go.RowKit Go.Shelf
attribute [local go_sem] Oper.semAt_some

/-- The sums that the iterator hands over. -/
def Pk.sums (l : List Int) : List Int := (List.range l.length).map fun k => Pk.sum (l.take (k + 1))
theorem Pk.sums_take {l : List Int} {k : Nat} (h : k < l.length) : (Pk.sums l).take (k + 1) = (Pk.sums l).take k ++ [Pk.sum (l.take (k + 1))] := by
  rw [List.take_add_one]
  simp [Pk.sums, h]
theorem Pk.sums_get {l : List Int} {k : Nat} (h : k < l.length) : (Pk.sums l)[k]? = some (Pk.sum (l.take (k + 1))) := by simp [Pk.sums, h]
theorem Pk.sums_length (l : List Int) : (Pk.sums l).length = l.length := by simp [Pk.sums]
theorem Pk.sums_last {l : List Int} : (Pk.sums l).getLast?.getD 0 = Pk.sum l := by
  rw [List.getLast?_eq_getElem?, Pk.sums_length]
  by_cases h : l.length = 0
  · have : l = [] := List.eq_nil_of_length_eq_zero h
    subst this
    rfl
  · rw [Pk.sums_get (by omega), Nat.sub_add_cancel (by omega), List.take_length]
    rfl

theorem sums14_any (A : Option Addr) (n c : Nat) (w : World) :
    Calls Try.prog 124 #[.slice A n c] w fun e w' => e = .returned (.func (.func 129) #[] #[.pointer (some ⟨w.heap.size, 0, none⟩)]) ∧ w.alloc (.cells #[.slice A n c] 26) = w' := by
  have hmf : ∀ (fn : Fn) (first cap : Array Value) (w : World), (Instr.makeFunc fn first cap).run Try.prog w = .ok (.func fn first cap) w := fun _ _ _ _ => rfl
  go_enter Try.func124, Try.ntmps124
  go_wp2
  go_ret
  exact ⟨rfl, rfl⟩

abbrev senc (x : Int) : Array Value := #[.int .i64 x]

set_option maxRecDepth 100000 in
set_option maxHeartbeats 2000000 in
theorem sums14_stops (N Bn n₀ n c : Nat) {A : Option Addr} {l : List Int} (hN : 1 ≤ N) (w : World) (hBn : Bn < w.heap.size) (hn₀ : n₀ ≤ w.heap.size) (hc : w.cell? ⟨Bn, 0, none⟩ = some (.slice A n c)) (h : Row w n₀ A (ints l)) (hn : l.length = n) (hg : Pk.good l = true) (hl : n ≤ 1000) :
    SeqStopsK Fence.wide N Try.prog 129 #[.pointer (some ⟨Bn, 0, none⟩)] senc (Below n₀) (fun xs => xs = Pk.sums l) (fun pre => pre <+: Pk.sums l) n w := fun lx J Jx W hW hJ hJx hY h0 => by
  have hcW : W.cell? ⟨Bn, 0, none⟩ = some (.slice A n c) := (hW.cell (p := ⟨Bn, 0, none⟩) hBn).trans hc
  have hrow : Row W n₀ A (ints l) := h.below (hW.mono hn₀)
  have HROW := Lib.hid hrow
  have HN := Lib.hid hn
  have HG := Lib.hid hg
  clear h hrow hn hg hc hW
  refine callsIn_of_wp Try.func129 rfl trivial ?_ rfl
  simp only [Try.ntmps129, List.size_toArray, List.length_cons, List.length_nil, Nat.reduceAdd, Nat.reduceSub, Array.replicate_succ, Array.replicate_zero, List.push_toArray, List.append_toArray, List.nil_append, List.cons_append]
  gi_wp2
  gi_loopw [3, 8] (fun s i wr => ∃ (k : Nat), k ≤ n ∧ i = .int .i64 k ∧ s = .int .i64 (Pk.sum (l.take k)) ∧ J ((Pk.sums l).take k) wr ∧ Hid (Below n₀ W wr)) (fun _ i _ => n - (intOf i).toNat)
  case atStart => exact ⟨0, Nat.zero_le _, rfl, rfl, h0, Lib.hid (Below.refl _ _)⟩
  case round =>
    obtain ⟨k, hk, rfl, rfl, hj, HB⟩ := hrel
    by_cases hlt : k < n
    · have hlk : k < l.length := by rw [HN.out]; exact hlt
      obtain ⟨ad, hA, hb, c0⟩ := irow_at (HROW.out.below HB.out) hlk
      have hx : l[k]? = some (l[k]'hlk) := List.getElem?_eq_getElem _
      subst hA
      have hgx := Pk.good_of HG.out (List.mem_of_getElem? hx)
      have htk := Pk.sums_take hlk
      obtain ⟨fn, tmps, assign, body, hy, hR⟩ := hY _ (Pk.sum (l.take (k + 1))) wr hj (by rw [List.length_take, Pk.sums_length]; omega)
      rw [← htk] at hR
      generalize l[k]'hlk = x at *
      have hs := Pk.sum_step hx
      have hlow := Pk.sum_low (Pk.good_take HG.out k)
      rw [List.length_take, HN.out] at hlow
      obtain ⟨s1, hs1⟩ : ∃ s1, Pk.sum (l.take (k + 1)) = s1 := ⟨_, rfl⟩
      rw [hs1] at hs hy
      obtain ⟨s0, hs0⟩ : ∃ s0, Pk.sum (l.take k) = s0 := ⟨_, rfl⟩
      rw [hs0] at hs hlow ⊢
      have hw : wrap64 (s0 + x) = s1 := by unfold wrap64; omega
      have HS1 := Lib.hid hs1
      have HTK := Lib.hid htk
      dsimp only [senc] at hy
      clear hx hgx hs hlow hs0 hs1 htk h0 hY
      gi_wp2
      refine hR.mono ?_
      rintro e W3 (⟨rfl, hJ3, hk3⟩ | ⟨rfl, hJx3⟩)
      · gi_wp2
        go_roundw
        case rel => exact ⟨k + 1, by omega, by go_num, by rw [HS1.out], hJ3, Lib.hid (HB.out.trans hk3)⟩
        case measure => simp [intOf]; omega
      · gi_wp2
        refine bodyPost_ret (results_none rfl _ _ _) rfl ?_
        exact ⟨⟨_, rfl⟩, .inr ⟨_, List.take_prefix _ _, hJx3⟩⟩
    · obtain rfl : k = n := by omega
      have hall : (Pk.sums l).take k = Pk.sums l := List.take_of_length_le (by rw [Pk.sums_length, HN.out]; exact Nat.le_refl _)
      gi_wp2
      go_end0
      exact ⟨⟨_, rfl⟩, .inl ⟨_, hall, hj⟩⟩

set_option maxRecDepth 100000 in
set_option maxHeartbeats 2000000 in
theorem total14_any {A : Option Addr} {l : List Int} (n c : Nat) (w : World) (h : Row w w.heap.size A (ints l)) (hn : l.length = n) (hg : Pk.good l = true) (hl : n ≤ 1000) :
    Calls Try.prog 117 #[.slice A n c] w fun e w' => e = .returned (.int .i64 (Pk.sum l)) ∧ Below w.heap.size w w' := by
  have hwf : ∀ f, Fence.wide.fn f := fun _ => trivial
  have HR := Lib.hid h
  have HN := Lib.hid hn
  have HG := Lib.hid hg
  clear h hn hg
  refine (callsIn_wide (n := 3)).1 ?_
  refine callsIn_of_wp_marks Try.func117 rfl trivial ?_ rfl
  simp only [Try.ntmps117, List.size_toArray, List.length_cons, List.length_nil, Nat.reduceAdd, Nat.reduceSub, Array.replicate_succ, Array.replicate_zero, List.push_toArray, List.append_toArray, List.nil_append, List.cons_append]
  gi_wp2_with (gi_at_call 124; refine (callsIn_wide.2 (sums14_any A n c _)).mono ?_; rintro e w' ⟨rfl, rfl⟩)
  have b0 := Box.new w (.int .i64 0) 3
  have b1 := Box.new (w.alloc (.cells #[.int .i64 0] 3)) (.slice A n c) 26
  rw [World.size_alloc] at b1
  have hB0 : Below w.heap.size w ((w.alloc (.cells #[.int .i64 0] 3)).alloc (.cells #[.slice A n c] 26)) := ((Below.refl _ w).alloc (Nat.le_refl _) _).alloc (by simp) _
  refine wpIn_rangeFunc_ownF rfl (by decide) (gf := 129) (lb := #[.pointer (some ⟨w.heap.size + 1, 0, none⟩)]) rfl trivial (enters_of Try.func129 (by kernel_rfl) rfl)
    (sums14_stops _ (w.heap.size + 1) w.heap.size n c (by decide) _ (by simp) (by simp; omega) b1.1 (HR.out.below hB0) HN.out HG.out hl) Below.trans (fun W lw o o' hlw hlo hoc how => belowK_b (w := w) (Nat.le_refl _) W lw o o' (by simp at hlw; omega) hlo hoc how) (Below.refl _ _) (fun _ => rfl)
    (fun pre W => Box W w.heap.size (.int .i64 (pre.getLast?.getD 0)) ∧ Below w.heap.size w W)
    (fun _ _ _ => False)
    (OwnFrom.and (Own.from (fun s A B row hs hg hr => hs.kept hg hr) _) (ownFrom_below (Nat.le_refl _) (by simp; omega)))
    (fun _ _ _ _ _ hs _ _ => hs)
    ⟨b0.alloc _, hB0⟩
    (fun x => { tmps := #[.slice A n c, undef, .int .i64 0, .pointer (some ⟨w.heap.size, 0, none⟩), .int .i64 x, .slice A n c, .func (.func 129) #[] #[.pointer (some ⟨w.heap.size + 1, 0, none⟩)], .int .i64 x, undef, undef], defers := [] }) ?assign ?body ?done ?stop
  case assign =>
    intro l x W K hK
    gi_wp2
    exact hK
  case body =>
    rintro lr pre x W ⟨⟨hc0, hf0⟩, hB⟩ hlen
    clear b0 b1 hB0 hlen
    gi_wp2
    refine ⟨KeepsOthers.setCell _ _ _, (Below.refl _ _).setCell (p := ⟨w.heap.size, 0, none⟩) (Nat.le_refl _) _, ?_, hB.setCell (p := ⟨w.heap.size, 0, none⟩) (Nat.le_refl _) _⟩
    rw [List.getLast?_concat]
    exact Box.set_ ⟨hc0, hf0⟩ _
  case done =>
    rintro D xs W hD rfl ⟨hb, hB⟩ hK
    rw [Pk.sums_last] at hb
    obtain ⟨hc0, hf0⟩ := hb
    clear b0 b1
    gi_wp2
    refine ⟨by simp, .inl ⟨_, _, rfl, run_takeDeferred hK, ?_⟩⟩
    exact ⟨_, results_tmp rfl _ _ _, rfl, hB.trans (belowK_b (w := w) (Nat.le_refl _) W D _ _ (by simp at hD; omega) hK rfl rfl)⟩
  case stop =>
    rintro D c pre W _ _ h _
    exact h.elim

theorem Pk.picked {l q : List Int} {x y : Int} (hpre : q ++ [y] <+: Pk.sums l) (hq : ∀ z ∈ q, z ≤ x) (hy : x < y) : Pk.picks l x = q.length ∧ q.length < l.length := by
  have hlen := hpre.length_le
  rw [Pk.sums_length, List.length_append, List.length_singleton] at hlen
  have hget : ∀ j, j < q.length + 1 → (q ++ [y])[j]? = some (Pk.sum (l.take (j + 1))) := fun j hj => by
    rw [← Pk.sums_get (l := l) (k := j) (by omega)]
    obtain ⟨r, hr⟩ := hpre
    rw [← hr, List.getElem?_append_left (l₁ := q ++ [y]) (by simp; omega)]
  refine ⟨Pk.picks_at (by omega) (fun j hj => ?_) ?_, by omega⟩
  · have := hget j (by omega)
    rw [List.getElem?_append_left hj] at this
    exact hq _ (List.mem_of_getElem? this)
  · have := hget q.length (by omega)
    rw [List.getElem?_append_right (Nat.le_refl _), Nat.sub_self] at this
    simp at this
    omega
theorem Pk.not_all {l : List Int} {x : Int} (hg : Pk.good l = true) (h0 : 0 ≤ x) (hx : x < Pk.sum l) (h : ∀ z ∈ Pk.sums l, z ≤ x) : False := by
  obtain ⟨h1, -, h3⟩ := Pk.picks_spec hg h0 hx
  have := h _ (List.mem_of_getElem? (Pk.sums_get h1))
  omega

set_option maxRecDepth 100000 in
set_option maxHeartbeats 2000000 in
theorem picked14_any {A : Option Addr} {l : List Int} (n c : Nat) (x : Int) (w : World) (h : Row w w.heap.size A (ints l)) (hn : l.length = n) (hg : Pk.good l = true) (hl : n ≤ 1000) (h0 : 0 ≤ x) (hx : x < Pk.sum l) :
    Calls Try.prog 119 #[.slice A n c, .int .i64 x] w fun e w' => e = .returned (.int .i64 (Pk.picks l x : Nat)) ∧ Below w.heap.size w w' := by
  have hwf : ∀ f, Fence.wide.fn f := fun _ => trivial
  have HR := Lib.hid h
  have HN := Lib.hid hn
  have HG := Lib.hid hg
  have HX := Lib.hid (And.intro h0 hx)
  clear h hn hg h0 hx
  refine (callsIn_wide (n := 3)).1 ?_
  refine callsIn_of_wp_marks Try.func119 rfl trivial ?_ rfl
  simp only [Try.ntmps119, List.size_toArray, List.length_cons, List.length_nil, Nat.reduceAdd, Nat.reduceSub, Array.replicate_succ, Array.replicate_zero, List.push_toArray, List.append_toArray, List.nil_append, List.cons_append]
  gi_wp2_with (gi_at_call 124; refine (callsIn_wide.2 (sums14_any A n c _)).mono ?_; rintro e w' ⟨rfl, rfl⟩)
  have b0 := Box.new w (.int .i64 x) 3
  have b1 := Box.new (w.alloc (.cells #[.int .i64 x] 3)) (.int .i64 0) 3
  have b2 := Box.new ((w.alloc (.cells #[.int .i64 x] 3)).alloc (.cells #[.int .i64 0] 3)) (.slice A n c) 26
  simp only [World.size_alloc] at b1 b2
  have hB0 : Below w.heap.size w (((w.alloc (.cells #[.int .i64 x] 3)).alloc (.cells #[.int .i64 0] 3)).alloc (.cells #[.slice A n c] 26)) := (((Below.refl _ w).alloc (Nat.le_refl _) _).alloc (by simp) _).alloc (by simp; omega) _
  refine wpIn_rangeFunc_ownF rfl (by decide) (gf := 129) (lb := #[.pointer (some ⟨w.heap.size + 1 + 1, 0, none⟩)]) rfl trivial (enters_of Try.func129 (by kernel_rfl) rfl)
    (sums14_stops _ (w.heap.size + 1 + 1) w.heap.size n c (by decide) _ (by simp) (by simp; omega) b2.1 (HR.out.below hB0) HN.out HG.out hl) Below.trans (fun W lw o o' hlw hlo hoc how => belowK_b (w := w) (Nat.le_refl _) W lw o o' (by simp at hlw; omega) hlo hoc how) (Below.refl _ _) (fun _ => rfl)
    (fun pre W => ((∀ z ∈ pre, z ≤ x) ∧ Box W w.heap.size (.int .i64 x) ∧ Box W (w.heap.size + 1) (.int .i64 (pre.length : Int))) ∧ Below w.heap.size w W)
    (fun c pre W => (c = .exit 0 ∧ ∃ q y, pre = q ++ [y] ∧ (∀ z ∈ q, z ≤ x) ∧ x < y ∧ Box W (w.heap.size + 1) (.int .i64 (q.length : Int))) ∧ Below w.heap.size w W)
    (OwnFrom.and (Own.from (fun s A B row hs hg hr => ⟨hs.1, hs.2.1.kept hg hr, hs.2.2.kept hg hr⟩) _) (ownFrom_below (Nat.le_refl _) (by simp; omega)))
    (fun c => OwnFrom.and (Own.from (fun s A B row hs hg hr => ⟨hs.1, by obtain ⟨q, y, h1, h2, h3, h4⟩ := hs.2; exact ⟨q, y, h1, h2, h3, h4.kept hg hr⟩⟩) _) (ownFrom_below (Nat.le_refl _) (by simp; omega)))
    ⟨⟨by simp, (b0.alloc _).alloc _, b1.alloc _⟩, hB0⟩
    (fun y => { tmps := #[.slice A n c, .int .i64 x, undef, .pointer (some ⟨w.heap.size, 0, none⟩), .int .i64 0, .pointer (some ⟨w.heap.size + 1, 0, none⟩), .int .i64 y, .slice A n c, .func (.func 129) #[] #[.pointer (some ⟨w.heap.size + 1 + 1, 0, none⟩)], .int .i64 y, undef, undef, undef, undef, undef, undef], defers := [] }) ?assign ?body ?done ?stop
  case assign =>
    intro l x W K hK
    gi_wp2
    exact hK
  case body =>
    rintro lr pre y W ⟨⟨hall, ⟨hc0, hf0⟩, ⟨hc1, hf1⟩⟩, hB⟩ hlen
    have HALL := Lib.hid hall
    have HLEN := Lib.hid hlen
    clear b0 b1 b2 hB0 hlen hall
    by_cases hxy : x < y
    · have hgt : decide (y > x) = true := decide_eq_true hxy
      have HXY := Lib.hid hxy
      clear hxy
      gi_wp2
      exact ⟨KeepsOthers.refl _, ⟨rfl, pre, y, rfl, HALL.out, HXY.out, hc1, hf1⟩, hB⟩
    · have hgt : decide (y > x) = false := decide_eq_false hxy
      have HXY := Lib.hid hxy
      have hw : wrap64 ((pre.length : Int) + 1) = (pre.length : Int) + 1 := by have := HLEN.out; unfold wrap64; omega
      clear hxy
      gi_wp2
      refine ⟨KeepsOthers.setCell _ _ _, (Below.refl _ _).setCell (p := ⟨w.heap.size + 1, 0, none⟩) (by simp) _, ⟨fun z hz => ?_, Box.other (p := ⟨w.heap.size + 1, 0, none⟩) ⟨hc0, hf0⟩ (by simp) _, ?_⟩, hB.setCell (p := ⟨w.heap.size + 1, 0, none⟩) (by simp) _⟩
      · rcases List.mem_append.1 hz with hz | hz
        · exact HALL.out z hz
        · have := HXY.out
          rw [List.mem_singleton.1 hz]
          omega
      · have e : (((pre ++ [y]).length : Nat) : Int) = (pre.length : Int) + 1 := by simp
        rw [e]
        exact Box.set_ ⟨hc1, hf1⟩ _
  case done =>
    rintro D xs W hD rfl ⟨⟨hall, -⟩, -⟩ hK
    exact (Pk.not_all HG.out HX.out.1 HX.out.2 hall).elim
  case stop =>
    rintro D c pre W hD hpre ⟨⟨rfl, q, y, rfl, hq, hxy, hb⟩, hB⟩ hK
    obtain ⟨hpk, hql⟩ := Pk.picked hpre hq hxy
    have HPK := Lib.hid hpk
    obtain ⟨hc1, hf1⟩ := hb
    clear b0 b1 b2 hB0 hq hxy hpk hpre
    gi_wp2
    refine ⟨by simp, .inl ⟨_, _, rfl, run_takeDeferred hK, ?_⟩⟩
    exact ⟨_, results_tmp rfl _ _ _, by rw [HPK.out]; rfl, hB.trans (belowK_b (w := w) (Nat.le_refl _) W D _ _ (by simp at hD; omega) hK rfl rfl)⟩

theorem mayBe14_any {A : Option Addr} {l : List Int} (n c : Nat) (w : World) (h : Row w w.heap.size A (ints l)) (hn : l.length = n) (hn9 : n ≤ 1000000) :
    Calls Try.prog 116 #[.slice A n c] w fun e w' => e = .returned (.bool (Pk.right l)) ∧ Below w.heap.size w w' := by
  obtain ⟨res, hres⟩ : ∃ res, Pk.right l = res := ⟨_, rfl⟩
  rw [hres]
  have hsum := fun (hg : Pk.good l = true) (hl : n ≤ 1000) => total14_any (A := A) n c w h hn hg hl
  have H := Lib.hid h
  have HN := Lib.hid hn
  have HRES := Lib.hid hres
  have HSUM := Lib.hid hsum
  have HB0 := Lib.hid (Below.refl w.heap.size w)
  clear h hn hres hsum
  by_cases h20 : n ≤ 20
  · have hgt : decide ((n : Int) > 20) = false := decide_eq_false (by omega)
    go_enter Try.func116, Try.ntmps116
    go_wp2
    go_loopw [10] (fun i wr => ∃ (k : Nat), k ≤ n ∧ i = .int .i64 k ∧ Hid (Pk.good (l.take k) = true) ∧ wr = w) (fun i _ => n - (intOf i).toNat)
    case atStart => exact ⟨0, Nat.zero_le _, rfl, Lib.hid rfl, rfl⟩
    case round =>
      obtain ⟨k, hk, rfl, HK, hwr⟩ := hrel
      obtain rfl := hwr.symm
      by_cases hlt : k < n
      · obtain ⟨ad, hA, hb, c0⟩ := irow_at H.out (show k < l.length by rw [HN.out]; exact hlt)
        have hx : l[k]? = some (l[k]'(by rw [HN.out]; exact hlt)) := List.getElem?_eq_getElem _
        subst hA
        generalize l[k]'(by rw [HN.out]; exact hlt) = x at *
        by_cases hgx : 0 ≤ x ∧ x ≤ 100
        · have HK2 : Hid (Pk.good (l.take (k + 1)) = true) := Lib.hid (by
            rw [List.take_add_one, hx, Option.toList_some]
            unfold Pk.good at *
            rw [List.all_append, HK.out]
            simp
            exact hgx)
          have h1 : decide (x < 0) = false := decide_eq_false (by omega)
          have h2 : decide (x > 100) = false := decide_eq_false (by omega)
          clear hx hgx
          go_wp2
          go_roundw
          case rel => exact ⟨k + 1, by omega, by go_num, HK2, trivial⟩
          case measure => simp [intOf]; omega
        · have hbad : res = false := by
            rw [← HRES.out]
            by_cases e : Pk.right l = true
            · exact absurd (Pk.good_of (Pk.right_good e).1 (List.mem_of_getElem? hx)) hgx
            · simpa using e
          have HBAD := Lib.hid hbad
          clear hx hbad
          by_cases h0 : x < 0
          · have h1 : decide (x < 0) = true := decide_eq_true h0
            clear hgx h0
            go_wp2
            go_ret
            exact ⟨by rw [HBAD.out]; rfl, HB0.out⟩
          · have h1 : decide (x < 0) = false := decide_eq_false h0
            have h2 : decide (x > 100) = true := decide_eq_true (by omega)
            clear hgx h0
            go_wp2
            go_ret
            exact ⟨by rw [HBAD.out]; rfl, HB0.out⟩
      · obtain rfl : k = n := by omega
        have hg : Pk.good l = true := by
          have h := HK.out
          rwa [List.take_of_length_le (by rw [HN.out]; exact Nat.le_refl _)] at h
        have hr : res = decide (0 < Pk.sum l) := by
          rw [← HRES.out]
          unfold Pk.right
          rw [hg, HN.out, Bool.true_and]
          refine decide_eq_decide.2 ⟨fun h => h.2.2, fun h => ⟨?_, h20, h⟩⟩
          rcases Nat.eq_zero_or_pos k with e | e
          · have : l = [] := List.eq_nil_of_length_eq_zero (HN.out.trans e)
            subst this
            simp [Pk.sum] at h
          · exact e
        have HT := Lib.hid (HSUM.out hg (by omega))
        subst hr
        clear hg
        go_wp2_with (fail)
        refine HT.out.mono ?_
        rintro e w2 ⟨rfl, hb⟩
        go_wp2
        go_ret
        exact ⟨rfl, hb⟩
  · have hgt : decide ((n : Int) > 20) = true := decide_eq_true (by omega)
    have hbad : res = false := by
      rw [← HRES.out]
      unfold Pk.right
      rw [HN.out, decide_eq_false (by omega), Bool.and_false]
    subst hbad
    go_enter Try.func116, Try.ntmps116
    go_wp2
    go_ret
    exact ⟨rfl, HB0.out⟩
end Go.Proofs.Ytmbgndcahlopdaa

/- Package pick: Least, isMost, number, choiceOf, Unsigned. -/
namespace Go.Proofs.Ytmbgndcahlopdaa
set_option maxRecDepth 100000
open Go.RowKit Go.Shelf
attribute [local go_sem] Oper.semAt_some

/-- A number and an error. -/
def TellsPk (w : World) (r : Int × Nat) (e : Ending) (w' : World) : Prop := e = .returned (.tuple #[.int .i64 r.1, .int .i64 (r.2 : Int)]) ∧ Below w.heap.size w w'
theorem ints_take14 (l : List Int) (k : Nat) : (ints l).take k = ints (l.take k) := by simp [ints, List.map_take]
set_option maxHeartbeats 2000000 in
theorem pLeast14_any {A : Option Addr} {l : List Int} (n c : Nat) (i : Int) (w : World) (h : Row w w.heap.size A (ints l)) (hn : l.length = n) (hn9 : n ≤ 1000000) (hc : n ≤ c) :
    Calls Try.prog 97 #[.slice A n c, .int .i64 i] w (TellsPk w (Pk.least l i)) := by
  unfold TellsPk
  have hmb := mayBe14_any (A := A) n c w h hn hn9
  obtain ⟨res, hres⟩ : ∃ res, Pk.least l i = res := ⟨_, rfl⟩
  rw [hres]
  unfold Pk.least at hres
  by_cases hr : Pk.right l = true
  · obtain ⟨hg, h1, h20, hs0⟩ := Pk.right_good hr
    rw [hr] at hmb
    rw [if_pos hr] at hres
    have HMB := Lib.hid hmb
    clear hmb hs0
    by_cases hi : 0 ≤ i ∧ i < n
    · obtain ⟨k, rfl⟩ : ∃ k : Nat, i = (k : Int) := ⟨i.toNat, by omega⟩
      have hlt : k < l.length := by omega
      have hkn : k < n := by omega
      have hkc : k ≤ c := by omega
      have hx : l[k]? = some (l[k]'hlt) := List.getElem?_eq_getElem _
      have hxd : l.getD k 0 = l[k]'hlt := by rw [List.getD_eq_getElem?_getD, hx]; rfl
      have hgx := Pk.good_of hg (List.mem_of_getElem? hx)
      rw [Int.toNat_natCast, hxd, hn] at hres
      have htot : ∀ W, Below w.heap.size w W → Calls Try.prog 117 #[.slice A k c] W fun e w' => e = .returned (.int .i64 (Pk.sum (l.take k))) ∧ Below W.heap.size W w' := fun W hW =>
        total14_any k c W (by have := ((h.below hW).more hW.size).take k; rwa [ints_take14] at this) (by rw [List.length_take]; omega) (Pk.good_take hg k) (by omega)
      have HT := Lib.hid htot
      obtain ⟨xv, hxv⟩ : ∃ xv, l[k]'hlt = xv := ⟨_, rfl⟩
      rw [hxv] at hres hgx
      have hcell : ∀ W, Below w.heap.size w W → ∃ ad, A = some ad ∧ W.cell? (ad.add k) = some (.int .i64 xv) := fun W hW => by
        obtain ⟨ad, hA, -, c0⟩ := irow_at ((h.below hW).more hW.size) hlt
        rw [hxv] at c0
        exact ⟨ad, hA, c0⟩
      have HCELL := Lib.hid hcell
      clear hx hxd hxv hcell htot h hn hg
      by_cases h0 : xv = 0
      · subst h0
        rw [if_neg (by omega)] at hres
        subst hres
        go_enter Try.func97, Try.ntmps97
        go_wp2_with (fail)
        refine HMB.out.mono ?_
        rintro e w1 ⟨rfl, hb1⟩
        obtain ⟨ad, hA, c0⟩ := HCELL.out w1 hb1
        subst hA
        have HB := Lib.hid hb1
        clear hb1 HCELL HT
        go_wp2
        go_ret2
        exact ⟨rfl, HB.out⟩
      · have hz : (xv == (0 : Int)) = false := by rw [beq_eq_false_iff_ne]; exact h0
        rw [if_pos ⟨by omega, by omega, by omega⟩] at hres
        subst hres
        generalize Pk.sum (l.take k) = s at *
        clear hgx h0
        go_enter Try.func97, Try.ntmps97
        go_wp2_with (fail)
        refine HMB.out.mono ?_
        rintro e w1 ⟨rfl, hb1⟩
        obtain ⟨ad, hA, c0⟩ := HCELL.out w1 hb1
        subst hA
        have HB := Lib.hid hb1
        clear hb1 HCELL
        go_wp2_with (fail)
        refine (HT.out w1 HB.out).mono ?_
        rintro e w2 ⟨rfl, hb2⟩
        have HB2 := Lib.hid (HB.out.trans (hb2.mono HB.out.size))
        clear hb2
        go_wp2
        go_ret2
        exact ⟨rfl, HB2.out⟩
    · rw [if_neg (by rw [hn]; exact fun h => hi ⟨h.1, h.2.1⟩)] at hres
      subst hres
      clear h hn hg
      by_cases hi0 : i < 0
      · have hl : decide (i < 0) = true := decide_eq_true hi0
        go_enter Try.func97, Try.ntmps97
        go_wp2_with (fail)
        refine HMB.out.mono ?_
        rintro e w1 ⟨rfl, hb1⟩
        have HB := Lib.hid hb1
        clear hb1
        go_wp2
        go_ret2
        exact ⟨rfl, HB.out⟩
      · have hl : decide (i < 0) = false := decide_eq_false hi0
        have hl2 : decide (i ≥ (n : Int)) = true := decide_eq_true (by omega)
        go_enter Try.func97, Try.ntmps97
        go_wp2_with (fail)
        refine HMB.out.mono ?_
        rintro e w1 ⟨rfl, hb1⟩
        have HB := Lib.hid hb1
        clear hb1
        go_wp2
        go_ret2
        exact ⟨rfl, HB.out⟩
  · rw [if_neg hr] at hres
    have hrf : Pk.right l = false := by simpa using hr
    rw [hrf] at hmb
    subst hres
    have HMB := Lib.hid hmb
    clear h hn hmb hr hrf
    go_enter Try.func97, Try.ntmps97
    go_wp2_with (fail)
    refine HMB.out.mono ?_
    rintro e w1 ⟨rfl, hb1⟩
    have HB := Lib.hid hb1
    clear hb1
    go_wp2
    go_ret2
    exact ⟨rfl, HB.out⟩

theorem isMost14_any (most : Int) (w : World) : Calls Try.prog 120 #[.int .i64 most] w fun e w' => e = .returned (.bool (decide (0 ≤ most ∧ most ≤ 20))) ∧ w = w' := by
  by_cases h0 : most ≥ 0
  · by_cases h1 : most ≤ 20
    · have e0 : decide (most ≥ 0) = true := decide_eq_true h0
      have e1 : decide (most ≤ 20) = true := decide_eq_true h1
      rw [decide_eq_true (show 0 ≤ most ∧ most ≤ 20 from ⟨h0, h1⟩)]
      clear h0 h1
      go_enter Try.func120, Try.ntmps120
      go_wp2
      go_ret
      exact ⟨rfl, rfl⟩
    · have e0 : decide (most ≥ 0) = true := decide_eq_true h0
      have e1 : decide (most ≤ 20) = false := decide_eq_false h1
      rw [decide_eq_false (fun h => h1 h.2)]
      clear h0 h1
      go_enter Try.func120, Try.ntmps120
      go_wp2
      go_ret
      exact ⟨rfl, rfl⟩
  · have e0 : decide (most ≥ 0) = false := decide_eq_false h0
    rw [decide_eq_false (fun h => h0 h.1)]
    clear h0
    go_enter Try.func120, Try.ntmps120
    go_wp2
    go_ret
    exact ⟨rfl, rfl⟩
theorem number14_any (k : Nat) (hk : k ≤ 1000000) (w : World) : Calls Try.prog 121 #[.int .i64 (k : Int)] w fun e w' => e = .returned (.int .i64 (Pk.made k)) ∧ w = w' := by
  have h1 : (k : Int).tmod 2 = ((k % 2 : Nat) : Int) := by rw [Int.tmod_eq_emod_of_nonneg (by omega)]; omega
  unfold Pk.made
  by_cases h : k % 2 = 1
  · rw [if_pos h]
    have h3 : (((k % 2 : Nat) : Int) == 1) = true := by rw [h]; rfl
    have h5 : wrap64 ((k : Int) + 1) = (k : Int) + 1 := by unfold wrap64; omega
    have h2 : ((k : Int) + 1).tdiv 2 = ((k / 2 : Nat) : Int) + 1 := by rw [Int.tdiv_eq_ediv_of_nonneg (by omega)]; omega
    have h6 : wrap64 (((k / 2 : Nat) : Int) + 1) = ((k / 2 : Nat) : Int) + 1 := by unfold wrap64; omega
    generalize ((k / 2 : Nat) : Int) + 1 = q at *
    clear h
    go_enter Try.func121, Try.ntmps121
    go_wp2
    go_ret
    exact ⟨congrArg (fun z => Ending.returned (.int .i64 z)) h6, rfl⟩
  · rw [if_neg h]
    have h3 : (((k % 2 : Nat) : Int) == 1) = false := by rw [beq_eq_false_iff_ne]; omega
    have h5 : wrap64 (-(k : Int)) = -(k : Int) := by unfold wrap64; omega
    have h2 : (-(k : Int)).tdiv 2 = -((k / 2 : Nat) : Int) := by rw [Int.neg_tdiv, Int.tdiv_eq_ediv_of_nonneg (by omega)]; omega
    have h6 : wrap64 (-((k / 2 : Nat) : Int)) = -((k / 2 : Nat) : Int) := by unfold wrap64; omega
    generalize -((k / 2 : Nat) : Int) = q at *
    clear h
    go_enter Try.func121, Try.ntmps121
    go_wp2
    go_ret
    exact ⟨congrArg (fun z => Ending.returned (.int .i64 z)) h6, rfl⟩
end Go.Proofs.Ytmbgndcahlopdaa

/- The walk of package pick's Signed. -/
namespace Go.Proofs.Ytmbgndcahlopdaa
set_option maxRecDepth 100000
open Go.RowKit Go.Shelf
attribute [local go_sem] Oper.semAt_some

/-- What a choice answers, where it chooses: x the choice, v what it makes. -/
def PTake14 (w : World) (n m : Nat) (list log : List Int) (x v : Int) (i : Nat) (e : Ending) (w' : World) : Prop :=
  ∃ A c L d, e = .returned (.tuple #[.agg #[.slice A n c, .int .i64 (i : Int), .slice L (m + 1) d], .int .i64 v, .int .i64 0]) ∧ w'.ownsRow w.heap.size 3 1 (.slice A n c) n (ints list) ∧
    w'.ownsRow w.heap.size 3 1 (.slice L (m + 1) d) (m + 1) (ints (log ++ [x])) ∧ Below w.heap.size w w'
set_option maxHeartbeats 2000000 in
theorem pSigned14_no {A L : Option Addr} (n c m d er : Nat) (i most : Int) (w : World) (hin : 0 ≤ most ∧ most ≤ 20) (he : er = 1 ∨ er = 8) (hk : ∀ W, Below w.heap.size w W → Calls Try.prog 100 #[.agg #[.slice A n c, .int .i64 i, .slice L m d], .int .i64 (2 * most + 1)] W (TakeNo13 W er)) :
    Calls Try.prog 108 #[.agg #[.slice A n c, .int .i64 i, .slice L m d], .int .i64 most] w (TakeNo13 w er) := by
  unfold TakeNo13 at hk ⊢
  have hb := ((Below.refl _ w).alloc (Nat.le_refl _) (.cells #[.slice A n c, .int .i64 i, .slice L m d] 30)).alloc (by simp) (.cells #[.slice none 0 0, .int .i64 0, .slice none 0 0] 30)
  have hk0 := (Blk.new w 30 #[.slice A n c, .int .i64 i, .slice L m d]).alloc (.cells #[.slice none 0 0, .int .i64 0, .slice none 0 0] 30)
  have hk1 := Blk.new (w.alloc (.cells #[.slice A n c, .int .i64 i, .slice L m d] 30)) 30 #[.slice none 0 0, .int .i64 0, .slice none 0 0]
  rw [World.size_alloc] at hk1
  obtain ⟨W1, hW1⟩ : ∃ W1, (w.alloc (.cells #[.slice A n c, .int .i64 i, .slice L m d] 30)).alloc (.cells #[.slice none 0 0, .int .i64 0, .slice none 0 0] 30) = W1 := ⟨_, rfl⟩
  rw [hW1] at hb hk0 hk1
  have him := isMost14_any most W1
  rw [decide_eq_true hin] at him
  have q0 := hk0.cell 0
  have q1 := hk0.cell 1
  have q2 := hk0.cell 2
  have ha : wrap64 (2 * most) = 2 * most := by unfold wrap64; omega
  have ha2 : wrap64 (2 * most + 1) = 2 * most + 1 := by unfold wrap64; omega
  have hez : ((er : Int) != 0) = true := by rw [bne_iff_ne]; omega
  have hez2 : ¬ er = 0 := by omega
  have HT := Lib.hid (hk W1 hb)
  have HIM := Lib.hid him
  have HB := Lib.hid hb
  have HK1 := Lib.hid hk1
  clear hk0 hk1 hb him hin hk he
  go_enter Try.func108, Try.ntmps108
  go_wp2_with (fail)
  refine HIM.out.mono ?_
  rintro e w1 ⟨rfl, rfl⟩
  go_wp2_with (fail)
  refine HT.out.mono ?_
  rintro e w1 ⟨rfl, hb1⟩
  have hk2 := (HK1.out.below hb1 HK1.out.lt).alloc (.cells #[.slice none 0 0, .int .i64 0, .slice none 0 0] 30)
  have hk3 := Blk.new w1 30 #[.slice none 0 0, .int .i64 0, .slice none 0 0]
  have hne : w.heap.size + 1 ≠ w1.heap.size := by have := (HK1.out.below hb1 HK1.out.lt).lt; omega
  obtain ⟨Z1, Z2, Z3, d0, d1, d2, h0, h1, h2, i0, i1, i2, j0, j1, j2, hz, hzh, hzb⟩ := n3_steps hk3 (.slice none 0 0) (.int .i64 0) (.slice none 0 0)
  have hk4 : Blk Z3 (w.heap.size + 1) 30 #[.slice none 0 0, .int .i64 0, .slice none 0 0] := (hzh.out _ hne).trans hk2
  obtain ⟨Y1, Y2, Y3, e0, e1, e2, f0, f1, f2, g0, g1, g2, r0, r1, r2, -, -, HYB⟩ := n3_steps hk4 (.slice none 0 0) (.int .i64 0) (.slice none 0 0)
  have hbw := HB.out.trans (hb1.mono HB.out.size)
  have HB3 := Lib.hid (HYB.out _ _ (Nat.le_succ _) (hzb.out _ _ hbw.size (hbw.alloc hbw.size (.cells #[.slice none 0 0, .int .i64 0, .slice none 0 0] 30))))
  clear hk2 hk3 hk4 hb1 HYB hz hzh hzb hbw hne
  go_wp2
  exact bodyPost_ret (v := .tuple #[.agg #[.slice none 0 0, .int .i64 0, .slice none 0 0], .int .i64 0, .int .i64 (er : Int)]) (by simp [results, Try.results108, go_sem, r0, r1, r2]) rfl ⟨rfl, HB3.out⟩
set_option maxHeartbeats 4000000 in
theorem pSigned14_yes {A L : Option Addr} {list log : List Int} (n c m d k j : Nat) (i most : Int) (w : World) (hin : 0 ≤ most ∧ most ≤ 20) (hk9 : k ≤ 1000000) (hk : ∀ W, Below w.heap.size w W → Calls Try.prog 100 #[.agg #[.slice A n c, .int .i64 i, .slice L m d], .int .i64 (2 * most + 1)] W (Take13 W n m list log (k : Int) j)) :
    Calls Try.prog 108 #[.agg #[.slice A n c, .int .i64 i, .slice L m d], .int .i64 most] w (PTake14 w n m list log (k : Int) (Pk.made k) j) := by
  unfold Take13 at hk
  unfold PTake14
  have hb := ((Below.refl _ w).alloc (Nat.le_refl _) (.cells #[.slice A n c, .int .i64 i, .slice L m d] 30)).alloc (by simp) (.cells #[.slice none 0 0, .int .i64 0, .slice none 0 0] 30)
  have hk0 := (Blk.new w 30 #[.slice A n c, .int .i64 i, .slice L m d]).alloc (.cells #[.slice none 0 0, .int .i64 0, .slice none 0 0] 30)
  have hk1 := Blk.new (w.alloc (.cells #[.slice A n c, .int .i64 i, .slice L m d] 30)) 30 #[.slice none 0 0, .int .i64 0, .slice none 0 0]
  rw [World.size_alloc] at hk1
  obtain ⟨W1, hW1⟩ : ∃ W1, (w.alloc (.cells #[.slice A n c, .int .i64 i, .slice L m d] 30)).alloc (.cells #[.slice none 0 0, .int .i64 0, .slice none 0 0] 30) = W1 := ⟨_, rfl⟩
  rw [hW1] at hb hk0 hk1
  have him := isMost14_any most W1
  rw [decide_eq_true hin] at him
  have q0 := hk0.cell 0
  have q1 := hk0.cell 1
  have q2 := hk0.cell 2
  have ha : wrap64 (2 * most) = 2 * most := by unfold wrap64; omega
  have ha2 : wrap64 (2 * most + 1) = 2 * most + 1 := by unfold wrap64; omega
  have HT := Lib.hid (hk W1 hb)
  have HIM := Lib.hid him
  have HB := Lib.hid hb
  have HK1 := Lib.hid hk1
  have HNB := Lib.hid (number14_any k hk9)
  clear hk0 hk1 hb him hin hk
  go_enter Try.func108, Try.ntmps108
  go_wp2_with (fail)
  refine HIM.out.mono ?_
  rintro e w1 ⟨rfl, rfl⟩
  go_wp2_with (fail)
  refine HT.out.mono ?_
  rintro e w1 ⟨A1, c1, L1, d1, rfl, hla, hlo, hb1⟩
  have hk2 := (HK1.out.below hb1 HK1.out.lt).alloc (.cells #[.slice none 0 0, .int .i64 0, .slice none 0 0] 30)
  have hk3 := Blk.new w1 30 #[.slice none 0 0, .int .i64 0, .slice none 0 0]
  have hlt := (HK1.out.below hb1 HK1.out.lt).lt
  obtain ⟨Z1, Z2, Z3, d0, d1', d2, h0, h1, h2, i0, i1, i2', j0, j1, j2, hz, hzh, hzb⟩ := n3_steps hk3 (.slice A1 n c1) (.int .i64 (j : Int)) (.slice L1 (m + 1) d1)
  have hbz : Below w1.heap.size w1 Z3 := hzb.out _ _ (Nat.le_refl _) ((Below.refl _ w1).alloc (Nat.le_refl _) (.cells #[.slice none 0 0, .int .i64 0, .slice none 0 0] 30))
  have hk4 : Blk Z3 (w.heap.size + 1) 30 #[.slice none 0 0, .int .i64 0, .slice none 0 0] := (hzh.out _ (by omega)).trans hk2
  obtain ⟨Y1, Y2, Y3, e0, e1, e2, f0, f1, f2, g0, g1, g2, r0, r1, r2, -, hyh, HYB⟩ := n3_steps hk4 (.slice A1 n c1) (.int .i64 (j : Int)) (.slice L1 (m + 1) d1)
  have hbw := HB.out.trans (hb1.mono HB.out.size)
  have HB3 := Lib.hid (HYB.out _ _ (Nat.le_succ _) (hbw.trans (hbz.mono hbw.size)))
  have hge := HB.out.size
  have hA2 := own_ofD (ownT_below hla hbz) fun g' hg' => hyh.out g' (by have := (hla.lt g' hg').1; have := HK1.out.lt; omega)
  have hL2 := own_ofD (ownT_below hlo hbz) fun g' hg' => hyh.out g' (by have := (hlo.lt g' hg').1; have := HK1.out.lt; omega)
  have HA2 := Lib.hid (ownT_mono hA2 hge)
  have HL2 := Lib.hid (ownT_mono hL2 hge)
  have hyw := hyh.out w1.heap.size (by omega)
  have k0 := (World.cell?_of_block (a := ⟨w1.heap.size, 0, none⟩) hyw).trans j0
  have k1 := (World.cell?_of_block (a := ⟨w1.heap.size, 1, none⟩) hyw).trans j1
  have k2 := (World.cell?_of_block (a := ⟨w1.heap.size, 2, none⟩) hyw).trans j2
  clear hyw hk2 hk3 hk4 hb1 HYB hz hzh hzb hbw hlt hyh hA2 hL2 hge hla hlo hbz
  go_wp2_with (fail)
  go_region_held3 (fun W => W.cell? ⟨w1.heap.size, 0, none⟩ = some (.slice A1 n c1) ∧ W.cell? ⟨w1.heap.size, 1, none⟩ = some (.int .i64 (j : Int)) ∧ W.cell? ⟨w1.heap.size, 2, none⟩ = some (.slice L1 (m + 1) d1)) (first | exact ⟨j0, j1, j2⟩ | exact ⟨k0, k1, k2⟩) (first | (go_at_call 121; refine (HNB.out _).mono ?_; rintro e wq ⟨rfl, rfl⟩))
  go_wp2
  exact bodyPost_ret (v := .tuple #[.agg #[.slice A1 n c1, .int .i64 (j : Int), .slice L1 (m + 1) d1], .int .i64 (Pk.made k), .int .i64 0]) (by simp [results, Try.results108, go_sem, r0, r1, r2]) rfl ⟨A1, c1, L1, d1, rfl, HA2.out, HL2.out, HB3.out.drew⟩
end Go.Proofs.Ytmbgndcahlopdaa

/- The walk of package pick's Weighted. -/
namespace Go.Proofs.Ytmbgndcahlopdaa
set_option maxRecDepth 100000
open Go.RowKit Go.Shelf
attribute [local go_sem] Oper.semAt_some

set_option maxHeartbeats 8000000 in
theorem pWeighted14_no {A L Q : Option Addr} {l : List Int} (n c m d q f er : Nat) (i : Int) (w : World) (hA : Row w w.heap.size Q (ints l)) (hq : l.length = q) (hq9 : q ≤ 1000000) (hr : Pk.right l = true) (he : er = 1 ∨ er = 8) (hk : ∀ W, Below w.heap.size w W → Calls Try.prog 100 #[.agg #[.slice A n c, .int .i64 i, .slice L m d], .int .i64 (Pk.sum l)] W (TakeNo13 W er)) :
    Calls Try.prog 106 #[.agg #[.slice A n c, .int .i64 i, .slice L m d], .slice Q q f] w (TakeNo13 w er) := by
  unfold TakeNo13 at hk ⊢
  obtain ⟨hg, h1, h20, hs0⟩ := Pk.right_good hr
  have hez : ((er : Int) != 0) = true := by rw [bne_iff_ne]; omega
  have hez2 : ¬ er = 0 := by omega
  clear he
  have hb := ((Below.refl _ w).alloc (Nat.le_refl _) (.cells #[.slice A n c, .int .i64 i, .slice L m d] 30)).alloc (by simp) (.cells #[.slice none 0 0, .int .i64 0, .slice none 0 0] 30)
  have hk0 := (Blk.new w 30 #[.slice A n c, .int .i64 i, .slice L m d]).alloc (.cells #[.slice none 0 0, .int .i64 0, .slice none 0 0] 30)
  have hk1 := Blk.new (w.alloc (.cells #[.slice A n c, .int .i64 i, .slice L m d] 30)) 30 #[.slice none 0 0, .int .i64 0, .slice none 0 0]
  rw [World.size_alloc] at hk1
  obtain ⟨W1, hW1⟩ : ∃ W1, (w.alloc (.cells #[.slice A n c, .int .i64 i, .slice L m d] 30)).alloc (.cells #[.slice none 0 0, .int .i64 0, .slice none 0 0] 30) = W1 := ⟨_, rfl⟩
  rw [hW1] at hb hk0 hk1
  have hmb := mayBe14_any q f W1 ((hA.below hb).more hb.size) hq hq9
  rw [hr] at hmb
  have hsum := fun W (hW : Below w.heap.size w W) => total14_any q f W ((hA.below hW).more hW.size) hq hg (by omega)
  obtain ⟨s, hs⟩ : ∃ s, Pk.sum l = s := ⟨_, rfl⟩
  rw [hs] at hsum hk
  have HMB := Lib.hid hmb
  have HSUM := Lib.hid hsum
  have HTK := Lib.hid hk
  have HK0 := Lib.hid hk0
  have HK1 := Lib.hid hk1
  have HB := Lib.hid hb
  clear hk0 hk1 hb hmb hsum hk hA hq hr hg h1 h20 hs0 hs
  go_enter Try.func106, Try.ntmps106
  go_wp2_with (fail)
  refine HMB.out.mono ?_
  rintro e w1 ⟨rfl, hb1⟩
  have HK2 := Lib.hid (HK0.out.below hb1 HK0.out.lt)
  have HK3 := Lib.hid (HK1.out.below hb1 HK1.out.lt)
  have HBW := Lib.hid (HB.out.trans (hb1.mono HB.out.size))
  clear hb1 HK0 HK1 HB
  have HSK : Hid (∀ W, Below w1.heap.size w1 W → W.cell? ⟨w.heap.size, 0, none⟩ = some (.slice A n c) ∧ W.cell? ⟨w.heap.size, 1, none⟩ = some (.int .i64 i) ∧ W.cell? ⟨w.heap.size, 2, none⟩ = some (.slice L m d)) := Lib.hid fun W hb =>
    have h1 := HK2.out.below hb HK2.out.lt
    ⟨h1.cell 0, h1.cell 1, h1.cell 2⟩
  have BR := Lib.hid (Below.refl w1.heap.size w1)
  have BD := Lib.hid ((Below.refl w1.heap.size w1).drew)
  have BDA := Lib.hid (((Below.refl w1.heap.size w1).alloc (Nat.le_refl _) (.cells #[.slice none 0 0, .int .i64 0, .slice none 0 0] 30)).drew)
  have HWB : Hid (∀ W, Below w1.heap.size w1 W → Below w.heap.size w W) := Lib.hid fun W hb => HBW.out.trans (hb.mono HBW.out.size)
  go_wp2_with (fail)
  go_cut [7, 8, 9] from 14 to 21 (fun b7 b8 b9 wx => ∃ (g : Nat), b7 = .pointer (some ⟨g, 0, none⟩) ∧ b8 = .int .i64 0 ∧ b9 = .int .i64 (er : Int) ∧ w1.heap.size ≤ g ∧ Hid (Below w1.heap.size w1 wx) ∧ Hid (Blk wx g 30 #[.slice none 0 0, .int .i64 0, .slice none 0 0]))
  case first =>
    go_region_held3 (fun W => W.cell? ⟨w.heap.size, 0, none⟩ = some (.slice A n c) ∧ W.cell? ⟨w.heap.size, 1, none⟩ = some (.int .i64 i) ∧ W.cell? ⟨w.heap.size, 2, none⟩ = some (.slice L m d))
      (first | (refine HSK.out _ ?_; first | with_reducible exact BR.out | with_reducible exact BD.out | with_reducible exact BDA.out | with_reducible exact hA | with_reducible exact hA.alloc hA.size _ | with_reducible exact hB | with_reducible exact hAA | with_reducible exact hYY))
      (first
        | (go_at_call 117; refine (HSUM.out _ (HWB.out _ ?_)).mono ?_; (first | with_reducible exact BD.out | with_reducible exact BDA.out); rintro e wa ⟨rfl, hba⟩; have hA : Below w1.heap.size w1 wa := (by first | with_reducible exact BD.out.trans (hba.mono BD.out.size) | with_reducible exact BDA.out.trans (hba.mono BDA.out.size)))
        | (go_at_call 100; refine (HTK.out _ (HWB.out _ ?_)).mono ?_; (first | with_reducible exact hA | with_reducible exact hA.alloc hA.size _); rintro e wb ⟨rfl, hbb⟩; have hB : Below w1.heap.size w1 wb := (by first | with_reducible exact hA.trans (hbb.mono hA.size) | with_reducible exact (hA.alloc hA.size _).trans (hbb.mono (hA.alloc hA.size _).size)); (first
            | (have hG := ((Blk.new w1 30 #[.slice none 0 0, .int .i64 0, .slice none 0 0]).drew.below hba (Blk.new w1 30 #[.slice none 0 0, .int .i64 0, .slice none 0 0]).drew.lt).below hbb ((Blk.new w1 30 #[.slice none 0 0, .int .i64 0, .slice none 0 0]).drew.below hba (Blk.new w1 30 #[.slice none 0 0, .int .i64 0, .slice none 0 0]).drew.lt).lt; have hAA := hB; have hsz := Nat.le_refl w1.heap.size; obtain ⟨Y1, Y2, Y3, e0, e1, e2, f0, f1, f2, g0, g1, g2, r0, r1, r2, hk9, hh9, hb9⟩ := n3_steps hG (.slice none 0 0) (.int .i64 0) (.slice none 0 0); have hYY : Below w1.heap.size w1 Y3 := hb9.out _ _ hsz hAA; clear hh9 hb9 hG)
            | (have hG := (Blk.new wa 30 #[.slice none 0 0, .int .i64 0, .slice none 0 0]).below hbb (Blk.new wa 30 #[.slice none 0 0, .int .i64 0, .slice none 0 0]).lt; have hAA := hB; have hsz := hA.size; obtain ⟨Y1, Y2, Y3, e0, e1, e2, f0, f1, f2, g0, g1, g2, r0, r1, r2, hk9, hh9, hb9⟩ := n3_steps hG (.slice none 0 0) (.int .i64 0) (.slice none 0 0); have hYY : Below w1.heap.size w1 Y3 := hb9.out _ _ hsz hAA; clear hh9 hb9 hG)
            | (obtain ⟨WB, hWB⟩ : ∃ WB, wb.alloc (.cells #[.slice none 0 0, .int .i64 0, .slice none 0 0] 30) = WB := ⟨_, rfl⟩; have hG : Blk WB wb.heap.size 30 #[.slice none 0 0, .int .i64 0, .slice none 0 0] := hWB ▸ Blk.new _ _ _; have hAA : Below w1.heap.size w1 WB := hWB ▸ hB.alloc hB.size _; have hsz := hB.size; obtain ⟨Y1, Y2, Y3, e0, e1, e2, f0, f1, f2, g0, g1, g2, r0, r1, r2, hk9, hh9, hb9⟩ := n3_steps hG (.slice none 0 0) (.int .i64 0) (.slice none 0 0); have hYY : Below w1.heap.size w1 Y3 := hb9.out _ _ hsz hAA; clear hh9 hb9 hG))))
    all_goals go_wp2_with fail
    all_goals go_meet
    all_goals exact ⟨_, rfl, rfl, rfl, hsz, Lib.hid hYY, hk9⟩
  case rest =>
    obtain ⟨g, rfl, rfl, rfl, hwg, HBC, HKG⟩ := hcut
    have hk3 := HK3.out.below HBC.out HK3.out.lt
    clear BR BD BDA HSK
    obtain ⟨Y1, Y2, Y3, e0, e1, e2, f0, f1, f2, g0, g1, g2, r0, r1, r2, -, -, HYB⟩ := n3_steps hk3 (.slice none 0 0) (.int .i64 0) (.slice none 0 0)
    have HB3 := Lib.hid (HYB.out _ _ (Nat.le_succ _) (HWB.out _ HBC.out))
    clear hk3 HYB
    go_wp2
    exact bodyPost_ret (v := .tuple #[.agg #[.slice none 0 0, .int .i64 0, .slice none 0 0], .int .i64 0, .int .i64 (er : Int)]) (by simp [results, Try.results106, go_sem, r0, r1, r2]) rfl ⟨rfl, HB3.out⟩
set_option maxHeartbeats 16000000 in
theorem pWeighted14_yes {A L Q : Option Addr} {l list log : List Int} (n c m d q f j : Nat) (i x : Int) (w : World) (hA : Row w w.heap.size Q (ints l)) (hq : l.length = q) (hq9 : q ≤ 1000000) (hr : Pk.right l = true) (hx0 : 0 ≤ x) (hx : x < Pk.sum l) (hk : ∀ W, Below w.heap.size w W → Calls Try.prog 100 #[.agg #[.slice A n c, .int .i64 i, .slice L m d], .int .i64 (Pk.sum l)] W (Take13 W n m list log x j)) :
    Calls Try.prog 106 #[.agg #[.slice A n c, .int .i64 i, .slice L m d], .slice Q q f] w (PTake14 w n m list log x (Pk.picks l x : Nat) j) := by
  unfold Take13 at hk
  unfold PTake14
  obtain ⟨hg, h1, h20, hs0⟩ := Pk.right_good hr
  have hpk := fun W (hW : Below w.heap.size w W) => picked14_any q f x W ((hA.below hW).more hW.size) hq hg (by omega) hx0 hx
  obtain ⟨p, hp⟩ : ∃ p, Pk.picks l x = p := ⟨_, rfl⟩
  rw [hp] at hpk ⊢
  have HPK := Lib.hid hpk
  clear hpk hp
  have hb := ((Below.refl _ w).alloc (Nat.le_refl _) (.cells #[.slice A n c, .int .i64 i, .slice L m d] 30)).alloc (by simp) (.cells #[.slice none 0 0, .int .i64 0, .slice none 0 0] 30)
  have hk0 := (Blk.new w 30 #[.slice A n c, .int .i64 i, .slice L m d]).alloc (.cells #[.slice none 0 0, .int .i64 0, .slice none 0 0] 30)
  have hk1 := Blk.new (w.alloc (.cells #[.slice A n c, .int .i64 i, .slice L m d] 30)) 30 #[.slice none 0 0, .int .i64 0, .slice none 0 0]
  rw [World.size_alloc] at hk1
  obtain ⟨W1, hW1⟩ : ∃ W1, (w.alloc (.cells #[.slice A n c, .int .i64 i, .slice L m d] 30)).alloc (.cells #[.slice none 0 0, .int .i64 0, .slice none 0 0] 30) = W1 := ⟨_, rfl⟩
  rw [hW1] at hb hk0 hk1
  have hmb := mayBe14_any q f W1 ((hA.below hb).more hb.size) hq hq9
  rw [hr] at hmb
  have hsum := fun W (hW : Below w.heap.size w W) => total14_any q f W ((hA.below hW).more hW.size) hq hg (by omega)
  obtain ⟨s, hs⟩ : ∃ s, Pk.sum l = s := ⟨_, rfl⟩
  rw [hs] at hsum hk
  have HMB := Lib.hid hmb
  have HSUM := Lib.hid hsum
  have HTK := Lib.hid hk
  have HK0 := Lib.hid hk0
  have HK1 := Lib.hid hk1
  have HB := Lib.hid hb
  clear hx0 hx
  clear hk0 hk1 hb hmb hsum hk hA hq hr hg h1 h20 hs0 hs
  go_enter Try.func106, Try.ntmps106
  go_wp2_with (fail)
  refine HMB.out.mono ?_
  rintro e w1 ⟨rfl, hb1⟩
  have HK2 := Lib.hid (HK0.out.below hb1 HK0.out.lt)
  have HK3 := Lib.hid (HK1.out.below hb1 HK1.out.lt)
  have HBW := Lib.hid (HB.out.trans (hb1.mono HB.out.size))
  clear hb1 HK0 HK1 HB
  have HSK : Hid (∀ W, Below w1.heap.size w1 W → W.cell? ⟨w.heap.size, 0, none⟩ = some (.slice A n c) ∧ W.cell? ⟨w.heap.size, 1, none⟩ = some (.int .i64 i) ∧ W.cell? ⟨w.heap.size, 2, none⟩ = some (.slice L m d)) := Lib.hid fun W hb =>
    have h1 := HK2.out.below hb HK2.out.lt
    ⟨h1.cell 0, h1.cell 1, h1.cell 2⟩
  have BR := Lib.hid (Below.refl w1.heap.size w1)
  have BD := Lib.hid ((Below.refl w1.heap.size w1).drew)
  have BDA := Lib.hid (((Below.refl w1.heap.size w1).alloc (Nat.le_refl _) (.cells #[.slice none 0 0, .int .i64 0, .slice none 0 0] 30)).drew)
  have HWB : Hid (∀ W, Below w1.heap.size w1 W → Below w.heap.size w W) := Lib.hid fun W hb => HBW.out.trans (hb.mono HBW.out.size)
  go_wp2_with (fail)
  go_cut [7, 8, 9] from 14 to 21 (fun b7 b8 b9 wx => ∃ (g : Nat) (A1 L1 : Option Addr) (c1 d1 : Nat), b7 = .pointer (some ⟨g, 0, none⟩) ∧ b8 = .int .i64 x ∧ b9 = .int .i64 0 ∧ w1.heap.size ≤ g ∧ Hid (Below w1.heap.size w1 wx) ∧ Hid (Blk wx g 30 #[.slice A1 n c1, .int .i64 (j : Int), .slice L1 (m + 1) d1]) ∧ Hid (wx.ownsRow w1.heap.size 3 1 (.slice A1 n c1) n (ints list)) ∧ Hid (wx.ownsRow w1.heap.size 3 1 (.slice L1 (m + 1) d1) (m + 1) (ints (log ++ [x]))))
  case first =>
    go_region_held3 (fun W => W.cell? ⟨w.heap.size, 0, none⟩ = some (.slice A n c) ∧ W.cell? ⟨w.heap.size, 1, none⟩ = some (.int .i64 i) ∧ W.cell? ⟨w.heap.size, 2, none⟩ = some (.slice L m d))
      (first | (refine HSK.out _ ?_; first | with_reducible exact BR.out | with_reducible exact BD.out | with_reducible exact BDA.out | with_reducible exact hA | with_reducible exact hA.alloc hA.size _ | with_reducible exact hB | with_reducible exact hAA | with_reducible exact hYY))
      (first
        | (go_at_call 117; refine (HSUM.out _ (HWB.out _ ?_)).mono ?_; (first | with_reducible exact BD.out | with_reducible exact BDA.out); rintro e wa ⟨rfl, hba⟩; have hA : Below w1.heap.size w1 wa := (by first | with_reducible exact BD.out.trans (hba.mono BD.out.size) | with_reducible exact BDA.out.trans (hba.mono BDA.out.size)))
        | (go_at_call 100; refine (HTK.out _ (HWB.out _ ?_)).mono ?_; (first | with_reducible exact hA | with_reducible exact hA.alloc hA.size _); rintro e wb ⟨A1, c1, L1, d1, rfl, hla, hlo, hbb⟩; have hB : Below w1.heap.size w1 wb := (by first | with_reducible exact hA.trans (hbb.mono hA.size) | with_reducible exact (hA.alloc hA.size _).trans (hbb.mono (hA.alloc hA.size _).size)); (first
            | (have hG := ((Blk.new w1 30 #[.slice none 0 0, .int .i64 0, .slice none 0 0]).drew.below hba (Blk.new w1 30 #[.slice none 0 0, .int .i64 0, .slice none 0 0]).drew.lt).below hbb ((Blk.new w1 30 #[.slice none 0 0, .int .i64 0, .slice none 0 0]).drew.below hba (Blk.new w1 30 #[.slice none 0 0, .int .i64 0, .slice none 0 0]).drew.lt).lt; have hAA := hB; have hsz := Nat.le_refl w1.heap.size; obtain ⟨Y1, Y2, Y3, e0, e1, e2, f0, f1, f2, g0, g1, g2, r0, r1, r2, hk9, hh9, hb9⟩ := n3_steps hG (.slice A1 n c1) (.int .i64 (j : Int)) (.slice L1 (m + 1) d1); have hYY : Below w1.heap.size w1 Y3 := hb9.out _ _ hsz hAA; have hba9 : w1.heap.size ≤ wa.heap.size := hA.size; have hla9 := hla; have hlo9 := hlo; have HA9 := Lib.hid (ownT_mono (own_ofD hla9 fun g' hg' => hh9.out g' (by have h8 := hla.lt g' hg'; have h7 : w1.heap.size + 1 ≤ wa.heap.size := (by have h6 := hba.size; simpa using h6); omega)) hba9); have HL9 := Lib.hid (ownT_mono (own_ofD hlo9 fun g' hg' => hh9.out g' (by have h8 := hlo.lt g' hg'; have h7 : w1.heap.size + 1 ≤ wa.heap.size := (by have h6 := hba.size; simpa using h6); omega)) hba9); clear hla9 hlo9 hba9 hh9 hb9 hG)
            | (have hG := (Blk.new wa 30 #[.slice none 0 0, .int .i64 0, .slice none 0 0]).below hbb (Blk.new wa 30 #[.slice none 0 0, .int .i64 0, .slice none 0 0]).lt; have hAA := hB; have hsz := hA.size; obtain ⟨Y1, Y2, Y3, e0, e1, e2, f0, f1, f2, g0, g1, g2, r0, r1, r2, hk9, hh9, hb9⟩ := n3_steps hG (.slice A1 n c1) (.int .i64 (j : Int)) (.slice L1 (m + 1) d1); have hYY : Below w1.heap.size w1 Y3 := hb9.out _ _ hsz hAA; have hba9 : w1.heap.size ≤ (wa.alloc (.cells #[.slice none 0 0, .int .i64 0, .slice none 0 0] 30)).heap.size := (hA.alloc hA.size _).size; have hla9 := hla; have hlo9 := hlo; have HA9 := Lib.hid (ownT_mono (own_ofD hla9 fun g' hg' => hh9.out g' (by have h8 := hla.lt g' hg'; rw [World.size_alloc] at h8; omega)) hba9); have HL9 := Lib.hid (ownT_mono (own_ofD hlo9 fun g' hg' => hh9.out g' (by have h8 := hlo.lt g' hg'; rw [World.size_alloc] at h8; omega)) hba9); clear hla9 hlo9 hba9 hh9 hb9 hG)
            | (obtain ⟨WB, hWB⟩ : ∃ WB, wb.alloc (.cells #[.slice none 0 0, .int .i64 0, .slice none 0 0] 30) = WB := ⟨_, rfl⟩; have hG : Blk WB wb.heap.size 30 #[.slice none 0 0, .int .i64 0, .slice none 0 0] := hWB ▸ Blk.new _ _ _; have hAA : Below w1.heap.size w1 WB := hWB ▸ hB.alloc hB.size _; have hsz := hB.size; obtain ⟨Y1, Y2, Y3, e0, e1, e2, f0, f1, f2, g0, g1, g2, r0, r1, r2, hk9, hh9, hb9⟩ := n3_steps hG (.slice A1 n c1) (.int .i64 (j : Int)) (.slice L1 (m + 1) d1); have hYY : Below w1.heap.size w1 Y3 := hb9.out _ _ hsz hAA; have hba9 : w1.heap.size ≤ wa.heap.size := hA.size; have hla9 := hWB ▸ hla.alloc (.cells #[.slice none 0 0, .int .i64 0, .slice none 0 0] 30); have hlo9 := hWB ▸ hlo.alloc (.cells #[.slice none 0 0, .int .i64 0, .slice none 0 0] 30); have HA9 := Lib.hid (ownT_mono (own_ofD hla9 fun g' hg' => hh9.out g' (by have h8 := hla.lt g' hg'; omega)) hba9); have HL9 := Lib.hid (ownT_mono (own_ofD hlo9 fun g' hg' => hh9.out g' (by have h8 := hlo.lt g' hg'; omega)) hba9); clear hla9 hlo9 hba9 hh9 hb9 hG))))
    all_goals go_wp2_with fail
    all_goals go_meet
    all_goals exact ⟨_, _, _, _, _, rfl, rfl, rfl, hsz, Lib.hid hYY, hk9, HA9, HL9⟩
  case rest =>
    obtain ⟨g, A1, L1, c1, d1, rfl, rfl, rfl, hwg, HBC, HKG, HA9, HL9⟩ := hcut
    have hk3 := HK3.out.below HBC.out HK3.out.lt
    have hlt := HK3.out.lt
    clear BR BD BDA HSK HTK HSUM HMB
    have BCD := Lib.hid (HBC.out.drew)
    have HSG : Hid (∀ W, Below wc.heap.size wc W → W.cell? ⟨g, 0, none⟩ = some (.slice A1 n c1) ∧ W.cell? ⟨g, 1, none⟩ = some (.int .i64 (j : Int)) ∧ W.cell? ⟨g, 2, none⟩ = some (.slice L1 (m + 1) d1)) := Lib.hid fun W hb =>
      have h1 := HKG.out.below hb HKG.out.lt
      ⟨h1.cell 0, h1.cell 1, h1.cell 2⟩
    have BR := Lib.hid (Below.refl wc.heap.size wc)
    have BD := Lib.hid ((Below.refl wc.heap.size wc).drew)
    go_wp2_with (fail)
    go_region_held3 (fun W => W.cell? ⟨g, 0, none⟩ = some (.slice A1 n c1) ∧ W.cell? ⟨g, 1, none⟩ = some (.int .i64 (j : Int)) ∧ W.cell? ⟨g, 2, none⟩ = some (.slice L1 (m + 1) d1))
      (first | exact hcells | (refine HSG.out _ ?_; first | with_reducible exact BR.out | with_reducible exact BD.out | with_reducible exact hA))
      (first
        | (go_at_call 119; refine (HPK.out _ (HWB.out _ BCD.out)).mono ?_; rintro e wa ⟨rfl, hba⟩; have hA : Below wc.heap.size wc wa := BD.out.trans (hba.mono BD.out.size); have hk5 := hk3.below hA hk3.lt; obtain ⟨Y1, Y2, Y3, e0, e1, e2, f0, f1, f2, g0, g1, g2, r0, r1, r2, -, hyh, HYB⟩ := n3_steps hk5 (.slice A1 n c1) (.int .i64 (j : Int)) (.slice L1 (m + 1) d1); have hkg := HKG.out.below hA HKG.out.lt; have hkg2 : Blk Y3 g 30 #[.slice A1 n c1, .int .i64 (j : Int), .slice L1 (m + 1) d1] := (hyh.out g (by omega)).trans hkg; have hcells := And.intro (hkg2.cell 0) (And.intro (hkg2.cell 1) (hkg2.cell 2))))
    have hlb := HA9.out
    have hlc := HL9.out
    have HAZ := Lib.hid (ownT_mono (own_ofD (ownT_below hlb hA) fun g' hg' => hyh.out g' (by have := (hlb.lt g' hg').1; omega)) HBW.out.size)
    have HLZ := Lib.hid (ownT_mono (own_ofD (ownT_below hlc hA) fun g' hg' => hyh.out g' (by have := (hlc.lt g' hg').1; omega)) HBW.out.size)
    have hbc := HWB.out _ HBC.out
    have HBZ := Lib.hid (HYB.out _ _ (Nat.le_succ _) (hbc.trans (hA.mono hbc.size)))
    clear hlb hlc hbc hba hA hk5 hkg hkg2 hcells hyh HYB e0 e1 e2 f0 f1 f2 g0 g1 g2
    go_wp2
    exact bodyPost_ret (v := .tuple #[.agg #[.slice A1 n c1, .int .i64 (j : Int), .slice L1 (m + 1) d1], .int .i64 (p : Int), .int .i64 0]) (by simp [results, Try.results106, go_sem, r0, r1, r2]) rfl ⟨A1, c1, L1, d1, rfl, HAZ.out, HLZ.out, HBZ.out⟩
end Go.Proofs.Ytmbgndcahlopdaa

/- Package draw's Take of any draws; the law's alive. -/
namespace Go.Proofs.Ytmbgndcahlopdaa
set_option maxRecDepth 100000
open Go.RowKit Go.Shelf
attribute [local go_sem] Oper.semAt_some

theorem dTake14_no {A L : Option Addr} {list log : List Int} (n c m d : Nat) (i b : Int) (w : World) (hA : Row w w.heap.size A (ints list)) (hL : Row w w.heap.size L (ints log)) (hn : list.length = n) (hm : log.length = m) (h1 : 1 ≤ b) (hB : b < 9223372036854775808) (hi : i < 9223372036854775808) (hno : ¬ (Dr.right n i m = true ∧ m ≠ 2000)) :
    Calls Try.prog 100 #[.agg #[.slice A n c, .int .i64 i, .slice L m d], .int .i64 b] w (TakeNo13 w (if Dr.right n i m = true then 8 else 1)) := by
  by_cases hr : Dr.right n i m = true
  · rw [if_pos hr]
    have hm2 : m = 2000 := Decidable.byContradiction fun h => hno ⟨hr, h⟩
    have hi0 : 0 ≤ i := by
      unfold Dr.right at hr
      have := of_decide_eq_true hr
      omega
    obtain ⟨k, rfl⟩ : ∃ k : Nat, i = (k : Int) := ⟨i.toNat, by omega⟩
    refine take13_no n c m d k b 8 w (.inr rfl) fun W M hW hM => ?_
    have h := many13_yes (log := log) (bounds := [b]) n c m d 1 1 k W ((hA.below hW).more hW.size) ((hL.below hW).more hW.size) hM hn hm rfl hr (by decide) (by omega) (fun x hx => by rw [List.mem_singleton.1 hx]; exact hB)
    have he : Dr.err [b] m = 8 := by unfold Dr.err; rw [if_neg (by omega), if_pos hm2]
    refine h.mono fun e w' hp => ?_
    rw [he, if_neg (by decide)] at hp
    exact hp
  · rw [if_neg hr]
    exact take13_no n c m d i b 1 w (.inl rfl) fun W M hW hM => many13_no n c m d 1 1 i W (by simpa using hr)
theorem dTake14_yes {A L : Option Addr} {list log : List Int} (n c m d i : Nat) (b : Int) (w : World) (hA : Row w w.heap.size A (ints list)) (hL : Row w w.heap.size L (ints log)) (hn : list.length = n) (hm : log.length = m) (h1 : 1 ≤ b) (hB : b < 9223372036854775808) (hi : i < 9223372036854775808) (hr : Dr.right n (i : Int) m = true) (hm2 : m ≠ 2000) :
    Calls Try.prog 100 #[.agg #[.slice A n c, .int .i64 (i : Int), .slice L m d], .int .i64 b] w (Take13 w n m list log (Dr.choice list i b) (Dr.next list i)) := by
  refine take13_yes n c m d i (Dr.next list i) b (Dr.choice list i b) w fun W M hW hM => ?_
  have h := many13_yes (log := log) (bounds := [b]) n c m d 1 1 i W ((hA.below hW).more hW.size) ((hL.below hW).more hW.size) hM hn hm rfl hr (by decide) (by omega) (fun x hx => by rw [List.mem_singleton.1 hx]; exact hB)
  have he : Dr.err [b] m = 0 := by unfold Dr.err; rw [if_neg (by omega), if_neg hm2]; rfl
  refine h.mono fun e w' hp => ?_
  rw [if_pos he] at hp
  exact hp
end Go.Proofs.Ytmbgndcahlopdaa

/- A law's draws (cut). -/
namespace Go.Proofs.Ytmbgndcahlopdaa
set_option maxRecDepth 100000
open Go.RowKit Go.Shelf
attribute [local go_sem] Oper.semAt_some

set_option maxHeartbeats 4000000 in
theorem drawsD_any {A L : Option Addr} (n c m d N M : Nat) (i : Int) (w : World) (hmin : min (n : Int) 503 = (N : Int)) (hmin2 : min (m : Int) 2003 = (M : Int)) (hc : n ≤ c) (hd : m ≤ d) :
    Calls Try.prog 6 #[.agg #[.slice A n c, .int .i64 i, .slice L m d]] w (fun e w' => e = .returned (.agg #[.slice A N c, .int .i64 i, .slice L M d]) ∧ Below w.heap.size w w') := by
  have hb0 := ((Below.refl _ w).alloc (Nat.le_refl _) (.cells #[.slice A n c, .int .i64 i, .slice L m d] 30)).alloc (by simp) (.cells #[.slice none 0 0, .int .i64 0, .slice none 0 0] 30)
  have hp0 := (Blk.new w 30 #[.slice A n c, .int .i64 i, .slice L m d]).alloc (.cells #[.slice none 0 0, .int .i64 0, .slice none 0 0] 30)
  have hq0 := Blk.new (w.alloc (.cells #[.slice A n c, .int .i64 i, .slice L m d] 30)) 30 #[.slice none 0 0, .int .i64 0, .slice none 0 0]
  rw [World.size_alloc] at hq0
  obtain ⟨W0, hW0⟩ : ∃ W0, (w.alloc (.cells #[.slice A n c, .int .i64 i, .slice L m d] 30)).alloc (.cells #[.slice none 0 0, .int .i64 0, .slice none 0 0] 30) = W0 := ⟨_, rfl⟩
  rw [hW0] at hb0 hp0 hq0
  have hN : N ≤ c := by omega
  have hM : M ≤ d := by omega
  have a0 := hp0.cell 0
  have a2 := hp0.cell 2
  have f0 := hp0.frozen 0
  have f2 := hp0.frozen 2
  have HP := Lib.hid hp0
  have HQ := Lib.hid hq0
  have HB := Lib.hid hb0
  clear hb0 hp0 hq0 hc hd
  go_enter Try.func6, Try.ntmps6
  go_wp2_with (fail)
  refine Free.region_seq [15, 17] [1, 3, 8, 10] 15 (fun W' => W'.cell? ⟨w.heap.size, 0, none⟩ = some (.slice A n c) ∧ W'.cell? ⟨w.heap.size, 2, none⟩ = some (.slice L m d)) (by kernel_rfl) (by kernel_rfl) (by kernel_rfl) (by kernel_rfl) (⟨a0, a2⟩) (fun ops hops => ?_)
  clear hops
  iterate 15
    refine Free.Seq.quiet (v := ?_) (a' := ?_) rfl rfl (fun W' hW' => ?_) ?_ ?_
    rotate_left 2
    · first | obtain ⟨s0, s1⟩ := hW' rfl | skip
      go_simp
      try with_reducible rfl
    · simp only [Act.put, List.setIfInBounds_toArray, List.set_cons_zero, List.set_cons_succ]
      try with_reducible rfl
  refine Free.Seq.loud_ rfl (.inl rfl) (fun K hK => ?_)
  go_simp
  refine hK.out _ _ rfl (fun h => absurd h (by decide)) ?_
  clear hK K
  iterate 1
    refine Free.Seq.quiet (v := ?_) (a' := ?_) rfl rfl (fun W' hW' => ?_) ?_ ?_
    rotate_left 2
    · skip
      go_simp
      try with_reducible rfl
    · simp only [Act.put, List.setIfInBounds_toArray, List.set_cons_zero, List.set_cons_succ]
      try with_reducible rfl
  refine Free.Seq.loud_ rfl (.inl rfl) (fun K hK => ?_)
  go_simp
  refine hK.out _ _ rfl (fun h => absurd h (by decide)) ?_
  clear hK K
  refine Free.Seq.nil_ ?_
  obtain ⟨W2, hW2⟩ : ∃ W2, ((W0.setCell ⟨w.heap.size, 0, none⟩ (.slice A N c)).setCell ⟨w.heap.size, 2, none⟩ (.slice L M d)).drew = W2 := ⟨_, rfl⟩
  have hp2 : Blk W2 w.heap.size 30 #[.slice A N c, .int .i64 i, .slice L M d] := hW2 ▸ ((HP.out.set_ 0 (.slice A N c)).set_ 2 (.slice L M d)).drew
  have hq2 : Blk W2 (w.heap.size + 1) 30 #[.slice none 0 0, .int .i64 0, .slice none 0 0] := hW2 ▸ ((HQ.out.other (p := ⟨w.heap.size, 0, none⟩) (by show w.heap.size ≠ _; omega) _).other (p := ⟨w.heap.size, 2, none⟩) (by show w.heap.size ≠ _; omega) _).drew
  have hb2 : Below w.heap.size w W2 := hW2 ▸ ((HB.out.setCell (p := ⟨w.heap.size, 0, none⟩) (Nat.le_refl _) _).setCell (p := ⟨w.heap.size, 2, none⟩) (Nat.le_refl _) _).drew
  rw [hW2]
  have t0 := hp2.cell 0
  have t1 := hp2.cell 1
  have t2 := hp2.cell 2
  obtain ⟨Y1, Y2, Y3, e0, e1, e2, f0', f1', f2', g0, g1, g2, r0, r1, r2, -, -, HYB⟩ := n3_steps hq2 (.slice A N c) (.int .i64 i) (.slice L M d)
  have HB3 := Lib.hid (HYB.out _ _ (Nat.le_succ _) hb2)
  clear hp2 hq2 hb2 hW2 HYB a0 a2 f0 f2 hmin hmin2 hW0
  go_wp2
  exact bodyPost_ret (v := .agg #[.slice A N c, .int .i64 i, .slice L M d]) (by simp [results, Try.results6, go_sem, r0, r1, r2]) rfl ⟨rfl, HB3.out⟩
end Go.Proofs.Ytmbgndcahlopdaa
