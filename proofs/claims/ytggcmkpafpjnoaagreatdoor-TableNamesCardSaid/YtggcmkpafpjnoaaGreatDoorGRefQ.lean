/- The reference's row of a table. -/
import Derived.LoopTactic
import Derived.Test.YtggcmkpafpjnoaaGreatDoorGRefJ
import Derived.Test.YtggcmkpafpjnoaaGreatDoorGRulD
namespace Go.Proofs.YtggcmkpafpjnoaaGreatDoor
set_option maxRecDepth 100000
open Go.RowKit Go.Shelf
attribute [local go_sem] Oper.semAt_some

/-- A part behind a part, plain. -/
def stepR (l : List Lx.Tk) (lab : Bool) (q : Nat × Nat) : Nat × Nat := if q.2 = 0 then partR l lab q.1 else q
def rowQ (l : List Lx.Tk) (i : Nat) : Nat → Nat × Nat
  | 0 => markR l { data := #[58] } i
  | k + 1 => stepR l (decide (k ≠ 0)) (rowQ l i k)
def rowO (l : List Lx.Tk) (i k : Nat) : List Int := (Rl.read l (decide (k ≠ 0)) (rowQ l i k).1).1.out
theorem ints_keep {W W' : World} {B : Option Addr} {m d : Nat} {x : List Int} (h : IsInts W W.heap.size (.slice B m d) x) (hb : ∀ ad, B = some ad → W'.heap[ad.block]? = W.heap[ad.block]?) (hz : W.heap.size ≤ W'.heap.size) : IsInts W' W'.heap.size (.slice B m d) x := by
  obtain ⟨A, c, e, hr, hc⟩ := h
  injection e with e1 e2 e3
  subst e1 e2 e3
  exact ⟨B, d, rfl, hr.kept_at hz hb, hc⟩
theorem markR_lt {l : List Lx.Tk} (he : Rl.Ends l) {m : ByteArray} {i : Nat} (hi : i < l.length) (h : (markR l m i).2 = 0) : (markR l m i).1 < l.length := by
  unfold markR at h ⊢
  by_cases hc : (Tb.tok l i).kind = 3 ∧ (Tb.tok l i).text = m
  · rw [if_pos hc]
    refine he i (Tb.tok l i) ?_ (.inr hc.1)
    unfold Tb.tok
    rw [List.getD_eq_getElem?_getD, List.getElem?_eq_getElem hi]
    rfl
  · rw [if_neg hc] at h
    cases h
theorem stepR_lt {l : List Lx.Tk} (he : Rl.Ends l) {lab : Bool} {q : Nat × Nat} (hq : q.2 = 0 → q.1 < l.length) (h : (stepR l lab q).2 = 0) : (stepR l lab q).1 < l.length := by
  unfold stepR at h ⊢
  by_cases h0 : q.2 = 0
  · rw [if_pos h0] at h ⊢
    have hr := partR_ok h
    unfold partR at h ⊢
    rw [if_pos hr] at h ⊢
    exact markR_lt he (Rl.read_lt he lab q.1 (hq h0)).1 h
  · rw [if_neg h0] at h
    exact absurd h h0
theorem rowQ_lt {l : List Lx.Tk} (he : Rl.Ends l) {i : Nat} (hi : i < l.length) : ∀ k, (rowQ l i k).2 = 0 → (rowQ l i k).1 < l.length
  | 0, h => markR_lt he hi h
  | k + 1, h => stepR_lt he (rowQ_lt he hi k) h
theorem rowQ_down {l : List Lx.Tk} {i k : Nat} (h : (rowQ l i (k + 1)).2 = 0) : (rowQ l i k).2 = 0 := by
  by_cases h0 : (rowQ l i k).2 = 0
  · exact h0
  · have e : rowQ l i (k + 1) = rowQ l i k := by rw [rowQ, stepR, if_neg h0]
    rw [e] at h
    exact h
section
variable {A A0 A1 A2 : Option Addr} {l : List Lx.Tk} {c n0 c0 n1 c1 n2 c2 : Nat}
theorem rstep_0 {q : Nat × Nat} (w : World) (ht : Row w w.heap.size A (tcells l)) (he : Rl.Ends l) (hl : l.length ≤ 1000000) (hq : q.2 = 0 → q.1 < l.length) :
    Calls Tryz.prog 34 #[.slice A l.length c, .agg #[.int .i64 (q.1 : Nat), .slice A0 n0 c0, .slice A1 n1 c1, .slice A2 n2 c2, .int .i64 (q.2 : Nat)], .int .i64 0] w
      (fun e w' => ∃ (B : Option Addr) (m d : Nat), e = .returned (PVal (stepR l false q).1 (.slice B m d) (.slice A1 n1 c1) (.slice A2 n2 c2) (stepR l false q).2) ∧ ((stepR l false q).2 = 0 → IsInts w' w'.heap.size (.slice B m d) (Rl.read l false q.1).1.out ∧ ∀ ad, B = some ad → w.heap.size ≤ ad.block) ∧ Below w.heap.size w w') := by
  unfold stepR
  by_cases h0 : q.2 = 0
  · rw [if_pos h0, h0]
    exact rpart_0 w ht he hl (hq h0)
  · rw [if_neg h0]
    exact (rpart_err q.2 h0 0 l.length w).mono fun e w' h => ⟨A0, n0, c0, h.1, fun h1 => absurd h1 h0, h.2⟩
theorem rstep_1 {q : Nat × Nat} (w : World) (ht : Row w w.heap.size A (tcells l)) (he : Rl.Ends l) (hl : l.length ≤ 1000000) (hq : q.2 = 0 → q.1 < l.length) :
    Calls Tryz.prog 34 #[.slice A l.length c, .agg #[.int .i64 (q.1 : Nat), .slice A0 n0 c0, .slice A1 n1 c1, .slice A2 n2 c2, .int .i64 (q.2 : Nat)], .int .i64 1] w
      (fun e w' => ∃ (B : Option Addr) (m d : Nat), e = .returned (PVal (stepR l true q).1 (.slice A0 n0 c0) (.slice B m d) (.slice A2 n2 c2) (stepR l true q).2) ∧ ((stepR l true q).2 = 0 → IsInts w' w'.heap.size (.slice B m d) (Rl.read l true q.1).1.out ∧ ∀ ad, B = some ad → w.heap.size ≤ ad.block) ∧ Below w.heap.size w w') := by
  unfold stepR
  by_cases h0 : q.2 = 0
  · rw [if_pos h0, h0]
    exact rpart_1 w ht he hl (hq h0)
  · rw [if_neg h0]
    exact (rpart_err q.2 h0 1 l.length w).mono fun e w' h => ⟨A1, n1, c1, h.1, fun h1 => absurd h1 h0, h.2⟩
theorem rstep_2 {q : Nat × Nat} (w : World) (ht : Row w w.heap.size A (tcells l)) (he : Rl.Ends l) (hl : l.length ≤ 1000000) (hq : q.2 = 0 → q.1 < l.length) :
    Calls Tryz.prog 34 #[.slice A l.length c, .agg #[.int .i64 (q.1 : Nat), .slice A0 n0 c0, .slice A1 n1 c1, .slice A2 n2 c2, .int .i64 (q.2 : Nat)], .int .i64 2] w
      (fun e w' => ∃ (B : Option Addr) (m d : Nat), e = .returned (PVal (stepR l true q).1 (.slice A0 n0 c0) (.slice A1 n1 c1) (.slice B m d) (stepR l true q).2) ∧ ((stepR l true q).2 = 0 → IsInts w' w'.heap.size (.slice B m d) (Rl.read l true q.1).1.out ∧ ∀ ad, B = some ad → w.heap.size ≤ ad.block) ∧ Below w.heap.size w w') := by
  unfold stepR
  by_cases h0 : q.2 = 0
  · rw [if_pos h0, h0]
    exact rpart_2 w ht he hl (hq h0)
  · rw [if_neg h0]
    exact (rpart_err q.2 h0 2 l.length w).mono fun e w' h => ⟨A2, n2, c2, h.1, fun h1 => absurd h1 h0, h.2⟩
/-- A rule read so far: it lies behind block h. -/
def Got (W : World) (h : Nat) (B : Option Addr) (m d : Nat) (x : List Int) : Prop := IsInts W W.heap.size (.slice B m d) x ∧ ∀ ad, B = some ad → h < ad.block
theorem Got.keep {W W' : World} {h : Nat} {B : Option Addr} {m d : Nat} {x : List Int} (hg : Got W h B m d x) (hb : ∀ k, h < k → k < W.heap.size → W'.heap[k]? = W.heap[k]?) (hz : W.heap.size ≤ W'.heap.size) : Got W' h B m d x := by
  obtain ⟨⟨A, c, e', hr, hc⟩, hs⟩ := hg
  injection e' with e1 e2 e3
  subst e1 e2 e3
  refine ⟨⟨B, d, rfl, fun hx => ?_, hc⟩, hs⟩
  obtain ⟨ad, e, hlt, hcell⟩ := hr hx
  exact ⟨ad, e, Nat.lt_of_lt_of_le hlt hz, fun j u hu => (World.cell?_of_block (w := W) (by rw [add_block]; exact hb _ (hs ad e) hlt)).trans (hcell j u hu)⟩
theorem Got.less {W : World} {h h' : Nat} {B : Option Addr} {m d : Nat} {x : List Int} (hg : Got W h B m d x) (hh : h' ≤ h) : Got W h' B m d x := ⟨hg.1, fun ad e => Nat.lt_of_le_of_lt hh (hg.2 ad e)⟩
/-- What holds at the head of a round. -/
structure RowSt (w : World) (l : List Lx.Tk) (i h k : Nat) (B0 : Option Addr) (m0 d0 : Nat) (B1 : Option Addr) (m1 d1 : Nat) (B2 : Option Addr) (m2 d2 : Nat) (W : World) : Prop where
  below : Below w.heap.size w W
  lt : w.heap.size < h
  res : Blk W w.heap.size 60 #[.int .i64 0, .slice none 0 0, .slice none 0 0, .slice none 0 0, .int .i64 0]
  blk : Blk W h 60 #[.int .i64 ((rowQ l i k).1 : Nat), .slice B0 m0 d0, .slice B1 m1 d1, .slice B2 m2 d2, .int .i64 ((rowQ l i k).2 : Nat)]
  g0 : 0 < k → (rowQ l i k).2 = 0 → Got W h B0 m0 d0 (rowO l i 0)
  g1 : 1 < k → (rowQ l i k).2 = 0 → Got W h B1 m1 d1 (rowO l i 1)
  g2 : 2 < k → (rowQ l i k).2 = 0 → Got W h B2 m2 d2 (rowO l i 2)
theorem RowSt.put {w W W1 : World} {i h k : Nat} {B0 : Option Addr} {m0 d0 : Nat} {B1 : Option Addr} {m1 d1 : Nat} {B2 : Option Addr} {m2 d2 : Nat} {E0 : Option Addr} {a0 b0 : Nat} {E1 : Option Addr} {a1 b1 : Nat} {E2 : Option Addr} {a2 b2 : Nat}
    (hs : RowSt w l i h k B0 m0 d0 B1 m1 d1 B2 m2 d2 W) (hb : Below W.heap.size W W1)
    (g0 : 0 < k + 1 → (rowQ l i (k + 1)).2 = 0 → Got W1 h E0 a0 b0 (rowO l i 0)) (g1 : 1 < k + 1 → (rowQ l i (k + 1)).2 = 0 → Got W1 h E1 a1 b1 (rowO l i 1)) (g2 : 2 < k + 1 → (rowQ l i (k + 1)).2 = 0 → Got W1 h E2 a2 b2 (rowO l i 2)) :
    RowSt w l i h (k + 1) E0 a0 b0 E1 a1 b1 E2 a2 b2 (((((W1.setCell ⟨h, 0, none⟩ (.int .i64 ((rowQ l i (k + 1)).1 : Nat))).setCell ⟨h, 1, none⟩ (.slice E0 a0 b0)).setCell ⟨h, 2, none⟩ (.slice E1 a1 b1)).setCell ⟨h, 3, none⟩ (.slice E2 a2 b2)).setCell ⟨h, 4, none⟩ (.int .i64 ((rowQ l i (k + 1)).2 : Nat))) := by
  have hle := Nat.le_of_lt hs.lt
  have hne : h ≠ w.heap.size := by have := hs.lt; omega
  have hk : ∀ n, h < n → n < W1.heap.size → (((((W1.setCell ⟨h, 0, none⟩ (.int .i64 ((rowQ l i (k + 1)).1 : Nat))).setCell ⟨h, 1, none⟩ (.slice E0 a0 b0)).setCell ⟨h, 2, none⟩ (.slice E1 a1 b1)).setCell ⟨h, 3, none⟩ (.slice E2 a2 b2)).setCell ⟨h, 4, none⟩ (.int .i64 ((rowQ l i (k + 1)).2 : Nat))).heap[n]? = W1.heap[n]? := fun n hn _ => by
    rw [Below.heap_setCell _ _ _ _ (Nat.ne_of_gt hn), Below.heap_setCell _ _ _ _ (Nat.ne_of_gt hn), Below.heap_setCell _ _ _ _ (Nat.ne_of_gt hn), Below.heap_setCell _ _ _ _ (Nat.ne_of_gt hn), Below.heap_setCell _ _ _ _ (Nat.ne_of_gt hn)]
  have hz : W1.heap.size ≤ (((((W1.setCell ⟨h, 0, none⟩ (.int .i64 ((rowQ l i (k + 1)).1 : Nat))).setCell ⟨h, 1, none⟩ (.slice E0 a0 b0)).setCell ⟨h, 2, none⟩ (.slice E1 a1 b1)).setCell ⟨h, 3, none⟩ (.slice E2 a2 b2)).setCell ⟨h, 4, none⟩ (.int .i64 ((rowQ l i (k + 1)).2 : Nat))).heap.size := by simp [World.setCell]
  have hb1 := hs.below.trans (hb.mono hs.below.size)
  exact ⟨((((hb1.setCell (p := ⟨h, 0, none⟩) hle _).setCell (p := ⟨h, 1, none⟩) hle _).setCell (p := ⟨h, 2, none⟩) hle _).setCell (p := ⟨h, 3, none⟩) hle _).setCell (p := ⟨h, 4, none⟩) hle _, hs.lt,
    (((((hs.res.below hb hs.res.lt).other (p := ⟨h, 0, none⟩) hne _).other (p := ⟨h, 1, none⟩) hne _).other (p := ⟨h, 2, none⟩) hne _).other (p := ⟨h, 3, none⟩) hne _).other (p := ⟨h, 4, none⟩) hne _,
    blk5_set (hs.blk.below hb hs.blk.lt) _ _ _ _ _, fun h1 h2 => (g0 h1 h2).keep hk hz, fun h1 h2 => (g1 h1 h2).keep hk hz, fun h1 h2 => (g2 h1 h2).keep hk hz⟩
theorem Got.call {W W' : World} {h : Nat} {B : Option Addr} {m d : Nat} {x : List Int} (hg : Got W h B m d x) (hb : Below W.heap.size W W') : Got W' h B m d x := hg.keep (fun k _ hk => hb.block k hk) hb.size
theorem Got.new {W W' : World} {h : Nat} {B : Option Addr} {m d : Nat} {x : List Int} (hg : IsInts W' W'.heap.size (.slice B m d) x ∧ ∀ ad, B = some ad → W.heap.size ≤ ad.block) (hh : h < W.heap.size) : Got W' h B m d x := ⟨hg.1, fun ad e => Nat.lt_of_lt_of_le hh (hg.2 ad e)⟩
/-- What row answers. -/
def RowTold (w : World) (l : List Lx.Tk) (i : Nat) (e : Ending) (w' : World) : Prop :=
  ∃ B0 m0 d0 B1 m1 d1 B2 m2 d2, e = .returned (PVal (rowQ l i 3).1 (.slice B0 m0 d0) (.slice B1 m1 d1) (.slice B2 m2 d2) (rowQ l i 3).2) ∧
    ((rowQ l i 3).2 = 0 → Got w' w.heap.size B0 m0 d0 (rowO l i 0) ∧ Got w' w.heap.size B1 m1 d1 (rowO l i 1) ∧ Got w' w.heap.size B2 m2 d2 (rowO l i 2)) ∧ Below w.heap.size w w'
set_option maxHeartbeats 16000000 in
theorem rrow_any (i : Nat) (w : World) (ht : Row w w.heap.size A (tcells l)) (he : Rl.Ends l) (hl : l.length ≤ 1000000) (hi : i < l.length) :
    Calls Tryz.prog 21 #[.slice A l.length c, .int .i64 i] w (RowTold w l i) := by
  have hal : Below w.heap.size w (w.alloc (.cells #[.int .i64 0, .slice none 0 0, .slice none 0 0, .slice none 0 0, .int .i64 0] 60)) := (Below.refl _ w).alloc (Nat.le_refl _) _
  have hmk := rmark_any (c := c) (A0 := none) (n0 := 0) (c0 := 0) (A1 := none) (n1 := 0) (c1 := 0) (A2 := none) (n2 := 0) (c2 := 0) { data := #[58] } _ (Row.up ht hal) hi hl
  have hk0 := Blk.new w 60 #[.int .i64 0, .slice none 0 0, .slice none 0 0, .slice none 0 0, .int .i64 0]
  have HMK := Lib.hid hmk
  have HK0 := Lib.hid hk0
  have HAL := Lib.hid hal
  have HT := Lib.hid ht
  have HE := Lib.hid he
  have HL := Lib.hid hl
  have HI := Lib.hid hi
  clear hmk hk0 hal ht he hl hi
  obtain ⟨n, hn⟩ : ∃ n, l.length = n := ⟨_, rfl⟩
  have HN := Lib.hid hn
  rw [hn] at HMK ⊢
  clear hn
  go_enter Tryz.func21, Tryz.ntmps21
  go_wp2_with (fail)
  refine HMK.out.mono ?_
  rintro e w1 ⟨rfl, hb1⟩
  have hst : RowSt w l i w1.heap.size 0 none 0 0 none 0 0 none 0 0 (w1.alloc (.cells #[.int .i64 ((markR l { data := #[58] } i).1 : Nat), .slice none 0 0, .slice none 0 0, .slice none 0 0, .int .i64 ((markR l { data := #[58] } i).2 : Nat)] 60)) :=
    ⟨(HAL.out.trans (hb1.mono HAL.out.size)).alloc (Nat.le_trans HAL.out.size hb1.size) _, Nat.lt_of_lt_of_le HK0.out.lt hb1.size, (HK0.out.below hb1 HK0.out.lt).alloc _, Blk.new _ _ _, fun h => absurd h (by omega), fun h => absurd h (by omega), fun h => absurd h (by omega)⟩
  have HST := Lib.hid hst
  clear hst hb1
  simp only [PVal]
  generalize markR l { data := #[58] } i = q0 at *
  go_wp2
  go_loopw [6] (fun z wr => ∃ (k : Nat) (B0 : Option Addr) (m0 d0 : Nat) (B1 : Option Addr) (m1 d1 : Nat) (B2 : Option Addr) (m2 d2 : Nat), k ≤ 3 ∧ z = .int .i64 k ∧ Hid (RowSt w l i w1.heap.size k B0 m0 d0 B1 m1 d1 B2 m2 d2 wr)) (fun z _ => 3 - (intOf z).toNat)
  case atStart => exact ⟨0, none, 0, 0, none, 0, 0, none, 0, 0, by decide, rfl, HST⟩
  case round =>
    obtain ⟨k, B0, m0, d0, B1, m1, d1, B2, m2, d2, hk, rfl, HS⟩ := hrel
    clear HST HMK HK0 HAL
    obtain ⟨⟨a0, a1, a2, a3, a4⟩, f0, f1, f2, f3, f4⟩ := blk5_facts HS.out.blk
    rcases (by omega : k = 0 ∨ k = 1 ∨ k = 2 ∨ k = 3) with rfl | rfl | rfl | rfl
    · have hc := rstep_0 (c := c) (A0 := B0) (n0 := m0) (c0 := d0) (A1 := B1) (n1 := m1) (c1 := d1) (A2 := B2) (n2 := m2) (c2 := d2) (q := rowQ l i 0) wr (Row.up HT.out HS.out.below) HE.out HL.out (rowQ_lt HE.out HI.out 0)
      have e1 : stepR l false (rowQ l i 0) = rowQ l i 1 := rfl
      rw [e1, HN.out] at hc
      simp only [PVal] at hc
      have HC := Lib.hid hc
      clear hc e1
      go_wp2_with (fail)
      refine HC.out.mono ?_
      rintro e w2 ⟨B, m, d, rfl, hg, hb2⟩
      have hs2 := HS.out.put (E0 := B) (a0 := m) (b0 := d) (E1 := B1) (a1 := m1) (b1 := d1) (E2 := B2) (a2 := m2) (b2 := d2) hb2 (fun h1 h2 => Got.new (hg h2) HS.out.blk.lt) (fun h1 => absurd h1 (by omega)) (fun h1 => absurd h1 (by omega))
      have hkb := HS.out.blk.below hb2 HS.out.blk.lt
      have HS2 := Lib.hid hs2
      clear hs2 hg hb2 HC a0 a1 a2 a3 a4 f0 f1 f2 f3 f4
      obtain ⟨⟨a0, a1, a2, a3, a4⟩, f0, f1, f2, f3, f4⟩ := blk5_facts hkb
      clear hkb
      go_wp2
      go_roundw
      case rel => exact ⟨1, B, m, d, B1, m1, d1, B2, m2, d2, by omega, by go_num, HS2⟩
      case measure => simp [intOf]
    · have hc := rstep_1 (c := c) (A0 := B0) (n0 := m0) (c0 := d0) (A1 := B1) (n1 := m1) (c1 := d1) (A2 := B2) (n2 := m2) (c2 := d2) (q := rowQ l i 1) wr (Row.up HT.out HS.out.below) HE.out HL.out (rowQ_lt HE.out HI.out 1)
      have e1 : stepR l true (rowQ l i 1) = rowQ l i 2 := rfl
      rw [e1, HN.out] at hc
      simp only [PVal] at hc
      have HC := Lib.hid hc
      clear hc e1
      go_wp2_with (fail)
      refine HC.out.mono ?_
      rintro e w2 ⟨B, m, d, rfl, hg, hb2⟩
      have hs2 := HS.out.put (E0 := B0) (a0 := m0) (b0 := d0) (E1 := B) (a1 := m) (b1 := d) (E2 := B2) (a2 := m2) (b2 := d2) hb2 (fun h1 h2 => (HS.out.g0 (by omega) (rowQ_down h2)).call hb2) (fun h1 h2 => Got.new (hg h2) HS.out.blk.lt) (fun h1 => absurd h1 (by omega))
      have hkb := HS.out.blk.below hb2 HS.out.blk.lt
      have HS2 := Lib.hid hs2
      clear hs2 hg hb2 HC a0 a1 a2 a3 a4 f0 f1 f2 f3 f4
      obtain ⟨⟨a0, a1, a2, a3, a4⟩, f0, f1, f2, f3, f4⟩ := blk5_facts hkb
      clear hkb
      go_wp2
      go_roundw
      case rel => exact ⟨2, B0, m0, d0, B, m, d, B2, m2, d2, by omega, by go_num, HS2⟩
      case measure => simp [intOf]
    · have hc := rstep_2 (c := c) (A0 := B0) (n0 := m0) (c0 := d0) (A1 := B1) (n1 := m1) (c1 := d1) (A2 := B2) (n2 := m2) (c2 := d2) (q := rowQ l i 2) wr (Row.up HT.out HS.out.below) HE.out HL.out (rowQ_lt HE.out HI.out 2)
      have e1 : stepR l true (rowQ l i 2) = rowQ l i 3 := rfl
      rw [e1, HN.out] at hc
      simp only [PVal] at hc
      have HC := Lib.hid hc
      clear hc e1
      go_wp2_with (fail)
      refine HC.out.mono ?_
      rintro e w2 ⟨B, m, d, rfl, hg, hb2⟩
      have hs2 := HS.out.put (E0 := B0) (a0 := m0) (b0 := d0) (E1 := B1) (a1 := m1) (b1 := d1) (E2 := B) (a2 := m) (b2 := d) hb2 (fun h1 h2 => (HS.out.g0 (by omega) (rowQ_down h2)).call hb2) (fun h1 h2 => (HS.out.g1 (by omega) (rowQ_down h2)).call hb2) (fun h1 h2 => Got.new (hg h2) HS.out.blk.lt)
      have hkb := HS.out.blk.below hb2 HS.out.blk.lt
      have HS2 := Lib.hid hs2
      clear hs2 hg hb2 HC a0 a1 a2 a3 a4 f0 f1 f2 f3 f4
      obtain ⟨⟨a0, a1, a2, a3, a4⟩, f0, f1, f2, f3, f4⟩ := blk5_facts hkb
      clear hkb
      go_wp2
      go_roundw
      case rel => exact ⟨3, B0, m0, d0, B1, m1, d1, B, m, d, by omega, by go_num, HS2⟩
      case measure => simp [intOf]
    · have hne : w1.heap.size ≠ w.heap.size := by have := HS.out.lt; omega
      obtain ⟨⟨z0, z1, z2, z3, z4⟩, y0, y1, y2, y3, y4⟩ := blk5_facts HS.out.res
      have hres := res5 HS.out.below HS.out.res (Nat.le_refl _) (.int .i64 ((rowQ l i 3).1 : Nat)) (.slice B0 m0 d0) (.slice B1 m1 d1) (.slice B2 m2 d2) (.int .i64 ((rowQ l i 3).2 : Nat))
      have HRES := Lib.hid hres
      clear hres
      go_wp2
      obtain ⟨⟨q0, q1, q2, q3, q4⟩, rB⟩ := HRES.out
      have hkk : ∀ (u0 u1 u2 u3 u4 : Value) (n : Nat), w.heap.size < n → n < wr.heap.size → (((((wr.setCell ⟨w.heap.size, 0, none⟩ u0).setCell ⟨w.heap.size, 1, none⟩ u1).setCell ⟨w.heap.size, 2, none⟩ u2).setCell ⟨w.heap.size, 3, none⟩ u3).setCell ⟨w.heap.size, 4, none⟩ u4).heap[n]? = wr.heap[n]? := fun u0 u1 u2 u3 u4 n hn _ => by
        rw [Below.heap_setCell _ _ _ _ (Nat.ne_of_gt hn), Below.heap_setCell _ _ _ _ (Nat.ne_of_gt hn), Below.heap_setCell _ _ _ _ (Nat.ne_of_gt hn), Below.heap_setCell _ _ _ _ (Nat.ne_of_gt hn), Below.heap_setCell _ _ _ _ (Nat.ne_of_gt hn)]
      exact bodyPost_ret (v := PVal (rowQ l i 3).1 (.slice B0 m0 d0) (.slice B1 m1 d1) (.slice B2 m2 d2) (rowQ l i 3).2) (by simp [results, Tryz.results21, go_sem, PVal, q0, q1, q2, q3, q4]) rfl
        ⟨B0, m0, d0, B1, m1, d1, B2, m2, d2, rfl, fun h3 => ⟨((HS.out.g0 (by omega) h3).less (Nat.le_of_lt HS.out.lt)).keep (hkk _ _ _ _ _) (by simp [World.setCell]), ((HS.out.g1 (by omega) h3).less (Nat.le_of_lt HS.out.lt)).keep (hkk _ _ _ _ _) (by simp [World.setCell]), ((HS.out.g2 (by omega) h3).less (Nat.le_of_lt HS.out.lt)).keep (hkk _ _ _ _ _) (by simp [World.setCell])⟩, rB⟩
end
end Go.Proofs.YtggcmkpafpjnoaaGreatDoor

/- Plain: the reference's row is the package's. -/
namespace Go.Proofs.YtggcmkpafpjnoaaGreatDoor
set_option maxRecDepth 100000
namespace Tb
open Lx (Tk)

/-- Where a mark's text stands, a mark stands. -/
def Marked (l : List Tk) : Prop := ∀ k, k < l.length → ((tok l k).text = mColon ∨ (tok l k).text = mSemi) → (tok l k).kind = 3
theorem lex_marked {s : List UInt8} {l : List Tk} {a : Nat} (h : Lx.lex s = (l, a, 0)) : Marked l := fun k hk ht => by
  obtain ⟨ts, e, -, hal, -⟩ := Lx.lex_ok h
  have hmem : tok l k ∈ l := List.mem_of_getElem? (tok_some hk)
  rw [e] at hmem
  rcases List.mem_append.1 hmem with h1 | h1
  · rw [← e] at h1
    obtain ⟨-, -, -, hf⟩ := hal _ h1
    have hf0 := hf [] (.inl rfl)
    rw [List.append_nil] at hf0
    rcases ht with e1 | e1
    · rw [e1] at hf0
      exact (congrArg Prod.fst hf0).symm.trans (by decide)
    · rw [e1] at hf0
      exact (congrArg Prod.fst hf0).symm.trans (by decide)
  · rw [← e] at h1
    rw [List.mem_singleton.1 h1] at ht
    rcases ht with e1 | e1
    · exact absurd (show ByteArray.empty = mColon from e1) (by decide)
    · exact absurd (show ByteArray.empty = mSemi from e1) (by decide)
section
variable {l : List Tk}
theorem markP_eq (hm : Marked l) {m : ByteArray} (h2 : m = mColon ∨ m = mSemi) {s : St} (hp : s.pos < l.length) : markP l m s = ({ s with pos := (markR l m s.pos).1 }, (markR l m s.pos).2) := by
  unfold markP markR
  by_cases ht : (tok l s.pos).text = m
  · have hk : (tok l s.pos).kind = 3 := hm _ hp (by rw [ht]; exact h2)
    rw [if_pos ht, if_pos ⟨hk, ht⟩]
  · rw [if_neg ht, if_neg (fun h => ht h.2)]
theorem partP_eq (hf : Fine l) (hm : Marked l) (op j : Nat) {s : St} (h : Stand l s) :
    (partP l op j s).2 = (partR l (decide (j ≠ 0)) s.pos).2 ∧ (partP l op j s).1.pos = (partR l (decide (j ≠ 0)) s.pos).1 ∧
      ((partR l (decide (j ≠ 0)) s.pos).2 = 0 → (partP l op j s).1 = ⟨(partR l (decide (j ≠ 0)) s.pos).1, s.rows.set op ((s.rows.getD op PR.none).put j (Rl.read l (decide (j ≠ 0)) s.pos).1.out), s.had⟩) := by
  unfold partP
  generalize decide (j ≠ 0) = lab
  have hlt := (Rl.read_lt hf.ends lab s.pos h.pos).1
  rw [hf.from_ h.pos lab]
  unfold partR
  by_cases h0 : (Rl.read l lab s.pos).2 = 0
  · have et : Rl.told (Rl.read l lab s.pos) = ((Rl.read l lab s.pos).1.out, (Rl.read l lab s.pos).1.pos, 0) := by unfold Rl.told; rw [if_pos h0]
    rw [if_pos h0, et]
    dsimp only
    rw [if_pos rfl, markP_eq hm (.inr rfl) (show (Rl.read l lab s.pos).1.pos < l.length from hlt)]
    exact ⟨rfl, rfl, fun _ => rfl⟩
  · have et : Rl.told (Rl.read l lab s.pos) = ([], (Rl.read l lab s.pos).1.pos, (Rl.read l lab s.pos).2) := by unfold Rl.told; rw [if_neg h0]
    rw [if_neg h0, et]
    dsimp only
    rw [if_neg h0]
    exact ⟨rfl, rfl, fun hh => absurd hh h0⟩
theorem stepR_err {lab : Bool} {q : Nat × Nat} (h : q.2 ≠ 0) : stepR l lab q = q := by unfold stepR; rw [if_neg h]
theorem stepR_on {lab : Bool} {q : Nat × Nat} (h : q.2 = 0) : stepR l lab q = partR l lab q.1 := by unfold stepR; rw [if_pos h]
theorem partsP_eq (hf : Fine l) (hm : Marked l) {op : Nat} (hop : op < 13) {t : St} (h : Stand l t) {q1 q2 q3 : Nat × Nat} (e1 : q1 = partR l false t.pos) (e2 : q2 = stepR l true q1) (e3 : q3 = stepR l true q2) :
    (partsP l op 3 0 t).2 = q3.2 ∧ (partsP l op 3 0 t).1.pos = q3.1 ∧ (q3.2 = 0 → (partsP l op 3 0 t).1 = ⟨q3.1, t.rows.set op ⟨(Rl.read l false t.pos).1.out, (Rl.read l true q1.1).1.out, (Rl.read l true q2.1).1.out⟩, t.had⟩) := by
  obtain ⟨a1, a2, a3⟩ := partP_eq hf hm op 0 h
  have d0 : decide (0 ≠ 0) = false := rfl
  rw [d0, ← e1] at a1 a2 a3
  have g0 := partP_stand (op := op) (j := 0) hf h
  have k0 : partsP l op 3 0 t = if (partP l op 0 t).2 = 0 then partsP l op 2 1 (partP l op 0 t).1 else partP l op 0 t := rfl
  rw [k0]
  by_cases z1 : q1.2 = 0
  · rw [if_pos (a1.trans z1)]
    rw [stepR_on z1] at e2
    obtain ⟨b1, b2, b3⟩ := partP_eq hf hm op 1 g0
    have d1 : decide (1 ≠ 0) = true := rfl
    rw [d1, a2, ← e2] at b1 b2 b3
    have g1 := partP_stand (op := op) (j := 1) hf g0
    have k1 : partsP l op 2 1 (partP l op 0 t).1 = if (partP l op 1 (partP l op 0 t).1).2 = 0 then partsP l op 1 2 (partP l op 1 (partP l op 0 t).1).1 else partP l op 1 (partP l op 0 t).1 := rfl
    rw [k1]
    by_cases z2 : q2.2 = 0
    · rw [if_pos (b1.trans z2)]
      rw [stepR_on z2] at e3
      obtain ⟨c1, c2, c3⟩ := partP_eq hf hm op 2 g1
      have d2 : decide (2 ≠ 0) = true := rfl
      rw [d2, b2, ← e3] at c1 c2 c3
      have k2 : partsP l op 1 2 (partP l op 1 (partP l op 0 t).1).1 = if (partP l op 2 (partP l op 1 (partP l op 0 t).1).1).2 = 0 then ((partP l op 2 (partP l op 1 (partP l op 0 t).1).1).1, 0) else partP l op 2 (partP l op 1 (partP l op 0 t).1).1 := rfl
      rw [k2]
      by_cases z3 : q3.2 = 0
      · rw [if_pos (c1.trans z3)]
        refine ⟨z3.symm, c2, fun _ => ?_⟩
        have hrl := h.rows
        show (partP l op 2 (partP l op 1 (partP l op 0 t).1).1).1 = _
        rw [c3 z3, b3 z2, a3 z1]
        dsimp only
        rw [set_getD _ _ _ (by simpa [hrl] using hop), List.set_set, set_getD _ _ _ (by simpa [hrl] using hop), List.set_set]
        rfl
      · rw [if_neg (fun hh => z3 (c1.symm.trans hh))]
        exact ⟨c1, c2, fun hh => absurd hh z3⟩
    · rw [if_neg (fun hh => z2 (b1.symm.trans hh))]
      rw [stepR_err z2] at e3
      rw [e3]
      exact ⟨b1, b2, fun hh => absurd hh z2⟩
  · rw [if_neg (fun hh => z1 (a1.symm.trans hh))]
    rw [stepR_err z1] at e2
    rw [e2, stepR_err z1] at e3
    rw [e3]
    exact ⟨a1, a2, fun hh => absurd hh z1⟩
/-- A row's rules, as the reference reads them. -/
def rowX (l : List Tk) (i : Nat) : PR := ⟨rowO l i 0, rowO l i 1, rowO l i 2⟩
theorem rowQ_zero {i : Nat} : rowQ l i 0 = markR l mColon i := rfl
theorem rowP_ref (hf : Fine l) (hm : Marked l) {s : St} (h : Stand l s) {op : Nat} (hk : (tok l s.pos).kind = 1) (hfi : find (tok l s.pos).text = some op) (hh : s.had.getD op false = false) :
    ((rowQ l (s.pos + 1) 3).2 ≠ 0 → (rowP l s).2 = (rowQ l (s.pos + 1) 3).2 ∧ (rowP l s).1.pos = (rowQ l (s.pos + 1) 3).1) ∧
    ((rowQ l (s.pos + 1) 3).2 = 0 → labE op (rowX l (s.pos + 1)) ≠ 0 → (rowP l s).2 = 7 ∧ (rowP l s).1.pos = s.pos) ∧
    ((rowQ l (s.pos + 1) 3).2 = 0 → labE op (rowX l (s.pos + 1)) = 0 → rowP l s = (⟨(rowQ l (s.pos + 1) 3).1, s.rows.set op (rowX l (s.pos + 1)), s.had.set op true⟩, 0)) := by
  have hop := (find_some hfi).1
  have hw := wordP_stand hf h
  have ew : wordP l s = (⟨s.pos + 1, s.rows, s.had.set op true⟩, op, 0) := by
    unfold wordP
    rw [if_pos hk, hfi]
    dsimp only
    rw [if_neg (by rw [hh]; decide)]
  rw [ew] at hw
  have hmk := markP_eq hm (m := mColon) (.inl rfl) hw.pos
  have hms := markP_stand hf colon_ne hw
  dsimp only at hmk
  rw [← rowQ_zero] at hmk
  rw [hmk] at hms
  dsimp only at hms
  have er : rowP l s = if (rowQ l (s.pos + 1) 0).2 = 0 then endP op s.pos (partsP l op 3 0 ⟨(rowQ l (s.pos + 1) 0).1, s.rows, s.had.set op true⟩) else (⟨(rowQ l (s.pos + 1) 0).1, s.rows, s.had.set op true⟩, (rowQ l (s.pos + 1) 0).2) := by
    unfold rowP
    rw [ew]
    dsimp only
    rw [if_pos rfl, hmk]
  have s1 : rowQ l (s.pos + 1) 1 = stepR l false (rowQ l (s.pos + 1) 0) := rfl
  have s2 : rowQ l (s.pos + 1) 2 = stepR l true (rowQ l (s.pos + 1) 1) := rfl
  have s3 : rowQ l (s.pos + 1) 3 = stepR l true (rowQ l (s.pos + 1) 2) := rfl
  rw [er]
  by_cases z0 : (rowQ l (s.pos + 1) 0).2 = 0
  · rw [if_pos z0]
    rw [stepR_on z0] at s1
    obtain ⟨p1, p2, p3⟩ := partsP_eq hf hm hop hms s1 s2 s3
    unfold endP
    by_cases z3 : (rowQ l (s.pos + 1) 3).2 = 0
    · have p4 := p3 z3
      have hx : (s.rows.set op ⟨(Rl.read l false (rowQ l (s.pos + 1) 0).1).1.out, (Rl.read l true (rowQ l (s.pos + 1) 1).1).1.out, (Rl.read l true (rowQ l (s.pos + 1) 2).1).1.out⟩).getD op PR.none = rowX l (s.pos + 1) := set_getD _ _ _ (by rw [h.rows]; exact hop)
      rw [if_pos (p1.trans z3), p4]
      dsimp only at hx ⊢
      rw [hx]
      refine ⟨fun hh => absurd z3 hh, fun _ hl => ?_, fun _ hl => ?_⟩
      · rw [if_neg hl]
        exact ⟨rfl, rfl⟩
      · rw [if_pos hl]
        refine Prod.ext ?_ (p1.trans z3)
        exact p4
    · rw [if_neg (fun hh => z3 (p1.symm.trans hh))]
      exact ⟨fun _ => ⟨p1, p2⟩, fun hh => absurd hh z3, fun hh => absurd hh z3⟩
  · rw [if_neg z0]
    rw [stepR_err z0] at s1
    rw [s1, stepR_err z0] at s2
    rw [s2, stepR_err z0] at s3
    rw [s3]
    exact ⟨fun _ => ⟨rfl, rfl⟩, fun hh => absurd hh z0, fun hh => absurd hh z0⟩
/-- The rules that the reference reads are made right. -/
theorem rowX_ok (hf : Fine l) {i : Nat} (hi : i < l.length) (h : (rowQ l i 3).2 = 0) : okRules (rowX l i) = true := by
  have h2 : (rowQ l i 2).2 = 0 := rowQ_down h
  have h1 : (rowQ l i 1).2 = 0 := rowQ_down h2
  have h0 : (rowQ l i 0).2 = 0 := rowQ_down h1
  have l0 := rowQ_lt hf.ends hi 0 h0
  have l1 := rowQ_lt hf.ends hi 1 h1
  have l2 := rowQ_lt hf.ends hi 2 h2
  have r1 : (partR l false (rowQ l i 0).1).2 = 0 := by rw [← stepR_on h0]; exact h1
  have r2 : (partR l true (rowQ l i 1).1).2 = 0 := by rw [← stepR_on h1]; exact h2
  have r3 : (partR l true (rowQ l i 2).1).2 = 0 := by rw [← stepR_on h2]; exact h
  have x0 : Rl.right (rowX l i).m false = true := (Rl.read_right hf.ends false _ l0 (partR_ok r1)).1
  have x1 : Rl.right (rowX l i).r true = true := (Rl.read_right hf.ends true _ l1 (partR_ok r2)).1
  have x2 : Rl.right (rowX l i).p true = true := (Rl.read_right hf.ends true _ l2 (partR_ok r3)).1
  unfold okRules
  rw [x0, x1, x2]
  rfl
theorem rowX_rowE (hf : Fine l) {i op : Nat} (hi : i < l.length) (h : (rowQ l i 3).2 = 0) : rowE op (rowX l i) = labE op (rowX l i) := by
  unfold rowE
  rw [if_pos (rowX_ok hf hi h)]
end
end Tb
end Go.Proofs.YtggcmkpafpjnoaaGreatDoor
