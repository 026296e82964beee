/- Walks of checkRow and Check. -/
import Derived.StillTailTactics
import Derived.Test.YtggcmkpafpjnoaaGreatDoorGTabA
import Derived.Test.YtggcmkpafpjnoaaGreatDoorGRulD
namespace Go.Proofs.YtggcmkpafpjnoaaGreatDoor
set_option maxRecDepth 100000
open Go.RowKit Go.Shelf
attribute [local go_sem] Oper.semAt_some

def Tb.PR.rightAt (x : Tb.PR) (k : Nat) : Bool := Rl.right (x.nth k) (decide (k ≠ 0))
theorem okRules_no {x : Tb.PR} {k : Nat} (hk : k < 3) (h : x.rightAt k = false) : Tb.okRules x = false := by
  unfold Tb.okRules
  rcases (by omega : k = 0 ∨ k = 1 ∨ k = 2) with rfl | rfl | rfl
  · rw [show Rl.right x.m false = false from h]; rfl
  · rw [show Rl.right x.r true = false from h]; simp
  · rw [show Rl.right x.p true = false from h]; simp
theorem okRules_yes {x : Tb.PR} (h : ∀ k, k < 3 → x.rightAt k = true) : Tb.okRules x = true := by
  unfold Tb.okRules
  rw [show Rl.right x.m false = true from h 0 (by decide), show Rl.right x.r true = true from h 1 (by decide), show Rl.right x.p true = true from h 2 (by decide)]
  rfl
theorem rowE_no {op : Nat} {x : Tb.PR} {k : Nat} (hk : k < 3) (h : x.rightAt k = false) : Tb.rowE op x = 1 := by
  unfold Tb.rowE
  rw [okRules_no hk h]
  rfl
theorem rowE_yes {op : Nat} {x : Tb.PR} (h : ∀ k, k < 3 → x.rightAt k = true) : Tb.rowE op x = Tb.labE op x := by
  unfold Tb.rowE
  rw [okRules_yes h]
  rfl
set_option maxHeartbeats 4000000 in
theorem checkRow_any {P b0 b1 b2 op : Nat} {a0 a1 a2 : Value} {x : Tb.PR} (hop : op < 13) (w : World) (hi : Ins w) (hp : Parts P b0 b1 b2 w) (h0 : IsInts w w.heap.size a0 x.m) (h1 : IsInts w w.heap.size a1 x.r) (h2 : IsInts w w.heap.size a2 x.p) (hs : Small x) :
    Calls Tryz.prog 55 #[.slice (some ⟨P, 0, none⟩) 3 3, .int .i64 (op : Int), .agg #[a0, a1, a2]] w (TellsN w (Tb.rowE op x : Nat)) := by
  have hst : PartsAt w P b0 b1 b2 w.heap.size a0 a1 a2 x (w.alloc (.cells #[a0, a1, a2] 43)) := by
    have hb : Below w.heap.size w (w.alloc (.cells #[a0, a1, a2] 43)) := (Below.refl _ w).alloc (Nat.le_refl _) _
    exact ⟨hb, hp.keep hb, Blk.new _ _ _, (h0.below hb).more hb.size, (h1.below hb).more hb.size, (h2.below hb).more hb.size⟩
  have hlab := fun W (H : PartsAt w P b0 b1 b2 w.heap.size a0 a1 a2 x W) => labels_any (a0 := a0) (a1 := a1) (a2 := a2) (x := x) hop W (hi.below H.below hi.lt) H.parts (H.row.i0) (H.row.i1) (H.row.i2) hs
  have HLB := Lib.hid hlab
  have HST := Lib.hid hst
  have HS := Lib.hid hs
  clear hp h0 h1 h2 hst hi hs hlab
  go_enter Tryz.func55, Tryz.ntmps55
  go_wp2
  go_loopw [11] (fun i wr => ∃ (k : Nat), k ≤ 3 ∧ i = .int .i64 k ∧ Hid (PartsAt w P b0 b1 b2 w.heap.size a0 a1 a2 x wr) ∧ Hid (∀ j, j < k → x.rightAt j = true)) (fun i _ => 3 - (intOf i).toNat)
  case atStart => exact ⟨0, by decide, rfl, HST, Lib.hid fun j hj => absurd hj (by omega)⟩
  case round =>
    obtain ⟨k, hk, rfl, HP, HO⟩ := hrel
    by_cases hlt : k < 3
    · obtain ⟨g, bk, hpa⟩ := HP.out.parts.at_ hlt
      obtain ⟨A, c, hsl, hrow⟩ := HP.out.row.at_ hlt
      obtain ⟨c0, c1, c2, hv, -, hen, hof, -⟩ := hpa
      have hus : ∀ W, Below wr.heap.size wr W → Calls Tryz.prog 64 #[.slice A (x.nth k).length c, .pointer (some ⟨bk, 0, none⟩)] W (Tells W (x.rightAt k)) :=
        fun W hb => rightP_any c bk _ W (hv.below hb hv.lt) ((hrow.below hb).more hb.size) (HS.out k)
      have hal : Below wr.heap.size wr (wr.alloc (.cells #[.func (.func 62) #[] #[.pointer (some ⟨bk, 0, none⟩)], .func (.func 64) #[] #[.pointer (some ⟨bk, 0, none⟩)], .func (.func g) #[] #[]] 100)).drew := ((Below.refl wr.heap.size wr).alloc (Nat.le_refl _) _).drew
      obtain ⟨q, hq⟩ : ∃ q, x.rightAt k = q := ⟨_, rfl⟩
      rw [hq] at hus
      generalize (x.nth k).length = n at *
      have hblk := HP.out.row.blk.lt
      have HQ := Lib.hid hq
      have HUS := Lib.hid hus
      have HAL := Lib.hid hal
      have hof2 := fun b W => (hof b W).mono (R' := fun e w' => e = .returned (.pointer (some ⟨b, k, none⟩)) ∧ w' = W) (fun e w' h => ⟨h.1, h.2.symm⟩)
      have HOF := Lib.hid hof2
      clear hus hal hq hrow hof hof2
      go_wp2
      refine still_tail_drew 7 (by kernel_rfl) (by kernel_rfl) ?_
      simp only [List.take_succ_cons, List.take_zero, List.drop_succ_cons, List.drop_zero]
      repeat still_step
      still_call (HOF.out _ _)
      repeat still_step
      refine wpStill_nil ?_
      go_wp2_with (fail)
      refine (HUS.out _ HAL.out).mono ?_
      rintro e w2 ⟨rfl, hb2⟩
      have HP2 := Lib.hid (HP.out.step (HAL.out.trans (hb2.mono HAL.out.size)))
      clear hb2 c0 c1 c2 hsl hen hv
      cases q
      · have HL := Lib.hid (rowE_no (op := op) hlt HQ.out)
        go_wp2
        go_ret
        rw [HL.out]
        exact ⟨rfl, HP2.out.below⟩
      · have HO2 : Hid (∀ j, j < k + 1 → x.rightAt j = true) := Lib.hid fun j hj => by
          by_cases e : j = k
          · subst e; exact HQ.out
          · exact HO.out j (by omega)
        go_wp2
        go_roundw
        case rel => exact ⟨k + 1, by omega, by go_num, HP2, HO2⟩
        case measure => simp [intOf]; omega
    · obtain rfl : k = 3 := by omega
      have HL := Lib.hid (rowE_yes (op := op) HO.out)
      have r0 : wr.cell? ⟨w.heap.size, 0, none⟩ = some a0 := HP.out.row.blk.cell 0
      have r1 : wr.cell? ⟨w.heap.size, 1, none⟩ = some a1 := HP.out.row.blk.cell 1
      have r2 : wr.cell? ⟨w.heap.size, 2, none⟩ = some a2 := HP.out.row.blk.cell 2
      go_wp2_with (fail)
      refine (HLB.out _ HP.out).mono ?_
      rintro e w1 ⟨rfl, hb1⟩
      have HB := Lib.hid (HP.out.below.trans (hb1.mono HP.out.below.size))
      clear hb1
      go_wp2
      go_ret
      rw [HL.out]
      exact ⟨rfl, HB.out⟩
end Go.Proofs.YtggcmkpafpjnoaaGreatDoor

/- The walk of Check; tables in memory. -/
namespace Go.Proofs.YtggcmkpafpjnoaaGreatDoor
set_option maxRecDepth 100000
open Go.RowKit Go.Shelf
attribute [local go_sem] Oper.semAt_some

/-- A table's rows at A, below B. -/
def RowsIn (w : World) (B : Nat) (A : Option Addr) (l : List Tb.PR) : Prop :=
  ∃ vs : List Value, vs.length = l.length * 3 ∧ Row w B A vs ∧ ∀ k x, l[k]? = some x → ∃ a0 a1 a2, vs[k * 3]? = some a0 ∧ vs[k * 3 + 1]? = some a1 ∧ vs[k * 3 + 2]? = some a2 ∧ IsInts w B a0 x.m ∧ IsInts w B a1 x.r ∧ IsInts w B a2 x.p
theorem RowsIn.below {w w' : World} {B : Nat} {A : Option Addr} {l : List Tb.PR} (h : RowsIn w B A l) (hb : Below B w w') : RowsIn w' B A l := by
  obtain ⟨vs, h1, h2, h3⟩ := h
  refine ⟨vs, h1, h2.below hb, fun k x hk => ?_⟩
  obtain ⟨a0, a1, a2, e0, e1, e2, i0, i1, i2⟩ := h3 k x hk
  exact ⟨a0, a1, a2, e0, e1, e2, i0.below hb, i1.below hb, i2.below hb⟩
theorem RowsIn.more {w : World} {B B' : Nat} {A : Option Addr} {l : List Tb.PR} (h : RowsIn w B A l) (hB : B ≤ B') : RowsIn w B' A l := by
  obtain ⟨vs, h1, h2, h3⟩ := h
  refine ⟨vs, h1, h2.more hB, fun k x hk => ?_⟩
  obtain ⟨a0, a1, a2, e0, e1, e2, i0, i1, i2⟩ := h3 k x hk
  exact ⟨a0, a1, a2, e0, e1, e2, i0.more hB, i1.more hB, i2.more hB⟩
theorem RowsIn.nil (w : World) (B : Nat) (A : Option Addr) : RowsIn w B A [] := ⟨[], rfl, Row.nil, fun k x hk => by simp at hk⟩
theorem RowsIn.at_ {w : World} {B k : Nat} {A : Option Addr} {l : List Tb.PR} (h : RowsIn w B A l) (hk : k < l.length) : ∃ ad a0 a1 a2, A = some ad ∧ ad.block < B ∧ w.cell? (ad.add (k * 3)) = some a0 ∧
    w.cell? ⟨(ad.add (k * 3)).block, (ad.add (k * 3)).off + 1, none⟩ = some a1 ∧ w.cell? ⟨(ad.add (k * 3)).block, (ad.add (k * 3)).off + 2, none⟩ = some a2 ∧ IsInts w B a0 l[k].m ∧ IsInts w B a1 l[k].r ∧ IsInts w B a2 l[k].p := by
  obtain ⟨vs, h1, h2, h3⟩ := h
  obtain ⟨a0, a1, a2, e0, e1, e2, i0, i1, i2⟩ := h3 k _ (List.getElem?_eq_getElem hk)
  obtain ⟨ad, e, hb, hc⟩ := h2 (by rintro rfl; simp at h1; omega)
  exact ⟨ad, a0, a1, a2, e, hb, hc _ _ e0, by rw [← addr_next _ _ _ (by decide)]; exact hc _ _ e1, by rw [← addr_next _ _ _ (by decide)]; exact hc _ _ e2, i0, i1, i2⟩
/-- A table that is handed over. -/
def IsTab (w : World) (B : Nat) (v : Value) (l : List Tb.PR) : Prop := ∃ A c, v = .slice A l.length c ∧ RowsIn w B A l ∧ l.length ≤ c
theorem IsTab.below {w w' : World} {B : Nat} {v : Value} {l : List Tb.PR} (h : IsTab w B v l) (hb : Below B w w') : IsTab w' B v l := by
  obtain ⟨A, c, e, hr, hc⟩ := h
  exact ⟨A, c, e, hr.below hb, hc⟩
theorem IsTab.more {w : World} {B B' : Nat} {v : Value} {l : List Tb.PR} (h : IsTab w B v l) (hB : B ≤ B') : IsTab w B' v l := by
  obtain ⟨A, c, e, hr, hc⟩ := h
  exact ⟨A, c, e, hr.more hB, hc⟩
theorem IsTab.nil (w : World) (B : Nat) : IsTab w B (.slice none 0 0) [] := ⟨none, 0, rfl, RowsIn.nil _ _ _, Nat.le_refl _⟩

theorem check_no {A : Option Addr} {l : List Tb.PR} (c : Nat) (w : World) (h : l.length ≠ 13) : Calls Tryz.prog 37 #[.agg #[.slice A l.length c]] w (TellsE w (Tb.check l).1 (Tb.check l).2) := by
  have e : Tb.check l = (0, 1) := by unfold Tb.check; rw [if_neg h]
  rw [e]
  have h1 : (((l.length : Nat) : Int) != 13) = true := by rw [bne_iff_ne]; omega
  generalize l.length = n at *
  go_enter Tryz.func37, Tryz.ntmps37
  go_wp2
  go_ret2
  exact ⟨rfl, (Below.refl _ _).alloc (Nat.le_refl _) _⟩
/-- What holds at the head of a round over the rows. -/
structure RowsAt (w0 : World) (P b0 b1 b2 : Nat) (W : World) : Prop where
  below : Below w0.heap.size w0 W
  parts : Parts P b0 b1 b2 W
theorem RowsAt.step {w0 : World} {P b0 b1 b2 : Nat} {W W' : World} (h : RowsAt w0 P b0 b1 b2 W) (hb : Below W.heap.size W W') : RowsAt w0 P b0 b1 b2 W' :=
  ⟨h.below.trans (hb.mono h.below.size), h.parts.keep hb⟩
theorem firstBad_on {l : List Tb.PR} {k : Nat} (hk : k < l.length) : Tb.firstBad k (l.drop k) = if Tb.rowE k l[k] = 0 then Tb.firstBad (k + 1) (l.drop (k + 1)) else (k, Tb.rowE k l[k]) := by
  rw [List.drop_eq_getElem_cons hk]
  rfl
set_option maxHeartbeats 4000000 in
theorem check_13 {A : Option Addr} {l : List Tb.PR} (c : Nat) (w : World) (hi : Ins w) (h : RowsIn w w.heap.size A l) (hl : l.length = 13) (hs : ∀ x ∈ l, Small x) : Calls Tryz.prog 37 #[.agg #[.slice A 13 c]] w (TellsE w (Tb.check l).1 (Tb.check l).2) := by
  have e : Tb.check l = Tb.firstBad 0 l := by unfold Tb.check; rw [if_pos hl]
  rw [e]
  have HI := Lib.hid hi
  have H := Lib.hid h
  have HS := Lib.hid hs
  have HL := Lib.hid hl
  have hg0 := hi.lt
  clear e hi h hs hl
  have hpa := fun W => parts_any W
  have HPA := Lib.hid hpa
  clear hpa
  go_enter Tryz.func37, Tryz.ntmps37
  go_wp2_with (fail)
  refine (HPA.out _).mono ?_
  rintro e w1 ⟨P, b0, b1, b2, rfl, hp, hb1, -, -, -, -⟩
  have hal : Below w.heap.size w (w.alloc (.cells #[.slice A 13 c] 24)) := (Below.refl _ w).alloc (Nat.le_refl _) _
  have hc0 : w1.cell? ⟨w.heap.size, 0, none⟩ = some (.slice A 13 c) := by
    have hk := Blk.new w 24 #[.slice A 13 c]
    rw [(hk.below hb1 hk.lt).cell]
    rfl
  have HR := Lib.hid (show RowsAt w P b0 b1 b2 w1 from ⟨hal.trans (hb1.mono hal.size), hp⟩)
  clear hp hb1 hal
  go_wp2
  go_loopw [16] (fun i wr => ∃ (k : Nat), k ≤ 13 ∧ i = .int .i64 k ∧ Hid (RowsAt w P b0 b1 b2 wr) ∧ Hid (Tb.firstBad 0 l = Tb.firstBad k (l.drop k))) (fun i _ => 13 - (intOf i).toNat)
  case atStart => exact ⟨0, by decide, rfl, HR, Lib.hid rfl⟩
  case round =>
    obtain ⟨k, hk, rfl, HP, HF⟩ := hrel
    by_cases hlt : k < 13
    · have hkl : k < l.length := by rw [HL.out]; exact hlt
      obtain ⟨ad, a0, a1, a2, rfl, hb, c0, c1, c2, i0, i1, i2⟩ := (H.out.below HP.out.below).at_ hkl
      have hz := HP.out.below.size
      have hal : Below wr.heap.size wr (wr.alloc (.cells #[a0, a1, a2] 43)) := (Below.refl _ wr).alloc (Nat.le_refl _) _
      have hcr := checkRow_any (a0 := a0) (a1 := a1) (a2 := a2) (x := l[k]) hlt (wr.alloc (.cells #[a0, a1, a2] 43)) ((HI.out.below HP.out.below hg0).below hal (by omega)) (HP.out.parts.keep hal)
        ((i0.below (hal.mono hz)).more (by simp; omega)) ((i1.below (hal.mono hz)).more (by simp; omega)) ((i2.below (hal.mono hz)).more (by simp; omega)) (HS.out _ (List.getElem_mem hkl))
      have hon := HF.out.trans (firstBad_on hkl)
      obtain ⟨A0, d0, rfl, -, -⟩ := i0
      obtain ⟨A1, d1, rfl, -, -⟩ := i1
      obtain ⟨A2, d2, rfl, -, -⟩ := i2
      generalize Tb.rowE k l[k] = q at *
      have HCR := Lib.hid hcr
      have HON := Lib.hid hon
      have HAL := Lib.hid hal
      clear hcr hon hal
      go_wp2_with (fail)
      refine HCR.out.mono ?_
      rintro e w2 ⟨rfl, hb2⟩
      have HP2 := Lib.hid (HP.out.step (HAL.out.trans (hb2.mono HAL.out.size)))
      clear hb2 c0 c1 c2
      by_cases hq0 : q = 0
      · subst hq0
        have HF2 := Lib.hid (HON.out.trans (if_pos rfl))
        go_wp2
        go_roundw
        case rel => exact ⟨k + 1, by omega, by go_num, HP2, HF2⟩
        case measure => simp [intOf]; omega
      · have hq1 : ((q : Int) != 0) = true := by rw [bne_iff_ne]; omega
        have HF2 := Lib.hid (HON.out.trans (if_neg hq0))
        go_wp2
        go_ret2
        rw [HF2.out]
        exact ⟨rfl, HP2.out.below⟩
    · obtain rfl : k = 13 := by omega
      have HF2 := Lib.hid (HF.out.trans (by rw [List.drop_eq_nil_of_le (by rw [HL.out]; omega)]; rfl : _ = ((0, 0) : Nat × Nat)))
      go_wp2
      go_ret2
      rw [HF2.out]
      exact ⟨rfl, HP.out.below⟩
theorem check_any6 {A : Option Addr} {l : List Tb.PR} (c : Nat) (w : World) (hi : Ins w) (h : RowsIn w w.heap.size A l) (hs : ∀ x ∈ l, Small x) : Calls Tryz.prog 37 #[.agg #[.slice A l.length c]] w (TellsE w (Tb.check l).1 (Tb.check l).2) := by
  by_cases hl : l.length = 13
  · rw [hl]
    exact check_13 c w hi h hl hs
  · exact check_no c w hl
end Go.Proofs.YtggcmkpafpjnoaaGreatDoor

/- The walks of the reference's Word, Arity, has, Row (by gen_tabw.py). -/
namespace Go.Proofs.YtggcmkpafpjnoaaGreatDoor
set_option maxRecDepth 100000
open Go.RowKit Go.Shelf
attribute [local go_sem] Oper.semAt_some

def TellsI (w : World) (n : Nat) (e : Ending) (w' : World) : Prop := e = .returned (.int .i64 (n : Int)) ∧ Below w.heap.size w w'
def TellsStr (w : World) (s : ByteArray) (e : Ending) (w' : World) : Prop := e = .returned (.string s) ∧ Below w.heap.size w w'
set_option maxHeartbeats 4000000 in
theorem rArity_any (op : Nat) (hop : op < 13) (w : World) : Calls Tryz.prog 14 #[.int .i64 op] w (TellsI w (Tb.arity op)) := by
  rcases Tb.op_cases hop with rfl | rfl | rfl | rfl | rfl | rfl | rfl | rfl | rfl | rfl | rfl | rfl | rfl
  all_goals
    go_enter Tryz.func14, Tryz.ntmps14
    go_wp2
    go_ret
    exact ⟨rfl, (Below.refl _ w).alloc (Nat.le_refl _) _⟩
set_option maxHeartbeats 4000000 in
theorem rIWord_any (op : Nat) (hop : op < 13) (w : World) : Calls Tryz.prog 13 #[.int .i64 op] w (TellsStr w (Tb.word op)) := by
  rcases Tb.op_cases hop with rfl | rfl | rfl | rfl | rfl | rfl | rfl | rfl | rfl | rfl | rfl | rfl | rfl
  all_goals
    go_enter Tryz.func13, Tryz.ntmps13
    go_wp2
    go_ret
    exact ⟨rfl, (Below.refl _ w).alloc (Nat.le_refl _) _⟩
/-- A rule names no label that an instruction has not. -/
def noOver (op : Nat) (l : List Int) : Bool := decide (∀ j : Nat, j < 4 → Tb.arity op < j → ¬ (8 + (j : Int)) ∈ l)
theorem arity_le {op : Nat} (h : op < 13) : Tb.arity op ≤ 3 := by
  rcases Tb.op_cases h with rfl | rfl | rfl | rfl | rfl | rfl | rfl | rfl | rfl | rfl | rfl | rfl | rfl <;> decide
theorem over_no {op : Nat} (h : op < 13) {l : List Int} (hm : Rl.made l = true) : Tb.over op l = !noOver op l := by
  have ha := arity_le h
  unfold Tb.over noOver Tb.useOf
  rw [if_pos hm]
  generalize Tb.arity op = a at *
  have hall : (∀ j : Nat, j < 4 → a < j → ¬ (8 + (j : Int)) ∈ l) ↔ (a < 1 → ¬ (9 : Int) ∈ l) ∧ (a < 2 → ¬ (10 : Int) ∈ l) ∧ (a < 3 → ¬ (11 : Int) ∈ l) := by
    constructor
    · intro h
      exact ⟨fun h1 => h 1 (by decide) h1, fun h1 => h 2 (by decide) h1, fun h1 => h 3 (by decide) h1⟩
    · rintro ⟨h1, h2, h3⟩ j hj haj
      rcases (by omega : j = 1 ∨ j = 2 ∨ j = 3) with rfl | rfl | rfl
      · exact h1 haj
      · exact h2 haj
      · exact h3 haj
  rw [Bool.eq_iff_iff]
  simp only [decide_eq_true_eq, Bool.not_eq_true', decide_eq_false_iff_not, hall]
  unfold Rl.usesOf
  by_cases h8 : (8 : Int) ∈ l <;> by_cases h9 : (9 : Int) ∈ l <;> by_cases h10 : (10 : Int) ∈ l <;> by_cases h11 : (11 : Int) ∈ l <;>
    rcases (by omega : a = 0 ∨ a = 1 ∨ a = 2 ∨ a = 3) with rfl | rfl | rfl | rfl <;> simp [h8, h9, h10, h11]
theorem made_right {l : List Int} {b : Bool} (h : Rl.right l b = true) : Rl.made l = true := by
  unfold Rl.made
  cases b <;> rw [h] <;> simp
set_option maxHeartbeats 4000000 in
theorem rhas_any {A : Option Addr} {l : List Int} (c op : Nat) (hop : op < 13) (w : World) (h : Row w w.heap.size A (ints l)) (hl : l.length ≤ 100000) : Calls Tryz.prog 36 #[.int .i64 op, .slice A l.length c] w (Tells w (noOver op l)) := by
  have HA := Lib.hid (rArity_any op hop w)
  have HH := Lib.hid (fun j hj W (hb : Below w.heap.size w W) => has_any c j W ((h.below hb).more hb.size) hl hj)
  have ha := arity_le hop
  obtain ⟨a, hae⟩ : ∃ a, Tb.arity op = a := ⟨_, rfl⟩
  obtain ⟨res, hres⟩ : ∃ res, noOver op l = res := ⟨_, rfl⟩
  rw [hres]
  rw [hae] at HA ha
  have HRES := Lib.hid hres
  have HAE := Lib.hid hae
  clear h hres hae
  generalize l.length = n at *
  go_enter Tryz.func36, Tryz.ntmps36
  go_wp2_with (fail)
  refine HA.out.mono ?_
  rintro e w1 ⟨rfl, hb1⟩
  have HB1 := Lib.hid hb1
  clear hb1
  go_wp2
  go_loop [5] (fun i => ∃ k : Nat, a < k ∧ k ≤ 4 ∧ i = .int .i64 k ∧ Hid (∀ j : Nat, j < k → a < j → ¬ (8 + (j : Int)) ∈ l)) (fun i => 4 - (intOf i).toNat)
  case atStart => exact ⟨a + 1, by omega, by omega, by go_num, fun j h1 h2 => by omega⟩
  case round =>
    obtain ⟨k, hk0, hk, rfl, HK⟩ := hrel
    by_cases hlt : k < 4
    · have HC := Lib.hid (HH.out k (by omega) _ HB1.out)
      obtain ⟨b, hb⟩ : ∃ b, decide ((8 + (k : Int)) ∈ l) = b := ⟨_, rfl⟩
      rw [hb] at HC
      have HBE := Lib.hid hb
      clear hb
      have hltI : (k : Int) < 4 := by omega
      cases b
      · go_wp2_with (fail)
        refine HC.out.mono ?_
        rintro e w2 ⟨rfl, rfl⟩
        go_wp2
        go_round
        case rel => exact ⟨k + 1, by omega, by omega, by go_num, fun j h1 h2 => by
          by_cases e : j = k
          · subst e; exact of_decide_eq_false HBE.out
          · exact HK.out j (by omega) h2⟩
        case measure => simp [intOf]; omega
      · go_wp2_with (fail)
        refine HC.out.mono ?_
        rintro e w2 ⟨rfl, rfl⟩
        have HF := Lib.hid (show false = res by
          rw [← HRES.out]
          symm
          unfold noOver
          rw [decide_eq_false_iff_not, HAE.out]
          intro h
          exact h k hlt hk0 (of_decide_eq_true HBE.out))
        go_wp2
        go_ret
        exact ⟨retb HF.out, HB1.out⟩
    · obtain rfl : k = 4 := by omega
      have HT := Lib.hid (show true = res by
        rw [← HRES.out]
        symm
        unfold noOver
        rw [decide_eq_true_eq, HAE.out]
        exact HK.out)
      go_wp2
      go_ret
      exact ⟨retb HT.out, HB1.out⟩
def rowR (q0 q1 q2 p0 p1 p2 : Bool) : Nat := if q0 && (q1 && q2) then (if p0 && (p1 && p2) then 0 else 7) else 1
set_option maxHeartbeats 16000000 in
theorem rRow_parts {A0 A1 A2 : Option Addr} {n0 n1 n2 c0 c1 c2 op : Nat} {q0 q1 q2 p0 p1 p2 : Bool} (w : World)
    (R0 : Hid (∀ W, Below w.heap.size w W → Calls Tryz.prog 35 #[.slice A0 n0 c0, .bool false] W (Tells W q0)))
    (R1 : Hid (∀ W, Below w.heap.size w W → Calls Tryz.prog 35 #[.slice A1 n1 c1, .bool true] W (Tells W q1)))
    (R2 : Hid (∀ W, Below w.heap.size w W → Calls Tryz.prog 35 #[.slice A2 n2 c2, .bool true] W (Tells W q2)))
    (N0 : Hid (∀ W, Below w.heap.size w W → Calls Tryz.prog 36 #[.int .i64 op, .slice A0 n0 c0] W (Tells W p0)))
    (N1 : Hid (∀ W, Below w.heap.size w W → Calls Tryz.prog 36 #[.int .i64 op, .slice A1 n1 c1] W (Tells W p1)))
    (N2 : Hid (∀ W, Below w.heap.size w W → Calls Tryz.prog 36 #[.int .i64 op, .slice A2 n2 c2] W (Tells W p2))) :
    Calls Tryz.prog 22 #[.int .i64 op, .agg #[.slice A0 n0 c0, .slice A1 n1 c1, .slice A2 n2 c2]] w (TellsI w (rowR q0 q1 q2 p0 p1 p2)) := by
  obtain ⟨w1, hw1⟩ : ∃ w1, w.alloc (.cells #[.slice A0 n0 c0, .slice A1 n1 c1, .slice A2 n2 c2] 43) = w1 := ⟨_, rfl⟩
  have HBw1 : Hid (Below w.heap.size w w1) := hw1 ▸ Lib.hid ((Below.refl _ w).alloc (Nat.le_refl _) _)
  have HKw1 : Hid (Blk w1 w.heap.size 43 #[.slice A0 n0 c0, .slice A1 n1 c1, .slice A2 n2 c2]) := hw1 ▸ Lib.hid (Blk.new w _ _)
  go_enter Tryz.func22, Tryz.ntmps22
  cases q0
  · have HC := Lib.hid (R0.out w1 HBw1.out)
    have hc0 := HKw1.out.cell 0
    have hc1 := HKw1.out.cell 1
    have hc2 := HKw1.out.cell 2
    go_wp2_with (fail)
    refine HC.out.mono ?_
    rintro e w2 ⟨rfl, hb⟩
    have HBw2 := Lib.hid (HBw1.out.trans (hb.mono HBw1.out.size))
    have HKw2 := Lib.hid (HKw1.out.below hb HKw1.out.lt)
    clear hb HC hc0 hc1 hc2
    go_wp2
    go_ret
    exact ⟨rfl, HBw2.out⟩
  · have HC := Lib.hid (R0.out w1 HBw1.out)
    have hc0 := HKw1.out.cell 0
    have hc1 := HKw1.out.cell 1
    have hc2 := HKw1.out.cell 2
    go_wp2_with (fail)
    refine HC.out.mono ?_
    rintro e w2 ⟨rfl, hb⟩
    have HBw2 := Lib.hid (HBw1.out.trans (hb.mono HBw1.out.size))
    have HKw2 := Lib.hid (HKw1.out.below hb HKw1.out.lt)
    clear hb HC hc0 hc1 hc2
    cases q1
    · have HC := Lib.hid (R1.out w2 HBw2.out)
      have hc0 := HKw2.out.cell 0
      have hc1 := HKw2.out.cell 1
      have hc2 := HKw2.out.cell 2
      go_wp2_with (fail)
      refine HC.out.mono ?_
      rintro e w3 ⟨rfl, hb⟩
      have HBw3 := Lib.hid (HBw2.out.trans (hb.mono HBw2.out.size))
      have HKw3 := Lib.hid (HKw2.out.below hb HKw2.out.lt)
      clear hb HC hc0 hc1 hc2
      go_wp2
      go_ret
      exact ⟨rfl, HBw3.out⟩
    · have HC := Lib.hid (R1.out w2 HBw2.out)
      have hc0 := HKw2.out.cell 0
      have hc1 := HKw2.out.cell 1
      have hc2 := HKw2.out.cell 2
      go_wp2_with (fail)
      refine HC.out.mono ?_
      rintro e w3 ⟨rfl, hb⟩
      have HBw3 := Lib.hid (HBw2.out.trans (hb.mono HBw2.out.size))
      have HKw3 := Lib.hid (HKw2.out.below hb HKw2.out.lt)
      clear hb HC hc0 hc1 hc2
      cases q2
      · have HC := Lib.hid (R2.out w3 HBw3.out)
        have hc0 := HKw3.out.cell 0
        have hc1 := HKw3.out.cell 1
        have hc2 := HKw3.out.cell 2
        go_wp2_with (fail)
        refine HC.out.mono ?_
        rintro e w4 ⟨rfl, hb⟩
        have HBw4 := Lib.hid (HBw3.out.trans (hb.mono HBw3.out.size))
        have HKw4 := Lib.hid (HKw3.out.below hb HKw3.out.lt)
        clear hb HC hc0 hc1 hc2
        go_wp2
        go_ret
        exact ⟨rfl, HBw4.out⟩
      · have HC := Lib.hid (R2.out w3 HBw3.out)
        have hc0 := HKw3.out.cell 0
        have hc1 := HKw3.out.cell 1
        have hc2 := HKw3.out.cell 2
        go_wp2_with (fail)
        refine HC.out.mono ?_
        rintro e w4 ⟨rfl, hb⟩
        have HBw4 := Lib.hid (HBw3.out.trans (hb.mono HBw3.out.size))
        have HKw4 := Lib.hid (HKw3.out.below hb HKw3.out.lt)
        clear hb HC hc0 hc1 hc2
        cases p0
        · have HC := Lib.hid (N0.out w4 HBw4.out)
          have hc0 := HKw4.out.cell 0
          have hc1 := HKw4.out.cell 1
          have hc2 := HKw4.out.cell 2
          go_wp2_with (fail)
          refine HC.out.mono ?_
          rintro e w5 ⟨rfl, hb⟩
          have HBw5 := Lib.hid (HBw4.out.trans (hb.mono HBw4.out.size))
          have HKw5 := Lib.hid (HKw4.out.below hb HKw4.out.lt)
          clear hb HC hc0 hc1 hc2
          go_wp2
          go_ret
          exact ⟨rfl, HBw5.out⟩
        · have HC := Lib.hid (N0.out w4 HBw4.out)
          have hc0 := HKw4.out.cell 0
          have hc1 := HKw4.out.cell 1
          have hc2 := HKw4.out.cell 2
          go_wp2_with (fail)
          refine HC.out.mono ?_
          rintro e w5 ⟨rfl, hb⟩
          have HBw5 := Lib.hid (HBw4.out.trans (hb.mono HBw4.out.size))
          have HKw5 := Lib.hid (HKw4.out.below hb HKw4.out.lt)
          clear hb HC hc0 hc1 hc2
          cases p1
          · have HC := Lib.hid (N1.out w5 HBw5.out)
            have hc0 := HKw5.out.cell 0
            have hc1 := HKw5.out.cell 1
            have hc2 := HKw5.out.cell 2
            go_wp2_with (fail)
            refine HC.out.mono ?_
            rintro e w6 ⟨rfl, hb⟩
            have HBw6 := Lib.hid (HBw5.out.trans (hb.mono HBw5.out.size))
            have HKw6 := Lib.hid (HKw5.out.below hb HKw5.out.lt)
            clear hb HC hc0 hc1 hc2
            go_wp2
            go_ret
            exact ⟨rfl, HBw6.out⟩
          · have HC := Lib.hid (N1.out w5 HBw5.out)
            have hc0 := HKw5.out.cell 0
            have hc1 := HKw5.out.cell 1
            have hc2 := HKw5.out.cell 2
            go_wp2_with (fail)
            refine HC.out.mono ?_
            rintro e w6 ⟨rfl, hb⟩
            have HBw6 := Lib.hid (HBw5.out.trans (hb.mono HBw5.out.size))
            have HKw6 := Lib.hid (HKw5.out.below hb HKw5.out.lt)
            clear hb HC hc0 hc1 hc2
            cases p2
            · have HC := Lib.hid (N2.out w6 HBw6.out)
              have hc0 := HKw6.out.cell 0
              have hc1 := HKw6.out.cell 1
              have hc2 := HKw6.out.cell 2
              go_wp2_with (fail)
              refine HC.out.mono ?_
              rintro e w7 ⟨rfl, hb⟩
              have HBw7 := Lib.hid (HBw6.out.trans (hb.mono HBw6.out.size))
              have HKw7 := Lib.hid (HKw6.out.below hb HKw6.out.lt)
              clear hb HC hc0 hc1 hc2
              go_wp2
              go_ret
              exact ⟨rfl, HBw7.out⟩
            · have HC := Lib.hid (N2.out w6 HBw6.out)
              have hc0 := HKw6.out.cell 0
              have hc1 := HKw6.out.cell 1
              have hc2 := HKw6.out.cell 2
              go_wp2_with (fail)
              refine HC.out.mono ?_
              rintro e w7 ⟨rfl, hb⟩
              have HBw7 := Lib.hid (HBw6.out.trans (hb.mono HBw6.out.size))
              have HKw7 := Lib.hid (HKw6.out.below hb HKw6.out.lt)
              clear hb HC hc0 hc1 hc2
              go_wp2
              go_ret
              exact ⟨rfl, HBw7.out⟩
end Go.Proofs.YtggcmkpafpjnoaaGreatDoor
