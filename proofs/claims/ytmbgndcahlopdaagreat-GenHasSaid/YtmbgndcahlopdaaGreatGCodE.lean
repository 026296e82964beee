/- The reference's one is the plain one; what From holds at the head of a round. -/
import Derived.Test.YtmbgndcahlopdaaGreatGCodC
import Derived.Test.YtmbgndcahlopdaaGreatGCodK
import Derived.Test.YtmbgndcahlopdaaGreatGRefJ
import Derived.Test.YtmbgndcahlopdaaGreatGNotG
import Derived.Test.YtmbgndcahlopdaaGreatGCodP
import Derived.Test.YtmbgndcahlopdaaGreatGCodA
import Derived.Test.YtmbgndcahlopdaaGreatGTabE
import Derived.Test.YtmbgndcahlopdaaGreatGFree
namespace Go.Proofs.YtmbgndcahlopdaaGreat
set_option maxRecDepth 100000
open Go.RowKit Go.Shelf Go.Sort

end Go.Proofs.YtmbgndcahlopdaaGreat

/- The reference's way of reading a state, plain: it is what tokens tell. -/
namespace Go.Proofs.YtmbgndcahlopdaaGreat
set_option maxRecDepth 100000
open Lx (Tk)
open Tb (tok Fine)
end Go.Proofs.YtmbgndcahlopdaaGreat

/- Rows of atoms and slots in memory; a state as a value; what a reading keeps of them. -/
namespace Go.Proofs.YtmbgndcahlopdaaGreat
set_option maxRecDepth 100000
open Go.RowKit Go.Shelf
attribute [local go_sem] Oper.semAt_some

def avs (x : St.Atom) : List Value := [.int .i64 x.v, .int .i64 x.l]
def svs (x : St.Slot) : List Value := [.bool x.ret, .int .i64 x.v, .int .i64 x.l]
theorem avs_len (x : St.Atom) : (avs x).length = 2 := rfl
theorem svs_len (x : St.Slot) : (svs x).length = 3 := rfl
def atv (x : St.Atom) : Value := .agg #[.int .i64 x.v, .int .i64 x.l]
def slv (x : St.Slot) : Value := .agg #[.bool x.ret, .int .i64 x.v, .int .i64 x.l]
theorem arow_at {w : World} {B : Nat} {A : Option Addr} {l : List St.Atom} {k : Nat} (h : Row w B A (fcells avs l)) (hk : k < l.length) : ∃ ad t, A = some ad ∧ ad.block < B ∧ l[k]? = some t ∧ w.cell? (ad.add (k * 2)) = some (.int .i64 t.v) ∧
    w.cell? ⟨(ad.add (k * 2)).block, (ad.add (k * 2)).off + 1, none⟩ = some (.int .i64 t.l) := by
  have hlen := fcells_length avs_len l
  obtain ⟨ad, e, hb, hc⟩ := h (by intro e; rw [e] at hlen; simp at hlen; omega)
  have h0 := fcells_at avs_len l k l[k] (List.getElem?_eq_getElem hk) 0 (by decide)
  have h1 := fcells_at avs_len l k l[k] (List.getElem?_eq_getElem hk) 1 (by decide)
  exact ⟨ad, l[k], e, hb, List.getElem?_eq_getElem hk, hc _ _ h0, by rw [← addr_next _ _ _ (by decide)]; exact hc _ _ h1⟩
theorem srow_at {w : World} {B : Nat} {A : Option Addr} {l : List St.Slot} {k : Nat} (h : Row w B A (fcells svs l)) (hk : k < l.length) : ∃ ad t, A = some ad ∧ ad.block < B ∧ l[k]? = some t ∧ w.cell? (ad.add (k * 3)) = some (.bool t.ret) ∧
    w.cell? ⟨(ad.add (k * 3)).block, (ad.add (k * 3)).off + 1, none⟩ = some (.int .i64 t.v) ∧ w.cell? ⟨(ad.add (k * 3)).block, (ad.add (k * 3)).off + 2, none⟩ = some (.int .i64 t.l) := by
  have hlen := fcells_length svs_len l
  obtain ⟨ad, e, hb, hc⟩ := h (by intro e; rw [e] at hlen; simp at hlen; omega)
  have h0 := fcells_at svs_len l k l[k] (List.getElem?_eq_getElem hk) 0 (by decide)
  have h1 := fcells_at svs_len l k l[k] (List.getElem?_eq_getElem hk) 1 (by decide)
  have h2 := fcells_at svs_len l k l[k] (List.getElem?_eq_getElem hk) 2 (by decide)
  exact ⟨ad, l[k], e, hb, List.getElem?_eq_getElem hk, hc _ _ h0, by rw [← addr_next _ _ _ (by decide)]; exact hc _ _ h1, by rw [← addr_next _ _ _ (by decide)]; exact hc _ _ h2⟩
/-- A slice of such things, below B. -/
def IsL {α : Type} (f : α → List Value) (w : World) (B : Nat) (v : Value) (l : List α) : Prop := ∃ A c, v = .slice A l.length c ∧ Row w B A (fcells f l) ∧ l.length ≤ c
section
variable {α : Type} {f : α → List Value} {w w' : World} {B B' R : Nat} {v : Value} {l : List α}
theorem IsL.below (h : IsL f w B v l) (hb : Below B w w') : IsL f w' B v l := by
  obtain ⟨A, c, e, hr, hc⟩ := h
  exact ⟨A, c, e, hr.below hb, hc⟩
theorem IsL.more (h : IsL f w B v l) (hB : B ≤ B') : IsL f w B' v l := by
  obtain ⟨A, c, e, hr, hc⟩ := h
  exact ⟨A, c, e, hr.more hB, hc⟩
end
/-- A state as a value. -/
def stv (s : St.State) (cv mv sv ov : Value) : Value := .agg #[.int .i64 s.pc.v, .int .i64 s.pc.l, cv, mv, sv, ov]
/-- A state, below B. -/
def IsSt (w : World) (B : Nat) (v : Value) (s : St.State) : Prop := ∃ cv mv sv ov, v = stv s cv mv sv ov ∧ IsIns w B cv s.code ∧ IsL avs w B mv s.mem ∧ IsL svs w B sv s.stack ∧ IsL avs w B ov s.out
theorem IsSt.below {w w' : World} {B : Nat} {v : Value} {s : St.State} (h : IsSt w B v s) (hb : Below B w w') : IsSt w' B v s := by
  obtain ⟨cv, mv, sv, ov, e, h1, h2, h3, h4⟩ := h
  exact ⟨cv, mv, sv, ov, e, h1.below hb, h2.below hb, h3.below hb, h4.below hb⟩
theorem IsSt.more {w : World} {B B' : Nat} {v : Value} {s : St.State} (h : IsSt w B v s) (hB : B ≤ B') : IsSt w B' v s := by
  obtain ⟨cv, mv, sv, ov, e, h1, h2, h3, h4⟩ := h
  exact ⟨cv, mv, sv, ov, e, h1.more hB, h2.more hB, h3.more hB, h4.more hB⟩
/-! A result that lies in a cell, while a reading goes on. -/
end Go.Proofs.YtmbgndcahlopdaaGreat

/- Which states may be (by gen_stmg.py): walks of isLabel, isAtom, isPlace, atomOf, isSlot, allRight, Right. -/
namespace Go.Proofs.YtmbgndcahlopdaaGreat
set_option maxRecDepth 100000
open Go.RowKit Go.Shelf Go.Sort
attribute [local go_sem] Oper.semAt_some
section
variable {v : Value} {names : List ByteArray} {up : List Nat}
set_option maxHeartbeats 2000000 in
theorem sisLabel_any (a : Int) (w : World) (h : IsLat w w.heap.size v names up) : Calls Tryz.prog 55 #[v, .int .i64 a] w (Tells w (St.labB up.length a)) := by
  obtain ⟨⟨N, U, c1, c2, rfl, hN, hU⟩, hsh, hfew, hcaps⟩ := h
  clear hN hU
  have HB0 := Lib.hid ((Below.refl _ w).alloc (Nat.le_refl _) (.cells #[.slice N names.length c1, .slice U up.length c2] 25))
  by_cases h0 : 0 ≤ a
  · have hr : St.labB up.length a = decide (a < (up.length : Int)) := by unfold St.labB; exact decide_eq_decide.2 ⟨fun h => h.2, fun h => ⟨h0, h⟩⟩
    rw [hr]
    clear hr
    go_enter Tryz.func55, Tryz.ntmps55
    go_wp2
    go_ret
    exact ⟨rfl, HB0.out⟩
  · have hr : St.labB up.length a = false := by unfold St.labB; exact decide_eq_false fun h => h0 h.1
    rw [hr]
    clear hr
    go_enter Tryz.func55, Tryz.ntmps55
    go_wp2
    go_ret
    exact ⟨rfl, HB0.out⟩
set_option maxHeartbeats 2000000 in
theorem sisPlace_any (x : St.Atom) (w : World) (h : IsLat w w.heap.size v names up) : Calls Tryz.prog 27 #[v, .agg #[.int .i64 x.v, .int .i64 x.l]] w (Tells w (St.pcB x.v && St.labB up.length x.l)) := by
  obtain ⟨⟨N, U, c1, c2, rfl, hN, hU⟩, hsh, hfew, hcaps⟩ := id h
  obtain ⟨a, l⟩ := x
  dsimp only
  have hb0 := (((Below.refl _ w).alloc (Nat.le_refl _) (.cells #[.slice N names.length c1, .slice U up.length c2] 25)).alloc (by simp) (.cells #[.int .i64 a, .int .i64 l] 30))
  have HL := Lib.hid (sisLabel_any l _ ((h.below hb0).more hb0.size))
  have HB0 := Lib.hid hb0
  clear h hN hU hb0
  by_cases h0 : 0 ≤ a
  · by_cases h1 : a ≤ 12
    · have hr : St.pcB a = true := by unfold St.pcB; exact decide_eq_true ⟨h0, h1⟩
      rw [hr, Bool.true_and]
      generalize St.labB up.length l = b at *
      clear hr
      go_enter Tryz.func27, Tryz.ntmps27
      go_wp2_with (fail)
      refine HL.out.mono ?_
      rintro e w1 ⟨rfl, hb1⟩
      have HB1 := Lib.hid (HB0.out.trans (hb1.mono HB0.out.size))
      clear hb1 HL
      go_wp2
      go_ret
      exact ⟨rfl, HB1.out⟩
    · have hr : St.pcB a = false := by unfold St.pcB; exact decide_eq_false fun h => h1 h.2
      rw [hr, Bool.false_and]
      clear hr HL
      go_enter Tryz.func27, Tryz.ntmps27
      go_wp2
      go_ret
      exact ⟨rfl, HB0.out⟩
  · have hr : St.pcB a = false := by unfold St.pcB; exact decide_eq_false fun h => h0 h.1
    rw [hr, Bool.false_and]
    clear hr HL
    go_enter Tryz.func27, Tryz.ntmps27
    go_wp2
    go_ret
    exact ⟨rfl, HB0.out⟩
set_option maxHeartbeats 2000000 in
theorem sisAtom_any (x : St.Atom) (w : World) (h : IsLat w w.heap.size v names up) : Calls Tryz.prog 29 #[v, .agg #[.int .i64 x.v, .int .i64 x.l]] w (Tells w (St.valB x.v && St.labB up.length x.l)) := by
  obtain ⟨⟨N, U, c1, c2, rfl, hN, hU⟩, hsh, hfew, hcaps⟩ := id h
  obtain ⟨a, l⟩ := x
  dsimp only
  have hb0 := (((Below.refl _ w).alloc (Nat.le_refl _) (.cells #[.slice N names.length c1, .slice U up.length c2] 25)).alloc (by simp) (.cells #[.int .i64 a, .int .i64 l] 30))
  have HL := Lib.hid (sisLabel_any l _ ((h.below hb0).more hb0.size))
  have HB0 := Lib.hid hb0
  clear h hN hU hb0
  by_cases h0 : -20 ≤ a
  · by_cases h1 : a ≤ 20
    · have hr : St.valB a = true := by unfold St.valB; exact decide_eq_true ⟨h0, h1⟩
      rw [hr, Bool.true_and]
      generalize St.labB up.length l = b at *
      clear hr
      go_enter Tryz.func29, Tryz.ntmps29
      go_wp2_with (fail)
      refine HL.out.mono ?_
      rintro e w1 ⟨rfl, hb1⟩
      have HB1 := Lib.hid (HB0.out.trans (hb1.mono HB0.out.size))
      clear hb1 HL
      go_wp2
      go_ret
      exact ⟨rfl, HB1.out⟩
    · have hr : St.valB a = false := by unfold St.valB; exact decide_eq_false fun h => h1 h.2
      rw [hr, Bool.false_and]
      clear hr HL
      go_enter Tryz.func29, Tryz.ntmps29
      go_wp2
      go_ret
      exact ⟨rfl, HB0.out⟩
  · have hr : St.valB a = false := by unfold St.valB; exact decide_eq_false fun h => h0 h.1
    rw [hr, Bool.false_and]
    clear hr HL
    go_enter Tryz.func29, Tryz.ntmps29
    go_wp2
    go_ret
    exact ⟨rfl, HB0.out⟩
theorem satomOf_any (x : St.Slot) (w : World) : Calls Tryz.prog 56 #[.agg #[.bool x.ret, .int .i64 x.v, .int .i64 x.l]] w fun e w' => e = .returned (.agg #[.int .i64 x.v, .int .i64 x.l]) ∧ Below w.heap.size w w' := by
  obtain ⟨r, a, l⟩ := x
  dsimp only
  go_enter Tryz.func56, Tryz.ntmps56
  go_wp2
  go_returns
  exact ⟨rfl, ((Below.refl _ w).alloc (Nat.le_refl _) _).alloc (by simp) _⟩
theorem slotB_eq (k : Nat) (x : St.Slot) : St.slotB k x = if x.ret = true then St.pcB x.v && St.labB k x.l else St.valB x.v && St.labB k x.l := by
  unfold St.slotB
  cases x.ret with
  | false => simp
  | true =>
    simp only [Bool.not_true, Bool.false_or, if_true]
    cases hp : St.pcB x.v with
    | false => simp
    | true =>
      have hv : St.valB x.v = true := by
        unfold St.pcB at hp
        unfold St.valB
        have := of_decide_eq_true hp
        exact decide_eq_true (by omega)
      rw [hv]
      simp
set_option maxHeartbeats 4000000 in
theorem sisSlot_any (x : St.Slot) (w : World) (h : IsLat w w.heap.size v names up) : Calls Tryz.prog 31 #[v, .agg #[.bool x.ret, .int .i64 x.v, .int .i64 x.l]] w (Tells w (St.slotB up.length x)) := by
  obtain ⟨⟨N, U, c1, c2, rfl, hN, hU⟩, hsh, hfew, hcaps⟩ := id h
  rw [slotB_eq]
  have HPL := Lib.hid (fun W (h : IsLat W W.heap.size (.agg #[.slice N names.length c1, .slice U up.length c2]) names up) => sisPlace_any ⟨x.v, x.l⟩ W h)
  have HAT := Lib.hid (fun W (h : IsLat W W.heap.size (.agg #[.slice N names.length c1, .slice U up.length c2]) names up) => sisAtom_any ⟨x.v, x.l⟩ W h)
  have HOF := Lib.hid (fun W => satomOf_any x W)
  obtain ⟨r, a, l⟩ := x
  dsimp only at HPL HAT HOF ⊢
  have hb0 := (((Below.refl _ w).alloc (Nat.le_refl _) (.cells #[.slice N names.length c1, .slice U up.length c2] 25)).alloc (by simp) (.cells #[.bool r, .int .i64 a, .int .i64 l] 61))
  obtain ⟨W0, hW0⟩ : ∃ W0, (w.alloc (.cells #[.slice N names.length c1, .slice U up.length c2] 25)).alloc (.cells #[.bool r, .int .i64 a, .int .i64 l] 61) = W0 := ⟨_, rfl⟩
  have hp0 : Blk W0 w.heap.size 25 #[.slice N names.length c1, .slice U up.length c2] := hW0 ▸ (Blk.new _ _ _).alloc _
  have hp1 : Blk W0 (w.heap.size + 1) 61 #[.bool r, .int .i64 a, .int .i64 l] := by
    have h1 := Blk.new (w.alloc (.cells #[.slice N names.length c1, .slice U up.length c2] 25)) 61 #[.bool r, .int .i64 a, .int .i64 l]
    rw [show (w.alloc (.cells #[.slice N names.length c1, .slice U up.length c2] 25)).heap.size = w.heap.size + 1 by simp] at h1
    rw [← hW0]; exact h1
  rw [hW0] at hb0
  have HB0 := Lib.hid hb0
  have H := Lib.hid ((h.below hb0).more hb0.size)
  have a0 : W0.cell? ⟨w.heap.size, 0, none⟩ = some (.slice N names.length c1) := hp0.cell 0
  have a1 : W0.cell? ⟨w.heap.size, 1, none⟩ = some (.slice U up.length c2) := hp0.cell 1
  have s0 : W0.cell? ⟨w.heap.size + 1, 0, none⟩ = some (.bool r) := hp1.cell 0
  have s1 : W0.cell? ⟨w.heap.size + 1, 1, none⟩ = some (.int .i64 a) := hp1.cell 1
  have s2 : W0.cell? ⟨w.heap.size + 1, 2, none⟩ = some (.int .i64 l) := hp1.cell 2
  have g0 := fun d os => cell_regrown a0 d os
  have g1 := fun d os => cell_regrown a1 d os
  have g2 := fun d os => cell_regrown s0 d os
  have g3 := fun d os => cell_regrown s1 d os
  have g4 := fun d os => cell_regrown s2 d os
  clear h hN hU hb0 hp0 hp1
  cases r with
  | true =>
    rw [if_pos rfl]
    generalize (St.pcB a && St.labB up.length l) = b at *
    go_enter Tryz.func31, Tryz.ntmps31
    go_wp2
    refine wp_region_quiet_below (by kernel_rfl) (by kernel_rfl) ?_
    repeat (quiet_step (first | (go_at_call 56; exact Calls.regrown_of (HOF.out _)) | (go_at_call 27; exact Calls.regrown_of (HPL.out _ ((H.out.below (below_regrown _ _ _)).more (below_regrown _ _ _).size)))))
    refine wpQuiet_nil ?_
    rintro _ ⟨⟨d, os⟩, rfl⟩
    have HB5 := Lib.hid (HB0.out.trans ((below_regrown W0 d os).mono HB0.out.size))
    clear g0 g1 g2 g3 g4
    generalize grow (redrawn W0 d) os = w5 at *
    go_wp2
    go_ret
    exact ⟨rfl, HB5.out⟩
  | false =>
    rw [if_neg (by decide)]
    generalize (St.valB a && St.labB up.length l) = b at *
    go_enter Tryz.func31, Tryz.ntmps31
    go_wp2
    refine wp_region_quiet_below (by kernel_rfl) (by kernel_rfl) ?_
    repeat (quiet_step (first | (go_at_call 56; exact Calls.regrown_of (HOF.out _)) | (go_at_call 29; exact Calls.regrown_of (HAT.out _ ((H.out.below (below_regrown _ _ _)).more (below_regrown _ _ _).size)))))
    refine wpQuiet_nil ?_
    rintro _ ⟨⟨d, os⟩, rfl⟩
    have HB5 := Lib.hid (HB0.out.trans ((below_regrown W0 d os).mono HB0.out.size))
    clear g0 g1 g2 g3 g4
    generalize grow (redrawn W0 d) os = w5 at *
    go_wp2
    go_ret
    exact ⟨rfl, HB5.out⟩
theorem all_no {α : Type} {f : α → Bool} {l : List α} {j m : Nat} {x : α} (h : l[j]? = some x) (hx : f x = false) : (decide (l.length ≤ m) && l.all f) = false := by
  rw [Bool.and_eq_false_iff]
  refine .inr ?_
  rw [List.all_eq_false]
  exact ⟨x, List.mem_of_getElem? h, by rw [hx]; decide⟩
theorem all_yes {α : Type} {f : α → Bool} {l : List α} {m : Nat} (hl : l.length ≤ m) (h : ∀ (j : Nat) x, l[j]? = some x → f x = true) : (decide (l.length ≤ m) && l.all f) = true := by
  rw [Bool.and_eq_true]
  refine ⟨decide_eq_true hl, List.all_eq_true.2 fun x hx => ?_⟩
  obtain ⟨j, hj, rfl⟩ := List.getElem_of_mem hx
  exact h j _ (List.getElem?_eq_getElem hj)
set_option maxHeartbeats 4000000 in
theorem allA_any {A : Option Addr} {l : List St.Atom} (c m : Nat) (hm : m ≤ 100) (w : World) (h : IsLat w w.heap.size v names up) (hr : Row w w.heap.size A (fcells avs l)) (hl : l.length ≤ 1000) :
    Calls Tryz.prog 28 #[v, .slice A l.length c, .int .i64 (m : Int), .func (.func 29) #[] #[]] w (Tells w (decide (l.length ≤ m) && l.all (St.atomB up.length))) := by
  obtain ⟨⟨N, U, c1, c2, rfl, hN, hU⟩, hsh, hfew, hcaps⟩ := id h
  obtain ⟨res, hres⟩ : ∃ res, (decide (l.length ≤ m) && l.all (St.atomB up.length)) = res := ⟨_, rfl⟩
  rw [hres]
  have HRES := Lib.hid hres
  clear hres
  have hb0 : Below w.heap.size w (w.alloc (.cells #[.slice N names.length c1, .slice U up.length c2] 25)) := (Below.refl _ w).alloc (Nat.le_refl _) _
  have p0 := Blk.new w 25 #[.slice N names.length c1, .slice U up.length c2]
  have HB0 := Lib.hid hb0
  have hcf := Tryz.call29
  by_cases h12 : m < l.length
  · have HR2 := Lib.hid (show false = res by rw [← HRES.out, decide_eq_false (by omega)]; rfl)
    clear h hN hU hr hb0 p0
    go_enter Tryz.func28, Tryz.ntmps28
    go_wp2
    go_ret
    exact ⟨retb HR2.out, HB0.out⟩
  · have HONE := Lib.hid (fun (x : St.Atom) W (hb : Below w.heap.size w W) => sisAtom_any (v := .agg #[.slice N names.length c1, .slice U up.length c2]) x W ((h.below hb).more hb.size))
    have H := Lib.hid hr
    have P0 := Lib.hid p0
    clear h hN hU hr hb0 p0
    go_enter Tryz.func28, Tryz.ntmps28
    go_wp2
    go_loopw [17] (fun i wr => ∃ k : Nat, k ≤ l.length ∧ i = .int .i64 k ∧ Hid (∀ (j : Nat) (x : St.Atom), j < k → l[j]? = some x → St.atomB up.length x = true) ∧ Hid (Below w.heap.size w wr) ∧ Hid (Blk wr w.heap.size 25 #[.slice N names.length c1, .slice U up.length c2])) (fun i _ => l.length - (intOf i).toNat)
    case atStart => exact ⟨0, Nat.zero_le _, rfl, Lib.hid fun j x hj => absurd hj (Nat.not_lt_zero _), HB0, P0⟩
    case round =>
      clear HB0 P0
      obtain ⟨k, hk, rfl, HS, HBW, P0⟩ := hrel
      by_cases hlt : k < l.length
      · obtain ⟨ad, x, rfl, hxb, hx, x0, x1⟩ := arow_at (H.out.below HBW.out) hlt
        have hz := HBW.out.size
        have hxb2 : (ad.add (k * 2)).block < wr.heap.size := by rw [add_block]; omega
        have HX := Lib.hid hx
        have hal := (Below.refl wr.heap.size wr).alloc (Nat.le_refl _) (.cells #[.int .i64 x.v, .int .i64 x.l] 30)
        have hbw1 := HBW.out.trans (hal.mono HBW.out.size)
        have hp1 := P0.out.below hal P0.out.lt
        have hbx := Blk.new wr 30 #[.int .i64 x.v, .int .i64 x.l]
        have hc := HONE.out x _ hbw1
        obtain ⟨W1, hW1⟩ : ∃ W1, wr.alloc (.cells #[.int .i64 x.v, .int .i64 x.l] 30) = W1 := ⟨_, rfl⟩
        rw [hW1] at hbw1 hp1 hbx hc
        have a0 : W1.cell? ⟨w.heap.size, 0, none⟩ = some (.slice N names.length c1) := hp1.cell 0
        have a1 : W1.cell? ⟨w.heap.size, 1, none⟩ = some (.slice U up.length c2) := hp1.cell 1
        have s0 := hbx.cell 0
        have s1 := hbx.cell 1
        skip
        have HB1 := Lib.hid hbw1
        have HP1 := Lib.hid hp1
        have hz1 := hbw1.size
        clear hx hal hbw1 hp1 hbx P0
        cases hi : St.atomB up.length x with
        | true =>
          have HC := Lib.hid (show Calls _ _ _ _ (Tells W1 true) by rw [← hi]; exact hc)
          have HI := Lib.hid hi
          clear hi hc
          go_wp2_with (fail)
          refine HC.out.mono ?_
          rintro e w2 ⟨rfl, hb2⟩
          have HB2 := Lib.hid (HB1.out.trans (hb2.mono HB1.out.size))
          have HP2 := Lib.hid (HP1.out.below hb2 HP1.out.lt)
          clear hb2 a0 a1 s0 s1 
          go_wp2
          go_roundw
          case rel => exact ⟨k + 1, by omega, by go_num, Lib.hid fun j u hj hu => by
            rcases Nat.lt_or_eq_of_le (Nat.le_of_lt_succ hj) with h | rfl
            · exact HS.out j u h hu
            · rw [HX.out] at hu
              injection hu with hu
              rw [← hu]; exact HI.out, HB2, HP2⟩
          case measure => simp [intOf]; omega
        | false =>
          have HC := Lib.hid (show Calls _ _ _ _ (Tells W1 false) by rw [← hi]; exact hc)
          have HR2 := Lib.hid (show false = res by rw [← HRES.out]; exact (all_no HX.out hi).symm)
          clear hi hc
          go_wp2_with (fail)
          refine HC.out.mono ?_
          rintro e w2 ⟨rfl, hb2⟩
          have HB2 := Lib.hid (HB1.out.trans (hb2.mono HB1.out.size))
          clear hb2
          go_wp2
          go_ret
          exact ⟨retb HR2.out, HB2.out⟩
      · obtain rfl : k = l.length := by omega
        have HR2 := Lib.hid (show true = res by rw [← HRES.out]; exact (all_yes (by omega) fun j x hx => HS.out j x (List.getElem?_eq_some_iff.1 hx).1 hx).symm)
        go_wp2
        go_ret
        exact ⟨retb HR2.out, HBW.out⟩
set_option maxHeartbeats 4000000 in
theorem allS_any {A : Option Addr} {l : List St.Slot} (c m : Nat) (hm : m ≤ 100) (w : World) (h : IsLat w w.heap.size v names up) (hr : Row w w.heap.size A (fcells svs l)) (hl : l.length ≤ 1000) :
    Calls Tryz.prog 30 #[v, .slice A l.length c, .int .i64 (m : Int), .func (.func 31) #[] #[]] w (Tells w (decide (l.length ≤ m) && l.all (St.slotB up.length))) := by
  obtain ⟨⟨N, U, c1, c2, rfl, hN, hU⟩, hsh, hfew, hcaps⟩ := id h
  obtain ⟨res, hres⟩ : ∃ res, (decide (l.length ≤ m) && l.all (St.slotB up.length)) = res := ⟨_, rfl⟩
  rw [hres]
  have HRES := Lib.hid hres
  clear hres
  have hb0 : Below w.heap.size w (w.alloc (.cells #[.slice N names.length c1, .slice U up.length c2] 25)) := (Below.refl _ w).alloc (Nat.le_refl _) _
  have p0 := Blk.new w 25 #[.slice N names.length c1, .slice U up.length c2]
  have HB0 := Lib.hid hb0
  have hcf := Tryz.call31
  by_cases h12 : m < l.length
  · have HR2 := Lib.hid (show false = res by rw [← HRES.out, decide_eq_false (by omega)]; rfl)
    clear h hN hU hr hb0 p0
    go_enter Tryz.func30, Tryz.ntmps30
    go_wp2
    go_ret
    exact ⟨retb HR2.out, HB0.out⟩
  · have HONE := Lib.hid (fun (x : St.Slot) W (hb : Below w.heap.size w W) => sisSlot_any (v := .agg #[.slice N names.length c1, .slice U up.length c2]) x W ((h.below hb).more hb.size))
    have H := Lib.hid hr
    have P0 := Lib.hid p0
    clear h hN hU hr hb0 p0
    go_enter Tryz.func30, Tryz.ntmps30
    go_wp2
    go_loopw [17] (fun i wr => ∃ k : Nat, k ≤ l.length ∧ i = .int .i64 k ∧ Hid (∀ (j : Nat) (x : St.Slot), j < k → l[j]? = some x → St.slotB up.length x = true) ∧ Hid (Below w.heap.size w wr) ∧ Hid (Blk wr w.heap.size 25 #[.slice N names.length c1, .slice U up.length c2])) (fun i _ => l.length - (intOf i).toNat)
    case atStart => exact ⟨0, Nat.zero_le _, rfl, Lib.hid fun j x hj => absurd hj (Nat.not_lt_zero _), HB0, P0⟩
    case round =>
      clear HB0 P0
      obtain ⟨k, hk, rfl, HS, HBW, P0⟩ := hrel
      by_cases hlt : k < l.length
      · obtain ⟨ad, x, rfl, hxb, hx, x0, x1, x2⟩ := srow_at (H.out.below HBW.out) hlt
        have hz := HBW.out.size
        have hxb2 : (ad.add (k * 3)).block < wr.heap.size := by rw [add_block]; omega
        have HX := Lib.hid hx
        have hal := (Below.refl wr.heap.size wr).alloc (Nat.le_refl _) (.cells #[.bool x.ret, .int .i64 x.v, .int .i64 x.l] 61)
        have hbw1 := HBW.out.trans (hal.mono HBW.out.size)
        have hp1 := P0.out.below hal P0.out.lt
        have hbx := Blk.new wr 61 #[.bool x.ret, .int .i64 x.v, .int .i64 x.l]
        have hc := HONE.out x _ hbw1
        obtain ⟨W1, hW1⟩ : ∃ W1, wr.alloc (.cells #[.bool x.ret, .int .i64 x.v, .int .i64 x.l] 61) = W1 := ⟨_, rfl⟩
        rw [hW1] at hbw1 hp1 hbx hc
        have a0 : W1.cell? ⟨w.heap.size, 0, none⟩ = some (.slice N names.length c1) := hp1.cell 0
        have a1 : W1.cell? ⟨w.heap.size, 1, none⟩ = some (.slice U up.length c2) := hp1.cell 1
        have s0 := hbx.cell 0
        have s1 := hbx.cell 1
        have s2 := hbx.cell 2
        have HB1 := Lib.hid hbw1
        have HP1 := Lib.hid hp1
        have hz1 := hbw1.size
        clear hx hal hbw1 hp1 hbx P0
        cases hi : St.slotB up.length x with
        | true =>
          have HC := Lib.hid (show Calls _ _ _ _ (Tells W1 true) by rw [← hi]; exact hc)
          have HI := Lib.hid hi
          clear hi hc
          go_wp2_with (fail)
          refine HC.out.mono ?_
          rintro e w2 ⟨rfl, hb2⟩
          have HB2 := Lib.hid (HB1.out.trans (hb2.mono HB1.out.size))
          have HP2 := Lib.hid (HP1.out.below hb2 HP1.out.lt)
          clear hb2 a0 a1 s0 s1 s2
          go_wp2
          go_roundw
          case rel => exact ⟨k + 1, by omega, by go_num, Lib.hid fun j u hj hu => by
            rcases Nat.lt_or_eq_of_le (Nat.le_of_lt_succ hj) with h | rfl
            · exact HS.out j u h hu
            · rw [HX.out] at hu
              injection hu with hu
              rw [← hu]; exact HI.out, HB2, HP2⟩
          case measure => simp [intOf]; omega
        | false =>
          have HC := Lib.hid (show Calls _ _ _ _ (Tells W1 false) by rw [← hi]; exact hc)
          have HR2 := Lib.hid (show false = res by rw [← HRES.out]; exact (all_no HX.out hi).symm)
          clear hi hc
          go_wp2_with (fail)
          refine HC.out.mono ?_
          rintro e w2 ⟨rfl, hb2⟩
          have HB2 := Lib.hid (HB1.out.trans (hb2.mono HB1.out.size))
          clear hb2
          go_wp2
          go_ret
          exact ⟨retb HR2.out, HB2.out⟩
      · obtain rfl : k = l.length := by omega
        have HR2 := Lib.hid (show true = res by rw [← HRES.out]; exact (all_yes (by omega) fun j x hx => HS.out j x (List.getElem?_eq_some_iff.1 hx).1 hx).symm)
        go_wp2
        go_ret
        exact ⟨retb HR2.out, HBW.out⟩
end
def pubS (names : List ByteArray) (up : List Nat) (s : St.State) : Bool := decide (checkN names up = 0) && St.rightB up.length s
/-- Few enough of each. -/
structure SmallS (s : St.State) : Prop where
  code : s.code.length ≤ 1000
  mem : s.mem.length ≤ 1000
  stack : s.stack.length ≤ 1000
  out : s.out.length ≤ 1000
theorem pubS_five (names : List ByteArray) (up : List Nat) (s : St.State) : pubS names up s = (Cd.pubB names up s.code && ((St.pcB s.pc.v && St.labB up.length s.pc.l) && ((decide (s.mem.length ≤ 6) && s.mem.all (St.atomB up.length)) && ((decide (s.stack.length ≤ 12) && s.stack.all (St.slotB up.length)) && (decide (s.out.length ≤ 8) && s.out.all (St.atomB up.length)))))) := by
  unfold pubS St.rightB Cd.pubB
  simp only [Bool.and_assoc]
set_option maxHeartbeats 8000000 in
theorem sright_any {v sv : Value} {names : List ByteArray} {up : List Nat} {s : St.State} (w : World) (h : IsLat w w.heap.size v names up) (hs : IsSt w w.heap.size sv s) (hsm : SmallS s) :
    Calls Tryz.prog 13 #[v, sv] w (Tells w (pubS names up s)) := by
  obtain ⟨⟨N, U, c1, c2, rfl, hN, hU⟩, hsh, hfew, hcaps⟩ := id h
  obtain ⟨⟨pv, pl⟩, code, mem, stack, out⟩ := s
  obtain ⟨cv, mv, stv_, ov, rfl, ⟨cA, cc, rfl, hcr, hcc⟩, ⟨mA, mc, rfl, hmr, hmc⟩, ⟨sA, sc, rfl, hsr, hsc⟩, ⟨oA, oc, rfl, hor, hoc⟩⟩ := hs
  obtain ⟨hs1, hs2, hs3, hs4⟩ := hsm
  rw [pubS_five]
  dsimp only at hcr hcc hmr hmc hsr hsc hor hoc hs1 hs2 hs3 hs4 ⊢
  unfold stv
  dsimp only
  have HC1 := Lib.hid (fun W (hb : Below w.heap.size w W) => cRight_any cc W ((h.below hb).more hb.size) ((hcr.below hb).more hb.size) hs1)
  have HC2 := Lib.hid (fun W (hb : Below w.heap.size w W) => sisPlace_any ⟨pv, pl⟩ W ((h.below hb).more hb.size))
  have HC3 := Lib.hid (fun W (hb : Below w.heap.size w W) => allA_any mc 6 (by decide) W ((h.below hb).more hb.size) ((hmr.below hb).more hb.size) hs2)
  have HC4 := Lib.hid (fun W (hb : Below w.heap.size w W) => allS_any sc 12 (by decide) W ((h.below hb).more hb.size) ((hsr.below hb).more hb.size) hs3)
  have HC5 := Lib.hid (fun W (hb : Below w.heap.size w W) => allA_any oc 8 (by decide) W ((h.below hb).more hb.size) ((hor.below hb).more hb.size) hs4)
  have hb := (((Below.refl _ w).alloc (Nat.le_refl _) (.cells #[.slice N names.length c1, .slice U up.length c2] 25)).alloc (by simp) (.cells #[.int .i64 pv, .int .i64 pl, .slice cA code.length cc, .slice mA mem.length mc, .slice sA stack.length sc, .slice oA out.length oc] 35))
  obtain ⟨W0, hW0⟩ : ∃ W0, (w.alloc (.cells #[.slice N names.length c1, .slice U up.length c2] 25)).alloc (.cells #[.int .i64 pv, .int .i64 pl, .slice cA code.length cc, .slice mA mem.length mc, .slice sA stack.length sc, .slice oA out.length oc] 35) = W0 := ⟨_, rfl⟩
  have hp0 : Blk W0 w.heap.size 25 #[.slice N names.length c1, .slice U up.length c2] := hW0 ▸ (Blk.new _ _ _).alloc _
  have hp1 : Blk W0 (w.heap.size + 1) 35 #[.int .i64 pv, .int .i64 pl, .slice cA code.length cc, .slice mA mem.length mc, .slice sA stack.length sc, .slice oA out.length oc] := by
    have h1 := Blk.new (w.alloc (.cells #[.slice N names.length c1, .slice U up.length c2] 25)) 35 #[.int .i64 pv, .int .i64 pl, .slice cA code.length cc, .slice mA mem.length mc, .slice sA stack.length sc, .slice oA out.length oc]
    rw [show (w.alloc (.cells #[.slice N names.length c1, .slice U up.length c2] 25)).heap.size = w.heap.size + 1 by simp] at h1
    rw [← hW0]; exact h1
  rw [hW0] at hb
  clear h hN hU hcr hmr hsr hor
  have a0 : W0.cell? ⟨w.heap.size, 0, none⟩ = some (.slice N names.length c1) := hp0.cell 0
  have a1 : W0.cell? ⟨w.heap.size, 1, none⟩ = some (.slice U up.length c2) := hp0.cell 1
  have s0 : W0.cell? ⟨w.heap.size + 1, 0, none⟩ = some (.int .i64 pv) := hp1.cell 0
  have s1 : W0.cell? ⟨w.heap.size + 1, 1, none⟩ = some (.int .i64 pl) := hp1.cell 1
  have s2 : W0.cell? ⟨w.heap.size + 1, 2, none⟩ = some (.slice cA code.length cc) := hp1.cell 2
  have s3 : W0.cell? ⟨w.heap.size + 1, 3, none⟩ = some (.slice mA mem.length mc) := hp1.cell 3
  have s4 : W0.cell? ⟨w.heap.size + 1, 4, none⟩ = some (.slice sA stack.length sc) := hp1.cell 4
  have s5 : W0.cell? ⟨w.heap.size + 1, 5, none⟩ = some (.slice oA out.length oc) := hp1.cell 5
  have HB := Lib.hid hb
  have HP0 := Lib.hid hp0
  have HP1 := Lib.hid hp1
  clear hb hp0 hp1
  dsimp only at HC2
  generalize Cd.pubB names up code = b1 at *
  generalize (St.pcB pv && St.labB up.length pl) = b2 at *
  generalize (decide (mem.length ≤ 6) && mem.all (St.atomB up.length)) = b3 at *
  generalize (decide (stack.length ≤ 12) && stack.all (St.slotB up.length)) = b4 at *
  generalize (decide (out.length ≤ 8) && out.all (St.atomB up.length)) = b5 at *
  cases b1 with
  | false =>
    rw [Bool.false_and]
    go_enter Tryz.func13, Tryz.ntmps13
    go_wp2_with (fail)
    refine (HC1.out W0 HB.out).mono ?_
    rintro e W1 ⟨rfl, hb9⟩
    have HB9 := Lib.hid (HB.out.trans (hb9.mono HB.out.size))
    clear hb9 a0 a1 s0 s1 s2 s3 s4 s5
    go_wp2
    go_ret
    exact ⟨rfl, HB9.out⟩
  | true =>
    rw [Bool.true_and]
    cases b2 with
    | false =>
      rw [Bool.false_and]
      go_enter Tryz.func13, Tryz.ntmps13
      go_wp2_with (fail)
      refine (HC1.out W0 HB.out).mono ?_
      rintro e W1 ⟨rfl, hb9⟩
      have hp0 := HP0.out.below hb9 HP0.out.lt
      have hp1 := HP1.out.below hb9 HP1.out.lt
      have hb := HB.out.trans (hb9.mono HB.out.size)
      clear hb9 HB HP0 HP1 a0 a1 s0 s1 s2 s3 s4 s5
      have a0 : W1.cell? ⟨w.heap.size, 0, none⟩ = some (.slice N names.length c1) := hp0.cell 0
      have a1 : W1.cell? ⟨w.heap.size, 1, none⟩ = some (.slice U up.length c2) := hp0.cell 1
      have s0 : W1.cell? ⟨w.heap.size + 1, 0, none⟩ = some (.int .i64 pv) := hp1.cell 0
      have s1 : W1.cell? ⟨w.heap.size + 1, 1, none⟩ = some (.int .i64 pl) := hp1.cell 1
      have s2 : W1.cell? ⟨w.heap.size + 1, 2, none⟩ = some (.slice cA code.length cc) := hp1.cell 2
      have s3 : W1.cell? ⟨w.heap.size + 1, 3, none⟩ = some (.slice mA mem.length mc) := hp1.cell 3
      have s4 : W1.cell? ⟨w.heap.size + 1, 4, none⟩ = some (.slice sA stack.length sc) := hp1.cell 4
      have s5 : W1.cell? ⟨w.heap.size + 1, 5, none⟩ = some (.slice oA out.length oc) := hp1.cell 5
      have HB := Lib.hid hb
      have HP0 := Lib.hid hp0
      have HP1 := Lib.hid hp1
      clear hb hp0 hp1
      go_wp2_with (fail)
      refine (HC2.out W1 HB.out).mono ?_
      rintro e W2 ⟨rfl, hb9⟩
      have HB9 := Lib.hid (HB.out.trans (hb9.mono HB.out.size))
      clear hb9 a0 a1 s0 s1 s2 s3 s4 s5
      go_wp2
      go_ret
      exact ⟨rfl, HB9.out⟩
    | true =>
      rw [Bool.true_and]
      cases b3 with
      | false =>
        rw [Bool.false_and]
        go_enter Tryz.func13, Tryz.ntmps13
        go_wp2_with (fail)
        refine (HC1.out W0 HB.out).mono ?_
        rintro e W1 ⟨rfl, hb9⟩
        have hp0 := HP0.out.below hb9 HP0.out.lt
        have hp1 := HP1.out.below hb9 HP1.out.lt
        have hb := HB.out.trans (hb9.mono HB.out.size)
        clear hb9 HB HP0 HP1 a0 a1 s0 s1 s2 s3 s4 s5
        have a0 : W1.cell? ⟨w.heap.size, 0, none⟩ = some (.slice N names.length c1) := hp0.cell 0
        have a1 : W1.cell? ⟨w.heap.size, 1, none⟩ = some (.slice U up.length c2) := hp0.cell 1
        have s0 : W1.cell? ⟨w.heap.size + 1, 0, none⟩ = some (.int .i64 pv) := hp1.cell 0
        have s1 : W1.cell? ⟨w.heap.size + 1, 1, none⟩ = some (.int .i64 pl) := hp1.cell 1
        have s2 : W1.cell? ⟨w.heap.size + 1, 2, none⟩ = some (.slice cA code.length cc) := hp1.cell 2
        have s3 : W1.cell? ⟨w.heap.size + 1, 3, none⟩ = some (.slice mA mem.length mc) := hp1.cell 3
        have s4 : W1.cell? ⟨w.heap.size + 1, 4, none⟩ = some (.slice sA stack.length sc) := hp1.cell 4
        have s5 : W1.cell? ⟨w.heap.size + 1, 5, none⟩ = some (.slice oA out.length oc) := hp1.cell 5
        have HB := Lib.hid hb
        have HP0 := Lib.hid hp0
        have HP1 := Lib.hid hp1
        clear hb hp0 hp1
        go_wp2_with (fail)
        refine (HC2.out W1 HB.out).mono ?_
        rintro e W2 ⟨rfl, hb9⟩
        have hp0 := HP0.out.below hb9 HP0.out.lt
        have hp1 := HP1.out.below hb9 HP1.out.lt
        have hb := HB.out.trans (hb9.mono HB.out.size)
        clear hb9 HB HP0 HP1 a0 a1 s0 s1 s2 s3 s4 s5
        have a0 : W2.cell? ⟨w.heap.size, 0, none⟩ = some (.slice N names.length c1) := hp0.cell 0
        have a1 : W2.cell? ⟨w.heap.size, 1, none⟩ = some (.slice U up.length c2) := hp0.cell 1
        have s0 : W2.cell? ⟨w.heap.size + 1, 0, none⟩ = some (.int .i64 pv) := hp1.cell 0
        have s1 : W2.cell? ⟨w.heap.size + 1, 1, none⟩ = some (.int .i64 pl) := hp1.cell 1
        have s2 : W2.cell? ⟨w.heap.size + 1, 2, none⟩ = some (.slice cA code.length cc) := hp1.cell 2
        have s3 : W2.cell? ⟨w.heap.size + 1, 3, none⟩ = some (.slice mA mem.length mc) := hp1.cell 3
        have s4 : W2.cell? ⟨w.heap.size + 1, 4, none⟩ = some (.slice sA stack.length sc) := hp1.cell 4
        have s5 : W2.cell? ⟨w.heap.size + 1, 5, none⟩ = some (.slice oA out.length oc) := hp1.cell 5
        have HB := Lib.hid hb
        have HP0 := Lib.hid hp0
        have HP1 := Lib.hid hp1
        clear hb hp0 hp1
        go_wp2_with (fail)
        refine (HC3.out W2 HB.out).mono ?_
        rintro e W3 ⟨rfl, hb9⟩
        have HB9 := Lib.hid (HB.out.trans (hb9.mono HB.out.size))
        clear hb9 a0 a1 s0 s1 s2 s3 s4 s5
        go_wp2
        go_ret
        exact ⟨rfl, HB9.out⟩
      | true =>
        rw [Bool.true_and]
        cases b4 with
        | false =>
          rw [Bool.false_and]
          go_enter Tryz.func13, Tryz.ntmps13
          go_wp2_with (fail)
          refine (HC1.out W0 HB.out).mono ?_
          rintro e W1 ⟨rfl, hb9⟩
          have hp0 := HP0.out.below hb9 HP0.out.lt
          have hp1 := HP1.out.below hb9 HP1.out.lt
          have hb := HB.out.trans (hb9.mono HB.out.size)
          clear hb9 HB HP0 HP1 a0 a1 s0 s1 s2 s3 s4 s5
          have a0 : W1.cell? ⟨w.heap.size, 0, none⟩ = some (.slice N names.length c1) := hp0.cell 0
          have a1 : W1.cell? ⟨w.heap.size, 1, none⟩ = some (.slice U up.length c2) := hp0.cell 1
          have s0 : W1.cell? ⟨w.heap.size + 1, 0, none⟩ = some (.int .i64 pv) := hp1.cell 0
          have s1 : W1.cell? ⟨w.heap.size + 1, 1, none⟩ = some (.int .i64 pl) := hp1.cell 1
          have s2 : W1.cell? ⟨w.heap.size + 1, 2, none⟩ = some (.slice cA code.length cc) := hp1.cell 2
          have s3 : W1.cell? ⟨w.heap.size + 1, 3, none⟩ = some (.slice mA mem.length mc) := hp1.cell 3
          have s4 : W1.cell? ⟨w.heap.size + 1, 4, none⟩ = some (.slice sA stack.length sc) := hp1.cell 4
          have s5 : W1.cell? ⟨w.heap.size + 1, 5, none⟩ = some (.slice oA out.length oc) := hp1.cell 5
          have HB := Lib.hid hb
          have HP0 := Lib.hid hp0
          have HP1 := Lib.hid hp1
          clear hb hp0 hp1
          go_wp2_with (fail)
          refine (HC2.out W1 HB.out).mono ?_
          rintro e W2 ⟨rfl, hb9⟩
          have hp0 := HP0.out.below hb9 HP0.out.lt
          have hp1 := HP1.out.below hb9 HP1.out.lt
          have hb := HB.out.trans (hb9.mono HB.out.size)
          clear hb9 HB HP0 HP1 a0 a1 s0 s1 s2 s3 s4 s5
          have a0 : W2.cell? ⟨w.heap.size, 0, none⟩ = some (.slice N names.length c1) := hp0.cell 0
          have a1 : W2.cell? ⟨w.heap.size, 1, none⟩ = some (.slice U up.length c2) := hp0.cell 1
          have s0 : W2.cell? ⟨w.heap.size + 1, 0, none⟩ = some (.int .i64 pv) := hp1.cell 0
          have s1 : W2.cell? ⟨w.heap.size + 1, 1, none⟩ = some (.int .i64 pl) := hp1.cell 1
          have s2 : W2.cell? ⟨w.heap.size + 1, 2, none⟩ = some (.slice cA code.length cc) := hp1.cell 2
          have s3 : W2.cell? ⟨w.heap.size + 1, 3, none⟩ = some (.slice mA mem.length mc) := hp1.cell 3
          have s4 : W2.cell? ⟨w.heap.size + 1, 4, none⟩ = some (.slice sA stack.length sc) := hp1.cell 4
          have s5 : W2.cell? ⟨w.heap.size + 1, 5, none⟩ = some (.slice oA out.length oc) := hp1.cell 5
          have HB := Lib.hid hb
          have HP0 := Lib.hid hp0
          have HP1 := Lib.hid hp1
          clear hb hp0 hp1
          go_wp2_with (fail)
          refine (HC3.out W2 HB.out).mono ?_
          rintro e W3 ⟨rfl, hb9⟩
          have hp0 := HP0.out.below hb9 HP0.out.lt
          have hp1 := HP1.out.below hb9 HP1.out.lt
          have hb := HB.out.trans (hb9.mono HB.out.size)
          clear hb9 HB HP0 HP1 a0 a1 s0 s1 s2 s3 s4 s5
          have a0 : W3.cell? ⟨w.heap.size, 0, none⟩ = some (.slice N names.length c1) := hp0.cell 0
          have a1 : W3.cell? ⟨w.heap.size, 1, none⟩ = some (.slice U up.length c2) := hp0.cell 1
          have s0 : W3.cell? ⟨w.heap.size + 1, 0, none⟩ = some (.int .i64 pv) := hp1.cell 0
          have s1 : W3.cell? ⟨w.heap.size + 1, 1, none⟩ = some (.int .i64 pl) := hp1.cell 1
          have s2 : W3.cell? ⟨w.heap.size + 1, 2, none⟩ = some (.slice cA code.length cc) := hp1.cell 2
          have s3 : W3.cell? ⟨w.heap.size + 1, 3, none⟩ = some (.slice mA mem.length mc) := hp1.cell 3
          have s4 : W3.cell? ⟨w.heap.size + 1, 4, none⟩ = some (.slice sA stack.length sc) := hp1.cell 4
          have s5 : W3.cell? ⟨w.heap.size + 1, 5, none⟩ = some (.slice oA out.length oc) := hp1.cell 5
          have HB := Lib.hid hb
          have HP0 := Lib.hid hp0
          have HP1 := Lib.hid hp1
          clear hb hp0 hp1
          go_wp2_with (fail)
          refine (HC4.out W3 HB.out).mono ?_
          rintro e W4 ⟨rfl, hb9⟩
          have HB9 := Lib.hid (HB.out.trans (hb9.mono HB.out.size))
          clear hb9 a0 a1 s0 s1 s2 s3 s4 s5
          go_wp2
          go_ret
          exact ⟨rfl, HB9.out⟩
        | true =>
          rw [Bool.true_and]
          go_enter Tryz.func13, Tryz.ntmps13
          go_wp2_with (fail)
          refine (HC1.out W0 HB.out).mono ?_
          rintro e W1 ⟨rfl, hb9⟩
          have hp0 := HP0.out.below hb9 HP0.out.lt
          have hp1 := HP1.out.below hb9 HP1.out.lt
          have hb := HB.out.trans (hb9.mono HB.out.size)
          clear hb9 HB HP0 HP1 a0 a1 s0 s1 s2 s3 s4 s5
          have a0 : W1.cell? ⟨w.heap.size, 0, none⟩ = some (.slice N names.length c1) := hp0.cell 0
          have a1 : W1.cell? ⟨w.heap.size, 1, none⟩ = some (.slice U up.length c2) := hp0.cell 1
          have s0 : W1.cell? ⟨w.heap.size + 1, 0, none⟩ = some (.int .i64 pv) := hp1.cell 0
          have s1 : W1.cell? ⟨w.heap.size + 1, 1, none⟩ = some (.int .i64 pl) := hp1.cell 1
          have s2 : W1.cell? ⟨w.heap.size + 1, 2, none⟩ = some (.slice cA code.length cc) := hp1.cell 2
          have s3 : W1.cell? ⟨w.heap.size + 1, 3, none⟩ = some (.slice mA mem.length mc) := hp1.cell 3
          have s4 : W1.cell? ⟨w.heap.size + 1, 4, none⟩ = some (.slice sA stack.length sc) := hp1.cell 4
          have s5 : W1.cell? ⟨w.heap.size + 1, 5, none⟩ = some (.slice oA out.length oc) := hp1.cell 5
          have HB := Lib.hid hb
          have HP0 := Lib.hid hp0
          have HP1 := Lib.hid hp1
          clear hb hp0 hp1
          go_wp2_with (fail)
          refine (HC2.out W1 HB.out).mono ?_
          rintro e W2 ⟨rfl, hb9⟩
          have hp0 := HP0.out.below hb9 HP0.out.lt
          have hp1 := HP1.out.below hb9 HP1.out.lt
          have hb := HB.out.trans (hb9.mono HB.out.size)
          clear hb9 HB HP0 HP1 a0 a1 s0 s1 s2 s3 s4 s5
          have a0 : W2.cell? ⟨w.heap.size, 0, none⟩ = some (.slice N names.length c1) := hp0.cell 0
          have a1 : W2.cell? ⟨w.heap.size, 1, none⟩ = some (.slice U up.length c2) := hp0.cell 1
          have s0 : W2.cell? ⟨w.heap.size + 1, 0, none⟩ = some (.int .i64 pv) := hp1.cell 0
          have s1 : W2.cell? ⟨w.heap.size + 1, 1, none⟩ = some (.int .i64 pl) := hp1.cell 1
          have s2 : W2.cell? ⟨w.heap.size + 1, 2, none⟩ = some (.slice cA code.length cc) := hp1.cell 2
          have s3 : W2.cell? ⟨w.heap.size + 1, 3, none⟩ = some (.slice mA mem.length mc) := hp1.cell 3
          have s4 : W2.cell? ⟨w.heap.size + 1, 4, none⟩ = some (.slice sA stack.length sc) := hp1.cell 4
          have s5 : W2.cell? ⟨w.heap.size + 1, 5, none⟩ = some (.slice oA out.length oc) := hp1.cell 5
          have HB := Lib.hid hb
          have HP0 := Lib.hid hp0
          have HP1 := Lib.hid hp1
          clear hb hp0 hp1
          go_wp2_with (fail)
          refine (HC3.out W2 HB.out).mono ?_
          rintro e W3 ⟨rfl, hb9⟩
          have hp0 := HP0.out.below hb9 HP0.out.lt
          have hp1 := HP1.out.below hb9 HP1.out.lt
          have hb := HB.out.trans (hb9.mono HB.out.size)
          clear hb9 HB HP0 HP1 a0 a1 s0 s1 s2 s3 s4 s5
          have a0 : W3.cell? ⟨w.heap.size, 0, none⟩ = some (.slice N names.length c1) := hp0.cell 0
          have a1 : W3.cell? ⟨w.heap.size, 1, none⟩ = some (.slice U up.length c2) := hp0.cell 1
          have s0 : W3.cell? ⟨w.heap.size + 1, 0, none⟩ = some (.int .i64 pv) := hp1.cell 0
          have s1 : W3.cell? ⟨w.heap.size + 1, 1, none⟩ = some (.int .i64 pl) := hp1.cell 1
          have s2 : W3.cell? ⟨w.heap.size + 1, 2, none⟩ = some (.slice cA code.length cc) := hp1.cell 2
          have s3 : W3.cell? ⟨w.heap.size + 1, 3, none⟩ = some (.slice mA mem.length mc) := hp1.cell 3
          have s4 : W3.cell? ⟨w.heap.size + 1, 4, none⟩ = some (.slice sA stack.length sc) := hp1.cell 4
          have s5 : W3.cell? ⟨w.heap.size + 1, 5, none⟩ = some (.slice oA out.length oc) := hp1.cell 5
          have HB := Lib.hid hb
          have HP0 := Lib.hid hp0
          have HP1 := Lib.hid hp1
          clear hb hp0 hp1
          go_wp2_with (fail)
          refine (HC4.out W3 HB.out).mono ?_
          rintro e W4 ⟨rfl, hb9⟩
          have hp0 := HP0.out.below hb9 HP0.out.lt
          have hp1 := HP1.out.below hb9 HP1.out.lt
          have hb := HB.out.trans (hb9.mono HB.out.size)
          clear hb9 HB HP0 HP1 a0 a1 s0 s1 s2 s3 s4 s5
          have a0 : W4.cell? ⟨w.heap.size, 0, none⟩ = some (.slice N names.length c1) := hp0.cell 0
          have a1 : W4.cell? ⟨w.heap.size, 1, none⟩ = some (.slice U up.length c2) := hp0.cell 1
          have s0 : W4.cell? ⟨w.heap.size + 1, 0, none⟩ = some (.int .i64 pv) := hp1.cell 0
          have s1 : W4.cell? ⟨w.heap.size + 1, 1, none⟩ = some (.int .i64 pl) := hp1.cell 1
          have s2 : W4.cell? ⟨w.heap.size + 1, 2, none⟩ = some (.slice cA code.length cc) := hp1.cell 2
          have s3 : W4.cell? ⟨w.heap.size + 1, 3, none⟩ = some (.slice mA mem.length mc) := hp1.cell 3
          have s4 : W4.cell? ⟨w.heap.size + 1, 4, none⟩ = some (.slice sA stack.length sc) := hp1.cell 4
          have s5 : W4.cell? ⟨w.heap.size + 1, 5, none⟩ = some (.slice oA out.length oc) := hp1.cell 5
          have HB := Lib.hid hb
          have HP0 := Lib.hid hp0
          have HP1 := Lib.hid hp1
          clear hb hp0 hp1
          go_wp2_with (fail)
          refine (HC5.out W4 HB.out).mono ?_
          rintro e W5 ⟨rfl, hb9⟩
          have HB9 := Lib.hid (HB.out.trans (hb9.mono HB.out.size))
          clear hb9 a0 a1 s0 s1 s2 s3 s4 s5
          go_wp2
          go_ret
          exact ⟨rfl, HB9.out⟩
end Go.Proofs.YtmbgndcahlopdaaGreat

/- The reference's label, Atoms, Stack, Right (by gen_stmm.py). -/
namespace Go.Proofs.YtmbgndcahlopdaaGreat
set_option maxRecDepth 100000
open Go.RowKit Go.Shelf Go.Sort
attribute [local go_sem] Oper.semAt_some
section
variable {v : Value} {names : List ByteArray} {up : List Nat}
set_option maxHeartbeats 2000000 in
theorem rlabel_any (a : Int) (w : World) (h : IsLat w w.heap.size v names up) : Calls Tryz.prog 48 #[v, .int .i64 a] w (Tells w (St.labB up.length a)) := by
  obtain ⟨⟨N, U, c1, c2, rfl, hN, hU⟩, hsh, hfew, hcaps⟩ := h
  clear hN hU
  have HB0 := Lib.hid ((Below.refl _ w).alloc (Nat.le_refl _) (.cells #[.slice N names.length c1, .slice U up.length c2] 25))
  by_cases h0 : 0 ≤ a
  · have hr : St.labB up.length a = decide (a < (up.length : Int)) := by unfold St.labB; exact decide_eq_decide.2 ⟨fun h => h.2, fun h => ⟨h0, h⟩⟩
    rw [hr]
    clear hr
    go_enter Tryz.func48, Tryz.ntmps48
    go_wp2
    go_ret
    exact ⟨rfl, HB0.out⟩
  · have hr : St.labB up.length a = false := by unfold St.labB; exact decide_eq_false fun h => h0 h.1
    rw [hr]
    clear hr
    go_enter Tryz.func48, Tryz.ntmps48
    go_wp2
    go_ret
    exact ⟨rfl, HB0.out⟩
theorem all_noA {α : Type} {f : α → Bool} {l : List α} {j : Nat} {x : α} (h : l[j]? = some x) (hx : f x = false) : l.all f = false := by
  rw [List.all_eq_false]
  exact ⟨x, List.mem_of_getElem? h, by rw [hx]; decide⟩
theorem all_yesA {α : Type} {f : α → Bool} {l : List α} (h : ∀ (j : Nat) x, l[j]? = some x → f x = true) : l.all f = true := by
  refine List.all_eq_true.2 fun x hx => ?_
  obtain ⟨j, hj, rfl⟩ := List.getElem_of_mem hx
  exact h j _ (List.getElem?_eq_getElem hj)
set_option maxHeartbeats 8000000 in
theorem rAtoms_any {A : Option Addr} {l : List St.Atom} (c : Nat) (w : World) (h : IsLat w w.heap.size v names up) (hr : Row w w.heap.size A (fcells avs l)) (hl : l.length ≤ 1000) :
    Calls Tryz.prog 49 #[v, .slice A l.length c] w (Tells w (l.all (St.atomB up.length))) := by
  obtain ⟨⟨N, U, c1, c2, rfl, hN, hU⟩, hsh, hfew, hcaps⟩ := id h
  obtain ⟨res, hres⟩ : ∃ res, (l.all (St.atomB up.length)) = res := ⟨_, rfl⟩
  rw [hres]
  have HRES := Lib.hid hres
  clear hres
  have HLB := Lib.hid (fun a W (hb : Below w.heap.size w W) => rlabel_any (v := .agg #[.slice N names.length c1, .slice U up.length c2]) a W ((h.below hb).more hb.size))
  have HB0 := Lib.hid ((Below.refl _ w).alloc (Nat.le_refl _) (.cells #[.slice N names.length c1, .slice U up.length c2] 25))
  have P0 := Lib.hid (Blk.new w 25 #[.slice N names.length c1, .slice U up.length c2])
  have H := Lib.hid hr
  obtain ⟨n, hn⟩ : ∃ n, l.length = n := ⟨_, rfl⟩
  have HN := Lib.hid hn
  rw [hn] at hl ⊢
  clear h hN hU hr hn hsh hfew hcaps
  go_enter Tryz.func49, Tryz.ntmps49
  go_wp2
  go_loopw [9] (fun i wr => ∃ k : Nat, k ≤ n ∧ i = .int .i64 k ∧ Hid (∀ (j : Nat) (x : St.Atom), j < k → l[j]? = some x → St.atomB up.length x = true) ∧ Hid (Below w.heap.size w wr) ∧ Hid (Blk wr w.heap.size 25 #[.slice N names.length c1, .slice U up.length c2])) (fun i _ => n - (intOf i).toNat)
  case atStart => exact ⟨0, Nat.zero_le _, rfl, Lib.hid fun j x hj => absurd hj (Nat.not_lt_zero _), HB0, P0⟩
  case round =>
    clear HB0 P0
    obtain ⟨k, hk, rfl, HS, HBW, P0⟩ := hrel
    by_cases hlt : k < n
    · obtain ⟨ad, x, rfl, hxb, hx, x0, x1⟩ := arow_at (H.out.below HBW.out) (show k < l.length by rw [HN.out]; exact hlt)
      have hz := HBW.out.size
      have hxb2 : (ad.add (k * 2)).block < wr.heap.size := by rw [add_block]; omega
      have HX := Lib.hid hx
      obtain ⟨xv, xl⟩ := x
      dsimp only at x0 x1
      have hal := (Below.refl wr.heap.size wr).alloc (Nat.le_refl _) (.cells #[.int .i64 xv, .int .i64 xl] 30)
      have hbw1 := HBW.out.trans (hal.mono HBW.out.size)
      have hp1 := P0.out.below hal P0.out.lt
      have hbx := Blk.new wr 30 #[.int .i64 xv, .int .i64 xl]
      have hc := HLB.out xl _ hbw1
      obtain ⟨W1, hW1⟩ : ∃ W1, wr.alloc (.cells #[.int .i64 xv, .int .i64 xl] 30) = W1 := ⟨_, rfl⟩
      rw [hW1] at hbw1 hp1 hbx hc
      have a0 : W1.cell? ⟨w.heap.size, 0, none⟩ = some (.slice N names.length c1) := hp1.cell 0
      have a1 : W1.cell? ⟨w.heap.size, 1, none⟩ = some (.slice U up.length c2) := hp1.cell 1
      have s0 := hbx.cell 0
      have s1 := hbx.cell 1
      skip
      have HB1 := Lib.hid hbw1
      have HP1 := Lib.hid hp1
      have HBX := Lib.hid hbx
      have hz1 := hbw1.size
      have hblt := hbx.lt
      have hplt := hp1.lt
      have HC := Lib.hid hc
      clear hx hal hbw1 hp1 hbx P0 hc HLB
      by_cases h1 : xv < -20
      · have HR2 := Lib.hid (show false = res by rw [← HRES.out]; exact (all_noA HX.out (show St.atomB up.length _ = false by unfold St.atomB St.valB; dsimp only; rw [decide_eq_false (by omega)]; rfl)).symm)
        clear HC
        go_wp2
        go_ret
        exact ⟨retb HR2.out, HB1.out⟩
      · by_cases h2 : 20 < xv
        · have HR2 := Lib.hid (show false = res by rw [← HRES.out]; exact (all_noA HX.out (show St.atomB up.length _ = false by unfold St.atomB St.valB; dsimp only; rw [decide_eq_false (by omega)]; rfl)).symm)
          clear HC
          go_wp2
          go_ret
          exact ⟨retb HR2.out, HB1.out⟩
        · cases hb : St.labB up.length xl with
          | false =>
            rw [hb] at HC
            have HR2 := Lib.hid (show false = res by rw [← HRES.out]; exact (all_noA HX.out (show St.atomB up.length _ = false by unfold St.atomB; dsimp only; rw [hb, Bool.and_false])).symm)
            clear hb
            go_wp2_with (fail)
            refine HC.out.mono ?_
            rintro e w2 ⟨rfl, hb2⟩
            have HB2 := Lib.hid (HB1.out.trans (hb2.mono HB1.out.size))
            clear hb2
            go_wp2
            go_ret
            exact ⟨retb HR2.out, HB2.out⟩
          | true =>
            rw [hb] at HC
            have HI : Hid (St.atomB up.length ⟨xv, xl⟩ = true) := Lib.hid (by unfold St.atomB St.valB; dsimp only; rw [hb, decide_eq_true (by omega)]; rfl)
            clear hb
            go_wp2_with (fail)
            refine HC.out.mono ?_
            rintro e w2 ⟨rfl, hb2⟩
            have HB2 := Lib.hid (HB1.out.trans (hb2.mono HB1.out.size))
            have HP2 := Lib.hid (HP1.out.below hb2 HP1.out.lt)
            clear hb2 a0 a1 s0 s1
            go_wp2
            go_roundw
            case rel => exact ⟨k + 1, by omega, by go_num, Lib.hid fun j u hj hu => by
              rcases Nat.lt_or_eq_of_le (Nat.le_of_lt_succ hj) with h | rfl
              · exact HS.out j u h hu
              · rw [HX.out] at hu
                injection hu with hu
                rw [← hu]; exact HI.out, HB2, HP2⟩
            case measure => simp [intOf]; omega
    · obtain rfl : k = n := by omega
      have HR2 := Lib.hid (show true = res by rw [← HRES.out]; exact (all_yesA fun j x hx => HS.out j x (by have := (List.getElem?_eq_some_iff.1 hx).1; rw [HN.out] at this; exact this) hx).symm)
      go_wp2
      go_ret
      exact ⟨retb HR2.out, HBW.out⟩
set_option maxHeartbeats 8000000 in
theorem rStack_any {A : Option Addr} {l : List St.Slot} (c : Nat) (w : World) (h : IsLat w w.heap.size v names up) (hr : Row w w.heap.size A (fcells svs l)) (hl : l.length ≤ 1000) :
    Calls Tryz.prog 50 #[v, .slice A l.length c] w (Tells w (decide (l.length ≤ 12) && l.all (St.slotB up.length))) := by
  obtain ⟨⟨N, U, c1, c2, rfl, hN, hU⟩, hsh, hfew, hcaps⟩ := id h
  obtain ⟨res, hres⟩ : ∃ res, (decide (l.length ≤ 12) && l.all (St.slotB up.length)) = res := ⟨_, rfl⟩
  rw [hres]
  have HRES := Lib.hid hres
  clear hres
  have HLB := Lib.hid (fun a W (hb : Below w.heap.size w W) => rlabel_any (v := .agg #[.slice N names.length c1, .slice U up.length c2]) a W ((h.below hb).more hb.size))
  have HB0 := Lib.hid ((Below.refl _ w).alloc (Nat.le_refl _) (.cells #[.slice N names.length c1, .slice U up.length c2] 25))
  have P0 := Lib.hid (Blk.new w 25 #[.slice N names.length c1, .slice U up.length c2])
  have H := Lib.hid hr
  obtain ⟨n, hn⟩ : ∃ n, l.length = n := ⟨_, rfl⟩
  have HN := Lib.hid hn
  rw [hn] at hl ⊢
  clear h hN hU hr hn hsh hfew hcaps
  go_enter Tryz.func50, Tryz.ntmps50
  go_wp2
  go_loopw [9] (fun i wr => ∃ k : Nat, k ≤ n ∧ i = .int .i64 k ∧ Hid (∀ (j : Nat) (x : St.Slot), j < k → l[j]? = some x → St.slotB up.length x = true) ∧ Hid (Below w.heap.size w wr) ∧ Hid (Blk wr w.heap.size 25 #[.slice N names.length c1, .slice U up.length c2])) (fun i _ => n - (intOf i).toNat)
  case atStart => exact ⟨0, Nat.zero_le _, rfl, Lib.hid fun j x hj => absurd hj (Nat.not_lt_zero _), HB0, P0⟩
  case round =>
    clear HB0 P0
    obtain ⟨k, hk, rfl, HS, HBW, P0⟩ := hrel
    by_cases hlt : k < n
    · obtain ⟨ad, x, rfl, hxb, hx, x0, x1, x2⟩ := srow_at (H.out.below HBW.out) (show k < l.length by rw [HN.out]; exact hlt)
      have hz := HBW.out.size
      have hxb2 : (ad.add (k * 3)).block < wr.heap.size := by rw [add_block]; omega
      have HX := Lib.hid hx
      obtain ⟨xr, xv, xl⟩ := x
      dsimp only at x0 x1 x2
      have hal := (Below.refl wr.heap.size wr).alloc (Nat.le_refl _) (.cells #[.bool xr, .int .i64 xv, .int .i64 xl] 61)
      have hbw1 := HBW.out.trans (hal.mono HBW.out.size)
      have hp1 := P0.out.below hal P0.out.lt
      have hbx := Blk.new wr 61 #[.bool xr, .int .i64 xv, .int .i64 xl]
      have hc := HLB.out xl _ hbw1
      obtain ⟨W1, hW1⟩ : ∃ W1, wr.alloc (.cells #[.bool xr, .int .i64 xv, .int .i64 xl] 61) = W1 := ⟨_, rfl⟩
      rw [hW1] at hbw1 hp1 hbx hc
      have a0 : W1.cell? ⟨w.heap.size, 0, none⟩ = some (.slice N names.length c1) := hp1.cell 0
      have a1 : W1.cell? ⟨w.heap.size, 1, none⟩ = some (.slice U up.length c2) := hp1.cell 1
      have s0 := hbx.cell 0
      have s1 := hbx.cell 1
      have s2 := hbx.cell 2
      have HB1 := Lib.hid hbw1
      have HP1 := Lib.hid hp1
      have HBX := Lib.hid hbx
      have hz1 := hbw1.size
      have hblt := hbx.lt
      have hplt := hp1.lt
      have HC := Lib.hid hc
      clear hx hal hbw1 hp1 hbx P0 hc HLB
      by_cases h1 : xv < -20
      · have HR2 := Lib.hid (show false = res by rw [← HRES.out]; exact (all_no HX.out (show St.slotB up.length _ = false by unfold St.slotB St.valB; dsimp only; rw [decide_eq_false (by omega)]; rfl)).symm)
        clear HC
        go_wp2
        go_ret
        exact ⟨retb HR2.out, HB1.out⟩
      · by_cases h2 : 20 < xv
        · have HR2 := Lib.hid (show false = res by rw [← HRES.out]; exact (all_no HX.out (show St.slotB up.length _ = false by unfold St.slotB St.valB; dsimp only; rw [decide_eq_false (by omega)]; rfl)).symm)
          clear HC
          go_wp2
          go_ret
          exact ⟨retb HR2.out, HB1.out⟩
        · cases hb : St.labB up.length xl with
          | false =>
            rw [hb] at HC
            have HR2 := Lib.hid (show false = res by rw [← HRES.out]; exact (all_no HX.out (show St.slotB up.length _ = false by unfold St.slotB; dsimp only; rw [hb, Bool.and_false, Bool.false_and])).symm)
            clear hb
            go_wp2_with (fail)
            refine HC.out.mono ?_
            rintro e w2 ⟨rfl, hb2⟩
            have HB2 := Lib.hid (HB1.out.trans (hb2.mono HB1.out.size))
            have hbx2 := HBX.out.below hb2 HBX.out.lt
            have t0 := hbx2.cell 0
            have t1 := hbx2.cell 1
            have t2 := hbx2.cell 2
            have hb2l := hbx2.lt
            clear hbx2
            clear hb2
            go_wp2
            go_ret
            exact ⟨retb HR2.out, HB2.out⟩
          | true =>
            rw [hb] at HC
            cases xr with
            | false =>
              have HI : Hid (St.slotB up.length ⟨false, xv, xl⟩ = true) := Lib.hid (by unfold St.slotB St.valB; dsimp only; rw [hb, decide_eq_true (by omega)]; rfl)
              clear hb
              go_wp2_with (fail)
              refine HC.out.mono ?_
              rintro e w2 ⟨rfl, hb2⟩
              have HB2 := Lib.hid (HB1.out.trans (hb2.mono HB1.out.size))
              have HP2 := Lib.hid (HP1.out.below hb2 HP1.out.lt)
              have hbx2 := HBX.out.below hb2 HBX.out.lt
              have t0 := hbx2.cell 0
              have t1 := hbx2.cell 1
              have t2 := hbx2.cell 2
              have hb2l := hbx2.lt
              clear hbx2
              clear hb2 a0 a1 s0 s1 s2
              go_wp2
              go_roundw
              case rel => exact ⟨k + 1, by omega, by go_num, Lib.hid fun j u hj hu => by
                rcases Nat.lt_or_eq_of_le (Nat.le_of_lt_succ hj) with h | rfl
                · exact HS.out j u h hu
                · rw [HX.out] at hu
                  injection hu with hu
                  rw [← hu]; exact HI.out, HB2, HP2⟩
              case measure => simp [intOf]; omega
            | true =>
              by_cases h3 : xv < 0
              · have HR2 := Lib.hid (show false = res by rw [← HRES.out]; exact (all_no HX.out (show St.slotB up.length _ = false by unfold St.slotB St.pcB; dsimp only; rw [decide_eq_false (show ¬ (0 ≤ xv ∧ xv ≤ 12) by omega), Bool.not_true, Bool.false_or, Bool.and_false])).symm)
                clear hb
                go_wp2_with (fail)
                refine HC.out.mono ?_
                rintro e w2 ⟨rfl, hb2⟩
                have HB2 := Lib.hid (HB1.out.trans (hb2.mono HB1.out.size))
                have hbx2 := HBX.out.below hb2 HBX.out.lt
                have t0 := hbx2.cell 0
                have t1 := hbx2.cell 1
                have t2 := hbx2.cell 2
                have hb2l := hbx2.lt
                clear hbx2
                clear hb2
                go_wp2
                go_ret
                exact ⟨retb HR2.out, HB2.out⟩
              · by_cases h4 : 12 < xv
                · have HR2 := Lib.hid (show false = res by rw [← HRES.out]; exact (all_no HX.out (show St.slotB up.length _ = false by unfold St.slotB St.pcB; dsimp only; rw [decide_eq_false (show ¬ (0 ≤ xv ∧ xv ≤ 12) by omega), Bool.not_true, Bool.false_or, Bool.and_false])).symm)
                  clear hb
                  go_wp2_with (fail)
                  refine HC.out.mono ?_
                  rintro e w2 ⟨rfl, hb2⟩
                  have HB2 := Lib.hid (HB1.out.trans (hb2.mono HB1.out.size))
                  have hbx2 := HBX.out.below hb2 HBX.out.lt
                  have t0 := hbx2.cell 0
                  have t1 := hbx2.cell 1
                  have t2 := hbx2.cell 2
                  have hb2l := hbx2.lt
                  clear hbx2
                  clear hb2
                  go_wp2
                  go_ret
                  exact ⟨retb HR2.out, HB2.out⟩
                · have HI : Hid (St.slotB up.length ⟨true, xv, xl⟩ = true) := Lib.hid (by unfold St.slotB St.valB St.pcB; dsimp only; rw [hb, decide_eq_true (show -20 ≤ xv ∧ xv ≤ 20 by omega), decide_eq_true (show 0 ≤ xv ∧ xv ≤ 12 by omega)]; rfl)
                  clear hb
                  go_wp2_with (fail)
                  refine HC.out.mono ?_
                  rintro e w2 ⟨rfl, hb2⟩
                  have HB2 := Lib.hid (HB1.out.trans (hb2.mono HB1.out.size))
                  have HP2 := Lib.hid (HP1.out.below hb2 HP1.out.lt)
                  have hbx2 := HBX.out.below hb2 HBX.out.lt
                  have t0 := hbx2.cell 0
                  have t1 := hbx2.cell 1
                  have t2 := hbx2.cell 2
                  have hb2l := hbx2.lt
                  clear hbx2
                  clear hb2 a0 a1 s0 s1 s2
                  go_wp2
                  go_roundw
                  case rel => exact ⟨k + 1, by omega, by go_num, Lib.hid fun j u hj hu => by
                    rcases Nat.lt_or_eq_of_le (Nat.le_of_lt_succ hj) with h | rfl
                    · exact HS.out j u h hu
                    · rw [HX.out] at hu
                      injection hu with hu
                      rw [← hu]; exact HI.out, HB2, HP2⟩
                  case measure => simp [intOf]; omega
    · obtain rfl : k = n := by omega
      have hrt : res = decide (k ≤ 12) := by
        rw [← HRES.out, all_yesA fun j x hx => HS.out j x (by have := (List.getElem?_eq_some_iff.1 hx).1; rw [HN.out] at this; exact this) hx, Bool.and_true, HN.out]
      have hrt2 : decide ((k : Int) ≤ 12) = res := by
        rw [hrt]
        by_cases h : k ≤ 12
        · rw [decide_eq_true h, decide_eq_true (by omega)]
        · rw [decide_eq_false h, decide_eq_false (by omega)]
      have HRT := Lib.hid hrt2
      clear hrt hrt2
      go_wp2
      go_ret
      exact ⟨retb HRT.out, HBW.out⟩
end
theorem rightB_seven (k : Nat) (s : St.State) : St.rightB k s = (Cd.rightB k s.code && (decide (0 ≤ s.pc.v) && (decide (s.pc.v ≤ 12) && (St.labB k s.pc.l && (s.mem.all (St.atomB k) && (decide (s.mem.length ≤ 6) && ((decide (s.stack.length ≤ 12) && s.stack.all (St.slotB k)) && (s.out.all (St.atomB k) && decide (s.out.length ≤ 8))))))))) := by
  unfold St.rightB St.pcB
  rw [Bool.eq_iff_iff]
  simp only [Bool.and_eq_true, decide_eq_true_eq]
  constructor
  · rintro ⟨⟨⟨⟨a, ⟨⟨b, c⟩, d⟩⟩, ⟨e, f⟩⟩, ⟨g, h⟩⟩, ⟨i, j⟩⟩; exact ⟨a, b, c, d, f, e, ⟨g, h⟩, j, i⟩
  · rintro ⟨a, b, c, d, f, e, ⟨g, h⟩, j, i⟩; exact ⟨⟨⟨⟨a, ⟨⟨b, c⟩, d⟩⟩, ⟨e, f⟩⟩, ⟨g, h⟩⟩, ⟨i, j⟩⟩
set_option maxHeartbeats 16000000 in
theorem rRight9_any {v sv : Value} {names : List ByteArray} {up : List Nat} {s : St.State} (w : World) (h : IsLat w w.heap.size v names up) (hs : IsSt w w.heap.size sv s) (hsm : SmallS s) :
    Calls Tryz.prog 23 #[v, sv] w (Tells w (St.rightB up.length s)) := by
  rw [rightB_seven]
  obtain ⟨⟨N, U, c1, c2, rfl, hN, hU⟩, hsh, hfew, hcaps⟩ := id h
  obtain ⟨⟨pv, pl⟩, code, mem, stack, out⟩ := s
  obtain ⟨cv, mv, stv_, ov, rfl, ⟨cA, cc, rfl, hcr, hcc⟩, ⟨mA, mc, rfl, hmr, hmc⟩, ⟨sA, sc, rfl, hsr, hsc⟩, ⟨oA, oc, rfl, hor, hoc⟩⟩ := hs
  obtain ⟨hs1, hs2, hs3, hs4⟩ := hsm
  dsimp only at hcr hcc hmr hmc hsr hsc hor hoc hs1 hs2 hs3 hs4 ⊢
  unfold stv
  dsimp only
  have HC1 := Lib.hid (fun W (hb : Below w.heap.size w W) => rRightI_any cc W ((h.below hb).more hb.size) ((hcr.below hb).more hb.size) hs1)
  have HC2 := Lib.hid (fun W (hb : Below w.heap.size w W) => rlabel_any pl W ((h.below hb).more hb.size))
  have HC3 := Lib.hid (fun W (hb : Below w.heap.size w W) => rAtoms_any mc W ((h.below hb).more hb.size) ((hmr.below hb).more hb.size) hs2)
  have HC4 := Lib.hid (fun W (hb : Below w.heap.size w W) => rStack_any sc W ((h.below hb).more hb.size) ((hsr.below hb).more hb.size) hs3)
  have HC5 := Lib.hid (fun W (hb : Below w.heap.size w W) => rAtoms_any oc W ((h.below hb).more hb.size) ((hor.below hb).more hb.size) hs4)
  have hb := (((Below.refl _ w).alloc (Nat.le_refl _) (.cells #[.slice N names.length c1, .slice U up.length c2] 25)).alloc (by simp) (.cells #[.int .i64 pv, .int .i64 pl, .slice cA code.length cc, .slice mA mem.length mc, .slice sA stack.length sc, .slice oA out.length oc] 35))
  obtain ⟨W0, hW0⟩ : ∃ W0, (w.alloc (.cells #[.slice N names.length c1, .slice U up.length c2] 25)).alloc (.cells #[.int .i64 pv, .int .i64 pl, .slice cA code.length cc, .slice mA mem.length mc, .slice sA stack.length sc, .slice oA out.length oc] 35) = W0 := ⟨_, rfl⟩
  have hp0 : Blk W0 w.heap.size 25 #[.slice N names.length c1, .slice U up.length c2] := hW0 ▸ (Blk.new _ _ _).alloc _
  have hp1 : Blk W0 (w.heap.size + 1) 35 #[.int .i64 pv, .int .i64 pl, .slice cA code.length cc, .slice mA mem.length mc, .slice sA stack.length sc, .slice oA out.length oc] := by
    have h1 := Blk.new (w.alloc (.cells #[.slice N names.length c1, .slice U up.length c2] 25)) 35 #[.int .i64 pv, .int .i64 pl, .slice cA code.length cc, .slice mA mem.length mc, .slice sA stack.length sc, .slice oA out.length oc]
    rw [show (w.alloc (.cells #[.slice N names.length c1, .slice U up.length c2] 25)).heap.size = w.heap.size + 1 by simp] at h1
    rw [← hW0]; exact h1
  rw [hW0] at hb
  have HB := Lib.hid hb
  have HP0 := Lib.hid hp0
  have HP1 := Lib.hid hp1
  clear h hN hU hcr hmr hsr hor hb hp0 hp1
  have a0 : W0.cell? ⟨w.heap.size, 0, none⟩ = some (.slice N names.length c1) := HP0.out.cell 0
  have a1 : W0.cell? ⟨w.heap.size, 1, none⟩ = some (.slice U up.length c2) := HP0.out.cell 1
  have s0 : W0.cell? ⟨w.heap.size + 1, 0, none⟩ = some (.int .i64 pv) := HP1.out.cell 0
  have s1 : W0.cell? ⟨w.heap.size + 1, 1, none⟩ = some (.int .i64 pl) := HP1.out.cell 1
  have s2 : W0.cell? ⟨w.heap.size + 1, 2, none⟩ = some (.slice cA code.length cc) := HP1.out.cell 2
  have s3 : W0.cell? ⟨w.heap.size + 1, 3, none⟩ = some (.slice mA mem.length mc) := HP1.out.cell 3
  have s4 : W0.cell? ⟨w.heap.size + 1, 4, none⟩ = some (.slice sA stack.length sc) := HP1.out.cell 4
  have s5 : W0.cell? ⟨w.heap.size + 1, 5, none⟩ = some (.slice oA out.length oc) := HP1.out.cell 5
  generalize Cd.rightB up.length code = b1 at *
  generalize St.labB up.length pl = b2 at *
  generalize mem.all (St.atomB up.length) = b3 at *
  generalize (decide (stack.length ≤ 12) && stack.all (St.slotB up.length)) = b4 at *
  generalize out.all (St.atomB up.length) = b5 at *
  cases b1 with
  | false =>
    rw [Bool.false_and]
    go_enter Tryz.func23, Tryz.ntmps23
    go_wp2_with (fail)
    refine (HC1.out W0 HB.out).mono ?_
    rintro e W1 ⟨rfl, hb9⟩
    have hp0 := HP0.out.below hb9 HP0.out.lt
    have hp1 := HP1.out.below hb9 HP1.out.lt
    have hb := HB.out.trans (hb9.mono HB.out.size)
    clear hb9 HB HP0 HP1 a0 a1 s0 s1 s2 s3 s4 s5
    have HB := Lib.hid hb
    have HP0 := Lib.hid hp0
    have HP1 := Lib.hid hp1
    clear hb hp0 hp1
    have a0 : W1.cell? ⟨w.heap.size, 0, none⟩ = some (.slice N names.length c1) := HP0.out.cell 0
    have a1 : W1.cell? ⟨w.heap.size, 1, none⟩ = some (.slice U up.length c2) := HP0.out.cell 1
    have s0 : W1.cell? ⟨w.heap.size + 1, 0, none⟩ = some (.int .i64 pv) := HP1.out.cell 0
    have s1 : W1.cell? ⟨w.heap.size + 1, 1, none⟩ = some (.int .i64 pl) := HP1.out.cell 1
    have s2 : W1.cell? ⟨w.heap.size + 1, 2, none⟩ = some (.slice cA code.length cc) := HP1.out.cell 2
    have s3 : W1.cell? ⟨w.heap.size + 1, 3, none⟩ = some (.slice mA mem.length mc) := HP1.out.cell 3
    have s4 : W1.cell? ⟨w.heap.size + 1, 4, none⟩ = some (.slice sA stack.length sc) := HP1.out.cell 4
    have s5 : W1.cell? ⟨w.heap.size + 1, 5, none⟩ = some (.slice oA out.length oc) := HP1.out.cell 5
    go_wp2
    go_ret
    exact ⟨rfl, HB.out⟩
  | true =>
    rw [Bool.true_and]
    by_cases k0 : 0 ≤ pv
    · rw [decide_eq_true k0, Bool.true_and]
      by_cases k12 : pv ≤ 12
      · rw [decide_eq_true k12, Bool.true_and]
        cases b2 with
        | false =>
          rw [Bool.false_and]
          go_enter Tryz.func23, Tryz.ntmps23
          go_wp2_with (fail)
          refine (HC1.out W0 HB.out).mono ?_
          rintro e W1 ⟨rfl, hb9⟩
          have hp0 := HP0.out.below hb9 HP0.out.lt
          have hp1 := HP1.out.below hb9 HP1.out.lt
          have hb := HB.out.trans (hb9.mono HB.out.size)
          clear hb9 HB HP0 HP1 a0 a1 s0 s1 s2 s3 s4 s5
          have HB := Lib.hid hb
          have HP0 := Lib.hid hp0
          have HP1 := Lib.hid hp1
          clear hb hp0 hp1
          have a0 : W1.cell? ⟨w.heap.size, 0, none⟩ = some (.slice N names.length c1) := HP0.out.cell 0
          have a1 : W1.cell? ⟨w.heap.size, 1, none⟩ = some (.slice U up.length c2) := HP0.out.cell 1
          have s0 : W1.cell? ⟨w.heap.size + 1, 0, none⟩ = some (.int .i64 pv) := HP1.out.cell 0
          have s1 : W1.cell? ⟨w.heap.size + 1, 1, none⟩ = some (.int .i64 pl) := HP1.out.cell 1
          have s2 : W1.cell? ⟨w.heap.size + 1, 2, none⟩ = some (.slice cA code.length cc) := HP1.out.cell 2
          have s3 : W1.cell? ⟨w.heap.size + 1, 3, none⟩ = some (.slice mA mem.length mc) := HP1.out.cell 3
          have s4 : W1.cell? ⟨w.heap.size + 1, 4, none⟩ = some (.slice sA stack.length sc) := HP1.out.cell 4
          have s5 : W1.cell? ⟨w.heap.size + 1, 5, none⟩ = some (.slice oA out.length oc) := HP1.out.cell 5
          go_wp2_with (fail)
          refine (HC2.out W1 HB.out).mono ?_
          rintro e W2 ⟨rfl, hb9⟩
          have hp0 := HP0.out.below hb9 HP0.out.lt
          have hp1 := HP1.out.below hb9 HP1.out.lt
          have hb := HB.out.trans (hb9.mono HB.out.size)
          clear hb9 HB HP0 HP1 a0 a1 s0 s1 s2 s3 s4 s5
          have HB := Lib.hid hb
          have HP0 := Lib.hid hp0
          have HP1 := Lib.hid hp1
          clear hb hp0 hp1
          have a0 : W2.cell? ⟨w.heap.size, 0, none⟩ = some (.slice N names.length c1) := HP0.out.cell 0
          have a1 : W2.cell? ⟨w.heap.size, 1, none⟩ = some (.slice U up.length c2) := HP0.out.cell 1
          have s0 : W2.cell? ⟨w.heap.size + 1, 0, none⟩ = some (.int .i64 pv) := HP1.out.cell 0
          have s1 : W2.cell? ⟨w.heap.size + 1, 1, none⟩ = some (.int .i64 pl) := HP1.out.cell 1
          have s2 : W2.cell? ⟨w.heap.size + 1, 2, none⟩ = some (.slice cA code.length cc) := HP1.out.cell 2
          have s3 : W2.cell? ⟨w.heap.size + 1, 3, none⟩ = some (.slice mA mem.length mc) := HP1.out.cell 3
          have s4 : W2.cell? ⟨w.heap.size + 1, 4, none⟩ = some (.slice sA stack.length sc) := HP1.out.cell 4
          have s5 : W2.cell? ⟨w.heap.size + 1, 5, none⟩ = some (.slice oA out.length oc) := HP1.out.cell 5
          go_wp2
          go_ret
          exact ⟨rfl, HB.out⟩
        | true =>
          rw [Bool.true_and]
          cases b3 with
          | false =>
            rw [Bool.false_and]
            go_enter Tryz.func23, Tryz.ntmps23
            go_wp2_with (fail)
            refine (HC1.out W0 HB.out).mono ?_
            rintro e W1 ⟨rfl, hb9⟩
            have hp0 := HP0.out.below hb9 HP0.out.lt
            have hp1 := HP1.out.below hb9 HP1.out.lt
            have hb := HB.out.trans (hb9.mono HB.out.size)
            clear hb9 HB HP0 HP1 a0 a1 s0 s1 s2 s3 s4 s5
            have HB := Lib.hid hb
            have HP0 := Lib.hid hp0
            have HP1 := Lib.hid hp1
            clear hb hp0 hp1
            have a0 : W1.cell? ⟨w.heap.size, 0, none⟩ = some (.slice N names.length c1) := HP0.out.cell 0
            have a1 : W1.cell? ⟨w.heap.size, 1, none⟩ = some (.slice U up.length c2) := HP0.out.cell 1
            have s0 : W1.cell? ⟨w.heap.size + 1, 0, none⟩ = some (.int .i64 pv) := HP1.out.cell 0
            have s1 : W1.cell? ⟨w.heap.size + 1, 1, none⟩ = some (.int .i64 pl) := HP1.out.cell 1
            have s2 : W1.cell? ⟨w.heap.size + 1, 2, none⟩ = some (.slice cA code.length cc) := HP1.out.cell 2
            have s3 : W1.cell? ⟨w.heap.size + 1, 3, none⟩ = some (.slice mA mem.length mc) := HP1.out.cell 3
            have s4 : W1.cell? ⟨w.heap.size + 1, 4, none⟩ = some (.slice sA stack.length sc) := HP1.out.cell 4
            have s5 : W1.cell? ⟨w.heap.size + 1, 5, none⟩ = some (.slice oA out.length oc) := HP1.out.cell 5
            go_wp2_with (fail)
            refine (HC2.out W1 HB.out).mono ?_
            rintro e W2 ⟨rfl, hb9⟩
            have hp0 := HP0.out.below hb9 HP0.out.lt
            have hp1 := HP1.out.below hb9 HP1.out.lt
            have hb := HB.out.trans (hb9.mono HB.out.size)
            clear hb9 HB HP0 HP1 a0 a1 s0 s1 s2 s3 s4 s5
            have HB := Lib.hid hb
            have HP0 := Lib.hid hp0
            have HP1 := Lib.hid hp1
            clear hb hp0 hp1
            have a0 : W2.cell? ⟨w.heap.size, 0, none⟩ = some (.slice N names.length c1) := HP0.out.cell 0
            have a1 : W2.cell? ⟨w.heap.size, 1, none⟩ = some (.slice U up.length c2) := HP0.out.cell 1
            have s0 : W2.cell? ⟨w.heap.size + 1, 0, none⟩ = some (.int .i64 pv) := HP1.out.cell 0
            have s1 : W2.cell? ⟨w.heap.size + 1, 1, none⟩ = some (.int .i64 pl) := HP1.out.cell 1
            have s2 : W2.cell? ⟨w.heap.size + 1, 2, none⟩ = some (.slice cA code.length cc) := HP1.out.cell 2
            have s3 : W2.cell? ⟨w.heap.size + 1, 3, none⟩ = some (.slice mA mem.length mc) := HP1.out.cell 3
            have s4 : W2.cell? ⟨w.heap.size + 1, 4, none⟩ = some (.slice sA stack.length sc) := HP1.out.cell 4
            have s5 : W2.cell? ⟨w.heap.size + 1, 5, none⟩ = some (.slice oA out.length oc) := HP1.out.cell 5
            go_wp2_with (fail)
            refine (HC3.out W2 HB.out).mono ?_
            rintro e W3 ⟨rfl, hb9⟩
            have hp0 := HP0.out.below hb9 HP0.out.lt
            have hp1 := HP1.out.below hb9 HP1.out.lt
            have hb := HB.out.trans (hb9.mono HB.out.size)
            clear hb9 HB HP0 HP1 a0 a1 s0 s1 s2 s3 s4 s5
            have HB := Lib.hid hb
            have HP0 := Lib.hid hp0
            have HP1 := Lib.hid hp1
            clear hb hp0 hp1
            have a0 : W3.cell? ⟨w.heap.size, 0, none⟩ = some (.slice N names.length c1) := HP0.out.cell 0
            have a1 : W3.cell? ⟨w.heap.size, 1, none⟩ = some (.slice U up.length c2) := HP0.out.cell 1
            have s0 : W3.cell? ⟨w.heap.size + 1, 0, none⟩ = some (.int .i64 pv) := HP1.out.cell 0
            have s1 : W3.cell? ⟨w.heap.size + 1, 1, none⟩ = some (.int .i64 pl) := HP1.out.cell 1
            have s2 : W3.cell? ⟨w.heap.size + 1, 2, none⟩ = some (.slice cA code.length cc) := HP1.out.cell 2
            have s3 : W3.cell? ⟨w.heap.size + 1, 3, none⟩ = some (.slice mA mem.length mc) := HP1.out.cell 3
            have s4 : W3.cell? ⟨w.heap.size + 1, 4, none⟩ = some (.slice sA stack.length sc) := HP1.out.cell 4
            have s5 : W3.cell? ⟨w.heap.size + 1, 5, none⟩ = some (.slice oA out.length oc) := HP1.out.cell 5
            go_wp2
            go_ret
            exact ⟨rfl, HB.out⟩
          | true =>
            rw [Bool.true_and]
            by_cases k6 : mem.length ≤ 6
            · rw [decide_eq_true k6, Bool.true_and]
              cases b4 with
              | false =>
                rw [Bool.false_and]
                go_enter Tryz.func23, Tryz.ntmps23
                go_wp2_with (fail)
                refine (HC1.out W0 HB.out).mono ?_
                rintro e W1 ⟨rfl, hb9⟩
                have hp0 := HP0.out.below hb9 HP0.out.lt
                have hp1 := HP1.out.below hb9 HP1.out.lt
                have hb := HB.out.trans (hb9.mono HB.out.size)
                clear hb9 HB HP0 HP1 a0 a1 s0 s1 s2 s3 s4 s5
                have HB := Lib.hid hb
                have HP0 := Lib.hid hp0
                have HP1 := Lib.hid hp1
                clear hb hp0 hp1
                have a0 : W1.cell? ⟨w.heap.size, 0, none⟩ = some (.slice N names.length c1) := HP0.out.cell 0
                have a1 : W1.cell? ⟨w.heap.size, 1, none⟩ = some (.slice U up.length c2) := HP0.out.cell 1
                have s0 : W1.cell? ⟨w.heap.size + 1, 0, none⟩ = some (.int .i64 pv) := HP1.out.cell 0
                have s1 : W1.cell? ⟨w.heap.size + 1, 1, none⟩ = some (.int .i64 pl) := HP1.out.cell 1
                have s2 : W1.cell? ⟨w.heap.size + 1, 2, none⟩ = some (.slice cA code.length cc) := HP1.out.cell 2
                have s3 : W1.cell? ⟨w.heap.size + 1, 3, none⟩ = some (.slice mA mem.length mc) := HP1.out.cell 3
                have s4 : W1.cell? ⟨w.heap.size + 1, 4, none⟩ = some (.slice sA stack.length sc) := HP1.out.cell 4
                have s5 : W1.cell? ⟨w.heap.size + 1, 5, none⟩ = some (.slice oA out.length oc) := HP1.out.cell 5
                go_wp2_with (fail)
                refine (HC2.out W1 HB.out).mono ?_
                rintro e W2 ⟨rfl, hb9⟩
                have hp0 := HP0.out.below hb9 HP0.out.lt
                have hp1 := HP1.out.below hb9 HP1.out.lt
                have hb := HB.out.trans (hb9.mono HB.out.size)
                clear hb9 HB HP0 HP1 a0 a1 s0 s1 s2 s3 s4 s5
                have HB := Lib.hid hb
                have HP0 := Lib.hid hp0
                have HP1 := Lib.hid hp1
                clear hb hp0 hp1
                have a0 : W2.cell? ⟨w.heap.size, 0, none⟩ = some (.slice N names.length c1) := HP0.out.cell 0
                have a1 : W2.cell? ⟨w.heap.size, 1, none⟩ = some (.slice U up.length c2) := HP0.out.cell 1
                have s0 : W2.cell? ⟨w.heap.size + 1, 0, none⟩ = some (.int .i64 pv) := HP1.out.cell 0
                have s1 : W2.cell? ⟨w.heap.size + 1, 1, none⟩ = some (.int .i64 pl) := HP1.out.cell 1
                have s2 : W2.cell? ⟨w.heap.size + 1, 2, none⟩ = some (.slice cA code.length cc) := HP1.out.cell 2
                have s3 : W2.cell? ⟨w.heap.size + 1, 3, none⟩ = some (.slice mA mem.length mc) := HP1.out.cell 3
                have s4 : W2.cell? ⟨w.heap.size + 1, 4, none⟩ = some (.slice sA stack.length sc) := HP1.out.cell 4
                have s5 : W2.cell? ⟨w.heap.size + 1, 5, none⟩ = some (.slice oA out.length oc) := HP1.out.cell 5
                go_wp2_with (fail)
                refine (HC3.out W2 HB.out).mono ?_
                rintro e W3 ⟨rfl, hb9⟩
                have hp0 := HP0.out.below hb9 HP0.out.lt
                have hp1 := HP1.out.below hb9 HP1.out.lt
                have hb := HB.out.trans (hb9.mono HB.out.size)
                clear hb9 HB HP0 HP1 a0 a1 s0 s1 s2 s3 s4 s5
                have HB := Lib.hid hb
                have HP0 := Lib.hid hp0
                have HP1 := Lib.hid hp1
                clear hb hp0 hp1
                have a0 : W3.cell? ⟨w.heap.size, 0, none⟩ = some (.slice N names.length c1) := HP0.out.cell 0
                have a1 : W3.cell? ⟨w.heap.size, 1, none⟩ = some (.slice U up.length c2) := HP0.out.cell 1
                have s0 : W3.cell? ⟨w.heap.size + 1, 0, none⟩ = some (.int .i64 pv) := HP1.out.cell 0
                have s1 : W3.cell? ⟨w.heap.size + 1, 1, none⟩ = some (.int .i64 pl) := HP1.out.cell 1
                have s2 : W3.cell? ⟨w.heap.size + 1, 2, none⟩ = some (.slice cA code.length cc) := HP1.out.cell 2
                have s3 : W3.cell? ⟨w.heap.size + 1, 3, none⟩ = some (.slice mA mem.length mc) := HP1.out.cell 3
                have s4 : W3.cell? ⟨w.heap.size + 1, 4, none⟩ = some (.slice sA stack.length sc) := HP1.out.cell 4
                have s5 : W3.cell? ⟨w.heap.size + 1, 5, none⟩ = some (.slice oA out.length oc) := HP1.out.cell 5
                go_wp2_with (fail)
                refine (HC4.out W3 HB.out).mono ?_
                rintro e W4 ⟨rfl, hb9⟩
                have hp0 := HP0.out.below hb9 HP0.out.lt
                have hp1 := HP1.out.below hb9 HP1.out.lt
                have hb := HB.out.trans (hb9.mono HB.out.size)
                clear hb9 HB HP0 HP1 a0 a1 s0 s1 s2 s3 s4 s5
                have HB := Lib.hid hb
                have HP0 := Lib.hid hp0
                have HP1 := Lib.hid hp1
                clear hb hp0 hp1
                have a0 : W4.cell? ⟨w.heap.size, 0, none⟩ = some (.slice N names.length c1) := HP0.out.cell 0
                have a1 : W4.cell? ⟨w.heap.size, 1, none⟩ = some (.slice U up.length c2) := HP0.out.cell 1
                have s0 : W4.cell? ⟨w.heap.size + 1, 0, none⟩ = some (.int .i64 pv) := HP1.out.cell 0
                have s1 : W4.cell? ⟨w.heap.size + 1, 1, none⟩ = some (.int .i64 pl) := HP1.out.cell 1
                have s2 : W4.cell? ⟨w.heap.size + 1, 2, none⟩ = some (.slice cA code.length cc) := HP1.out.cell 2
                have s3 : W4.cell? ⟨w.heap.size + 1, 3, none⟩ = some (.slice mA mem.length mc) := HP1.out.cell 3
                have s4 : W4.cell? ⟨w.heap.size + 1, 4, none⟩ = some (.slice sA stack.length sc) := HP1.out.cell 4
                have s5 : W4.cell? ⟨w.heap.size + 1, 5, none⟩ = some (.slice oA out.length oc) := HP1.out.cell 5
                go_wp2
                go_ret
                exact ⟨rfl, HB.out⟩
              | true =>
                rw [Bool.true_and]
                cases b5 with
                | false =>
                  rw [Bool.false_and]
                  go_enter Tryz.func23, Tryz.ntmps23
                  go_wp2_with (fail)
                  refine (HC1.out W0 HB.out).mono ?_
                  rintro e W1 ⟨rfl, hb9⟩
                  have hp0 := HP0.out.below hb9 HP0.out.lt
                  have hp1 := HP1.out.below hb9 HP1.out.lt
                  have hb := HB.out.trans (hb9.mono HB.out.size)
                  clear hb9 HB HP0 HP1 a0 a1 s0 s1 s2 s3 s4 s5
                  have HB := Lib.hid hb
                  have HP0 := Lib.hid hp0
                  have HP1 := Lib.hid hp1
                  clear hb hp0 hp1
                  have a0 : W1.cell? ⟨w.heap.size, 0, none⟩ = some (.slice N names.length c1) := HP0.out.cell 0
                  have a1 : W1.cell? ⟨w.heap.size, 1, none⟩ = some (.slice U up.length c2) := HP0.out.cell 1
                  have s0 : W1.cell? ⟨w.heap.size + 1, 0, none⟩ = some (.int .i64 pv) := HP1.out.cell 0
                  have s1 : W1.cell? ⟨w.heap.size + 1, 1, none⟩ = some (.int .i64 pl) := HP1.out.cell 1
                  have s2 : W1.cell? ⟨w.heap.size + 1, 2, none⟩ = some (.slice cA code.length cc) := HP1.out.cell 2
                  have s3 : W1.cell? ⟨w.heap.size + 1, 3, none⟩ = some (.slice mA mem.length mc) := HP1.out.cell 3
                  have s4 : W1.cell? ⟨w.heap.size + 1, 4, none⟩ = some (.slice sA stack.length sc) := HP1.out.cell 4
                  have s5 : W1.cell? ⟨w.heap.size + 1, 5, none⟩ = some (.slice oA out.length oc) := HP1.out.cell 5
                  go_wp2_with (fail)
                  refine (HC2.out W1 HB.out).mono ?_
                  rintro e W2 ⟨rfl, hb9⟩
                  have hp0 := HP0.out.below hb9 HP0.out.lt
                  have hp1 := HP1.out.below hb9 HP1.out.lt
                  have hb := HB.out.trans (hb9.mono HB.out.size)
                  clear hb9 HB HP0 HP1 a0 a1 s0 s1 s2 s3 s4 s5
                  have HB := Lib.hid hb
                  have HP0 := Lib.hid hp0
                  have HP1 := Lib.hid hp1
                  clear hb hp0 hp1
                  have a0 : W2.cell? ⟨w.heap.size, 0, none⟩ = some (.slice N names.length c1) := HP0.out.cell 0
                  have a1 : W2.cell? ⟨w.heap.size, 1, none⟩ = some (.slice U up.length c2) := HP0.out.cell 1
                  have s0 : W2.cell? ⟨w.heap.size + 1, 0, none⟩ = some (.int .i64 pv) := HP1.out.cell 0
                  have s1 : W2.cell? ⟨w.heap.size + 1, 1, none⟩ = some (.int .i64 pl) := HP1.out.cell 1
                  have s2 : W2.cell? ⟨w.heap.size + 1, 2, none⟩ = some (.slice cA code.length cc) := HP1.out.cell 2
                  have s3 : W2.cell? ⟨w.heap.size + 1, 3, none⟩ = some (.slice mA mem.length mc) := HP1.out.cell 3
                  have s4 : W2.cell? ⟨w.heap.size + 1, 4, none⟩ = some (.slice sA stack.length sc) := HP1.out.cell 4
                  have s5 : W2.cell? ⟨w.heap.size + 1, 5, none⟩ = some (.slice oA out.length oc) := HP1.out.cell 5
                  go_wp2_with (fail)
                  refine (HC3.out W2 HB.out).mono ?_
                  rintro e W3 ⟨rfl, hb9⟩
                  have hp0 := HP0.out.below hb9 HP0.out.lt
                  have hp1 := HP1.out.below hb9 HP1.out.lt
                  have hb := HB.out.trans (hb9.mono HB.out.size)
                  clear hb9 HB HP0 HP1 a0 a1 s0 s1 s2 s3 s4 s5
                  have HB := Lib.hid hb
                  have HP0 := Lib.hid hp0
                  have HP1 := Lib.hid hp1
                  clear hb hp0 hp1
                  have a0 : W3.cell? ⟨w.heap.size, 0, none⟩ = some (.slice N names.length c1) := HP0.out.cell 0
                  have a1 : W3.cell? ⟨w.heap.size, 1, none⟩ = some (.slice U up.length c2) := HP0.out.cell 1
                  have s0 : W3.cell? ⟨w.heap.size + 1, 0, none⟩ = some (.int .i64 pv) := HP1.out.cell 0
                  have s1 : W3.cell? ⟨w.heap.size + 1, 1, none⟩ = some (.int .i64 pl) := HP1.out.cell 1
                  have s2 : W3.cell? ⟨w.heap.size + 1, 2, none⟩ = some (.slice cA code.length cc) := HP1.out.cell 2
                  have s3 : W3.cell? ⟨w.heap.size + 1, 3, none⟩ = some (.slice mA mem.length mc) := HP1.out.cell 3
                  have s4 : W3.cell? ⟨w.heap.size + 1, 4, none⟩ = some (.slice sA stack.length sc) := HP1.out.cell 4
                  have s5 : W3.cell? ⟨w.heap.size + 1, 5, none⟩ = some (.slice oA out.length oc) := HP1.out.cell 5
                  go_wp2_with (fail)
                  refine (HC4.out W3 HB.out).mono ?_
                  rintro e W4 ⟨rfl, hb9⟩
                  have hp0 := HP0.out.below hb9 HP0.out.lt
                  have hp1 := HP1.out.below hb9 HP1.out.lt
                  have hb := HB.out.trans (hb9.mono HB.out.size)
                  clear hb9 HB HP0 HP1 a0 a1 s0 s1 s2 s3 s4 s5
                  have HB := Lib.hid hb
                  have HP0 := Lib.hid hp0
                  have HP1 := Lib.hid hp1
                  clear hb hp0 hp1
                  have a0 : W4.cell? ⟨w.heap.size, 0, none⟩ = some (.slice N names.length c1) := HP0.out.cell 0
                  have a1 : W4.cell? ⟨w.heap.size, 1, none⟩ = some (.slice U up.length c2) := HP0.out.cell 1
                  have s0 : W4.cell? ⟨w.heap.size + 1, 0, none⟩ = some (.int .i64 pv) := HP1.out.cell 0
                  have s1 : W4.cell? ⟨w.heap.size + 1, 1, none⟩ = some (.int .i64 pl) := HP1.out.cell 1
                  have s2 : W4.cell? ⟨w.heap.size + 1, 2, none⟩ = some (.slice cA code.length cc) := HP1.out.cell 2
                  have s3 : W4.cell? ⟨w.heap.size + 1, 3, none⟩ = some (.slice mA mem.length mc) := HP1.out.cell 3
                  have s4 : W4.cell? ⟨w.heap.size + 1, 4, none⟩ = some (.slice sA stack.length sc) := HP1.out.cell 4
                  have s5 : W4.cell? ⟨w.heap.size + 1, 5, none⟩ = some (.slice oA out.length oc) := HP1.out.cell 5
                  go_wp2_with (fail)
                  refine (HC5.out W4 HB.out).mono ?_
                  rintro e W5 ⟨rfl, hb9⟩
                  have hp0 := HP0.out.below hb9 HP0.out.lt
                  have hp1 := HP1.out.below hb9 HP1.out.lt
                  have hb := HB.out.trans (hb9.mono HB.out.size)
                  clear hb9 HB HP0 HP1 a0 a1 s0 s1 s2 s3 s4 s5
                  have HB := Lib.hid hb
                  have HP0 := Lib.hid hp0
                  have HP1 := Lib.hid hp1
                  clear hb hp0 hp1
                  have a0 : W5.cell? ⟨w.heap.size, 0, none⟩ = some (.slice N names.length c1) := HP0.out.cell 0
                  have a1 : W5.cell? ⟨w.heap.size, 1, none⟩ = some (.slice U up.length c2) := HP0.out.cell 1
                  have s0 : W5.cell? ⟨w.heap.size + 1, 0, none⟩ = some (.int .i64 pv) := HP1.out.cell 0
                  have s1 : W5.cell? ⟨w.heap.size + 1, 1, none⟩ = some (.int .i64 pl) := HP1.out.cell 1
                  have s2 : W5.cell? ⟨w.heap.size + 1, 2, none⟩ = some (.slice cA code.length cc) := HP1.out.cell 2
                  have s3 : W5.cell? ⟨w.heap.size + 1, 3, none⟩ = some (.slice mA mem.length mc) := HP1.out.cell 3
                  have s4 : W5.cell? ⟨w.heap.size + 1, 4, none⟩ = some (.slice sA stack.length sc) := HP1.out.cell 4
                  have s5 : W5.cell? ⟨w.heap.size + 1, 5, none⟩ = some (.slice oA out.length oc) := HP1.out.cell 5
                  go_wp2
                  go_ret
                  exact ⟨rfl, HB.out⟩
                | true =>
                  rw [Bool.true_and]
                  by_cases k8 : out.length ≤ 8
                  · rw [decide_eq_true k8]
                    have k8i : ((out.length : Int) ≤ 8) = True := eq_true (by omega)
                    go_enter Tryz.func23, Tryz.ntmps23
                    go_wp2_with (fail)
                    refine (HC1.out W0 HB.out).mono ?_
                    rintro e W1 ⟨rfl, hb9⟩
                    have hp0 := HP0.out.below hb9 HP0.out.lt
                    have hp1 := HP1.out.below hb9 HP1.out.lt
                    have hb := HB.out.trans (hb9.mono HB.out.size)
                    clear hb9 HB HP0 HP1 a0 a1 s0 s1 s2 s3 s4 s5
                    have HB := Lib.hid hb
                    have HP0 := Lib.hid hp0
                    have HP1 := Lib.hid hp1
                    clear hb hp0 hp1
                    have a0 : W1.cell? ⟨w.heap.size, 0, none⟩ = some (.slice N names.length c1) := HP0.out.cell 0
                    have a1 : W1.cell? ⟨w.heap.size, 1, none⟩ = some (.slice U up.length c2) := HP0.out.cell 1
                    have s0 : W1.cell? ⟨w.heap.size + 1, 0, none⟩ = some (.int .i64 pv) := HP1.out.cell 0
                    have s1 : W1.cell? ⟨w.heap.size + 1, 1, none⟩ = some (.int .i64 pl) := HP1.out.cell 1
                    have s2 : W1.cell? ⟨w.heap.size + 1, 2, none⟩ = some (.slice cA code.length cc) := HP1.out.cell 2
                    have s3 : W1.cell? ⟨w.heap.size + 1, 3, none⟩ = some (.slice mA mem.length mc) := HP1.out.cell 3
                    have s4 : W1.cell? ⟨w.heap.size + 1, 4, none⟩ = some (.slice sA stack.length sc) := HP1.out.cell 4
                    have s5 : W1.cell? ⟨w.heap.size + 1, 5, none⟩ = some (.slice oA out.length oc) := HP1.out.cell 5
                    go_wp2_with (fail)
                    refine (HC2.out W1 HB.out).mono ?_
                    rintro e W2 ⟨rfl, hb9⟩
                    have hp0 := HP0.out.below hb9 HP0.out.lt
                    have hp1 := HP1.out.below hb9 HP1.out.lt
                    have hb := HB.out.trans (hb9.mono HB.out.size)
                    clear hb9 HB HP0 HP1 a0 a1 s0 s1 s2 s3 s4 s5
                    have HB := Lib.hid hb
                    have HP0 := Lib.hid hp0
                    have HP1 := Lib.hid hp1
                    clear hb hp0 hp1
                    have a0 : W2.cell? ⟨w.heap.size, 0, none⟩ = some (.slice N names.length c1) := HP0.out.cell 0
                    have a1 : W2.cell? ⟨w.heap.size, 1, none⟩ = some (.slice U up.length c2) := HP0.out.cell 1
                    have s0 : W2.cell? ⟨w.heap.size + 1, 0, none⟩ = some (.int .i64 pv) := HP1.out.cell 0
                    have s1 : W2.cell? ⟨w.heap.size + 1, 1, none⟩ = some (.int .i64 pl) := HP1.out.cell 1
                    have s2 : W2.cell? ⟨w.heap.size + 1, 2, none⟩ = some (.slice cA code.length cc) := HP1.out.cell 2
                    have s3 : W2.cell? ⟨w.heap.size + 1, 3, none⟩ = some (.slice mA mem.length mc) := HP1.out.cell 3
                    have s4 : W2.cell? ⟨w.heap.size + 1, 4, none⟩ = some (.slice sA stack.length sc) := HP1.out.cell 4
                    have s5 : W2.cell? ⟨w.heap.size + 1, 5, none⟩ = some (.slice oA out.length oc) := HP1.out.cell 5
                    go_wp2_with (fail)
                    refine (HC3.out W2 HB.out).mono ?_
                    rintro e W3 ⟨rfl, hb9⟩
                    have hp0 := HP0.out.below hb9 HP0.out.lt
                    have hp1 := HP1.out.below hb9 HP1.out.lt
                    have hb := HB.out.trans (hb9.mono HB.out.size)
                    clear hb9 HB HP0 HP1 a0 a1 s0 s1 s2 s3 s4 s5
                    have HB := Lib.hid hb
                    have HP0 := Lib.hid hp0
                    have HP1 := Lib.hid hp1
                    clear hb hp0 hp1
                    have a0 : W3.cell? ⟨w.heap.size, 0, none⟩ = some (.slice N names.length c1) := HP0.out.cell 0
                    have a1 : W3.cell? ⟨w.heap.size, 1, none⟩ = some (.slice U up.length c2) := HP0.out.cell 1
                    have s0 : W3.cell? ⟨w.heap.size + 1, 0, none⟩ = some (.int .i64 pv) := HP1.out.cell 0
                    have s1 : W3.cell? ⟨w.heap.size + 1, 1, none⟩ = some (.int .i64 pl) := HP1.out.cell 1
                    have s2 : W3.cell? ⟨w.heap.size + 1, 2, none⟩ = some (.slice cA code.length cc) := HP1.out.cell 2
                    have s3 : W3.cell? ⟨w.heap.size + 1, 3, none⟩ = some (.slice mA mem.length mc) := HP1.out.cell 3
                    have s4 : W3.cell? ⟨w.heap.size + 1, 4, none⟩ = some (.slice sA stack.length sc) := HP1.out.cell 4
                    have s5 : W3.cell? ⟨w.heap.size + 1, 5, none⟩ = some (.slice oA out.length oc) := HP1.out.cell 5
                    go_wp2_with (fail)
                    refine (HC4.out W3 HB.out).mono ?_
                    rintro e W4 ⟨rfl, hb9⟩
                    have hp0 := HP0.out.below hb9 HP0.out.lt
                    have hp1 := HP1.out.below hb9 HP1.out.lt
                    have hb := HB.out.trans (hb9.mono HB.out.size)
                    clear hb9 HB HP0 HP1 a0 a1 s0 s1 s2 s3 s4 s5
                    have HB := Lib.hid hb
                    have HP0 := Lib.hid hp0
                    have HP1 := Lib.hid hp1
                    clear hb hp0 hp1
                    have a0 : W4.cell? ⟨w.heap.size, 0, none⟩ = some (.slice N names.length c1) := HP0.out.cell 0
                    have a1 : W4.cell? ⟨w.heap.size, 1, none⟩ = some (.slice U up.length c2) := HP0.out.cell 1
                    have s0 : W4.cell? ⟨w.heap.size + 1, 0, none⟩ = some (.int .i64 pv) := HP1.out.cell 0
                    have s1 : W4.cell? ⟨w.heap.size + 1, 1, none⟩ = some (.int .i64 pl) := HP1.out.cell 1
                    have s2 : W4.cell? ⟨w.heap.size + 1, 2, none⟩ = some (.slice cA code.length cc) := HP1.out.cell 2
                    have s3 : W4.cell? ⟨w.heap.size + 1, 3, none⟩ = some (.slice mA mem.length mc) := HP1.out.cell 3
                    have s4 : W4.cell? ⟨w.heap.size + 1, 4, none⟩ = some (.slice sA stack.length sc) := HP1.out.cell 4
                    have s5 : W4.cell? ⟨w.heap.size + 1, 5, none⟩ = some (.slice oA out.length oc) := HP1.out.cell 5
                    go_wp2_with (fail)
                    refine (HC5.out W4 HB.out).mono ?_
                    rintro e W5 ⟨rfl, hb9⟩
                    have hp0 := HP0.out.below hb9 HP0.out.lt
                    have hp1 := HP1.out.below hb9 HP1.out.lt
                    have hb := HB.out.trans (hb9.mono HB.out.size)
                    clear hb9 HB HP0 HP1 a0 a1 s0 s1 s2 s3 s4 s5
                    have HB := Lib.hid hb
                    have HP0 := Lib.hid hp0
                    have HP1 := Lib.hid hp1
                    clear hb hp0 hp1
                    have a0 : W5.cell? ⟨w.heap.size, 0, none⟩ = some (.slice N names.length c1) := HP0.out.cell 0
                    have a1 : W5.cell? ⟨w.heap.size, 1, none⟩ = some (.slice U up.length c2) := HP0.out.cell 1
                    have s0 : W5.cell? ⟨w.heap.size + 1, 0, none⟩ = some (.int .i64 pv) := HP1.out.cell 0
                    have s1 : W5.cell? ⟨w.heap.size + 1, 1, none⟩ = some (.int .i64 pl) := HP1.out.cell 1
                    have s2 : W5.cell? ⟨w.heap.size + 1, 2, none⟩ = some (.slice cA code.length cc) := HP1.out.cell 2
                    have s3 : W5.cell? ⟨w.heap.size + 1, 3, none⟩ = some (.slice mA mem.length mc) := HP1.out.cell 3
                    have s4 : W5.cell? ⟨w.heap.size + 1, 4, none⟩ = some (.slice sA stack.length sc) := HP1.out.cell 4
                    have s5 : W5.cell? ⟨w.heap.size + 1, 5, none⟩ = some (.slice oA out.length oc) := HP1.out.cell 5
                    go_wp2
                    go_ret
                    exact ⟨rfl, HB.out⟩
                  · rw [decide_eq_false k8]
                    have k8i : ((out.length : Int) ≤ 8) = False := eq_false (by omega)
                    go_enter Tryz.func23, Tryz.ntmps23
                    go_wp2_with (fail)
                    refine (HC1.out W0 HB.out).mono ?_
                    rintro e W1 ⟨rfl, hb9⟩
                    have hp0 := HP0.out.below hb9 HP0.out.lt
                    have hp1 := HP1.out.below hb9 HP1.out.lt
                    have hb := HB.out.trans (hb9.mono HB.out.size)
                    clear hb9 HB HP0 HP1 a0 a1 s0 s1 s2 s3 s4 s5
                    have HB := Lib.hid hb
                    have HP0 := Lib.hid hp0
                    have HP1 := Lib.hid hp1
                    clear hb hp0 hp1
                    have a0 : W1.cell? ⟨w.heap.size, 0, none⟩ = some (.slice N names.length c1) := HP0.out.cell 0
                    have a1 : W1.cell? ⟨w.heap.size, 1, none⟩ = some (.slice U up.length c2) := HP0.out.cell 1
                    have s0 : W1.cell? ⟨w.heap.size + 1, 0, none⟩ = some (.int .i64 pv) := HP1.out.cell 0
                    have s1 : W1.cell? ⟨w.heap.size + 1, 1, none⟩ = some (.int .i64 pl) := HP1.out.cell 1
                    have s2 : W1.cell? ⟨w.heap.size + 1, 2, none⟩ = some (.slice cA code.length cc) := HP1.out.cell 2
                    have s3 : W1.cell? ⟨w.heap.size + 1, 3, none⟩ = some (.slice mA mem.length mc) := HP1.out.cell 3
                    have s4 : W1.cell? ⟨w.heap.size + 1, 4, none⟩ = some (.slice sA stack.length sc) := HP1.out.cell 4
                    have s5 : W1.cell? ⟨w.heap.size + 1, 5, none⟩ = some (.slice oA out.length oc) := HP1.out.cell 5
                    go_wp2_with (fail)
                    refine (HC2.out W1 HB.out).mono ?_
                    rintro e W2 ⟨rfl, hb9⟩
                    have hp0 := HP0.out.below hb9 HP0.out.lt
                    have hp1 := HP1.out.below hb9 HP1.out.lt
                    have hb := HB.out.trans (hb9.mono HB.out.size)
                    clear hb9 HB HP0 HP1 a0 a1 s0 s1 s2 s3 s4 s5
                    have HB := Lib.hid hb
                    have HP0 := Lib.hid hp0
                    have HP1 := Lib.hid hp1
                    clear hb hp0 hp1
                    have a0 : W2.cell? ⟨w.heap.size, 0, none⟩ = some (.slice N names.length c1) := HP0.out.cell 0
                    have a1 : W2.cell? ⟨w.heap.size, 1, none⟩ = some (.slice U up.length c2) := HP0.out.cell 1
                    have s0 : W2.cell? ⟨w.heap.size + 1, 0, none⟩ = some (.int .i64 pv) := HP1.out.cell 0
                    have s1 : W2.cell? ⟨w.heap.size + 1, 1, none⟩ = some (.int .i64 pl) := HP1.out.cell 1
                    have s2 : W2.cell? ⟨w.heap.size + 1, 2, none⟩ = some (.slice cA code.length cc) := HP1.out.cell 2
                    have s3 : W2.cell? ⟨w.heap.size + 1, 3, none⟩ = some (.slice mA mem.length mc) := HP1.out.cell 3
                    have s4 : W2.cell? ⟨w.heap.size + 1, 4, none⟩ = some (.slice sA stack.length sc) := HP1.out.cell 4
                    have s5 : W2.cell? ⟨w.heap.size + 1, 5, none⟩ = some (.slice oA out.length oc) := HP1.out.cell 5
                    go_wp2_with (fail)
                    refine (HC3.out W2 HB.out).mono ?_
                    rintro e W3 ⟨rfl, hb9⟩
                    have hp0 := HP0.out.below hb9 HP0.out.lt
                    have hp1 := HP1.out.below hb9 HP1.out.lt
                    have hb := HB.out.trans (hb9.mono HB.out.size)
                    clear hb9 HB HP0 HP1 a0 a1 s0 s1 s2 s3 s4 s5
                    have HB := Lib.hid hb
                    have HP0 := Lib.hid hp0
                    have HP1 := Lib.hid hp1
                    clear hb hp0 hp1
                    have a0 : W3.cell? ⟨w.heap.size, 0, none⟩ = some (.slice N names.length c1) := HP0.out.cell 0
                    have a1 : W3.cell? ⟨w.heap.size, 1, none⟩ = some (.slice U up.length c2) := HP0.out.cell 1
                    have s0 : W3.cell? ⟨w.heap.size + 1, 0, none⟩ = some (.int .i64 pv) := HP1.out.cell 0
                    have s1 : W3.cell? ⟨w.heap.size + 1, 1, none⟩ = some (.int .i64 pl) := HP1.out.cell 1
                    have s2 : W3.cell? ⟨w.heap.size + 1, 2, none⟩ = some (.slice cA code.length cc) := HP1.out.cell 2
                    have s3 : W3.cell? ⟨w.heap.size + 1, 3, none⟩ = some (.slice mA mem.length mc) := HP1.out.cell 3
                    have s4 : W3.cell? ⟨w.heap.size + 1, 4, none⟩ = some (.slice sA stack.length sc) := HP1.out.cell 4
                    have s5 : W3.cell? ⟨w.heap.size + 1, 5, none⟩ = some (.slice oA out.length oc) := HP1.out.cell 5
                    go_wp2_with (fail)
                    refine (HC4.out W3 HB.out).mono ?_
                    rintro e W4 ⟨rfl, hb9⟩
                    have hp0 := HP0.out.below hb9 HP0.out.lt
                    have hp1 := HP1.out.below hb9 HP1.out.lt
                    have hb := HB.out.trans (hb9.mono HB.out.size)
                    clear hb9 HB HP0 HP1 a0 a1 s0 s1 s2 s3 s4 s5
                    have HB := Lib.hid hb
                    have HP0 := Lib.hid hp0
                    have HP1 := Lib.hid hp1
                    clear hb hp0 hp1
                    have a0 : W4.cell? ⟨w.heap.size, 0, none⟩ = some (.slice N names.length c1) := HP0.out.cell 0
                    have a1 : W4.cell? ⟨w.heap.size, 1, none⟩ = some (.slice U up.length c2) := HP0.out.cell 1
                    have s0 : W4.cell? ⟨w.heap.size + 1, 0, none⟩ = some (.int .i64 pv) := HP1.out.cell 0
                    have s1 : W4.cell? ⟨w.heap.size + 1, 1, none⟩ = some (.int .i64 pl) := HP1.out.cell 1
                    have s2 : W4.cell? ⟨w.heap.size + 1, 2, none⟩ = some (.slice cA code.length cc) := HP1.out.cell 2
                    have s3 : W4.cell? ⟨w.heap.size + 1, 3, none⟩ = some (.slice mA mem.length mc) := HP1.out.cell 3
                    have s4 : W4.cell? ⟨w.heap.size + 1, 4, none⟩ = some (.slice sA stack.length sc) := HP1.out.cell 4
                    have s5 : W4.cell? ⟨w.heap.size + 1, 5, none⟩ = some (.slice oA out.length oc) := HP1.out.cell 5
                    go_wp2_with (fail)
                    refine (HC5.out W4 HB.out).mono ?_
                    rintro e W5 ⟨rfl, hb9⟩
                    have hp0 := HP0.out.below hb9 HP0.out.lt
                    have hp1 := HP1.out.below hb9 HP1.out.lt
                    have hb := HB.out.trans (hb9.mono HB.out.size)
                    clear hb9 HB HP0 HP1 a0 a1 s0 s1 s2 s3 s4 s5
                    have HB := Lib.hid hb
                    have HP0 := Lib.hid hp0
                    have HP1 := Lib.hid hp1
                    clear hb hp0 hp1
                    have a0 : W5.cell? ⟨w.heap.size, 0, none⟩ = some (.slice N names.length c1) := HP0.out.cell 0
                    have a1 : W5.cell? ⟨w.heap.size, 1, none⟩ = some (.slice U up.length c2) := HP0.out.cell 1
                    have s0 : W5.cell? ⟨w.heap.size + 1, 0, none⟩ = some (.int .i64 pv) := HP1.out.cell 0
                    have s1 : W5.cell? ⟨w.heap.size + 1, 1, none⟩ = some (.int .i64 pl) := HP1.out.cell 1
                    have s2 : W5.cell? ⟨w.heap.size + 1, 2, none⟩ = some (.slice cA code.length cc) := HP1.out.cell 2
                    have s3 : W5.cell? ⟨w.heap.size + 1, 3, none⟩ = some (.slice mA mem.length mc) := HP1.out.cell 3
                    have s4 : W5.cell? ⟨w.heap.size + 1, 4, none⟩ = some (.slice sA stack.length sc) := HP1.out.cell 4
                    have s5 : W5.cell? ⟨w.heap.size + 1, 5, none⟩ = some (.slice oA out.length oc) := HP1.out.cell 5
                    go_wp2
                    go_ret
                    exact ⟨rfl, HB.out⟩
            · rw [decide_eq_false k6, Bool.false_and]
              go_enter Tryz.func23, Tryz.ntmps23
              go_wp2_with (fail)
              refine (HC1.out W0 HB.out).mono ?_
              rintro e W1 ⟨rfl, hb9⟩
              have hp0 := HP0.out.below hb9 HP0.out.lt
              have hp1 := HP1.out.below hb9 HP1.out.lt
              have hb := HB.out.trans (hb9.mono HB.out.size)
              clear hb9 HB HP0 HP1 a0 a1 s0 s1 s2 s3 s4 s5
              have HB := Lib.hid hb
              have HP0 := Lib.hid hp0
              have HP1 := Lib.hid hp1
              clear hb hp0 hp1
              have a0 : W1.cell? ⟨w.heap.size, 0, none⟩ = some (.slice N names.length c1) := HP0.out.cell 0
              have a1 : W1.cell? ⟨w.heap.size, 1, none⟩ = some (.slice U up.length c2) := HP0.out.cell 1
              have s0 : W1.cell? ⟨w.heap.size + 1, 0, none⟩ = some (.int .i64 pv) := HP1.out.cell 0
              have s1 : W1.cell? ⟨w.heap.size + 1, 1, none⟩ = some (.int .i64 pl) := HP1.out.cell 1
              have s2 : W1.cell? ⟨w.heap.size + 1, 2, none⟩ = some (.slice cA code.length cc) := HP1.out.cell 2
              have s3 : W1.cell? ⟨w.heap.size + 1, 3, none⟩ = some (.slice mA mem.length mc) := HP1.out.cell 3
              have s4 : W1.cell? ⟨w.heap.size + 1, 4, none⟩ = some (.slice sA stack.length sc) := HP1.out.cell 4
              have s5 : W1.cell? ⟨w.heap.size + 1, 5, none⟩ = some (.slice oA out.length oc) := HP1.out.cell 5
              go_wp2_with (fail)
              refine (HC2.out W1 HB.out).mono ?_
              rintro e W2 ⟨rfl, hb9⟩
              have hp0 := HP0.out.below hb9 HP0.out.lt
              have hp1 := HP1.out.below hb9 HP1.out.lt
              have hb := HB.out.trans (hb9.mono HB.out.size)
              clear hb9 HB HP0 HP1 a0 a1 s0 s1 s2 s3 s4 s5
              have HB := Lib.hid hb
              have HP0 := Lib.hid hp0
              have HP1 := Lib.hid hp1
              clear hb hp0 hp1
              have a0 : W2.cell? ⟨w.heap.size, 0, none⟩ = some (.slice N names.length c1) := HP0.out.cell 0
              have a1 : W2.cell? ⟨w.heap.size, 1, none⟩ = some (.slice U up.length c2) := HP0.out.cell 1
              have s0 : W2.cell? ⟨w.heap.size + 1, 0, none⟩ = some (.int .i64 pv) := HP1.out.cell 0
              have s1 : W2.cell? ⟨w.heap.size + 1, 1, none⟩ = some (.int .i64 pl) := HP1.out.cell 1
              have s2 : W2.cell? ⟨w.heap.size + 1, 2, none⟩ = some (.slice cA code.length cc) := HP1.out.cell 2
              have s3 : W2.cell? ⟨w.heap.size + 1, 3, none⟩ = some (.slice mA mem.length mc) := HP1.out.cell 3
              have s4 : W2.cell? ⟨w.heap.size + 1, 4, none⟩ = some (.slice sA stack.length sc) := HP1.out.cell 4
              have s5 : W2.cell? ⟨w.heap.size + 1, 5, none⟩ = some (.slice oA out.length oc) := HP1.out.cell 5
              go_wp2_with (fail)
              refine (HC3.out W2 HB.out).mono ?_
              rintro e W3 ⟨rfl, hb9⟩
              have hp0 := HP0.out.below hb9 HP0.out.lt
              have hp1 := HP1.out.below hb9 HP1.out.lt
              have hb := HB.out.trans (hb9.mono HB.out.size)
              clear hb9 HB HP0 HP1 a0 a1 s0 s1 s2 s3 s4 s5
              have HB := Lib.hid hb
              have HP0 := Lib.hid hp0
              have HP1 := Lib.hid hp1
              clear hb hp0 hp1
              have a0 : W3.cell? ⟨w.heap.size, 0, none⟩ = some (.slice N names.length c1) := HP0.out.cell 0
              have a1 : W3.cell? ⟨w.heap.size, 1, none⟩ = some (.slice U up.length c2) := HP0.out.cell 1
              have s0 : W3.cell? ⟨w.heap.size + 1, 0, none⟩ = some (.int .i64 pv) := HP1.out.cell 0
              have s1 : W3.cell? ⟨w.heap.size + 1, 1, none⟩ = some (.int .i64 pl) := HP1.out.cell 1
              have s2 : W3.cell? ⟨w.heap.size + 1, 2, none⟩ = some (.slice cA code.length cc) := HP1.out.cell 2
              have s3 : W3.cell? ⟨w.heap.size + 1, 3, none⟩ = some (.slice mA mem.length mc) := HP1.out.cell 3
              have s4 : W3.cell? ⟨w.heap.size + 1, 4, none⟩ = some (.slice sA stack.length sc) := HP1.out.cell 4
              have s5 : W3.cell? ⟨w.heap.size + 1, 5, none⟩ = some (.slice oA out.length oc) := HP1.out.cell 5
              go_wp2
              go_ret
              exact ⟨rfl, HB.out⟩
      · rw [decide_eq_false k12, Bool.false_and]
        go_enter Tryz.func23, Tryz.ntmps23
        go_wp2_with (fail)
        refine (HC1.out W0 HB.out).mono ?_
        rintro e W1 ⟨rfl, hb9⟩
        have hp0 := HP0.out.below hb9 HP0.out.lt
        have hp1 := HP1.out.below hb9 HP1.out.lt
        have hb := HB.out.trans (hb9.mono HB.out.size)
        clear hb9 HB HP0 HP1 a0 a1 s0 s1 s2 s3 s4 s5
        have HB := Lib.hid hb
        have HP0 := Lib.hid hp0
        have HP1 := Lib.hid hp1
        clear hb hp0 hp1
        have a0 : W1.cell? ⟨w.heap.size, 0, none⟩ = some (.slice N names.length c1) := HP0.out.cell 0
        have a1 : W1.cell? ⟨w.heap.size, 1, none⟩ = some (.slice U up.length c2) := HP0.out.cell 1
        have s0 : W1.cell? ⟨w.heap.size + 1, 0, none⟩ = some (.int .i64 pv) := HP1.out.cell 0
        have s1 : W1.cell? ⟨w.heap.size + 1, 1, none⟩ = some (.int .i64 pl) := HP1.out.cell 1
        have s2 : W1.cell? ⟨w.heap.size + 1, 2, none⟩ = some (.slice cA code.length cc) := HP1.out.cell 2
        have s3 : W1.cell? ⟨w.heap.size + 1, 3, none⟩ = some (.slice mA mem.length mc) := HP1.out.cell 3
        have s4 : W1.cell? ⟨w.heap.size + 1, 4, none⟩ = some (.slice sA stack.length sc) := HP1.out.cell 4
        have s5 : W1.cell? ⟨w.heap.size + 1, 5, none⟩ = some (.slice oA out.length oc) := HP1.out.cell 5
        go_wp2
        go_ret
        exact ⟨rfl, HB.out⟩
    · rw [decide_eq_false k0, Bool.false_and]
      go_enter Tryz.func23, Tryz.ntmps23
      go_wp2_with (fail)
      refine (HC1.out W0 HB.out).mono ?_
      rintro e W1 ⟨rfl, hb9⟩
      have hp0 := HP0.out.below hb9 HP0.out.lt
      have hp1 := HP1.out.below hb9 HP1.out.lt
      have hb := HB.out.trans (hb9.mono HB.out.size)
      clear hb9 HB HP0 HP1 a0 a1 s0 s1 s2 s3 s4 s5
      have HB := Lib.hid hb
      have HP0 := Lib.hid hp0
      have HP1 := Lib.hid hp1
      clear hb hp0 hp1
      have a0 : W1.cell? ⟨w.heap.size, 0, none⟩ = some (.slice N names.length c1) := HP0.out.cell 0
      have a1 : W1.cell? ⟨w.heap.size, 1, none⟩ = some (.slice U up.length c2) := HP0.out.cell 1
      have s0 : W1.cell? ⟨w.heap.size + 1, 0, none⟩ = some (.int .i64 pv) := HP1.out.cell 0
      have s1 : W1.cell? ⟨w.heap.size + 1, 1, none⟩ = some (.int .i64 pl) := HP1.out.cell 1
      have s2 : W1.cell? ⟨w.heap.size + 1, 2, none⟩ = some (.slice cA code.length cc) := HP1.out.cell 2
      have s3 : W1.cell? ⟨w.heap.size + 1, 3, none⟩ = some (.slice mA mem.length mc) := HP1.out.cell 3
      have s4 : W1.cell? ⟨w.heap.size + 1, 4, none⟩ = some (.slice sA stack.length sc) := HP1.out.cell 4
      have s5 : W1.cell? ⟨w.heap.size + 1, 5, none⟩ = some (.slice oA out.length oc) := HP1.out.cell 5
      go_wp2
      go_ret
      exact ⟨rfl, HB.out⟩
end Go.Proofs.YtmbgndcahlopdaaGreat

/- Walks of state's atom, slot, pc, program (by gen_stmb.py). -/
namespace Go.Proofs.YtmbgndcahlopdaaGreat
set_option maxRecDepth 100000
open Go.RowKit Go.Shelf Go.Sort
attribute [local go_sem] Oper.semAt_some
end Go.Proofs.YtmbgndcahlopdaaGreat

/- Walk of state's program. -/
namespace Go.Proofs.YtmbgndcahlopdaaGreat
set_option maxRecDepth 100000
open Go.RowKit Go.Shelf Go.Sort
attribute [local go_sem] Oper.semAt_some
end Go.Proofs.YtmbgndcahlopdaaGreat

/- Walks of state's row, of atoms and of slots (by gen_stmd.py). -/
namespace Go.Proofs.YtmbgndcahlopdaaGreat
set_option maxRecDepth 100000
open Go.RowKit Go.Shelf Go.Sort
attribute [local go_sem] Oper.semAt_some
/-! The rows, plain, from a loop's head. -/
end Go.Proofs.YtmbgndcahlopdaaGreat

/- Walk of state's state (by gen_stme.py). -/
namespace Go.Proofs.YtmbgndcahlopdaaGreat
set_option maxRecDepth 100000
open Go.RowKit Go.Shelf Go.Sort
attribute [local go_sem] Oper.semAt_some
/-! All that tokens tell of a state, plain, in steps. -/
end Go.Proofs.YtmbgndcahlopdaaGreat

/- Walk of state.From (by gen_stmf.py). -/
namespace Go.Proofs.YtmbgndcahlopdaaGreat
set_option maxRecDepth 100000
open Go.RowKit Go.Shelf Go.Sort
attribute [local go_sem] Oper.semAt_some
/-- Six cells of the block behind a call's first one are stored. -/
def ansF (w W : World) (a b c d e f : Value) : World := (((((W.setCell ⟨w.heap.size + 1, 0, none⟩ a).setCell ⟨w.heap.size + 1, 1, none⟩ b).setCell ⟨w.heap.size + 1, 2, none⟩ c).setCell ⟨w.heap.size + 1, 3, none⟩ d).setCell ⟨w.heap.size + 1, 4, none⟩ e).setCell ⟨w.heap.size + 1, 5, none⟩ f
theorem blk_ansF {w W : World} {t : TypeId} {a b c d e f y0 y1 y2 y3 y4 y5 : Value} (h : Blk W (w.heap.size + 1) t #[y0, y1, y2, y3, y4, y5]) : Blk (ansF w W a b c d e f) (w.heap.size + 1) t #[a, b, c, d, e, f] :=
  (((((h.set_ 0 a).set_ 1 b).set_ 2 c).set_ 3 d).set_ 4 e).set_ 5 f
theorem Blk.drew9 {W : World} {t : TypeId} {g : Nat} {cs : Array Value} (h : Blk W g t cs) : Blk W.drew g t cs := h
theorem below_ansF {w W w0 : World} {a b c d e f : Value} (h : Below w.heap.size w0 W) : Below w.heap.size w0 (ansF w W a b c d e f) :=
  (((((h.setCell (by show w.heap.size ≤ w.heap.size + 1; omega) a).setCell (by show w.heap.size ≤ w.heap.size + 1; omega) b).setCell (by show w.heap.size ≤ w.heap.size + 1; omega) c).setCell (by show w.heap.size ≤ w.heap.size + 1; omega) d).setCell (by show w.heap.size ≤ w.heap.size + 1; omega) e).setCell (by show w.heap.size ≤ w.heap.size + 1; omega) f
end Go.Proofs.YtmbgndcahlopdaaGreat

/- Walks of Whole (of states) and state.Parse (by gen_stmh.py). -/
namespace Go.Proofs.YtmbgndcahlopdaaGreat
set_option maxRecDepth 100000
open Go.RowKit Go.Shelf Go.Sort
attribute [local go_sem] Oper.semAt_some
end Go.Proofs.YtmbgndcahlopdaaGreat

/- The reference's AtomsSame and Same (by gen_stmi.py). -/
namespace Go.Proofs.YtmbgndcahlopdaaGreat
set_option maxRecDepth 100000
open Go.RowKit Go.Shelf Go.Sort
attribute [local go_sem] Oper.semAt_some
end Go.Proofs.YtmbgndcahlopdaaGreat

/- The laws' cut and alive, of states (by gen_stmj.py). -/
namespace Go.Proofs.YtmbgndcahlopdaaGreat
set_option maxRecDepth 100000
open Go.RowKit Go.Shelf Go.Sort
attribute [local go_sem] Oper.semAt_some
theorem fcells_take {α : Type} {f : α → List Value} {m : Nat} (hf : ∀ x, (f x).length = m) (l : List α) (n : Nat) : fcells f (l.take n) = (fcells f l).take (n * m) := by
  induction l generalizing n with
  | nil => simp [fcells]
  | cons x r ih =>
    cases n with
    | zero => simp [fcells]
    | succ n =>
      have := ih n
      have hx : (f x).length ≤ n * m + m := by rw [hf]; omega
      rw [List.take_succ_cons, show fcells f (x :: r.take n) = f x ++ fcells f (r.take n) from rfl, this, show fcells f (x :: r) = f x ++ fcells f r from rfl, Nat.succ_mul, List.take_append, List.take_of_length_le hx, hf, Nat.add_sub_cancel]
def cutS (s : St.State) : St.State := ⟨s.pc, s.code.take 15, s.mem.take 15, s.stack.take 15, s.out.take 15⟩
theorem cutS_small (s : St.State) : SmallS (cutS s) := by
  refine ⟨?_, ?_, ?_, ?_⟩ <;> (unfold cutS; dsimp only; rw [List.length_take]; omega)
/-- A state as it comes in: rows, with the room behind them. -/
structure StIn (w : World) (B : Nat) (s : St.State) (cA : Option Addr) (cc : Nat) (mA : Option Addr) (mc : Nat) (sA : Option Addr) (sc : Nat) (oA : Option Addr) (oc : Nat) : Prop where
  rc : Row w B cA (icells s.code) ∧ s.code.length ≤ cc ∧ cc ≤ maxLen
  rm : Row w B mA (fcells avs s.mem) ∧ s.mem.length ≤ mc ∧ mc ≤ maxLen
  rs : Row w B sA (fcells svs s.stack) ∧ s.stack.length ≤ sc ∧ sc ≤ maxLen
  ro : Row w B oA (fcells avs s.out) ∧ s.out.length ≤ oc ∧ oc ≤ maxLen
def incv (s : St.State) (cA : Option Addr) (cc : Nat) (mA : Option Addr) (mc : Nat) (sA : Option Addr) (sc : Nat) (oA : Option Addr) (oc : Nat) : Value := .agg #[.int .i64 s.pc.v, .int .i64 s.pc.l, .slice cA s.code.length cc, .slice mA s.mem.length mc, .slice sA s.stack.length sc, .slice oA s.out.length oc]
theorem StIn.below {w w' : World} {B : Nat} {s : St.State} {cA mA sA oA : Option Addr} {cc mc sc oc : Nat} (h : StIn w B s cA cc mA mc sA sc oA oc) (hb : Below B w w') : StIn w' B s cA cc mA mc sA sc oA oc :=
  ⟨⟨h.rc.1.below hb, h.rc.2⟩, ⟨h.rm.1.below hb, h.rm.2⟩, ⟨h.rs.1.below hb, h.rs.2⟩, ⟨h.ro.1.below hb, h.ro.2⟩⟩
theorem StIn.more {w : World} {B B' : Nat} {s : St.State} {cA mA sA oA : Option Addr} {cc mc sc oc : Nat} (h : StIn w B s cA cc mA mc sA sc oA oc) (hB : B ≤ B') : StIn w B' s cA cc mA mc sA sc oA oc :=
  ⟨⟨h.rc.1.more hB, h.rc.2⟩, ⟨h.rm.1.more hB, h.rm.2⟩, ⟨h.rs.1.more hB, h.rs.2⟩, ⟨h.ro.1.more hB, h.ro.2⟩⟩
theorem StIn.cut {w : World} {B : Nat} {s : St.State} {cA mA sA oA : Option Addr} {cc mc sc oc : Nat} (h : StIn w B s cA cc mA mc sA sc oA oc) : StIn w B (cutS s) cA cc mA mc sA sc oA oc := by
  refine ⟨⟨?_, ?_, h.rc.2.2⟩, ⟨?_, ?_, h.rm.2.2⟩, ⟨?_, ?_, h.rs.2.2⟩, ⟨?_, ?_, h.ro.2.2⟩⟩
  · show Row w B cA (icells (s.code.take 15)); rw [icells_f, fcells_take ivs_len]; exact h.rc.1.take _
  · have := h.rc.2.1; show (s.code.take 15).length ≤ cc; rw [List.length_take]; omega
  · show Row w B mA (fcells avs (s.mem.take 15)); rw [fcells_take avs_len]; exact h.rm.1.take _
  · have := h.rm.2.1; show (s.mem.take 15).length ≤ mc; rw [List.length_take]; omega
  · show Row w B sA (fcells svs (s.stack.take 15)); rw [fcells_take svs_len]; exact h.rs.1.take _
  · have := h.rs.2.1; show (s.stack.take 15).length ≤ sc; rw [List.length_take]; omega
  · show Row w B oA (fcells avs (s.out.take 15)); rw [fcells_take avs_len]; exact h.ro.1.take _
  · have := h.ro.2.1; show (s.out.take 15).length ≤ oc; rw [List.length_take]; omega
theorem StIn.isSt {w : World} {B : Nat} {s : St.State} {cA mA sA oA : Option Addr} {cc mc sc oc : Nat} (h : StIn w B s cA cc mA mc sA sc oA oc) : IsSt w B (incv s cA cc mA mc sA sc oA oc) s :=
  ⟨_, _, _, _, rfl, ⟨cA, cc, rfl, h.rc.1, h.rc.2.1⟩, ⟨mA, mc, rfl, h.rm.1, h.rm.2.1⟩, ⟨sA, sc, rfl, h.rs.1, h.rs.2.1⟩, ⟨oA, oc, rfl, h.ro.1, h.ro.2.1⟩⟩
theorem incv_cut (s : St.State) (cA mA sA oA : Option Addr) (cc mc sc oc : Nat) : incv (cutS s) cA cc mA mc sA sc oA oc = .agg #[.int .i64 s.pc.v, .int .i64 s.pc.l, .slice cA (min 15 s.code.length) cc, .slice mA (min 15 s.mem.length) mc, .slice sA (min 15 s.stack.length) sc, .slice oA (min 15 s.out.length) oc] := by
  unfold incv cutS
  simp only [List.length_take]
/-! alive -/
deriving instance DecidableEq for St.State
end Go.Proofs.YtmbgndcahlopdaaGreat
