/- The reference's one is the plain one; what From holds at the head of a round. -/
import Derived.Test.YtmbgndcahlopdaaGCodC
import Derived.Test.YtmbgndcahlopdaaGCodK
import Derived.Test.YtmbgndcahlopdaaGRefJ
import Derived.Test.YtmbgndcahlopdaaGNotG
import Derived.Test.YtmbgndcahlopdaaGCodP
import Derived.Test.YtmbgndcahlopdaaGCodA
import Derived.Test.YtmbgndcahlopdaaGTabE
namespace Go.Proofs.Ytmbgndcahlopdaa
set_option maxRecDepth 100000
open Go.RowKit Go.Shelf Go.Sort

end Go.Proofs.Ytmbgndcahlopdaa

/- The reference's way of reading a state, plain: it is what tokens tell. -/
namespace Go.Proofs.Ytmbgndcahlopdaa
set_option maxRecDepth 100000
open Lx (Tk)
open Tb (tok Fine)
end Go.Proofs.Ytmbgndcahlopdaa

/- Rows of atoms and slots in memory; a state as a value; what a reading keeps of them. -/
namespace Go.Proofs.Ytmbgndcahlopdaa
set_option maxRecDepth 100000
open Go.RowKit Go.Shelf
attribute [local go_sem] Oper.semAt_some

def avs (x : St.Atom) : List Value := [.int .i64 x.v, .int .i64 x.l]
def svs (x : St.Slot) : List Value := [.bool x.ret, .int .i64 x.v, .int .i64 x.l]
theorem avs_len (x : St.Atom) : (avs x).length = 2 := rfl
theorem svs_len (x : St.Slot) : (svs x).length = 3 := rfl
def atv (x : St.Atom) : Value := .agg #[.int .i64 x.v, .int .i64 x.l]
def slv (x : St.Slot) : Value := .agg #[.bool x.ret, .int .i64 x.v, .int .i64 x.l]
theorem arow_at {w : World} {B : Nat} {A : Option Addr} {l : List St.Atom} {k : Nat} (h : Row w B A (fcells avs l)) (hk : k < l.length) : ∃ ad t, A = some ad ∧ ad.block < B ∧ l[k]? = some t ∧ w.cell? (ad.add (k * 2)) = some (.int .i64 t.v) ∧
    w.cell? ⟨(ad.add (k * 2)).block, (ad.add (k * 2)).off + 1, none⟩ = some (.int .i64 t.l) := by
  have hlen := fcells_length avs_len l
  obtain ⟨ad, e, hb, hc⟩ := h (by intro e; rw [e] at hlen; simp at hlen; omega)
  have h0 := fcells_at avs_len l k l[k] (List.getElem?_eq_getElem hk) 0 (by decide)
  have h1 := fcells_at avs_len l k l[k] (List.getElem?_eq_getElem hk) 1 (by decide)
  exact ⟨ad, l[k], e, hb, List.getElem?_eq_getElem hk, hc _ _ h0, by rw [← addr_next _ _ _ (by decide)]; exact hc _ _ h1⟩
theorem srow_at {w : World} {B : Nat} {A : Option Addr} {l : List St.Slot} {k : Nat} (h : Row w B A (fcells svs l)) (hk : k < l.length) : ∃ ad t, A = some ad ∧ ad.block < B ∧ l[k]? = some t ∧ w.cell? (ad.add (k * 3)) = some (.bool t.ret) ∧
    w.cell? ⟨(ad.add (k * 3)).block, (ad.add (k * 3)).off + 1, none⟩ = some (.int .i64 t.v) ∧ w.cell? ⟨(ad.add (k * 3)).block, (ad.add (k * 3)).off + 2, none⟩ = some (.int .i64 t.l) := by
  have hlen := fcells_length svs_len l
  obtain ⟨ad, e, hb, hc⟩ := h (by intro e; rw [e] at hlen; simp at hlen; omega)
  have h0 := fcells_at svs_len l k l[k] (List.getElem?_eq_getElem hk) 0 (by decide)
  have h1 := fcells_at svs_len l k l[k] (List.getElem?_eq_getElem hk) 1 (by decide)
  have h2 := fcells_at svs_len l k l[k] (List.getElem?_eq_getElem hk) 2 (by decide)
  exact ⟨ad, l[k], e, hb, List.getElem?_eq_getElem hk, hc _ _ h0, by rw [← addr_next _ _ _ (by decide)]; exact hc _ _ h1, by rw [← addr_next _ _ _ (by decide)]; exact hc _ _ h2⟩
/-- A slice of such things, below B. -/
def IsL {α : Type} (f : α → List Value) (w : World) (B : Nat) (v : Value) (l : List α) : Prop := ∃ A c, v = .slice A l.length c ∧ Row w B A (fcells f l) ∧ l.length ≤ c
section
variable {α : Type} {f : α → List Value} {w w' : World} {B B' R : Nat} {v : Value} {l : List α}
theorem IsL.below (h : IsL f w B v l) (hb : Below B w w') : IsL f w' B v l := by
  obtain ⟨A, c, e, hr, hc⟩ := h
  exact ⟨A, c, e, hr.below hb, hc⟩
theorem IsL.more (h : IsL f w B v l) (hB : B ≤ B') : IsL f w B' v l := by
  obtain ⟨A, c, e, hr, hc⟩ := h
  exact ⟨A, c, e, hr.more hB, hc⟩
end
/-- A state as a value. -/
def stv (s : St.State) (cv mv sv ov : Value) : Value := .agg #[.int .i64 s.pc.v, .int .i64 s.pc.l, cv, mv, sv, ov]
/-- A state, below B. -/
def IsSt (w : World) (B : Nat) (v : Value) (s : St.State) : Prop := ∃ cv mv sv ov, v = stv s cv mv sv ov ∧ IsIns w B cv s.code ∧ IsL avs w B mv s.mem ∧ IsL svs w B sv s.stack ∧ IsL avs w B ov s.out
theorem IsSt.below {w w' : World} {B : Nat} {v : Value} {s : St.State} (h : IsSt w B v s) (hb : Below B w w') : IsSt w' B v s := by
  obtain ⟨cv, mv, sv, ov, e, h1, h2, h3, h4⟩ := h
  exact ⟨cv, mv, sv, ov, e, h1.below hb, h2.below hb, h3.below hb, h4.below hb⟩
theorem IsSt.more {w : World} {B B' : Nat} {v : Value} {s : St.State} (h : IsSt w B v s) (hB : B ≤ B') : IsSt w B' v s := by
  obtain ⟨cv, mv, sv, ov, e, h1, h2, h3, h4⟩ := h
  exact ⟨cv, mv, sv, ov, e, h1.more hB, h2.more hB, h3.more hB, h4.more hB⟩
/-! A result that lies in a cell, while a reading goes on. -/
end Go.Proofs.Ytmbgndcahlopdaa

/- Which states may be (by gen_stmg.py): walks of isLabel, isAtom, isPlace, atomOf, isSlot, allRight, Right. -/
namespace Go.Proofs.Ytmbgndcahlopdaa
set_option maxRecDepth 100000
open Go.RowKit Go.Shelf Go.Sort
attribute [local go_sem] Oper.semAt_some
section
variable {v : Value} {names : List ByteArray} {up : List Nat}
set_option maxHeartbeats 2000000 in
theorem sisLabel_any (a : Int) (w : World) (h : IsLat w w.heap.size v names up) : Calls Try.prog 83 #[v, .int .i64 a] w (Tells w (St.labB up.length a)) := by
  obtain ⟨⟨N, U, c1, c2, rfl, hN, hU⟩, hsh, hfew, hcaps⟩ := h
  clear hN hU
  have HB0 := Lib.hid ((Below.refl _ w).alloc (Nat.le_refl _) (.cells #[.slice N names.length c1, .slice U up.length c2] 25))
  by_cases h0 : 0 ≤ a
  · have hr : St.labB up.length a = decide (a < (up.length : Int)) := by unfold St.labB; exact decide_eq_decide.2 ⟨fun h => h.2, fun h => ⟨h0, h⟩⟩
    rw [hr]
    clear hr
    go_enter Try.func83, Try.ntmps83
    go_wp2
    go_ret
    exact ⟨rfl, HB0.out⟩
  · have hr : St.labB up.length a = false := by unfold St.labB; exact decide_eq_false fun h => h0 h.1
    rw [hr]
    clear hr
    go_enter Try.func83, Try.ntmps83
    go_wp2
    go_ret
    exact ⟨rfl, HB0.out⟩
set_option maxHeartbeats 2000000 in
theorem sisPlace_any (x : St.Atom) (w : World) (h : IsLat w w.heap.size v names up) : Calls Try.prog 52 #[v, .agg #[.int .i64 x.v, .int .i64 x.l]] w (Tells w (St.pcB x.v && St.labB up.length x.l)) := by
  obtain ⟨⟨N, U, c1, c2, rfl, hN, hU⟩, hsh, hfew, hcaps⟩ := id h
  obtain ⟨a, l⟩ := x
  dsimp only
  have hb0 := (((Below.refl _ w).alloc (Nat.le_refl _) (.cells #[.slice N names.length c1, .slice U up.length c2] 25)).alloc (by simp) (.cells #[.int .i64 a, .int .i64 l] 34))
  have HL := Lib.hid (sisLabel_any l _ ((h.below hb0).more hb0.size))
  have HB0 := Lib.hid hb0
  clear h hN hU hb0
  by_cases h0 : 0 ≤ a
  · by_cases h1 : a ≤ 12
    · have hr : St.pcB a = true := by unfold St.pcB; exact decide_eq_true ⟨h0, h1⟩
      rw [hr, Bool.true_and]
      generalize St.labB up.length l = b at *
      clear hr
      go_enter Try.func52, Try.ntmps52
      go_wp2_with (fail)
      refine HL.out.mono ?_
      rintro e w1 ⟨rfl, hb1⟩
      have HB1 := Lib.hid (HB0.out.trans (hb1.mono HB0.out.size))
      clear hb1 HL
      go_wp2
      go_ret
      exact ⟨rfl, HB1.out⟩
    · have hr : St.pcB a = false := by unfold St.pcB; exact decide_eq_false fun h => h1 h.2
      rw [hr, Bool.false_and]
      clear hr HL
      go_enter Try.func52, Try.ntmps52
      go_wp2
      go_ret
      exact ⟨rfl, HB0.out⟩
  · have hr : St.pcB a = false := by unfold St.pcB; exact decide_eq_false fun h => h0 h.1
    rw [hr, Bool.false_and]
    clear hr HL
    go_enter Try.func52, Try.ntmps52
    go_wp2
    go_ret
    exact ⟨rfl, HB0.out⟩
set_option maxHeartbeats 2000000 in
theorem sisAtom_any (x : St.Atom) (w : World) (h : IsLat w w.heap.size v names up) : Calls Try.prog 54 #[v, .agg #[.int .i64 x.v, .int .i64 x.l]] w (Tells w (St.valB x.v && St.labB up.length x.l)) := by
  obtain ⟨⟨N, U, c1, c2, rfl, hN, hU⟩, hsh, hfew, hcaps⟩ := id h
  obtain ⟨a, l⟩ := x
  dsimp only
  have hb0 := (((Below.refl _ w).alloc (Nat.le_refl _) (.cells #[.slice N names.length c1, .slice U up.length c2] 25)).alloc (by simp) (.cells #[.int .i64 a, .int .i64 l] 34))
  have HL := Lib.hid (sisLabel_any l _ ((h.below hb0).more hb0.size))
  have HB0 := Lib.hid hb0
  clear h hN hU hb0
  by_cases h0 : -20 ≤ a
  · by_cases h1 : a ≤ 20
    · have hr : St.valB a = true := by unfold St.valB; exact decide_eq_true ⟨h0, h1⟩
      rw [hr, Bool.true_and]
      generalize St.labB up.length l = b at *
      clear hr
      go_enter Try.func54, Try.ntmps54
      go_wp2_with (fail)
      refine HL.out.mono ?_
      rintro e w1 ⟨rfl, hb1⟩
      have HB1 := Lib.hid (HB0.out.trans (hb1.mono HB0.out.size))
      clear hb1 HL
      go_wp2
      go_ret
      exact ⟨rfl, HB1.out⟩
    · have hr : St.valB a = false := by unfold St.valB; exact decide_eq_false fun h => h1 h.2
      rw [hr, Bool.false_and]
      clear hr HL
      go_enter Try.func54, Try.ntmps54
      go_wp2
      go_ret
      exact ⟨rfl, HB0.out⟩
  · have hr : St.valB a = false := by unfold St.valB; exact decide_eq_false fun h => h0 h.1
    rw [hr, Bool.false_and]
    clear hr HL
    go_enter Try.func54, Try.ntmps54
    go_wp2
    go_ret
    exact ⟨rfl, HB0.out⟩
theorem satomOf_any (x : St.Slot) (w : World) : Calls Try.prog 84 #[.agg #[.bool x.ret, .int .i64 x.v, .int .i64 x.l]] w fun e w' => e = .returned (.agg #[.int .i64 x.v, .int .i64 x.l]) ∧ Below w.heap.size w w' := by
  obtain ⟨r, a, l⟩ := x
  dsimp only
  go_enter Try.func84, Try.ntmps84
  go_wp2
  go_returns
  exact ⟨rfl, ((Below.refl _ w).alloc (Nat.le_refl _) _).alloc (by simp) _⟩
theorem slotB_eq (k : Nat) (x : St.Slot) : St.slotB k x = if x.ret = true then St.pcB x.v && St.labB k x.l else St.valB x.v && St.labB k x.l := by
  unfold St.slotB
  cases x.ret with
  | false => simp
  | true =>
    simp only [Bool.not_true, Bool.false_or, if_true]
    cases hp : St.pcB x.v with
    | false => simp
    | true =>
      have hv : St.valB x.v = true := by
        unfold St.pcB at hp
        unfold St.valB
        have := of_decide_eq_true hp
        exact decide_eq_true (by omega)
      rw [hv]
      simp
set_option maxHeartbeats 4000000 in
theorem sisSlot_any (x : St.Slot) (w : World) (h : IsLat w w.heap.size v names up) : Calls Try.prog 56 #[v, .agg #[.bool x.ret, .int .i64 x.v, .int .i64 x.l]] w (Tells w (St.slotB up.length x)) := by
  obtain ⟨⟨N, U, c1, c2, rfl, hN, hU⟩, hsh, hfew, hcaps⟩ := id h
  rw [slotB_eq]
  have HPL := Lib.hid (fun W (h : IsLat W W.heap.size (.agg #[.slice N names.length c1, .slice U up.length c2]) names up) => sisPlace_any ⟨x.v, x.l⟩ W h)
  have HAT := Lib.hid (fun W (h : IsLat W W.heap.size (.agg #[.slice N names.length c1, .slice U up.length c2]) names up) => sisAtom_any ⟨x.v, x.l⟩ W h)
  have HOF := Lib.hid (fun W => satomOf_any x W)
  obtain ⟨r, a, l⟩ := x
  dsimp only at HPL HAT HOF ⊢
  have hb0 := (((Below.refl _ w).alloc (Nat.le_refl _) (.cells #[.slice N names.length c1, .slice U up.length c2] 25)).alloc (by simp) (.cells #[.bool r, .int .i64 a, .int .i64 l] 70))
  obtain ⟨W0, hW0⟩ : ∃ W0, (w.alloc (.cells #[.slice N names.length c1, .slice U up.length c2] 25)).alloc (.cells #[.bool r, .int .i64 a, .int .i64 l] 70) = W0 := ⟨_, rfl⟩
  have hp0 : Blk W0 w.heap.size 25 #[.slice N names.length c1, .slice U up.length c2] := hW0 ▸ (Blk.new _ _ _).alloc _
  have hp1 : Blk W0 (w.heap.size + 1) 70 #[.bool r, .int .i64 a, .int .i64 l] := by
    have h1 := Blk.new (w.alloc (.cells #[.slice N names.length c1, .slice U up.length c2] 25)) 70 #[.bool r, .int .i64 a, .int .i64 l]
    rw [show (w.alloc (.cells #[.slice N names.length c1, .slice U up.length c2] 25)).heap.size = w.heap.size + 1 by simp] at h1
    rw [← hW0]; exact h1
  rw [hW0] at hb0
  have HB0 := Lib.hid hb0
  have H := Lib.hid ((h.below hb0).more hb0.size)
  have a0 : W0.cell? ⟨w.heap.size, 0, none⟩ = some (.slice N names.length c1) := hp0.cell 0
  have a1 : W0.cell? ⟨w.heap.size, 1, none⟩ = some (.slice U up.length c2) := hp0.cell 1
  have s0 : W0.cell? ⟨w.heap.size + 1, 0, none⟩ = some (.bool r) := hp1.cell 0
  have s1 : W0.cell? ⟨w.heap.size + 1, 1, none⟩ = some (.int .i64 a) := hp1.cell 1
  have s2 : W0.cell? ⟨w.heap.size + 1, 2, none⟩ = some (.int .i64 l) := hp1.cell 2
  have g0 := fun d os => cell_regrown a0 d os
  have g1 := fun d os => cell_regrown a1 d os
  have g2 := fun d os => cell_regrown s0 d os
  have g3 := fun d os => cell_regrown s1 d os
  have g4 := fun d os => cell_regrown s2 d os
  clear h hN hU hb0 hp0 hp1
  cases r with
  | true =>
    rw [if_pos rfl]
    generalize (St.pcB a && St.labB up.length l) = b at *
    go_enter Try.func56, Try.ntmps56
    go_wp2
    refine wp_region_quiet_below (by kernel_rfl) (by kernel_rfl) ?_
    repeat (quiet_step (first | (go_at_call 84; exact Calls.regrown_of (HOF.out _)) | (go_at_call 52; exact Calls.regrown_of (HPL.out _ ((H.out.below (below_regrown _ _ _)).more (below_regrown _ _ _).size)))))
    refine wpQuiet_nil ?_
    rintro _ ⟨⟨d, os⟩, rfl⟩
    have HB5 := Lib.hid (HB0.out.trans ((below_regrown W0 d os).mono HB0.out.size))
    clear g0 g1 g2 g3 g4
    generalize grow (redrawn W0 d) os = w5 at *
    go_wp2
    go_ret
    exact ⟨rfl, HB5.out⟩
  | false =>
    rw [if_neg (by decide)]
    generalize (St.valB a && St.labB up.length l) = b at *
    go_enter Try.func56, Try.ntmps56
    go_wp2
    refine wp_region_quiet_below (by kernel_rfl) (by kernel_rfl) ?_
    repeat (quiet_step (first | (go_at_call 84; exact Calls.regrown_of (HOF.out _)) | (go_at_call 54; exact Calls.regrown_of (HAT.out _ ((H.out.below (below_regrown _ _ _)).more (below_regrown _ _ _).size)))))
    refine wpQuiet_nil ?_
    rintro _ ⟨⟨d, os⟩, rfl⟩
    have HB5 := Lib.hid (HB0.out.trans ((below_regrown W0 d os).mono HB0.out.size))
    clear g0 g1 g2 g3 g4
    generalize grow (redrawn W0 d) os = w5 at *
    go_wp2
    go_ret
    exact ⟨rfl, HB5.out⟩
theorem all_no {α : Type} {f : α → Bool} {l : List α} {j m : Nat} {x : α} (h : l[j]? = some x) (hx : f x = false) : (decide (l.length ≤ m) && l.all f) = false := by
  rw [Bool.and_eq_false_iff]
  refine .inr ?_
  rw [List.all_eq_false]
  exact ⟨x, List.mem_of_getElem? h, by rw [hx]; decide⟩
theorem all_yes {α : Type} {f : α → Bool} {l : List α} {m : Nat} (hl : l.length ≤ m) (h : ∀ (j : Nat) x, l[j]? = some x → f x = true) : (decide (l.length ≤ m) && l.all f) = true := by
  rw [Bool.and_eq_true]
  refine ⟨decide_eq_true hl, List.all_eq_true.2 fun x hx => ?_⟩
  obtain ⟨j, hj, rfl⟩ := List.getElem_of_mem hx
  exact h j _ (List.getElem?_eq_getElem hj)
set_option maxHeartbeats 4000000 in
theorem allA_any {A : Option Addr} {l : List St.Atom} (c m : Nat) (hm : m ≤ 100) (w : World) (h : IsLat w w.heap.size v names up) (hr : Row w w.heap.size A (fcells avs l)) (hl : l.length ≤ 1000) :
    Calls Try.prog 53 #[v, .slice A l.length c, .int .i64 (m : Int), .func (.func 54) #[] #[]] w (Tells w (decide (l.length ≤ m) && l.all (St.atomB up.length))) := by
  obtain ⟨⟨N, U, c1, c2, rfl, hN, hU⟩, hsh, hfew, hcaps⟩ := id h
  obtain ⟨res, hres⟩ : ∃ res, (decide (l.length ≤ m) && l.all (St.atomB up.length)) = res := ⟨_, rfl⟩
  rw [hres]
  have HRES := Lib.hid hres
  clear hres
  have hb0 : Below w.heap.size w (w.alloc (.cells #[.slice N names.length c1, .slice U up.length c2] 25)) := (Below.refl _ w).alloc (Nat.le_refl _) _
  have p0 := Blk.new w 25 #[.slice N names.length c1, .slice U up.length c2]
  have HB0 := Lib.hid hb0
  have hcf := Try.call54
  by_cases h12 : m < l.length
  · have HR2 := Lib.hid (show false = res by rw [← HRES.out, decide_eq_false (by omega)]; rfl)
    clear h hN hU hr hb0 p0
    go_enter Try.func53, Try.ntmps53
    go_wp2
    go_ret
    exact ⟨retb HR2.out, HB0.out⟩
  · have HONE := Lib.hid (fun (x : St.Atom) W (hb : Below w.heap.size w W) => sisAtom_any (v := .agg #[.slice N names.length c1, .slice U up.length c2]) x W ((h.below hb).more hb.size))
    have H := Lib.hid hr
    have P0 := Lib.hid p0
    clear h hN hU hr hb0 p0
    go_enter Try.func53, Try.ntmps53
    go_wp2
    go_loopw [17] (fun i wr => ∃ k : Nat, k ≤ l.length ∧ i = .int .i64 k ∧ Hid (∀ (j : Nat) (x : St.Atom), j < k → l[j]? = some x → St.atomB up.length x = true) ∧ Hid (Below w.heap.size w wr) ∧ Hid (Blk wr w.heap.size 25 #[.slice N names.length c1, .slice U up.length c2])) (fun i _ => l.length - (intOf i).toNat)
    case atStart => exact ⟨0, Nat.zero_le _, rfl, Lib.hid fun j x hj => absurd hj (Nat.not_lt_zero _), HB0, P0⟩
    case round =>
      clear HB0 P0
      obtain ⟨k, hk, rfl, HS, HBW, P0⟩ := hrel
      by_cases hlt : k < l.length
      · obtain ⟨ad, x, rfl, hxb, hx, x0, x1⟩ := arow_at (H.out.below HBW.out) hlt
        have hz := HBW.out.size
        have hxb2 : (ad.add (k * 2)).block < wr.heap.size := by rw [add_block]; omega
        have HX := Lib.hid hx
        have hal := (Below.refl wr.heap.size wr).alloc (Nat.le_refl _) (.cells #[.int .i64 x.v, .int .i64 x.l] 34)
        have hbw1 := HBW.out.trans (hal.mono HBW.out.size)
        have hp1 := P0.out.below hal P0.out.lt
        have hbx := Blk.new wr 34 #[.int .i64 x.v, .int .i64 x.l]
        have hc := HONE.out x _ hbw1
        obtain ⟨W1, hW1⟩ : ∃ W1, wr.alloc (.cells #[.int .i64 x.v, .int .i64 x.l] 34) = W1 := ⟨_, rfl⟩
        rw [hW1] at hbw1 hp1 hbx hc
        have a0 : W1.cell? ⟨w.heap.size, 0, none⟩ = some (.slice N names.length c1) := hp1.cell 0
        have a1 : W1.cell? ⟨w.heap.size, 1, none⟩ = some (.slice U up.length c2) := hp1.cell 1
        have s0 := hbx.cell 0
        have s1 := hbx.cell 1
        skip
        have HB1 := Lib.hid hbw1
        have HP1 := Lib.hid hp1
        have hz1 := hbw1.size
        clear hx hal hbw1 hp1 hbx P0
        cases hi : St.atomB up.length x with
        | true =>
          have HC := Lib.hid (show Calls _ _ _ _ (Tells W1 true) by rw [← hi]; exact hc)
          have HI := Lib.hid hi
          clear hi hc
          go_wp2_with (fail)
          refine HC.out.mono ?_
          rintro e w2 ⟨rfl, hb2⟩
          have HB2 := Lib.hid (HB1.out.trans (hb2.mono HB1.out.size))
          have HP2 := Lib.hid (HP1.out.below hb2 HP1.out.lt)
          clear hb2 a0 a1 s0 s1 
          go_wp2
          go_roundw
          case rel => exact ⟨k + 1, by omega, by go_num, Lib.hid fun j u hj hu => by
            rcases Nat.lt_or_eq_of_le (Nat.le_of_lt_succ hj) with h | rfl
            · exact HS.out j u h hu
            · rw [HX.out] at hu
              injection hu with hu
              rw [← hu]; exact HI.out, HB2, HP2⟩
          case measure => simp [intOf]; omega
        | false =>
          have HC := Lib.hid (show Calls _ _ _ _ (Tells W1 false) by rw [← hi]; exact hc)
          have HR2 := Lib.hid (show false = res by rw [← HRES.out]; exact (all_no HX.out hi).symm)
          clear hi hc
          go_wp2_with (fail)
          refine HC.out.mono ?_
          rintro e w2 ⟨rfl, hb2⟩
          have HB2 := Lib.hid (HB1.out.trans (hb2.mono HB1.out.size))
          clear hb2
          go_wp2
          go_ret
          exact ⟨retb HR2.out, HB2.out⟩
      · obtain rfl : k = l.length := by omega
        have HR2 := Lib.hid (show true = res by rw [← HRES.out]; exact (all_yes (by omega) fun j x hx => HS.out j x (List.getElem?_eq_some_iff.1 hx).1 hx).symm)
        go_wp2
        go_ret
        exact ⟨retb HR2.out, HBW.out⟩
set_option maxHeartbeats 4000000 in
theorem allS_any {A : Option Addr} {l : List St.Slot} (c m : Nat) (hm : m ≤ 100) (w : World) (h : IsLat w w.heap.size v names up) (hr : Row w w.heap.size A (fcells svs l)) (hl : l.length ≤ 1000) :
    Calls Try.prog 55 #[v, .slice A l.length c, .int .i64 (m : Int), .func (.func 56) #[] #[]] w (Tells w (decide (l.length ≤ m) && l.all (St.slotB up.length))) := by
  obtain ⟨⟨N, U, c1, c2, rfl, hN, hU⟩, hsh, hfew, hcaps⟩ := id h
  obtain ⟨res, hres⟩ : ∃ res, (decide (l.length ≤ m) && l.all (St.slotB up.length)) = res := ⟨_, rfl⟩
  rw [hres]
  have HRES := Lib.hid hres
  clear hres
  have hb0 : Below w.heap.size w (w.alloc (.cells #[.slice N names.length c1, .slice U up.length c2] 25)) := (Below.refl _ w).alloc (Nat.le_refl _) _
  have p0 := Blk.new w 25 #[.slice N names.length c1, .slice U up.length c2]
  have HB0 := Lib.hid hb0
  have hcf := Try.call56
  by_cases h12 : m < l.length
  · have HR2 := Lib.hid (show false = res by rw [← HRES.out, decide_eq_false (by omega)]; rfl)
    clear h hN hU hr hb0 p0
    go_enter Try.func55, Try.ntmps55
    go_wp2
    go_ret
    exact ⟨retb HR2.out, HB0.out⟩
  · have HONE := Lib.hid (fun (x : St.Slot) W (hb : Below w.heap.size w W) => sisSlot_any (v := .agg #[.slice N names.length c1, .slice U up.length c2]) x W ((h.below hb).more hb.size))
    have H := Lib.hid hr
    have P0 := Lib.hid p0
    clear h hN hU hr hb0 p0
    go_enter Try.func55, Try.ntmps55
    go_wp2
    go_loopw [17] (fun i wr => ∃ k : Nat, k ≤ l.length ∧ i = .int .i64 k ∧ Hid (∀ (j : Nat) (x : St.Slot), j < k → l[j]? = some x → St.slotB up.length x = true) ∧ Hid (Below w.heap.size w wr) ∧ Hid (Blk wr w.heap.size 25 #[.slice N names.length c1, .slice U up.length c2])) (fun i _ => l.length - (intOf i).toNat)
    case atStart => exact ⟨0, Nat.zero_le _, rfl, Lib.hid fun j x hj => absurd hj (Nat.not_lt_zero _), HB0, P0⟩
    case round =>
      clear HB0 P0
      obtain ⟨k, hk, rfl, HS, HBW, P0⟩ := hrel
      by_cases hlt : k < l.length
      · obtain ⟨ad, x, rfl, hxb, hx, x0, x1, x2⟩ := srow_at (H.out.below HBW.out) hlt
        have hz := HBW.out.size
        have hxb2 : (ad.add (k * 3)).block < wr.heap.size := by rw [add_block]; omega
        have HX := Lib.hid hx
        have hal := (Below.refl wr.heap.size wr).alloc (Nat.le_refl _) (.cells #[.bool x.ret, .int .i64 x.v, .int .i64 x.l] 70)
        have hbw1 := HBW.out.trans (hal.mono HBW.out.size)
        have hp1 := P0.out.below hal P0.out.lt
        have hbx := Blk.new wr 70 #[.bool x.ret, .int .i64 x.v, .int .i64 x.l]
        have hc := HONE.out x _ hbw1
        obtain ⟨W1, hW1⟩ : ∃ W1, wr.alloc (.cells #[.bool x.ret, .int .i64 x.v, .int .i64 x.l] 70) = W1 := ⟨_, rfl⟩
        rw [hW1] at hbw1 hp1 hbx hc
        have a0 : W1.cell? ⟨w.heap.size, 0, none⟩ = some (.slice N names.length c1) := hp1.cell 0
        have a1 : W1.cell? ⟨w.heap.size, 1, none⟩ = some (.slice U up.length c2) := hp1.cell 1
        have s0 := hbx.cell 0
        have s1 := hbx.cell 1
        have s2 := hbx.cell 2
        have HB1 := Lib.hid hbw1
        have HP1 := Lib.hid hp1
        have hz1 := hbw1.size
        clear hx hal hbw1 hp1 hbx P0
        cases hi : St.slotB up.length x with
        | true =>
          have HC := Lib.hid (show Calls _ _ _ _ (Tells W1 true) by rw [← hi]; exact hc)
          have HI := Lib.hid hi
          clear hi hc
          go_wp2_with (fail)
          refine HC.out.mono ?_
          rintro e w2 ⟨rfl, hb2⟩
          have HB2 := Lib.hid (HB1.out.trans (hb2.mono HB1.out.size))
          have HP2 := Lib.hid (HP1.out.below hb2 HP1.out.lt)
          clear hb2 a0 a1 s0 s1 s2
          go_wp2
          go_roundw
          case rel => exact ⟨k + 1, by omega, by go_num, Lib.hid fun j u hj hu => by
            rcases Nat.lt_or_eq_of_le (Nat.le_of_lt_succ hj) with h | rfl
            · exact HS.out j u h hu
            · rw [HX.out] at hu
              injection hu with hu
              rw [← hu]; exact HI.out, HB2, HP2⟩
          case measure => simp [intOf]; omega
        | false =>
          have HC := Lib.hid (show Calls _ _ _ _ (Tells W1 false) by rw [← hi]; exact hc)
          have HR2 := Lib.hid (show false = res by rw [← HRES.out]; exact (all_no HX.out hi).symm)
          clear hi hc
          go_wp2_with (fail)
          refine HC.out.mono ?_
          rintro e w2 ⟨rfl, hb2⟩
          have HB2 := Lib.hid (HB1.out.trans (hb2.mono HB1.out.size))
          clear hb2
          go_wp2
          go_ret
          exact ⟨retb HR2.out, HB2.out⟩
      · obtain rfl : k = l.length := by omega
        have HR2 := Lib.hid (show true = res by rw [← HRES.out]; exact (all_yes (by omega) fun j x hx => HS.out j x (List.getElem?_eq_some_iff.1 hx).1 hx).symm)
        go_wp2
        go_ret
        exact ⟨retb HR2.out, HBW.out⟩
end
def pubS (names : List ByteArray) (up : List Nat) (s : St.State) : Bool := decide (checkN names up = 0) && St.rightB up.length s
/-- Few enough of each. -/
structure SmallS (s : St.State) : Prop where
  code : s.code.length ≤ 1000
  mem : s.mem.length ≤ 1000
  stack : s.stack.length ≤ 1000
  out : s.out.length ≤ 1000
theorem pubS_five (names : List ByteArray) (up : List Nat) (s : St.State) : pubS names up s = (Cd.pubB names up s.code && ((St.pcB s.pc.v && St.labB up.length s.pc.l) && ((decide (s.mem.length ≤ 6) && s.mem.all (St.atomB up.length)) && ((decide (s.stack.length ≤ 12) && s.stack.all (St.slotB up.length)) && (decide (s.out.length ≤ 8) && s.out.all (St.atomB up.length)))))) := by
  unfold pubS St.rightB Cd.pubB
  simp only [Bool.and_assoc]
set_option maxHeartbeats 8000000 in
theorem sright_any {v sv : Value} {names : List ByteArray} {up : List Nat} {s : St.State} (w : World) (h : IsLat w w.heap.size v names up) (hs : IsSt w w.heap.size sv s) (hsm : SmallS s) :
    Calls Try.prog 28 #[v, sv] w (Tells w (pubS names up s)) := by
  obtain ⟨⟨N, U, c1, c2, rfl, hN, hU⟩, hsh, hfew, hcaps⟩ := id h
  obtain ⟨⟨pv, pl⟩, code, mem, stack, out⟩ := s
  obtain ⟨cv, mv, stv_, ov, rfl, ⟨cA, cc, rfl, hcr, hcc⟩, ⟨mA, mc, rfl, hmr, hmc⟩, ⟨sA, sc, rfl, hsr, hsc⟩, ⟨oA, oc, rfl, hor, hoc⟩⟩ := hs
  obtain ⟨hs1, hs2, hs3, hs4⟩ := hsm
  rw [pubS_five]
  dsimp only at hcr hcc hmr hmc hsr hsc hor hoc hs1 hs2 hs3 hs4 ⊢
  unfold stv
  dsimp only
  have HC1 := Lib.hid (fun W (hb : Below w.heap.size w W) => cRight_any cc W ((h.below hb).more hb.size) ((hcr.below hb).more hb.size) hs1)
  have HC2 := Lib.hid (fun W (hb : Below w.heap.size w W) => sisPlace_any ⟨pv, pl⟩ W ((h.below hb).more hb.size))
  have HC3 := Lib.hid (fun W (hb : Below w.heap.size w W) => allA_any mc 6 (by decide) W ((h.below hb).more hb.size) ((hmr.below hb).more hb.size) hs2)
  have HC4 := Lib.hid (fun W (hb : Below w.heap.size w W) => allS_any sc 12 (by decide) W ((h.below hb).more hb.size) ((hsr.below hb).more hb.size) hs3)
  have HC5 := Lib.hid (fun W (hb : Below w.heap.size w W) => allA_any oc 8 (by decide) W ((h.below hb).more hb.size) ((hor.below hb).more hb.size) hs4)
  have hb := (((Below.refl _ w).alloc (Nat.le_refl _) (.cells #[.slice N names.length c1, .slice U up.length c2] 25)).alloc (by simp) (.cells #[.int .i64 pv, .int .i64 pl, .slice cA code.length cc, .slice mA mem.length mc, .slice sA stack.length sc, .slice oA out.length oc] 39))
  obtain ⟨W0, hW0⟩ : ∃ W0, (w.alloc (.cells #[.slice N names.length c1, .slice U up.length c2] 25)).alloc (.cells #[.int .i64 pv, .int .i64 pl, .slice cA code.length cc, .slice mA mem.length mc, .slice sA stack.length sc, .slice oA out.length oc] 39) = W0 := ⟨_, rfl⟩
  have hp0 : Blk W0 w.heap.size 25 #[.slice N names.length c1, .slice U up.length c2] := hW0 ▸ (Blk.new _ _ _).alloc _
  have hp1 : Blk W0 (w.heap.size + 1) 39 #[.int .i64 pv, .int .i64 pl, .slice cA code.length cc, .slice mA mem.length mc, .slice sA stack.length sc, .slice oA out.length oc] := by
    have h1 := Blk.new (w.alloc (.cells #[.slice N names.length c1, .slice U up.length c2] 25)) 39 #[.int .i64 pv, .int .i64 pl, .slice cA code.length cc, .slice mA mem.length mc, .slice sA stack.length sc, .slice oA out.length oc]
    rw [show (w.alloc (.cells #[.slice N names.length c1, .slice U up.length c2] 25)).heap.size = w.heap.size + 1 by simp] at h1
    rw [← hW0]; exact h1
  rw [hW0] at hb
  clear h hN hU hcr hmr hsr hor
  have a0 : W0.cell? ⟨w.heap.size, 0, none⟩ = some (.slice N names.length c1) := hp0.cell 0
  have a1 : W0.cell? ⟨w.heap.size, 1, none⟩ = some (.slice U up.length c2) := hp0.cell 1
  have s0 : W0.cell? ⟨w.heap.size + 1, 0, none⟩ = some (.int .i64 pv) := hp1.cell 0
  have s1 : W0.cell? ⟨w.heap.size + 1, 1, none⟩ = some (.int .i64 pl) := hp1.cell 1
  have s2 : W0.cell? ⟨w.heap.size + 1, 2, none⟩ = some (.slice cA code.length cc) := hp1.cell 2
  have s3 : W0.cell? ⟨w.heap.size + 1, 3, none⟩ = some (.slice mA mem.length mc) := hp1.cell 3
  have s4 : W0.cell? ⟨w.heap.size + 1, 4, none⟩ = some (.slice sA stack.length sc) := hp1.cell 4
  have s5 : W0.cell? ⟨w.heap.size + 1, 5, none⟩ = some (.slice oA out.length oc) := hp1.cell 5
  have HB := Lib.hid hb
  have HP0 := Lib.hid hp0
  have HP1 := Lib.hid hp1
  clear hb hp0 hp1
  dsimp only at HC2
  generalize Cd.pubB names up code = b1 at *
  generalize (St.pcB pv && St.labB up.length pl) = b2 at *
  generalize (decide (mem.length ≤ 6) && mem.all (St.atomB up.length)) = b3 at *
  generalize (decide (stack.length ≤ 12) && stack.all (St.slotB up.length)) = b4 at *
  generalize (decide (out.length ≤ 8) && out.all (St.atomB up.length)) = b5 at *
  cases b1 with
  | false =>
    rw [Bool.false_and]
    go_enter Try.func28, Try.ntmps28
    go_wp2_with (fail)
    refine (HC1.out W0 HB.out).mono ?_
    rintro e W1 ⟨rfl, hb9⟩
    have HB9 := Lib.hid (HB.out.trans (hb9.mono HB.out.size))
    clear hb9 a0 a1 s0 s1 s2 s3 s4 s5
    go_wp2
    go_ret
    exact ⟨rfl, HB9.out⟩
  | true =>
    rw [Bool.true_and]
    cases b2 with
    | false =>
      rw [Bool.false_and]
      go_enter Try.func28, Try.ntmps28
      go_wp2_with (fail)
      refine (HC1.out W0 HB.out).mono ?_
      rintro e W1 ⟨rfl, hb9⟩
      have hp0 := HP0.out.below hb9 HP0.out.lt
      have hp1 := HP1.out.below hb9 HP1.out.lt
      have hb := HB.out.trans (hb9.mono HB.out.size)
      clear hb9 HB HP0 HP1 a0 a1 s0 s1 s2 s3 s4 s5
      have a0 : W1.cell? ⟨w.heap.size, 0, none⟩ = some (.slice N names.length c1) := hp0.cell 0
      have a1 : W1.cell? ⟨w.heap.size, 1, none⟩ = some (.slice U up.length c2) := hp0.cell 1
      have s0 : W1.cell? ⟨w.heap.size + 1, 0, none⟩ = some (.int .i64 pv) := hp1.cell 0
      have s1 : W1.cell? ⟨w.heap.size + 1, 1, none⟩ = some (.int .i64 pl) := hp1.cell 1
      have s2 : W1.cell? ⟨w.heap.size + 1, 2, none⟩ = some (.slice cA code.length cc) := hp1.cell 2
      have s3 : W1.cell? ⟨w.heap.size + 1, 3, none⟩ = some (.slice mA mem.length mc) := hp1.cell 3
      have s4 : W1.cell? ⟨w.heap.size + 1, 4, none⟩ = some (.slice sA stack.length sc) := hp1.cell 4
      have s5 : W1.cell? ⟨w.heap.size + 1, 5, none⟩ = some (.slice oA out.length oc) := hp1.cell 5
      have HB := Lib.hid hb
      have HP0 := Lib.hid hp0
      have HP1 := Lib.hid hp1
      clear hb hp0 hp1
      go_wp2_with (fail)
      refine (HC2.out W1 HB.out).mono ?_
      rintro e W2 ⟨rfl, hb9⟩
      have HB9 := Lib.hid (HB.out.trans (hb9.mono HB.out.size))
      clear hb9 a0 a1 s0 s1 s2 s3 s4 s5
      go_wp2
      go_ret
      exact ⟨rfl, HB9.out⟩
    | true =>
      rw [Bool.true_and]
      cases b3 with
      | false =>
        rw [Bool.false_and]
        go_enter Try.func28, Try.ntmps28
        go_wp2_with (fail)
        refine (HC1.out W0 HB.out).mono ?_
        rintro e W1 ⟨rfl, hb9⟩
        have hp0 := HP0.out.below hb9 HP0.out.lt
        have hp1 := HP1.out.below hb9 HP1.out.lt
        have hb := HB.out.trans (hb9.mono HB.out.size)
        clear hb9 HB HP0 HP1 a0 a1 s0 s1 s2 s3 s4 s5
        have a0 : W1.cell? ⟨w.heap.size, 0, none⟩ = some (.slice N names.length c1) := hp0.cell 0
        have a1 : W1.cell? ⟨w.heap.size, 1, none⟩ = some (.slice U up.length c2) := hp0.cell 1
        have s0 : W1.cell? ⟨w.heap.size + 1, 0, none⟩ = some (.int .i64 pv) := hp1.cell 0
        have s1 : W1.cell? ⟨w.heap.size + 1, 1, none⟩ = some (.int .i64 pl) := hp1.cell 1
        have s2 : W1.cell? ⟨w.heap.size + 1, 2, none⟩ = some (.slice cA code.length cc) := hp1.cell 2
        have s3 : W1.cell? ⟨w.heap.size + 1, 3, none⟩ = some (.slice mA mem.length mc) := hp1.cell 3
        have s4 : W1.cell? ⟨w.heap.size + 1, 4, none⟩ = some (.slice sA stack.length sc) := hp1.cell 4
        have s5 : W1.cell? ⟨w.heap.size + 1, 5, none⟩ = some (.slice oA out.length oc) := hp1.cell 5
        have HB := Lib.hid hb
        have HP0 := Lib.hid hp0
        have HP1 := Lib.hid hp1
        clear hb hp0 hp1
        go_wp2_with (fail)
        refine (HC2.out W1 HB.out).mono ?_
        rintro e W2 ⟨rfl, hb9⟩
        have hp0 := HP0.out.below hb9 HP0.out.lt
        have hp1 := HP1.out.below hb9 HP1.out.lt
        have hb := HB.out.trans (hb9.mono HB.out.size)
        clear hb9 HB HP0 HP1 a0 a1 s0 s1 s2 s3 s4 s5
        have a0 : W2.cell? ⟨w.heap.size, 0, none⟩ = some (.slice N names.length c1) := hp0.cell 0
        have a1 : W2.cell? ⟨w.heap.size, 1, none⟩ = some (.slice U up.length c2) := hp0.cell 1
        have s0 : W2.cell? ⟨w.heap.size + 1, 0, none⟩ = some (.int .i64 pv) := hp1.cell 0
        have s1 : W2.cell? ⟨w.heap.size + 1, 1, none⟩ = some (.int .i64 pl) := hp1.cell 1
        have s2 : W2.cell? ⟨w.heap.size + 1, 2, none⟩ = some (.slice cA code.length cc) := hp1.cell 2
        have s3 : W2.cell? ⟨w.heap.size + 1, 3, none⟩ = some (.slice mA mem.length mc) := hp1.cell 3
        have s4 : W2.cell? ⟨w.heap.size + 1, 4, none⟩ = some (.slice sA stack.length sc) := hp1.cell 4
        have s5 : W2.cell? ⟨w.heap.size + 1, 5, none⟩ = some (.slice oA out.length oc) := hp1.cell 5
        have HB := Lib.hid hb
        have HP0 := Lib.hid hp0
        have HP1 := Lib.hid hp1
        clear hb hp0 hp1
        go_wp2_with (fail)
        refine (HC3.out W2 HB.out).mono ?_
        rintro e W3 ⟨rfl, hb9⟩
        have HB9 := Lib.hid (HB.out.trans (hb9.mono HB.out.size))
        clear hb9 a0 a1 s0 s1 s2 s3 s4 s5
        go_wp2
        go_ret
        exact ⟨rfl, HB9.out⟩
      | true =>
        rw [Bool.true_and]
        cases b4 with
        | false =>
          rw [Bool.false_and]
          go_enter Try.func28, Try.ntmps28
          go_wp2_with (fail)
          refine (HC1.out W0 HB.out).mono ?_
          rintro e W1 ⟨rfl, hb9⟩
          have hp0 := HP0.out.below hb9 HP0.out.lt
          have hp1 := HP1.out.below hb9 HP1.out.lt
          have hb := HB.out.trans (hb9.mono HB.out.size)
          clear hb9 HB HP0 HP1 a0 a1 s0 s1 s2 s3 s4 s5
          have a0 : W1.cell? ⟨w.heap.size, 0, none⟩ = some (.slice N names.length c1) := hp0.cell 0
          have a1 : W1.cell? ⟨w.heap.size, 1, none⟩ = some (.slice U up.length c2) := hp0.cell 1
          have s0 : W1.cell? ⟨w.heap.size + 1, 0, none⟩ = some (.int .i64 pv) := hp1.cell 0
          have s1 : W1.cell? ⟨w.heap.size + 1, 1, none⟩ = some (.int .i64 pl) := hp1.cell 1
          have s2 : W1.cell? ⟨w.heap.size + 1, 2, none⟩ = some (.slice cA code.length cc) := hp1.cell 2
          have s3 : W1.cell? ⟨w.heap.size + 1, 3, none⟩ = some (.slice mA mem.length mc) := hp1.cell 3
          have s4 : W1.cell? ⟨w.heap.size + 1, 4, none⟩ = some (.slice sA stack.length sc) := hp1.cell 4
          have s5 : W1.cell? ⟨w.heap.size + 1, 5, none⟩ = some (.slice oA out.length oc) := hp1.cell 5
          have HB := Lib.hid hb
          have HP0 := Lib.hid hp0
          have HP1 := Lib.hid hp1
          clear hb hp0 hp1
          go_wp2_with (fail)
          refine (HC2.out W1 HB.out).mono ?_
          rintro e W2 ⟨rfl, hb9⟩
          have hp0 := HP0.out.below hb9 HP0.out.lt
          have hp1 := HP1.out.below hb9 HP1.out.lt
          have hb := HB.out.trans (hb9.mono HB.out.size)
          clear hb9 HB HP0 HP1 a0 a1 s0 s1 s2 s3 s4 s5
          have a0 : W2.cell? ⟨w.heap.size, 0, none⟩ = some (.slice N names.length c1) := hp0.cell 0
          have a1 : W2.cell? ⟨w.heap.size, 1, none⟩ = some (.slice U up.length c2) := hp0.cell 1
          have s0 : W2.cell? ⟨w.heap.size + 1, 0, none⟩ = some (.int .i64 pv) := hp1.cell 0
          have s1 : W2.cell? ⟨w.heap.size + 1, 1, none⟩ = some (.int .i64 pl) := hp1.cell 1
          have s2 : W2.cell? ⟨w.heap.size + 1, 2, none⟩ = some (.slice cA code.length cc) := hp1.cell 2
          have s3 : W2.cell? ⟨w.heap.size + 1, 3, none⟩ = some (.slice mA mem.length mc) := hp1.cell 3
          have s4 : W2.cell? ⟨w.heap.size + 1, 4, none⟩ = some (.slice sA stack.length sc) := hp1.cell 4
          have s5 : W2.cell? ⟨w.heap.size + 1, 5, none⟩ = some (.slice oA out.length oc) := hp1.cell 5
          have HB := Lib.hid hb
          have HP0 := Lib.hid hp0
          have HP1 := Lib.hid hp1
          clear hb hp0 hp1
          go_wp2_with (fail)
          refine (HC3.out W2 HB.out).mono ?_
          rintro e W3 ⟨rfl, hb9⟩
          have hp0 := HP0.out.below hb9 HP0.out.lt
          have hp1 := HP1.out.below hb9 HP1.out.lt
          have hb := HB.out.trans (hb9.mono HB.out.size)
          clear hb9 HB HP0 HP1 a0 a1 s0 s1 s2 s3 s4 s5
          have a0 : W3.cell? ⟨w.heap.size, 0, none⟩ = some (.slice N names.length c1) := hp0.cell 0
          have a1 : W3.cell? ⟨w.heap.size, 1, none⟩ = some (.slice U up.length c2) := hp0.cell 1
          have s0 : W3.cell? ⟨w.heap.size + 1, 0, none⟩ = some (.int .i64 pv) := hp1.cell 0
          have s1 : W3.cell? ⟨w.heap.size + 1, 1, none⟩ = some (.int .i64 pl) := hp1.cell 1
          have s2 : W3.cell? ⟨w.heap.size + 1, 2, none⟩ = some (.slice cA code.length cc) := hp1.cell 2
          have s3 : W3.cell? ⟨w.heap.size + 1, 3, none⟩ = some (.slice mA mem.length mc) := hp1.cell 3
          have s4 : W3.cell? ⟨w.heap.size + 1, 4, none⟩ = some (.slice sA stack.length sc) := hp1.cell 4
          have s5 : W3.cell? ⟨w.heap.size + 1, 5, none⟩ = some (.slice oA out.length oc) := hp1.cell 5
          have HB := Lib.hid hb
          have HP0 := Lib.hid hp0
          have HP1 := Lib.hid hp1
          clear hb hp0 hp1
          go_wp2_with (fail)
          refine (HC4.out W3 HB.out).mono ?_
          rintro e W4 ⟨rfl, hb9⟩
          have HB9 := Lib.hid (HB.out.trans (hb9.mono HB.out.size))
          clear hb9 a0 a1 s0 s1 s2 s3 s4 s5
          go_wp2
          go_ret
          exact ⟨rfl, HB9.out⟩
        | true =>
          rw [Bool.true_and]
          go_enter Try.func28, Try.ntmps28
          go_wp2_with (fail)
          refine (HC1.out W0 HB.out).mono ?_
          rintro e W1 ⟨rfl, hb9⟩
          have hp0 := HP0.out.below hb9 HP0.out.lt
          have hp1 := HP1.out.below hb9 HP1.out.lt
          have hb := HB.out.trans (hb9.mono HB.out.size)
          clear hb9 HB HP0 HP1 a0 a1 s0 s1 s2 s3 s4 s5
          have a0 : W1.cell? ⟨w.heap.size, 0, none⟩ = some (.slice N names.length c1) := hp0.cell 0
          have a1 : W1.cell? ⟨w.heap.size, 1, none⟩ = some (.slice U up.length c2) := hp0.cell 1
          have s0 : W1.cell? ⟨w.heap.size + 1, 0, none⟩ = some (.int .i64 pv) := hp1.cell 0
          have s1 : W1.cell? ⟨w.heap.size + 1, 1, none⟩ = some (.int .i64 pl) := hp1.cell 1
          have s2 : W1.cell? ⟨w.heap.size + 1, 2, none⟩ = some (.slice cA code.length cc) := hp1.cell 2
          have s3 : W1.cell? ⟨w.heap.size + 1, 3, none⟩ = some (.slice mA mem.length mc) := hp1.cell 3
          have s4 : W1.cell? ⟨w.heap.size + 1, 4, none⟩ = some (.slice sA stack.length sc) := hp1.cell 4
          have s5 : W1.cell? ⟨w.heap.size + 1, 5, none⟩ = some (.slice oA out.length oc) := hp1.cell 5
          have HB := Lib.hid hb
          have HP0 := Lib.hid hp0
          have HP1 := Lib.hid hp1
          clear hb hp0 hp1
          go_wp2_with (fail)
          refine (HC2.out W1 HB.out).mono ?_
          rintro e W2 ⟨rfl, hb9⟩
          have hp0 := HP0.out.below hb9 HP0.out.lt
          have hp1 := HP1.out.below hb9 HP1.out.lt
          have hb := HB.out.trans (hb9.mono HB.out.size)
          clear hb9 HB HP0 HP1 a0 a1 s0 s1 s2 s3 s4 s5
          have a0 : W2.cell? ⟨w.heap.size, 0, none⟩ = some (.slice N names.length c1) := hp0.cell 0
          have a1 : W2.cell? ⟨w.heap.size, 1, none⟩ = some (.slice U up.length c2) := hp0.cell 1
          have s0 : W2.cell? ⟨w.heap.size + 1, 0, none⟩ = some (.int .i64 pv) := hp1.cell 0
          have s1 : W2.cell? ⟨w.heap.size + 1, 1, none⟩ = some (.int .i64 pl) := hp1.cell 1
          have s2 : W2.cell? ⟨w.heap.size + 1, 2, none⟩ = some (.slice cA code.length cc) := hp1.cell 2
          have s3 : W2.cell? ⟨w.heap.size + 1, 3, none⟩ = some (.slice mA mem.length mc) := hp1.cell 3
          have s4 : W2.cell? ⟨w.heap.size + 1, 4, none⟩ = some (.slice sA stack.length sc) := hp1.cell 4
          have s5 : W2.cell? ⟨w.heap.size + 1, 5, none⟩ = some (.slice oA out.length oc) := hp1.cell 5
          have HB := Lib.hid hb
          have HP0 := Lib.hid hp0
          have HP1 := Lib.hid hp1
          clear hb hp0 hp1
          go_wp2_with (fail)
          refine (HC3.out W2 HB.out).mono ?_
          rintro e W3 ⟨rfl, hb9⟩
          have hp0 := HP0.out.below hb9 HP0.out.lt
          have hp1 := HP1.out.below hb9 HP1.out.lt
          have hb := HB.out.trans (hb9.mono HB.out.size)
          clear hb9 HB HP0 HP1 a0 a1 s0 s1 s2 s3 s4 s5
          have a0 : W3.cell? ⟨w.heap.size, 0, none⟩ = some (.slice N names.length c1) := hp0.cell 0
          have a1 : W3.cell? ⟨w.heap.size, 1, none⟩ = some (.slice U up.length c2) := hp0.cell 1
          have s0 : W3.cell? ⟨w.heap.size + 1, 0, none⟩ = some (.int .i64 pv) := hp1.cell 0
          have s1 : W3.cell? ⟨w.heap.size + 1, 1, none⟩ = some (.int .i64 pl) := hp1.cell 1
          have s2 : W3.cell? ⟨w.heap.size + 1, 2, none⟩ = some (.slice cA code.length cc) := hp1.cell 2
          have s3 : W3.cell? ⟨w.heap.size + 1, 3, none⟩ = some (.slice mA mem.length mc) := hp1.cell 3
          have s4 : W3.cell? ⟨w.heap.size + 1, 4, none⟩ = some (.slice sA stack.length sc) := hp1.cell 4
          have s5 : W3.cell? ⟨w.heap.size + 1, 5, none⟩ = some (.slice oA out.length oc) := hp1.cell 5
          have HB := Lib.hid hb
          have HP0 := Lib.hid hp0
          have HP1 := Lib.hid hp1
          clear hb hp0 hp1
          go_wp2_with (fail)
          refine (HC4.out W3 HB.out).mono ?_
          rintro e W4 ⟨rfl, hb9⟩
          have hp0 := HP0.out.below hb9 HP0.out.lt
          have hp1 := HP1.out.below hb9 HP1.out.lt
          have hb := HB.out.trans (hb9.mono HB.out.size)
          clear hb9 HB HP0 HP1 a0 a1 s0 s1 s2 s3 s4 s5
          have a0 : W4.cell? ⟨w.heap.size, 0, none⟩ = some (.slice N names.length c1) := hp0.cell 0
          have a1 : W4.cell? ⟨w.heap.size, 1, none⟩ = some (.slice U up.length c2) := hp0.cell 1
          have s0 : W4.cell? ⟨w.heap.size + 1, 0, none⟩ = some (.int .i64 pv) := hp1.cell 0
          have s1 : W4.cell? ⟨w.heap.size + 1, 1, none⟩ = some (.int .i64 pl) := hp1.cell 1
          have s2 : W4.cell? ⟨w.heap.size + 1, 2, none⟩ = some (.slice cA code.length cc) := hp1.cell 2
          have s3 : W4.cell? ⟨w.heap.size + 1, 3, none⟩ = some (.slice mA mem.length mc) := hp1.cell 3
          have s4 : W4.cell? ⟨w.heap.size + 1, 4, none⟩ = some (.slice sA stack.length sc) := hp1.cell 4
          have s5 : W4.cell? ⟨w.heap.size + 1, 5, none⟩ = some (.slice oA out.length oc) := hp1.cell 5
          have HB := Lib.hid hb
          have HP0 := Lib.hid hp0
          have HP1 := Lib.hid hp1
          clear hb hp0 hp1
          go_wp2_with (fail)
          refine (HC5.out W4 HB.out).mono ?_
          rintro e W5 ⟨rfl, hb9⟩
          have HB9 := Lib.hid (HB.out.trans (hb9.mono HB.out.size))
          clear hb9 a0 a1 s0 s1 s2 s3 s4 s5
          go_wp2
          go_ret
          exact ⟨rfl, HB9.out⟩
end Go.Proofs.Ytmbgndcahlopdaa

/- The reference's AtomsSame and Same (by gen_stmi.py). -/
namespace Go.Proofs.Ytmbgndcahlopdaa
set_option maxRecDepth 100000
open Go.RowKit Go.Shelf Go.Sort
attribute [local go_sem] Oper.semAt_some
theorem eqF2 {P : Program} {it : TypeId} (hu : P.underlying it = some (.int .i64)) (hp : P.plainKey it = true) (w : World) (d : Nat) (f0 f1 : Field) (h0 : f0.name ≠ "_" ∧ f0.type = it ∧ f0.offset = 0) (h1 : f1.name ≠ "_" ∧ f1.type = it ∧ f1.offset = 1) (a0 a1 b0 b1 : Int) :
    (Op.eqFields (d + 1) #[.int .i64 a0, .int .i64 a1] #[.int .i64 b0, .int .i64 b1] [f0, f1]).run P w = .ok (a0 == b0 && a1 == b1) w := by
  have p : ∀ (xs : Array Value) (off : Nat) (v : Value), xs[off]? = some v → (part it xs off).run P w = .ok v w := fun xs off v h => run_part_plain w hp h
  have p0 : ∀ a b : Int, (part it #[.int .i64 a, .int .i64 b] 0).run P w = .ok (.int .i64 a) w := fun a b => p _ _ _ rfl
  have p1 : ∀ a b : Int, (part it #[.int .i64 a, .int .i64 b] 1).run P w = .ok (.int .i64 b) w := fun a b => p _ _ _ rfl
  have q : ∀ a b : Int, (Op.equalIn (d + 1) it (.int .i64 a) (.int .i64 b)).run P w = .ok (a == b) w := fun a b => run_equalIn_int w d it .i64 .i64 a b hu
  obtain ⟨n0, t0, o0⟩ := h0
  obtain ⟨n1, t1, o1⟩ := h1
  simp only [Op.eqFields, n0, n1, t0, t1, o0, o1, ne_eq, not_false_eq_true, if_true, Sem.run_bind, Sem.run_ite, Sem.run_pure, p0, p1, q, Result.andThen_ok]
  generalize (a0 == b0) = u0
  generalize (a1 == b1) = u1
  clear p p0 p1 q
  cases u0 <;> cases u1 <;> simp
theorem eqF3b {P : Program} {bt it : TypeId} (hub : P.underlying bt = some .bool) (hpb : P.plainKey bt = true) (hu : P.underlying it = some (.int .i64)) (hp : P.plainKey it = true) (w : World) (d : Nat) (f0 f1 f2 : Field) (h0 : f0.name ≠ "_" ∧ f0.type = bt ∧ f0.offset = 0) (h1 : f1.name ≠ "_" ∧ f1.type = it ∧ f1.offset = 1) (h2 : f2.name ≠ "_" ∧ f2.type = it ∧ f2.offset = 2) (a0 b0 : Bool) (a1 a2 b1 b2 : Int) :
    (Op.eqFields (d + 1) #[.bool a0, .int .i64 a1, .int .i64 a2] #[.bool b0, .int .i64 b1, .int .i64 b2] [f0, f1, f2]).run P w = .ok (a0 == b0 && (a1 == b1 && a2 == b2)) w := by
  have p : ∀ (xs : Array Value) (off : Nat) (v : Value), xs[off]? = some v → (part it xs off).run P w = .ok v w := fun xs off v h => run_part_plain w hp h
  have p0 : ∀ (a : Bool) (b c : Int), (part bt #[.bool a, .int .i64 b, .int .i64 c] 0).run P w = .ok (.bool a) w := fun a b c => run_part_plain w hpb rfl
  have p1 : ∀ (a : Bool) (b c : Int), (part it #[.bool a, .int .i64 b, .int .i64 c] 1).run P w = .ok (.int .i64 b) w := fun a b c => p _ _ _ rfl
  have p2 : ∀ (a : Bool) (b c : Int), (part it #[.bool a, .int .i64 b, .int .i64 c] 2).run P w = .ok (.int .i64 c) w := fun a b c => p _ _ _ rfl
  have q0 : ∀ a b : Bool, (Op.equalIn (d + 1) bt (.bool a) (.bool b)).run P w = .ok (a == b) w := fun a b => run_equalIn_bool w d bt a b hub
  have q : ∀ a b : Int, (Op.equalIn (d + 1) it (.int .i64 a) (.int .i64 b)).run P w = .ok (a == b) w := fun a b => run_equalIn_int w d it .i64 .i64 a b hu
  obtain ⟨n0, t0, o0⟩ := h0
  obtain ⟨n1, t1, o1⟩ := h1
  obtain ⟨n2, t2, o2⟩ := h2
  simp only [Op.eqFields, n0, n1, n2, t0, t1, t2, o0, o1, o2, ne_eq, not_false_eq_true, if_true, Sem.run_bind, Sem.run_ite, Sem.run_pure, p0, p1, p2, q0, q, Result.andThen_ok]
  generalize (a0 == b0) = u0
  generalize (a1 == b1) = u1
  generalize (a2 == b2) = u2
  clear p p0 p1 p2 q q0
  cases u0 <;> cases u1 <;> cases u2 <;> simp
theorem run_ateq (x y : St.Atom) (w : World) : (Op.equalIn 10000 34 (.agg #[.int .i64 x.v, .int .i64 x.l]) (.agg #[.int .i64 y.v, .int .i64 y.l])).run Try.prog w = .ok (decide (x = y)) w := by
  have hd : decide (x = y) = (x.v == y.v && x.l == y.l) := by
    obtain ⟨a, b⟩ := x
    obtain ⟨d, e⟩ := y
    rw [Bool.eq_iff_iff]
    simp
  have hl : (Try.prog.fieldsOf 34).toList = [(Try.prog.fieldsOf 34).getD 0 ⟨ "", 0, 0, false, "", "", 0⟩, (Try.prog.fieldsOf 34).getD 1 ⟨ "", 0, 0, false, "", "", 0⟩] := by kernel_rfl
  rw [hd, run_equalIn_struct w 9999 34 _ _ (by kernel_rfl) (by kernel_rfl), hl]
  exact eqF2 Try.underlying3 (by kernel_rfl) w 9998 _ _ ⟨by decide +kernel, by kernel_rfl, by kernel_rfl⟩ ⟨by decide +kernel, by kernel_rfl, by kernel_rfl⟩ _ _ _ _
theorem run_sleq (x y : St.Slot) (w : World) : (Op.equalIn 10000 70 (.agg #[.bool x.ret, .int .i64 x.v, .int .i64 x.l]) (.agg #[.bool y.ret, .int .i64 y.v, .int .i64 y.l])).run Try.prog w = .ok (decide (x = y)) w := by
  have hd : decide (x = y) = (x.ret == y.ret && (x.v == y.v && x.l == y.l)) := by
    obtain ⟨a, b, c⟩ := x
    obtain ⟨d, e, f⟩ := y
    rw [Bool.eq_iff_iff]
    simp
  have hl : (Try.prog.fieldsOf 70).toList = [(Try.prog.fieldsOf 70).getD 0 ⟨ "", 0, 0, false, "", "", 0⟩, (Try.prog.fieldsOf 70).getD 1 ⟨ "", 0, 0, false, "", "", 0⟩, (Try.prog.fieldsOf 70).getD 2 ⟨ "", 0, 0, false, "", "", 0⟩] := by kernel_rfl
  rw [hd, run_equalIn_struct w 9999 70 _ _ (by kernel_rfl) (by kernel_rfl), hl]
  exact eqF3b Try.underlying4 (by kernel_rfl) Try.underlying3 (by kernel_rfl) w 9998 _ _ _ ⟨by decide +kernel, by kernel_rfl, by kernel_rfl⟩ ⟨by decide +kernel, by kernel_rfl, by kernel_rfl⟩ ⟨by decide +kernel, by kernel_rfl, by kernel_rfl⟩ _ _ _ _ _ _
theorem run_at_neq (x y : St.Atom) (w : World) : (binOp .neq 34 (.agg #[.int .i64 x.v, .int .i64 x.l]) (.agg #[.int .i64 y.v, .int .i64 y.l])).run Try.prog w = .ok (.bool (!decide (x = y))) w := by
  rw [run_neq_struct, run_ateq]
  rfl
theorem run_sl_neq (x y : St.Slot) (w : World) : (binOp .neq 70 (.agg #[.bool x.ret, .int .i64 x.v, .int .i64 x.l]) (.agg #[.bool y.ret, .int .i64 y.v, .int .i64 y.l])).run Try.prog w = .ok (.bool (!decide (x = y))) w := by
  rw [run_neq_struct, run_sleq]
  rfl
theorem below_drawn_blk {b : Nat} {t : TypeId} {c : Array Value} {w : World} (h : Blk w b t c) (n : Nat) : Blk (w.drewN n) b t c := h
theorem same_stepA {α : Type} {a b : List α} {k : Nat} {x y : α} (ha : a[k]? = some x) (hb : b[k]? = some y) (h : x ≠ y) : a ≠ b := fun e => by
  rw [e, hb] at ha
  injection ha with ha
  exact h ha.symm
theorem same_allA {α : Type} {a b : List α} (hl : a.length = b.length) (h : ∀ (k : Nat) (x y : α), a[k]? = some x → b[k]? = some y → x = y) : a = b :=
  List.ext_getElem? fun k => by
    by_cases hk : k < a.length
    · rw [List.getElem?_eq_getElem hk, List.getElem?_eq_getElem (by omega), h k _ _ (List.getElem?_eq_getElem hk) (List.getElem?_eq_getElem (by omega))]
    · rw [List.getElem?_eq_none (by omega), List.getElem?_eq_none (by omega)]
set_option maxHeartbeats 4000000 in
theorem rAtomsSame_any {A B : Option Addr} {a b : List St.Atom} (c d : Nat) (w : World) (h : Row w w.heap.size A (fcells avs a)) (h' : Row w w.heap.size B (fcells avs b)) (ha : a.length ≤ 1000) (_hb : b.length ≤ 1000) :
    Calls Try.prog 23 #[.slice A a.length c, .slice B b.length d] w (Tells w (decide (a = b))) := by
  obtain ⟨res, hres⟩ : ∃ res, decide (a = b) = res := ⟨_, rfl⟩
  rw [hres]
  have HA := Lib.hid h
  have HBR := Lib.hid h'
  have HRES := Lib.hid hres
  have HB := Lib.hid (Below.refl w.heap.size w)
  clear h h' hres
  by_cases hl : a.length = b.length
  · have h1 : ((a.length : Int) != (b.length : Int)) = false := by rw [bne_eq_false_iff_eq]; omega
    have HL := Lib.hid hl
    go_enter Try.func23, Try.ntmps23
    go_wp2
    go_loopw [13] (fun i wr => ∃ k : Nat, k ≤ a.length ∧ i = .int .i64 k ∧ Hid (∀ (j : Nat) (x y : St.Atom), j < k → a[j]? = some x → b[j]? = some y → x = y) ∧ Hid (Below w.heap.size w wr)) (fun i _ => a.length - (intOf i).toNat)
    case atStart => exact ⟨0, Nat.zero_le _, rfl, Lib.hid fun j x y hj => absurd hj (Nat.not_lt_zero _), HB⟩
    case round =>
      obtain ⟨k, hk, rfl, HS, HBW⟩ := hrel
      by_cases hlt : k < a.length
      · obtain ⟨ad, x, rfl, hxb, hx, x0, x1⟩ := arow_at (HA.out.below HBW.out) hlt
        obtain ⟨bd, y, rfl, hyb, hy, y0, y1⟩ := arow_at (HBR.out.below HBW.out) (show k < b.length by have := HL.out; omega)
        have hq := fun w => run_at_neq x y w
        have hz := HBW.out.size
        have hxb2 : (ad.add (k * 2)).block < wr.heap.size := by rw [add_block]; omega
        have hyb2 : (bd.add (k * 2)).block < wr.heap.size := by rw [add_block]; omega
        have HX := Lib.hid hx
        have HY := Lib.hid hy
        clear hx hy
        have hlt2 : k < b.length := by have := HL.out; omega

        by_cases he : x = y
        · have hf : (!decide (x = y)) = false := by rw [decide_eq_true he]; rfl
          rw [hf] at hq
          have HE := Lib.hid he
          clear he hf
          generalize hx0 : x.v = xv at *
          generalize hx1 : x.l = xl at *
          generalize hy0 : y.v = yv at *
          generalize hy1 : y.l = yl at *
          clear hx0 hx1 hy0 hy1
          go_wp2
          go_quiet (fail)
          all_goals go_wp2
          go_roundw
          case rel => exact ⟨k + 1, by omega, by go_num, Lib.hid fun j u v hj hu hv => by
            rcases Nat.lt_or_eq_of_le (Nat.le_of_lt_succ hj) with h | rfl
            · exact HS.out j u v h hu hv
            · rw [HX.out] at hu; rw [HY.out] at hv
              injection hu with hu; injection hv with hv
              rw [← hu, ← hv]; exact HE.out, Lib.hid (below_drawn HBW.out _)⟩
          case measure => simp [intOf]; omega
        · have hf : (!decide (x = y)) = true := by rw [decide_eq_false he]; rfl
          rw [hf] at hq
          have HE := Lib.hid he
          clear he hf
          generalize hx0 : x.v = xv at *
          generalize hx1 : x.l = xl at *
          generalize hy0 : y.v = yv at *
          generalize hy1 : y.l = yl at *
          clear hx0 hx1 hy0 hy1
          go_wp2
          go_quiet (fail)
          all_goals go_wp2
          go_ret
          exact ⟨retb (by rw [← HRES.out]; exact (decide_eq_false (same_stepA HX.out HY.out HE.out)).symm), below_drawn HBW.out _⟩
      · obtain rfl : k = a.length := by omega
        go_wp2
        go_ret
        exact ⟨retb (by rw [← HRES.out]; exact (decide_eq_true (same_allA HL.out fun k x y hx hy => HS.out k x y (List.getElem?_eq_some_iff.1 hx).1 hx hy)).symm), HBW.out⟩
  · have h1 : ((a.length : Int) != (b.length : Int)) = true := by rw [bne_iff_ne]; omega
    have HR2 := Lib.hid (show false = res by rw [← HRES.out]; exact (decide_eq_false fun e => hl (by rw [e])).symm)
    clear hl
    go_enter Try.func23, Try.ntmps23
    go_wp2
    go_ret
    exact ⟨retb HR2.out, HB.out⟩
/-- Are two states the same? -/
def sameB (s t : St.State) : Bool := decide (s.pc = t.pc) && (decide (s.code = t.code) && (decide (s.mem = t.mem) && (decide (s.out = t.out) && decide (s.stack = t.stack))))
theorem sameB_iff {s t : St.State} : sameB s t = true ↔ s = t := by
  obtain ⟨a, b, c, d, e⟩ := s
  obtain ⟨a', b', c', d', e'⟩ := t
  unfold sameB
  simp only [Bool.and_eq_true, decide_eq_true_eq, St.State.mk.injEq]
  constructor
  · rintro ⟨h1, h2, h3, h4, h5⟩; exact ⟨h1, h2, h3, h5, h4⟩
  · rintro ⟨h1, h2, h3, h5, h4⟩; exact ⟨h1, h2, h3, h4, h5⟩
set_option maxHeartbeats 16000000 in
theorem rSame9_any {sv tv : Value} {s t : St.State} (w : World) (hs : IsSt w w.heap.size sv s) (ht : IsSt w w.heap.size tv t) (hsm : SmallS s) (htm : SmallS t) :
    Calls Try.prog 12 #[sv, tv] w (Tells w (sameB s t)) := by
  obtain ⟨⟨av, al⟩, acode, amem, astack, aout⟩ := s
  obtain ⟨⟨bv, bl⟩, bcode, bmem, bstack, bout⟩ := t
  obtain ⟨cv, mv, stv_, ov, rfl, ⟨acA, acc, rfl, hacr, hacc⟩, ⟨amA, amc, rfl, hamr, hamc⟩, ⟨asA, asc, rfl, hasr, hasc⟩, ⟨aoA, aoc, rfl, haor, haoc⟩⟩ := hs
  obtain ⟨cv, mv, stv_, ov, rfl, ⟨bcA, bcc, rfl, hbcr, hbcc⟩, ⟨bmA, bmc, rfl, hbmr, hbmc⟩, ⟨bsA, bsc, rfl, hbsr, hbsc⟩, ⟨boA, boc, rfl, hbor, hboc⟩⟩ := ht
  obtain ⟨hs1, hs2, hs3, hs4⟩ := hsm
  obtain ⟨ht1, ht2, ht3, ht4⟩ := htm
  unfold stv sameB
  dsimp only at hacr hacc hamr hamc hasr hasc haor haoc hbcr hbcc hbmr hbmc hbsr hbsc hbor hboc hs1 hs2 hs3 hs4 ht1 ht2 ht3 ht4 ⊢
  have HC1 := Lib.hid (fun W (hb : Below w.heap.size w W) => rSame_in acc bcc W ((hacr.below hb).more hb.size) ((hbcr.below hb).more hb.size) hs1 ht1)
  have HC2 := Lib.hid (fun W (hb : Below w.heap.size w W) => rAtomsSame_any amc bmc W ((hamr.below hb).more hb.size) ((hbmr.below hb).more hb.size) hs2 ht2)
  have HC3 := Lib.hid (fun W (hb : Below w.heap.size w W) => rAtomsSame_any aoc boc W ((haor.below hb).more hb.size) ((hbor.below hb).more hb.size) hs4 ht4)
  have HA := Lib.hid hasr
  have HBR := Lib.hid hbsr
  have hb0 := (((Below.refl _ w).alloc (Nat.le_refl _) (.cells #[.int .i64 av, .int .i64 al, .slice acA acode.length acc, .slice amA amem.length amc, .slice asA astack.length asc, .slice aoA aout.length aoc] 39)).alloc (by simp) (.cells #[.int .i64 bv, .int .i64 bl, .slice bcA bcode.length bcc, .slice bmA bmem.length bmc, .slice bsA bstack.length bsc, .slice boA bout.length boc] 39))
  obtain ⟨W0, hW0⟩ : ∃ W0, (w.alloc (.cells #[.int .i64 av, .int .i64 al, .slice acA acode.length acc, .slice amA amem.length amc, .slice asA astack.length asc, .slice aoA aout.length aoc] 39)).alloc (.cells #[.int .i64 bv, .int .i64 bl, .slice bcA bcode.length bcc, .slice bmA bmem.length bmc, .slice bsA bstack.length bsc, .slice boA bout.length boc] 39) = W0 := ⟨_, rfl⟩
  have hp0 : Blk W0 w.heap.size 39 #[.int .i64 av, .int .i64 al, .slice acA acode.length acc, .slice amA amem.length amc, .slice asA astack.length asc, .slice aoA aout.length aoc] := hW0 ▸ (Blk.new _ _ _).alloc _
  have hq0 : Blk W0 (w.heap.size + 1) 39 #[.int .i64 bv, .int .i64 bl, .slice bcA bcode.length bcc, .slice bmA bmem.length bmc, .slice bsA bstack.length bsc, .slice boA bout.length boc] := by
    have h1 := Blk.new (w.alloc (.cells #[.int .i64 av, .int .i64 al, .slice acA acode.length acc, .slice amA amem.length amc, .slice asA astack.length asc, .slice aoA aout.length aoc] 39)) 39 #[.int .i64 bv, .int .i64 bl, .slice bcA bcode.length bcc, .slice bmA bmem.length bmc, .slice bsA bstack.length bsc, .slice boA bout.length boc]
    rw [show (w.alloc (.cells #[.int .i64 av, .int .i64 al, .slice acA acode.length acc, .slice amA amem.length amc, .slice asA astack.length asc, .slice aoA aout.length aoc] 39)).heap.size = w.heap.size + 1 by simp] at h1
    rw [← hW0]; exact h1
  rw [hW0] at hb0
  have HP := Lib.hid hp0
  have HQ := Lib.hid hq0
  have HB := Lib.hid hb0
  have hpcq := fun w => run_at_neq ⟨av, al⟩ ⟨bv, bl⟩ w
  dsimp only at hpcq
  clear hb0 hp0 hq0 hacr hamr hasr haor hbcr hbmr hbsr hbor
  have a0 : W0.cell? ⟨w.heap.size, 0, none⟩ = some (.int .i64 av) := HP.out.cell 0
  have a1 : W0.cell? ⟨w.heap.size, 1, none⟩ = some (.int .i64 al) := HP.out.cell 1
  have a2 : W0.cell? ⟨w.heap.size, 2, none⟩ = some (.slice acA acode.length acc) := HP.out.cell 2
  have a3 : W0.cell? ⟨w.heap.size, 3, none⟩ = some (.slice amA amem.length amc) := HP.out.cell 3
  have a4 : W0.cell? ⟨w.heap.size, 4, none⟩ = some (.slice asA astack.length asc) := HP.out.cell 4
  have a5 : W0.cell? ⟨w.heap.size, 5, none⟩ = some (.slice aoA aout.length aoc) := HP.out.cell 5
  have b0 : W0.cell? ⟨w.heap.size + 1, 0, none⟩ = some (.int .i64 bv) := HQ.out.cell 0
  have b1 : W0.cell? ⟨w.heap.size + 1, 1, none⟩ = some (.int .i64 bl) := HQ.out.cell 1
  have b2 : W0.cell? ⟨w.heap.size + 1, 2, none⟩ = some (.slice bcA bcode.length bcc) := HQ.out.cell 2
  have b3 : W0.cell? ⟨w.heap.size + 1, 3, none⟩ = some (.slice bmA bmem.length bmc) := HQ.out.cell 3
  have b4 : W0.cell? ⟨w.heap.size + 1, 4, none⟩ = some (.slice bsA bstack.length bsc) := HQ.out.cell 4
  have b5 : W0.cell? ⟨w.heap.size + 1, 5, none⟩ = some (.slice boA bout.length boc) := HQ.out.cell 5
  generalize hd1 : decide ((⟨av, al⟩ : St.Atom) = ⟨bv, bl⟩) = d1 at *
  generalize hd2 : decide (acode = bcode) = d2 at *
  generalize hd3 : decide (amem = bmem) = d3 at *
  generalize hd4 : decide (aout = bout) = d4 at *
  clear hd1 hd2 hd3 hd4
  cases d1 with
  | false =>
    rw [Bool.false_and]
    simp only [Bool.not_false] at hpcq
    clear HC1 HC2 HC3
    go_enter Try.func12, Try.ntmps12
    go_wp2
    go_ret
    exact ⟨rfl, HB.out⟩
  | true =>
    rw [Bool.true_and]
    simp only [Bool.not_true] at hpcq
    cases d2 with
    | false =>
      rw [Bool.false_and]
      clear HC2 HC3
      go_enter Try.func12, Try.ntmps12
      go_wp2_with (fail)
      refine (HC1.out W0 HB.out).mono ?_
      rintro e W1 ⟨rfl, hb9⟩
      have hb1 := HB.out.trans (hb9.mono HB.out.size)
      have hp1 := HP.out.below hb9 HP.out.lt
      have hq1 := HQ.out.below hb9 HQ.out.lt
      clear HB HP HQ hb9
      clear a0 b0 a1 b1 a2 b2 a3 b3 a4 b4 a5 b5
      have HB := Lib.hid hb1
      have HP := Lib.hid hp1
      have HQ := Lib.hid hq1
      clear hb1 hp1 hq1
      go_wp2
      go_ret
      exact ⟨rfl, HB.out⟩
    | true =>
      rw [Bool.true_and]
      cases d3 with
      | false =>
        rw [Bool.false_and]
        clear HC3
        go_enter Try.func12, Try.ntmps12
        go_wp2_with (fail)
        refine (HC1.out W0 HB.out).mono ?_
        rintro e W1 ⟨rfl, hb9⟩
        have hb1 := HB.out.trans (hb9.mono HB.out.size)
        have hp1 := HP.out.below hb9 HP.out.lt
        have hq1 := HQ.out.below hb9 HQ.out.lt
        clear HB HP HQ hb9
        clear a0 b0 a1 b1 a2 b2 a3 b3 a4 b4 a5 b5
        have HB := Lib.hid hb1
        have HP := Lib.hid hp1
        have HQ := Lib.hid hq1
        clear hb1 hp1 hq1
        have a0 : W1.cell? ⟨w.heap.size, 0, none⟩ = some (.int .i64 av) := HP.out.cell 0
        have a1 : W1.cell? ⟨w.heap.size, 1, none⟩ = some (.int .i64 al) := HP.out.cell 1
        have a2 : W1.cell? ⟨w.heap.size, 2, none⟩ = some (.slice acA acode.length acc) := HP.out.cell 2
        have a3 : W1.cell? ⟨w.heap.size, 3, none⟩ = some (.slice amA amem.length amc) := HP.out.cell 3
        have a4 : W1.cell? ⟨w.heap.size, 4, none⟩ = some (.slice asA astack.length asc) := HP.out.cell 4
        have a5 : W1.cell? ⟨w.heap.size, 5, none⟩ = some (.slice aoA aout.length aoc) := HP.out.cell 5
        have b0 : W1.cell? ⟨w.heap.size + 1, 0, none⟩ = some (.int .i64 bv) := HQ.out.cell 0
        have b1 : W1.cell? ⟨w.heap.size + 1, 1, none⟩ = some (.int .i64 bl) := HQ.out.cell 1
        have b2 : W1.cell? ⟨w.heap.size + 1, 2, none⟩ = some (.slice bcA bcode.length bcc) := HQ.out.cell 2
        have b3 : W1.cell? ⟨w.heap.size + 1, 3, none⟩ = some (.slice bmA bmem.length bmc) := HQ.out.cell 3
        have b4 : W1.cell? ⟨w.heap.size + 1, 4, none⟩ = some (.slice bsA bstack.length bsc) := HQ.out.cell 4
        have b5 : W1.cell? ⟨w.heap.size + 1, 5, none⟩ = some (.slice boA bout.length boc) := HQ.out.cell 5
        go_wp2_with (fail)
        refine (HC2.out W1 HB.out).mono ?_
        rintro e W2 ⟨rfl, hb9⟩
        have hb1 := HB.out.trans (hb9.mono HB.out.size)
        have hp1 := HP.out.below hb9 HP.out.lt
        have hq1 := HQ.out.below hb9 HQ.out.lt
        clear HB HP HQ hb9
        clear a0 b0 a1 b1 a2 b2 a3 b3 a4 b4 a5 b5
        have HB := Lib.hid hb1
        have HP := Lib.hid hp1
        have HQ := Lib.hid hq1
        clear hb1 hp1 hq1
        go_wp2
        go_ret
        exact ⟨rfl, HB.out⟩
      | true =>
        rw [Bool.true_and]
        cases d4 with
        | false =>
          rw [Bool.false_and]
          go_enter Try.func12, Try.ntmps12
          go_wp2_with (fail)
          refine (HC1.out W0 HB.out).mono ?_
          rintro e W1 ⟨rfl, hb9⟩
          have hb1 := HB.out.trans (hb9.mono HB.out.size)
          have hp1 := HP.out.below hb9 HP.out.lt
          have hq1 := HQ.out.below hb9 HQ.out.lt
          clear HB HP HQ hb9
          clear a0 b0 a1 b1 a2 b2 a3 b3 a4 b4 a5 b5
          have HB := Lib.hid hb1
          have HP := Lib.hid hp1
          have HQ := Lib.hid hq1
          clear hb1 hp1 hq1
          have a0 : W1.cell? ⟨w.heap.size, 0, none⟩ = some (.int .i64 av) := HP.out.cell 0
          have a1 : W1.cell? ⟨w.heap.size, 1, none⟩ = some (.int .i64 al) := HP.out.cell 1
          have a2 : W1.cell? ⟨w.heap.size, 2, none⟩ = some (.slice acA acode.length acc) := HP.out.cell 2
          have a3 : W1.cell? ⟨w.heap.size, 3, none⟩ = some (.slice amA amem.length amc) := HP.out.cell 3
          have a4 : W1.cell? ⟨w.heap.size, 4, none⟩ = some (.slice asA astack.length asc) := HP.out.cell 4
          have a5 : W1.cell? ⟨w.heap.size, 5, none⟩ = some (.slice aoA aout.length aoc) := HP.out.cell 5
          have b0 : W1.cell? ⟨w.heap.size + 1, 0, none⟩ = some (.int .i64 bv) := HQ.out.cell 0
          have b1 : W1.cell? ⟨w.heap.size + 1, 1, none⟩ = some (.int .i64 bl) := HQ.out.cell 1
          have b2 : W1.cell? ⟨w.heap.size + 1, 2, none⟩ = some (.slice bcA bcode.length bcc) := HQ.out.cell 2
          have b3 : W1.cell? ⟨w.heap.size + 1, 3, none⟩ = some (.slice bmA bmem.length bmc) := HQ.out.cell 3
          have b4 : W1.cell? ⟨w.heap.size + 1, 4, none⟩ = some (.slice bsA bstack.length bsc) := HQ.out.cell 4
          have b5 : W1.cell? ⟨w.heap.size + 1, 5, none⟩ = some (.slice boA bout.length boc) := HQ.out.cell 5
          go_wp2_with (fail)
          refine (HC2.out W1 HB.out).mono ?_
          rintro e W2 ⟨rfl, hb9⟩
          have hb1 := HB.out.trans (hb9.mono HB.out.size)
          have hp1 := HP.out.below hb9 HP.out.lt
          have hq1 := HQ.out.below hb9 HQ.out.lt
          clear HB HP HQ hb9
          clear a0 b0 a1 b1 a2 b2 a3 b3 a4 b4 a5 b5
          have HB := Lib.hid hb1
          have HP := Lib.hid hp1
          have HQ := Lib.hid hq1
          clear hb1 hp1 hq1
          have a0 : W2.cell? ⟨w.heap.size, 0, none⟩ = some (.int .i64 av) := HP.out.cell 0
          have a1 : W2.cell? ⟨w.heap.size, 1, none⟩ = some (.int .i64 al) := HP.out.cell 1
          have a2 : W2.cell? ⟨w.heap.size, 2, none⟩ = some (.slice acA acode.length acc) := HP.out.cell 2
          have a3 : W2.cell? ⟨w.heap.size, 3, none⟩ = some (.slice amA amem.length amc) := HP.out.cell 3
          have a4 : W2.cell? ⟨w.heap.size, 4, none⟩ = some (.slice asA astack.length asc) := HP.out.cell 4
          have a5 : W2.cell? ⟨w.heap.size, 5, none⟩ = some (.slice aoA aout.length aoc) := HP.out.cell 5
          have b0 : W2.cell? ⟨w.heap.size + 1, 0, none⟩ = some (.int .i64 bv) := HQ.out.cell 0
          have b1 : W2.cell? ⟨w.heap.size + 1, 1, none⟩ = some (.int .i64 bl) := HQ.out.cell 1
          have b2 : W2.cell? ⟨w.heap.size + 1, 2, none⟩ = some (.slice bcA bcode.length bcc) := HQ.out.cell 2
          have b3 : W2.cell? ⟨w.heap.size + 1, 3, none⟩ = some (.slice bmA bmem.length bmc) := HQ.out.cell 3
          have b4 : W2.cell? ⟨w.heap.size + 1, 4, none⟩ = some (.slice bsA bstack.length bsc) := HQ.out.cell 4
          have b5 : W2.cell? ⟨w.heap.size + 1, 5, none⟩ = some (.slice boA bout.length boc) := HQ.out.cell 5
          go_wp2_with (fail)
          refine (HC3.out W2 HB.out).mono ?_
          rintro e W3 ⟨rfl, hb9⟩
          have hb1 := HB.out.trans (hb9.mono HB.out.size)
          have hp1 := HP.out.below hb9 HP.out.lt
          have hq1 := HQ.out.below hb9 HQ.out.lt
          clear HB HP HQ hb9
          clear a0 b0 a1 b1 a2 b2 a3 b3 a4 b4 a5 b5
          have HB := Lib.hid hb1
          have HP := Lib.hid hp1
          have HQ := Lib.hid hq1
          clear hb1 hp1 hq1
          go_wp2
          go_ret
          exact ⟨rfl, HB.out⟩
        | true =>
          rw [Bool.true_and]
          obtain ⟨res, hres⟩ : ∃ res, decide (astack = bstack) = res := ⟨_, rfl⟩
          rw [hres]
          have HRES := Lib.hid hres
          clear hres
          by_cases hl : astack.length = bstack.length
          · have h1 : ((astack.length : Int) != (bstack.length : Int)) = false := by rw [bne_eq_false_iff_eq]; omega
            have HL := Lib.hid hl
            clear hl
            generalize astack = a at *
            generalize bstack = b at *
            go_enter Try.func12, Try.ntmps12
            go_wp2_with (fail)
            refine (HC1.out W0 HB.out).mono ?_
            rintro e W1 ⟨rfl, hb9⟩
            have hb1 := HB.out.trans (hb9.mono HB.out.size)
            have hp1 := HP.out.below hb9 HP.out.lt
            have hq1 := HQ.out.below hb9 HQ.out.lt
            clear HB HP HQ hb9
            clear a0 b0 a1 b1 a2 b2 a3 b3 a4 b4 a5 b5
            have HB := Lib.hid hb1
            have HP := Lib.hid hp1
            have HQ := Lib.hid hq1
            clear hb1 hp1 hq1
            have a0 : W1.cell? ⟨w.heap.size, 0, none⟩ = some (.int .i64 av) := HP.out.cell 0
            have a1 : W1.cell? ⟨w.heap.size, 1, none⟩ = some (.int .i64 al) := HP.out.cell 1
            have a2 : W1.cell? ⟨w.heap.size, 2, none⟩ = some (.slice acA acode.length acc) := HP.out.cell 2
            have a3 : W1.cell? ⟨w.heap.size, 3, none⟩ = some (.slice amA amem.length amc) := HP.out.cell 3
            have a4 : W1.cell? ⟨w.heap.size, 4, none⟩ = some (.slice asA a.length asc) := HP.out.cell 4
            have a5 : W1.cell? ⟨w.heap.size, 5, none⟩ = some (.slice aoA aout.length aoc) := HP.out.cell 5
            have b0 : W1.cell? ⟨w.heap.size + 1, 0, none⟩ = some (.int .i64 bv) := HQ.out.cell 0
            have b1 : W1.cell? ⟨w.heap.size + 1, 1, none⟩ = some (.int .i64 bl) := HQ.out.cell 1
            have b2 : W1.cell? ⟨w.heap.size + 1, 2, none⟩ = some (.slice bcA bcode.length bcc) := HQ.out.cell 2
            have b3 : W1.cell? ⟨w.heap.size + 1, 3, none⟩ = some (.slice bmA bmem.length bmc) := HQ.out.cell 3
            have b4 : W1.cell? ⟨w.heap.size + 1, 4, none⟩ = some (.slice bsA b.length bsc) := HQ.out.cell 4
            have b5 : W1.cell? ⟨w.heap.size + 1, 5, none⟩ = some (.slice boA bout.length boc) := HQ.out.cell 5
            go_wp2_with (fail)
            refine (HC2.out W1 HB.out).mono ?_
            rintro e W2 ⟨rfl, hb9⟩
            have hb1 := HB.out.trans (hb9.mono HB.out.size)
            have hp1 := HP.out.below hb9 HP.out.lt
            have hq1 := HQ.out.below hb9 HQ.out.lt
            clear HB HP HQ hb9
            clear a0 b0 a1 b1 a2 b2 a3 b3 a4 b4 a5 b5
            have HB := Lib.hid hb1
            have HP := Lib.hid hp1
            have HQ := Lib.hid hq1
            clear hb1 hp1 hq1
            have a0 : W2.cell? ⟨w.heap.size, 0, none⟩ = some (.int .i64 av) := HP.out.cell 0
            have a1 : W2.cell? ⟨w.heap.size, 1, none⟩ = some (.int .i64 al) := HP.out.cell 1
            have a2 : W2.cell? ⟨w.heap.size, 2, none⟩ = some (.slice acA acode.length acc) := HP.out.cell 2
            have a3 : W2.cell? ⟨w.heap.size, 3, none⟩ = some (.slice amA amem.length amc) := HP.out.cell 3
            have a4 : W2.cell? ⟨w.heap.size, 4, none⟩ = some (.slice asA a.length asc) := HP.out.cell 4
            have a5 : W2.cell? ⟨w.heap.size, 5, none⟩ = some (.slice aoA aout.length aoc) := HP.out.cell 5
            have b0 : W2.cell? ⟨w.heap.size + 1, 0, none⟩ = some (.int .i64 bv) := HQ.out.cell 0
            have b1 : W2.cell? ⟨w.heap.size + 1, 1, none⟩ = some (.int .i64 bl) := HQ.out.cell 1
            have b2 : W2.cell? ⟨w.heap.size + 1, 2, none⟩ = some (.slice bcA bcode.length bcc) := HQ.out.cell 2
            have b3 : W2.cell? ⟨w.heap.size + 1, 3, none⟩ = some (.slice bmA bmem.length bmc) := HQ.out.cell 3
            have b4 : W2.cell? ⟨w.heap.size + 1, 4, none⟩ = some (.slice bsA b.length bsc) := HQ.out.cell 4
            have b5 : W2.cell? ⟨w.heap.size + 1, 5, none⟩ = some (.slice boA bout.length boc) := HQ.out.cell 5
            go_wp2_with (fail)
            refine (HC3.out W2 HB.out).mono ?_
            rintro e W3 ⟨rfl, hb9⟩
            have hb1 := HB.out.trans (hb9.mono HB.out.size)
            have hp1 := HP.out.below hb9 HP.out.lt
            have hq1 := HQ.out.below hb9 HQ.out.lt
            clear HB HP HQ hb9
            clear a0 b0 a1 b1 a2 b2 a3 b3 a4 b4 a5 b5
            have HB := Lib.hid hb1
            have HP := Lib.hid hp1
            have HQ := Lib.hid hq1
            clear hb1 hp1 hq1
            have a0 : W3.cell? ⟨w.heap.size, 0, none⟩ = some (.int .i64 av) := HP.out.cell 0
            have a1 : W3.cell? ⟨w.heap.size, 1, none⟩ = some (.int .i64 al) := HP.out.cell 1
            have a2 : W3.cell? ⟨w.heap.size, 2, none⟩ = some (.slice acA acode.length acc) := HP.out.cell 2
            have a3 : W3.cell? ⟨w.heap.size, 3, none⟩ = some (.slice amA amem.length amc) := HP.out.cell 3
            have a4 : W3.cell? ⟨w.heap.size, 4, none⟩ = some (.slice asA a.length asc) := HP.out.cell 4
            have a5 : W3.cell? ⟨w.heap.size, 5, none⟩ = some (.slice aoA aout.length aoc) := HP.out.cell 5
            have b0 : W3.cell? ⟨w.heap.size + 1, 0, none⟩ = some (.int .i64 bv) := HQ.out.cell 0
            have b1 : W3.cell? ⟨w.heap.size + 1, 1, none⟩ = some (.int .i64 bl) := HQ.out.cell 1
            have b2 : W3.cell? ⟨w.heap.size + 1, 2, none⟩ = some (.slice bcA bcode.length bcc) := HQ.out.cell 2
            have b3 : W3.cell? ⟨w.heap.size + 1, 3, none⟩ = some (.slice bmA bmem.length bmc) := HQ.out.cell 3
            have b4 : W3.cell? ⟨w.heap.size + 1, 4, none⟩ = some (.slice bsA b.length bsc) := HQ.out.cell 4
            have b5 : W3.cell? ⟨w.heap.size + 1, 5, none⟩ = some (.slice boA bout.length boc) := HQ.out.cell 5
            go_wp2
            go_loopw [47] (fun i wr => ∃ k : Nat, k ≤ a.length ∧ i = .int .i64 k ∧ Hid (∀ (j : Nat) (x y : St.Slot), j < k → a[j]? = some x → b[j]? = some y → x = y) ∧ Hid (Below w.heap.size w wr) ∧ Hid (Blk wr w.heap.size 39 #[.int .i64 av, .int .i64 al, .slice acA acode.length acc, .slice amA amem.length amc, .slice asA a.length asc, .slice aoA aout.length aoc]) ∧ Hid (Blk wr (w.heap.size + 1) 39 #[.int .i64 bv, .int .i64 bl, .slice bcA bcode.length bcc, .slice bmA bmem.length bmc, .slice bsA b.length bsc, .slice boA bout.length boc])) (fun i _ => a.length - (intOf i).toNat)
            case atStart => exact ⟨0, Nat.zero_le _, rfl, Lib.hid fun j x y hj => absurd hj (Nat.not_lt_zero _), HB, HP, HQ⟩
            case round =>
              clear HB HP HQ a0 a1 a2 a3 a4 a5 b0 b1 b2 b3 b4 b5
              obtain ⟨k, hk, rfl, HS, HBW, HP, HQ⟩ := hrel
              by_cases hlt : k < a.length
              · obtain ⟨ad, x, rfl, hxb, hx, x0, x1, x2⟩ := srow_at (HA.out.below HBW.out) hlt
                obtain ⟨bd, y, rfl, hyb, hy, y0, y1, y2⟩ := srow_at (HBR.out.below HBW.out) (show k < b.length by have := HL.out; omega)
                have hq := fun w => run_sl_neq x y w
                have hz := HBW.out.size
                have hxb2 : (ad.add (k * 3)).block < wr.heap.size := by rw [add_block]; omega
                have hyb2 : (bd.add (k * 3)).block < wr.heap.size := by rw [add_block]; omega
                have HX := Lib.hid hx
                have HY := Lib.hid hy
                clear hx hy
                have hlt2 : k < b.length := by have := HL.out; omega
                have a4 : wr.cell? ⟨w.heap.size, 4, none⟩ = some (.slice (some ad) a.length asc) := HP.out.cell 4
                have b4 : wr.cell? ⟨w.heap.size + 1, 4, none⟩ = some (.slice (some bd) b.length bsc) := HQ.out.cell 4
                have hpl := HP.out.lt
                have hql := HQ.out.lt
                by_cases he : x = y
                · have hf : (!decide (x = y)) = false := by rw [decide_eq_true he]; rfl
                  rw [hf] at hq
                  have HE := Lib.hid he
                  clear he hf
                  generalize hx0 : x.ret = xret at *
                  generalize hx1 : x.v = xv at *
                  generalize hx2 : x.l = xl at *
                  generalize hy0 : y.ret = yret at *
                  generalize hy1 : y.v = yv at *
                  generalize hy2 : y.l = yl at *
                  clear hx0 hx1 hx2 hy0 hy1 hy2
                  go_wp2
                  go_quiet (fail)
                  all_goals go_wp2
                  go_roundw
                  case rel => exact ⟨k + 1, by omega, by go_num, Lib.hid fun j u v hj hu hv => by
                    rcases Nat.lt_or_eq_of_le (Nat.le_of_lt_succ hj) with h | rfl
                    · exact HS.out j u v h hu hv
                    · rw [HX.out] at hu; rw [HY.out] at hv
                      injection hu with hu; injection hv with hv
                      rw [← hu, ← hv]; exact HE.out, Lib.hid (below_drawn HBW.out _), Lib.hid (below_drawn_blk HP.out _), Lib.hid (below_drawn_blk HQ.out _)⟩
                  case measure => simp [intOf]; omega
                · have hf : (!decide (x = y)) = true := by rw [decide_eq_false he]; rfl
                  rw [hf] at hq
                  have HE := Lib.hid he
                  clear he hf
                  generalize hx0 : x.ret = xret at *
                  generalize hx1 : x.v = xv at *
                  generalize hx2 : x.l = xl at *
                  generalize hy0 : y.ret = yret at *
                  generalize hy1 : y.v = yv at *
                  generalize hy2 : y.l = yl at *
                  clear hx0 hx1 hx2 hy0 hy1 hy2
                  go_wp2
                  go_quiet (fail)
                  all_goals go_wp2
                  go_ret
                  exact ⟨retb (by rw [← HRES.out]; exact (decide_eq_false (same_stepA HX.out HY.out HE.out)).symm), below_drawn HBW.out _⟩
              · obtain rfl : k = a.length := by omega
                go_wp2
                go_ret
                exact ⟨retb (by rw [← HRES.out]; exact (decide_eq_true (same_allA HL.out fun k x y hx hy => HS.out k x y (List.getElem?_eq_some_iff.1 hx).1 hx hy)).symm), HBW.out⟩
          · have h1 : ((astack.length : Int) != (bstack.length : Int)) = true := by rw [bne_iff_ne]; omega
            have HR2 := Lib.hid (show false = res by rw [← HRES.out]; exact (decide_eq_false fun e => hl (by rw [e])).symm)
            clear hl
            go_enter Try.func12, Try.ntmps12
            go_wp2_with (fail)
            refine (HC1.out W0 HB.out).mono ?_
            rintro e W1 ⟨rfl, hb9⟩
            have hb1 := HB.out.trans (hb9.mono HB.out.size)
            have hp1 := HP.out.below hb9 HP.out.lt
            have hq1 := HQ.out.below hb9 HQ.out.lt
            clear HB HP HQ hb9
            clear a0 b0 a1 b1 a2 b2 a3 b3 a4 b4 a5 b5
            have HB := Lib.hid hb1
            have HP := Lib.hid hp1
            have HQ := Lib.hid hq1
            clear hb1 hp1 hq1
            have a0 : W1.cell? ⟨w.heap.size, 0, none⟩ = some (.int .i64 av) := HP.out.cell 0
            have a1 : W1.cell? ⟨w.heap.size, 1, none⟩ = some (.int .i64 al) := HP.out.cell 1
            have a2 : W1.cell? ⟨w.heap.size, 2, none⟩ = some (.slice acA acode.length acc) := HP.out.cell 2
            have a3 : W1.cell? ⟨w.heap.size, 3, none⟩ = some (.slice amA amem.length amc) := HP.out.cell 3
            have a4 : W1.cell? ⟨w.heap.size, 4, none⟩ = some (.slice asA astack.length asc) := HP.out.cell 4
            have a5 : W1.cell? ⟨w.heap.size, 5, none⟩ = some (.slice aoA aout.length aoc) := HP.out.cell 5
            have b0 : W1.cell? ⟨w.heap.size + 1, 0, none⟩ = some (.int .i64 bv) := HQ.out.cell 0
            have b1 : W1.cell? ⟨w.heap.size + 1, 1, none⟩ = some (.int .i64 bl) := HQ.out.cell 1
            have b2 : W1.cell? ⟨w.heap.size + 1, 2, none⟩ = some (.slice bcA bcode.length bcc) := HQ.out.cell 2
            have b3 : W1.cell? ⟨w.heap.size + 1, 3, none⟩ = some (.slice bmA bmem.length bmc) := HQ.out.cell 3
            have b4 : W1.cell? ⟨w.heap.size + 1, 4, none⟩ = some (.slice bsA bstack.length bsc) := HQ.out.cell 4
            have b5 : W1.cell? ⟨w.heap.size + 1, 5, none⟩ = some (.slice boA bout.length boc) := HQ.out.cell 5
            go_wp2_with (fail)
            refine (HC2.out W1 HB.out).mono ?_
            rintro e W2 ⟨rfl, hb9⟩
            have hb1 := HB.out.trans (hb9.mono HB.out.size)
            have hp1 := HP.out.below hb9 HP.out.lt
            have hq1 := HQ.out.below hb9 HQ.out.lt
            clear HB HP HQ hb9
            clear a0 b0 a1 b1 a2 b2 a3 b3 a4 b4 a5 b5
            have HB := Lib.hid hb1
            have HP := Lib.hid hp1
            have HQ := Lib.hid hq1
            clear hb1 hp1 hq1
            have a0 : W2.cell? ⟨w.heap.size, 0, none⟩ = some (.int .i64 av) := HP.out.cell 0
            have a1 : W2.cell? ⟨w.heap.size, 1, none⟩ = some (.int .i64 al) := HP.out.cell 1
            have a2 : W2.cell? ⟨w.heap.size, 2, none⟩ = some (.slice acA acode.length acc) := HP.out.cell 2
            have a3 : W2.cell? ⟨w.heap.size, 3, none⟩ = some (.slice amA amem.length amc) := HP.out.cell 3
            have a4 : W2.cell? ⟨w.heap.size, 4, none⟩ = some (.slice asA astack.length asc) := HP.out.cell 4
            have a5 : W2.cell? ⟨w.heap.size, 5, none⟩ = some (.slice aoA aout.length aoc) := HP.out.cell 5
            have b0 : W2.cell? ⟨w.heap.size + 1, 0, none⟩ = some (.int .i64 bv) := HQ.out.cell 0
            have b1 : W2.cell? ⟨w.heap.size + 1, 1, none⟩ = some (.int .i64 bl) := HQ.out.cell 1
            have b2 : W2.cell? ⟨w.heap.size + 1, 2, none⟩ = some (.slice bcA bcode.length bcc) := HQ.out.cell 2
            have b3 : W2.cell? ⟨w.heap.size + 1, 3, none⟩ = some (.slice bmA bmem.length bmc) := HQ.out.cell 3
            have b4 : W2.cell? ⟨w.heap.size + 1, 4, none⟩ = some (.slice bsA bstack.length bsc) := HQ.out.cell 4
            have b5 : W2.cell? ⟨w.heap.size + 1, 5, none⟩ = some (.slice boA bout.length boc) := HQ.out.cell 5
            go_wp2_with (fail)
            refine (HC3.out W2 HB.out).mono ?_
            rintro e W3 ⟨rfl, hb9⟩
            have hb1 := HB.out.trans (hb9.mono HB.out.size)
            have hp1 := HP.out.below hb9 HP.out.lt
            have hq1 := HQ.out.below hb9 HQ.out.lt
            clear HB HP HQ hb9
            clear a0 b0 a1 b1 a2 b2 a3 b3 a4 b4 a5 b5
            have HB := Lib.hid hb1
            have HP := Lib.hid hp1
            have HQ := Lib.hid hq1
            clear hb1 hp1 hq1
            have a0 : W3.cell? ⟨w.heap.size, 0, none⟩ = some (.int .i64 av) := HP.out.cell 0
            have a1 : W3.cell? ⟨w.heap.size, 1, none⟩ = some (.int .i64 al) := HP.out.cell 1
            have a2 : W3.cell? ⟨w.heap.size, 2, none⟩ = some (.slice acA acode.length acc) := HP.out.cell 2
            have a3 : W3.cell? ⟨w.heap.size, 3, none⟩ = some (.slice amA amem.length amc) := HP.out.cell 3
            have a4 : W3.cell? ⟨w.heap.size, 4, none⟩ = some (.slice asA astack.length asc) := HP.out.cell 4
            have a5 : W3.cell? ⟨w.heap.size, 5, none⟩ = some (.slice aoA aout.length aoc) := HP.out.cell 5
            have b0 : W3.cell? ⟨w.heap.size + 1, 0, none⟩ = some (.int .i64 bv) := HQ.out.cell 0
            have b1 : W3.cell? ⟨w.heap.size + 1, 1, none⟩ = some (.int .i64 bl) := HQ.out.cell 1
            have b2 : W3.cell? ⟨w.heap.size + 1, 2, none⟩ = some (.slice bcA bcode.length bcc) := HQ.out.cell 2
            have b3 : W3.cell? ⟨w.heap.size + 1, 3, none⟩ = some (.slice bmA bmem.length bmc) := HQ.out.cell 3
            have b4 : W3.cell? ⟨w.heap.size + 1, 4, none⟩ = some (.slice bsA bstack.length bsc) := HQ.out.cell 4
            have b5 : W3.cell? ⟨w.heap.size + 1, 5, none⟩ = some (.slice boA bout.length boc) := HQ.out.cell 5
            go_wp2
            go_ret
            exact ⟨retb HR2.out, HB.out⟩
end Go.Proofs.Ytmbgndcahlopdaa
