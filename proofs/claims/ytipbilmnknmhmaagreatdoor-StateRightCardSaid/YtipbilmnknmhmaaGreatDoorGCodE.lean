/- The reference's one is the plain one; what From holds at the head of a round. -/
import Derived.Test.YtipbilmnknmhmaaGreatDoorGCodC
import Derived.Test.YtipbilmnknmhmaaGreatDoorGCodK
import Derived.Test.YtipbilmnknmhmaaGreatDoorGRefJ
import Derived.Test.YtipbilmnknmhmaaGreatDoorGNotG
import Derived.Test.YtipbilmnknmhmaaGreatDoorGCodP
import Derived.Test.YtipbilmnknmhmaaGreatDoorGFree
import Derived.Test.YtipbilmnknmhmaaGreatDoorGCodA
import Derived.Test.YtipbilmnknmhmaaGreatDoorGTabE
namespace Go.Proofs.YtipbilmnknmhmaaGreatDoor
set_option maxRecDepth 100000
open Go.RowKit Go.Shelf Go.Sort

/-- At the head of a round of From. -/
structure FrIn (w : World) (lv : Array Value) (out : List Cd.In) (v : Value) (W : World) : Prop where
  below : Below w.heap.size w W
  lat : Blk W w.heap.size 25 lv
  res : Blk W (w.heap.size + 1) 134 #[.slice none 0 0, .int .i64 0, .int .i64 0]
  own : W.ownsRow (w.heap.size + 2) 57 3 v out.length (icells out)
theorem FrIn.start (w : World) (lv : Array Value) : FrIn w lv [] (.slice (some ⟨w.heap.size + 1 + 1, 0, none⟩) 0 0) (((w.alloc (.cells lv 25)).alloc (.cells #[.slice none 0 0, .int .i64 0, .int .i64 0] 134)).alloc (.cells #[] 57)) := by
  have h1 := Blk.new (w.alloc (.cells lv 25)) 134 #[.slice none 0 0, .int .i64 0, .int .i64 0]
  have h2 := World.ownsRow_made (e := 57) (size := 3) (base := w.heap.size + 2) ((w.alloc (.cells lv 25)).alloc (.cells #[.slice none 0 0, .int .i64 0, .int .i64 0] 134)) #[] 0 (by simp) (by decide) rfl
  simp only [World.size_alloc] at h1 h2
  exact ⟨three_new w _ _ _, ((Blk.new w _ _).alloc _).alloc _, h1.alloc _, h2⟩
/-- The row is kept where its own block is. -/
theorem own_keep8 {W W' : World} {base sz n B : Nat} {e : TypeId} {rv : Value} {xs : List Value} (h : W.ownsRow base e sz rv n xs) (hB : W.heap.size ≤ B) (hb : Below B W W') : W'.ownsRow base e sz rv n xs :=
  own_of h fun g hg => hb.block g (Nat.lt_of_lt_of_le (h.lt g hg).2 hB)
theorem FrIn.keep {w W W' : World} {lv : Array Value} {out : List Cd.In} {v : Value} (h : FrIn w lv out v W) (hb : Below W.heap.size W W') : FrIn w lv out v W' :=
  ⟨h.below.trans (hb.mono h.below.size), h.lat.below hb h.lat.lt, h.res.below hb h.res.lt, own_keep8 h.own (Nat.le_refl _) hb⟩
end Go.Proofs.YtipbilmnknmhmaaGreatDoor

/- The reference's way of reading a state, plain: it is what tokens tell. -/
namespace Go.Proofs.YtipbilmnknmhmaaGreatDoor
set_option maxRecDepth 100000
open Lx (Tk)
open Tb (tok Fine)
namespace St

theorem andP_yes {α β : Type} {r : α × Nat × Nat} {z : β} {f : α → Nat → β × Nat × Nat} (h : r.2.2 = 0) : andP r z f = f r.1 r.2.1 := by unfold andP; rw [if_pos h]
theorem andP_no {α β : Type} {r : α × Nat × Nat} {z : β} {f : α → Nat → β × Nat × Nat} (h : r.2.2 ≠ 0) : andP r z f = (z, r.2.1, r.2.2) := by unfold andP; rw [if_neg h]
end St
end Go.Proofs.YtipbilmnknmhmaaGreatDoor

/- Rows of atoms and slots in memory; a state as a value; what a reading keeps of them. -/
namespace Go.Proofs.YtipbilmnknmhmaaGreatDoor
set_option maxRecDepth 100000
open Go.RowKit Go.Shelf
attribute [local go_sem] Oper.semAt_some

def avs (x : St.Atom) : List Value := [.int .i64 x.v, .int .i64 x.l]
def svs (x : St.Slot) : List Value := [.bool x.ret, .int .i64 x.v, .int .i64 x.l]
theorem avs_len (x : St.Atom) : (avs x).length = 2 := rfl
theorem svs_len (x : St.Slot) : (svs x).length = 3 := rfl
def atv (x : St.Atom) : Value := .agg #[.int .i64 x.v, .int .i64 x.l]
def slv (x : St.Slot) : Value := .agg #[.bool x.ret, .int .i64 x.v, .int .i64 x.l]
theorem arow_at {w : World} {B : Nat} {A : Option Addr} {l : List St.Atom} {k : Nat} (h : Row w B A (fcells avs l)) (hk : k < l.length) : ∃ ad t, A = some ad ∧ ad.block < B ∧ l[k]? = some t ∧ w.cell? (ad.add (k * 2)) = some (.int .i64 t.v) ∧
    w.cell? ⟨(ad.add (k * 2)).block, (ad.add (k * 2)).off + 1, none⟩ = some (.int .i64 t.l) := by
  have hlen := fcells_length avs_len l
  obtain ⟨ad, e, hb, hc⟩ := h (by intro e; rw [e] at hlen; simp at hlen; omega)
  have h0 := fcells_at avs_len l k l[k] (List.getElem?_eq_getElem hk) 0 (by decide)
  have h1 := fcells_at avs_len l k l[k] (List.getElem?_eq_getElem hk) 1 (by decide)
  exact ⟨ad, l[k], e, hb, List.getElem?_eq_getElem hk, hc _ _ h0, by rw [← addr_next _ _ _ (by decide)]; exact hc _ _ h1⟩
theorem srow_at {w : World} {B : Nat} {A : Option Addr} {l : List St.Slot} {k : Nat} (h : Row w B A (fcells svs l)) (hk : k < l.length) : ∃ ad t, A = some ad ∧ ad.block < B ∧ l[k]? = some t ∧ w.cell? (ad.add (k * 3)) = some (.bool t.ret) ∧
    w.cell? ⟨(ad.add (k * 3)).block, (ad.add (k * 3)).off + 1, none⟩ = some (.int .i64 t.v) ∧ w.cell? ⟨(ad.add (k * 3)).block, (ad.add (k * 3)).off + 2, none⟩ = some (.int .i64 t.l) := by
  have hlen := fcells_length svs_len l
  obtain ⟨ad, e, hb, hc⟩ := h (by intro e; rw [e] at hlen; simp at hlen; omega)
  have h0 := fcells_at svs_len l k l[k] (List.getElem?_eq_getElem hk) 0 (by decide)
  have h1 := fcells_at svs_len l k l[k] (List.getElem?_eq_getElem hk) 1 (by decide)
  have h2 := fcells_at svs_len l k l[k] (List.getElem?_eq_getElem hk) 2 (by decide)
  exact ⟨ad, l[k], e, hb, List.getElem?_eq_getElem hk, hc _ _ h0, by rw [← addr_next _ _ _ (by decide)]; exact hc _ _ h1, by rw [← addr_next _ _ _ (by decide)]; exact hc _ _ h2⟩
/-- A slice of such things, below B. -/
def IsL {α : Type} (f : α → List Value) (w : World) (B : Nat) (v : Value) (l : List α) : Prop := ∃ A c, v = .slice A l.length c ∧ Row w B A (fcells f l) ∧ l.length ≤ c
section
variable {α : Type} {f : α → List Value} {w w' : World} {B B' R : Nat} {v : Value} {l : List α}
theorem IsL.below (h : IsL f w B v l) (hb : Below B w w') : IsL f w' B v l := by
  obtain ⟨A, c, e, hr, hc⟩ := h
  exact ⟨A, c, e, hr.below hb, hc⟩
theorem IsL.more (h : IsL f w B v l) (hB : B ≤ B') : IsL f w B' v l := by
  obtain ⟨A, c, e, hr, hc⟩ := h
  exact ⟨A, c, e, hr.more hB, hc⟩
theorem IsL.nil (f : α → List Value) (w : World) (B : Nat) : IsL f w B (.slice none 0 0) [] := ⟨none, 0, rfl, Row.nil, Nat.le_refl _⟩
theorem KN.isL (h : KN f B w v l) : IsL f w w.heap.size v l := h.row
end
theorem KN.ins {w : World} {B : Nat} {v : Value} {l : List Cd.In} (h : KN ivs B w v l) : IsIns w w.heap.size v l := h.row
/-- A state as a value. -/
def stv (s : St.State) (cv mv sv ov : Value) : Value := .agg #[.int .i64 s.pc.v, .int .i64 s.pc.l, cv, mv, sv, ov]
/-- A state, below B. -/
def IsSt (w : World) (B : Nat) (v : Value) (s : St.State) : Prop := ∃ cv mv sv ov, v = stv s cv mv sv ov ∧ IsIns w B cv s.code ∧ IsL avs w B mv s.mem ∧ IsL svs w B sv s.stack ∧ IsL avs w B ov s.out
theorem IsSt.below {w w' : World} {B : Nat} {v : Value} {s : St.State} (h : IsSt w B v s) (hb : Below B w w') : IsSt w' B v s := by
  obtain ⟨cv, mv, sv, ov, e, h1, h2, h3, h4⟩ := h
  exact ⟨cv, mv, sv, ov, e, h1.below hb, h2.below hb, h3.below hb, h4.below hb⟩
theorem IsSt.more {w : World} {B B' : Nat} {v : Value} {s : St.State} (h : IsSt w B v s) (hB : B ≤ B') : IsSt w B' v s := by
  obtain ⟨cv, mv, sv, ov, e, h1, h2, h3, h4⟩ := h
  exact ⟨cv, mv, sv, ov, e, h1.more hB, h2.more hB, h3.more hB, h4.more hB⟩
def zstv : Value := .agg #[.int .i64 0, .int .i64 0, .slice none 0 0, .slice none 0 0, .slice none 0 0, .slice none 0 0]
theorem IsSt.zero (w : World) (B : Nat) : IsSt w B zstv St.zero := ⟨_, _, _, _, rfl, IsIns.nil _ _, IsL.nil _ _ _, IsL.nil _ _ _, IsL.nil _ _ _⟩

/-! A result that lies in a cell, while a reading goes on. -/
structure RLoc (R : Nat) (w W : World) (b : Nat) (t : TypeId) (cs : Array Value) : Prop where
  new : w.heap.size ≤ b
  res : Blk W b t cs
  kept : Kept R R w W
section
variable {R b b' : Nat} {w W W' : World} {t t' : TypeId} {cs cs' : Array Value}
theorem RLoc.keep (h : RLoc R w W b t cs) (hR : R < w.heap.size) (hk : Kept R R W W') : RLoc R w W' b t cs :=
  ⟨h.new, (hk.block b h.res.lt (by have := h.new; omega) (by have := h.new; omega)).trans h.res, h.kept.trans hk⟩
theorem RLoc.below (h : RLoc R w W b t cs) (hb : Below W.heap.size W W') : RLoc R w W' b t cs := ⟨h.new, h.res.below hb h.res.lt, h.kept.trans (.of hb)⟩
theorem RLoc.set_ (h : RLoc R w W b t cs) (i : Nat) (u : Value) : RLoc R w (W.setCell ⟨b, i, none⟩ u) b t (cs.setIfInBounds i u) := ⟨h.new, h.res.set_ i u, h.kept.setNew h.new _⟩
theorem RLoc.other (h : RLoc R w W b t cs) {p : Addr} (hp : p.block ≠ b) (hn : w.heap.size ≤ p.block) (u : Value) : RLoc R w (W.setCell p u) b t cs := ⟨h.new, h.res.other hp u, h.kept.setNew hn u⟩
theorem RLoc.start (w : World) (R : Nat) (t : TypeId) (cs : Array Value) : RLoc R w (w.alloc (.cells cs t)) w.heap.size t cs :=
  ⟨Nat.le_refl _, Blk.new _ _ _, .of ((Below.refl _ w).alloc (Nat.le_refl _) _)⟩
theorem RLoc.drew (h : RLoc R w W b t cs) : RLoc R w W.drew b t cs := ⟨h.new, h.res, h.kept.os, h.kept.tape, h.kept.output, h.kept.size, h.kept.block⟩
end
section
variable {R c1 c2 ct p q : Nat} {N U A : Option Addr} {names : List ByteArray} {up : List Nat} {l : List Lx.Tk} {w w' W : World}
theorem NRd.setX (h : NRd R N U A c1 c2 ct names up l p W) {x : Addr} (hx : R < x.block) (u : Value) : NRd R N U A c1 c2 ct names up l p (W.setCell x u) :=
  ⟨h.blk.other (by omega) u, h.old.below ((Below.refl R W).setCell (Nat.le_of_lt hx) u), h.pos⟩
theorem NRd.drew (h : NRd R N U A c1 c2 ct names up l p W) : NRd R N U A c1 c2 ct names up l p W.drew := h.keep ⟨rfl, rfl, rfl, Nat.le_refl _, fun _ _ => rfl⟩
end
/-- What a part of the reading answers. -/
def STold {α : Type} (val : α → Value) (R : Nat) (N U A : Option Addr) (c1 c2 ct : Nat) (names : List ByteArray) (up : List Nat) (l : List Lx.Tk) (w : World) (r : α × Nat × Nat) (e : Ending) (w' : World) : Prop :=
  ∃ x, e = .returned (.tuple #[val x, .int .i64 (r.2.2 : Nat)]) ∧ (r.2.2 = 0 → x = r.1) ∧ NRd R N U A c1 c2 ct names up l r.2.1 w' ∧ Kept R R w w'
end Go.Proofs.YtipbilmnknmhmaaGreatDoor

/- Walks of state's atom, slot, pc, program (by gen_stmb.py). -/
namespace Go.Proofs.YtipbilmnknmhmaaGreatDoor
set_option maxRecDepth 100000
open Go.RowKit Go.Shelf Go.Sort
attribute [local go_sem] Oper.semAt_some
section
variable {R c1 c2 ct p q : Nat} {N U A : Option Addr} {names : List ByteArray} {up : List Nat} {l : List Lx.Tk} {w w' : World}
set_option maxHeartbeats 4000000 in
theorem satom_any (hf : Tb.Fine l) (hz : checkN names up = 0) (w : World) (h : NRd R N U A c1 c2 ct names up l p w) : Calls Tryz.prog 110 #[.pointer (some ⟨R, 0, none⟩)] w (STold atv R N U A c1 c2 ct names up l w (St.atomP names l p)) := by
  have hR := h.lt
  have hst := h.keep ((Below.refl _ w).alloc (Nat.le_refl _) (.cells #[.int .i64 0, .int .i64 0] 38))
  have hlc := RLoc.start w R 38 #[.int .i64 0, .int .i64 0]
  have HNUM := Lib.hid (nnum_any hf _ hst)
  have HLAB := Lib.hid (fun q W (h : NRd R N U A c1 c2 ct names up l q W) => nlabel_any hf hz W h)
  have HLC := Lib.hid hlc
  unfold St.atomP
  obtain ⟨⟨v, q, er⟩, hint⟩ : ∃ r, Cd.intP l p = r := ⟨_, rfl⟩
  rw [hint] at HNUM ⊢
  clear h hst hlc hint
  by_cases her : er = 0
  · subst her
    rw [St.andP_do]
    obtain ⟨⟨a, q2, er2⟩, hlab⟩ : ∃ r, Cd.labP names l q = r := ⟨_, rfl⟩
    have HLB := Lib.hid (fun W (h : NRd R N U A c1 c2 ct names up l q W) => HLAB.out q W h)
    rw [hlab] at HLB ⊢
    clear hlab HLAB
    obtain ⟨res, hres⟩ : ∃ res, St.andP (a, q2, er2) (⟨0, 0⟩ : St.Atom) (fun a j => (⟨v, a⟩, j, 0)) = res := ⟨_, rfl⟩
    have HR1 := Lib.hid (show res.2.1 = q2 ∧ res.2.2 = er2 ∧ (er2 = 0 → (⟨v, a⟩ : St.Atom) = res.1) by
      rw [← hres]
      unfold St.andP
      by_cases h0 : er2 = 0
      · rw [if_pos h0]; exact ⟨rfl, h0.symm, fun _ => rfl⟩
      · rw [if_neg h0]; exact ⟨rfl, rfl, fun h => absurd h h0⟩)
    rw [hres]
    clear hres
    go_enter Tryz.func110, Tryz.ntmps110
    go_wp2_with (fail)
    refine HNUM.out.mono ?_
    rintro e w1 ⟨rfl, h1, hk1⟩
    have hc := HLB.out w1 h1
    have HC := Lib.hid hc
    have HL1 := Lib.hid (HLC.out.keep hR hk1)
    clear h1 hk1 hc HNUM HLB HLC
    go_wp2_with (fail)
    refine HC.out.mono ?_
    rintro e w2 ⟨rfl, hn, hk2⟩
    have hl := HL1.out.keep hR hk2
    have f0 := hl.res.frozen 0
    have f1 := hl.res.frozen 1
    have r0 := hl.res.cell 0
    have r1 := hl.res.cell 1
    have hl2 := (hl.set_ 0 (.int .i64 v)).set_ 1 (.int .i64 a)
    have hn2 := (hn.setX (x := ⟨w.heap.size, 0, none⟩) hR (.int .i64 v)).setX (x := ⟨w.heap.size, 1, none⟩) hR (.int .i64 a)
    have v0 := hl2.res.cell 0
    have v1 := hl2.res.cell 1
    have HL2 := Lib.hid hl2
    have HN2 := Lib.hid hn2
    clear hl hn hl2 hn2
    clear hk2
    go_wp2
    refine bodyPost_ret (v := .tuple #[atv ⟨v, a⟩, .int .i64 (er2 : Nat)]) (by simp [results, Tryz.results110, go_sem, v0, v1, atv]) rfl ⟨⟨v, a⟩, by rw [HR1.out.2.1], fun h => HR1.out.2.2 (by rw [← HR1.out.2.1]; exact h), by rw [HR1.out.1]; exact HN2.out, HL2.out.kept⟩
  · rw [St.andP_no her]
    have hz1 : ((er : Int) != 0) = true := by rw [bne_iff_ne]; omega
    have HER := Lib.hid her
    clear her HLAB
    go_enter Tryz.func110, Tryz.ntmps110
    go_wp2_with (fail)
    refine HNUM.out.mono ?_
    rintro e w1 ⟨rfl, hn, hk1⟩
    have hl := HLC.out.keep hR hk1
    have f0 := hl.res.frozen 0
    have f1 := hl.res.frozen 1
    have r0 := hl.res.cell 0
    have r1 := hl.res.cell 1
    have hl2 := (hl.set_ 0 (.int .i64 0)).set_ 1 (.int .i64 0)
    have hn2 := (hn.setX (x := ⟨w.heap.size, 0, none⟩) hR (.int .i64 0)).setX (x := ⟨w.heap.size, 1, none⟩) hR (.int .i64 0)
    have v0 := hl2.res.cell 0
    have v1 := hl2.res.cell 1
    have HL2 := Lib.hid hl2
    have HN2 := Lib.hid hn2
    clear hl hn hl2 hn2
    clear hk1
    go_wp2
    refine bodyPost_ret (v := .tuple #[atv ⟨0, 0⟩, .int .i64 (er : Nat)]) (by simp [results, Tryz.results110, go_sem, v0, v1, atv]) rfl ⟨⟨0, 0⟩, rfl, fun h => absurd h HER.out, HN2.out, HL2.out.kept⟩
theorem isK_word (l : List Lx.Tk) (t : ByteArray) (i : Nat) : isK l 1 t i = St.isW l t i := rfl
theorem retP_yes (l : List Lx.Tk) (i : Nat) : St.retP true l i = St.isW l St.bRet i := rfl
set_option maxHeartbeats 4000000 in
theorem sslot_any (hf : Tb.Fine l) (hz : checkN names up = 0) (w : World) (h : NRd R N U A c1 c2 ct names up l p w) : Calls Tryz.prog 112 #[.pointer (some ⟨R, 0, none⟩)] w (STold slv R N U A c1 c2 ct names up l w (St.slotP names true l p)) := by
  have hR := h.lt
  have hst := h.keep ((Below.refl _ w).alloc (Nat.le_refl _) (.cells #[.bool false, .int .i64 0, .int .i64 0] 73))
  have hlc := RLoc.start w R 73 #[.bool false, .int .i64 0, .int .i64 0]
  have hw := ntword_any hf St.bRet _ hst
  rw [isK_word, ← retP_yes] at hw
  have HAT := Lib.hid (fun q W (h : NRd R N U A c1 c2 ct names up l q W) => satom_any hf hz W h)
  have HLC := Lib.hid hlc
  unfold St.slotP
  unfold NTook nxt at hw
  generalize St.retP true l p = b at *
  generalize (if b = true then p + 1 else p) = j at *
  obtain ⟨⟨⟨v, a⟩, q, er⟩, hat⟩ : ∃ r, St.atomP names l j = r := ⟨_, rfl⟩
  have HA := Lib.hid (fun W (h : NRd R N U A c1 c2 ct names up l j W) => HAT.out j W h)
  rw [hat] at HA ⊢
  obtain ⟨res, hres⟩ : ∃ res, St.andP ((⟨v, a⟩ : St.Atom), q, er) (⟨false, 0, 0⟩ : St.Slot) (fun a j => (⟨b, a.v, a.l⟩, j, 0)) = res := ⟨_, rfl⟩
  have HR1 := Lib.hid (show res.2.1 = q ∧ res.2.2 = er ∧ (er = 0 → (⟨b, v, a⟩ : St.Slot) = res.1) by
    rw [← hres]
    unfold St.andP
    by_cases h0 : er = 0
    · rw [if_pos h0]; exact ⟨rfl, h0.symm, fun _ => rfl⟩
    · rw [if_neg h0]; exact ⟨rfl, rfl, fun h => absurd h h0⟩)
  rw [hres]
  have HW := Lib.hid hw
  clear h hst hlc hw hat HAT hres
  go_enter Tryz.func112, Tryz.ntmps112
  go_wp2_with (fail)
  refine HW.out.mono ?_
  rintro e w1 ⟨rfl, h1, hk1⟩
  have HC := Lib.hid (HA.out w1 h1)
  have HL1 := Lib.hid (HLC.out.keep hR hk1)
  clear h1 hk1 HW HA HLC
  go_wp2_with (fail)
  refine HC.out.mono ?_
  rintro e w2 ⟨⟨x, y⟩, rfl, hx, hn0, hk2⟩
  have HX : Hid (er = 0 → (⟨x, y⟩ : St.Atom) = ⟨v, a⟩) := Lib.hid hx
  have hal := (Below.refl _ w2).alloc (Nat.le_refl _) (.cells #[.int .i64 x, .int .i64 y] 38)
  have hl := (HL1.out.keep hR hk2).below hal
  have hn := hn0.keep hal
  have hbx := Blk.new w2 38 #[.int .i64 x, .int .i64 y]
  obtain ⟨W3, hW3⟩ : ∃ W3, w2.alloc (.cells #[.int .i64 x, .int .i64 y] 38) = W3 := ⟨_, rfl⟩
  rw [hW3] at hl hn hbx
  have x0 : W3.cell? ⟨w2.heap.size, 0, none⟩ = some (.int .i64 x) := hbx.cell 0
  have x1 : W3.cell? ⟨w2.heap.size, 1, none⟩ = some (.int .i64 y) := hbx.cell 1
  have f0 := hl.res.frozen 0
  have f1 := hl.res.frozen 1
  have f2 := hl.res.frozen 2
  have r0 := hl.res.cell 0
  have r1 := hl.res.cell 1
  have r2 := hl.res.cell 2
  have hl2 := ((hl.set_ 0 (.bool b)).set_ 1 (.int .i64 x)).set_ 2 (.int .i64 y)
  have hn2 := ((hn.setX (x := ⟨w.heap.size, 0, none⟩) hR (.bool b)).setX (x := ⟨w.heap.size, 1, none⟩) hR (.int .i64 x)).setX (x := ⟨w.heap.size, 2, none⟩) hR (.int .i64 y)
  have v0 := hl2.res.cell 0
  have v1 := hl2.res.cell 1
  have v2 := hl2.res.cell 2
  have HL2 := Lib.hid hl2
  have HN2 := Lib.hid hn2
  clear hl hn hl2 hn2
  clear hk2 hal hn0 hx hbx HL1 HC
  unfold atv
  go_wp2
  refine bodyPost_ret (v := .tuple #[slv ⟨b, x, y⟩, .int .i64 (er : Nat)]) (by simp [results, Tryz.results112, go_sem, v0, v1, v2, slv]) rfl ⟨⟨b, x, y⟩, by rw [HR1.out.2.1], fun h => ?_, by rw [HR1.out.1]; exact HN2.out, HL2.out.kept⟩
  have h0 : er = 0 := by rw [← HR1.out.2.1]; exact h
  have := HX.out h0
  injection this with e1 e2
  rw [← HR1.out.2.2 h0, e1, e2]
/-- pc, the word, the atom and the mark. -/
def pcP (names : List ByteArray) (l : List Lx.Tk) (i : Nat) : St.Atom × Nat × Nat :=
  St.andP (St.wordE l St.bPc i) ⟨0, 0⟩ fun _ j => St.andP (St.atomP names l j) ⟨0, 0⟩ fun pc j => St.andP (St.markE l Cd.bSemi j) ⟨0, 0⟩ fun _ j => (pc, j, 0)
theorem wordE_nxt (l : List Lx.Tk) (t : ByteArray) (i : Nat) : St.wordE l t i = ((), nxt (isK l 1 t i) i, errB (isK l 1 t i)) := by
  unfold St.wordE nxt errB
  rw [isK_word]
  cases St.isW l t i <;> rfl
theorem markE_nxt (l : List Lx.Tk) (t : ByteArray) (i : Nat) : St.markE l t i = ((), nxt (isK l 3 t i) i, errB (isK l 3 t i)) := by
  unfold St.markE nxt errB
  rw [isK_mark]
  cases Cd.isM l t i <;> rfl
set_option maxHeartbeats 8000000 in
theorem spc_any (hf : Tb.Fine l) (hz : checkN names up = 0) (w : World) (h : NRd R N U A c1 c2 ct names up l p w) : Calls Tryz.prog 107 #[.pointer (some ⟨R, 0, none⟩)] w (STold atv R N U A c1 c2 ct names up l w (pcP names l p)) := by
  have hR := h.lt
  have hst := h.keep ((Below.refl _ w).alloc (Nat.le_refl _) (.cells #[.int .i64 0, .int .i64 0] 38))
  have hlc := RLoc.start w R 38 #[.int .i64 0, .int .i64 0]
  have hw := nword_any hf St.bPc _ hst
  have HAT := Lib.hid (fun q W (h : NRd R N U A c1 c2 ct names up l q W) => satom_any hf hz W h)
  have HMK := Lib.hid (fun q W (h : NRd R N U A c1 c2 ct names up l q W) => nmark_any hf Cd.bSemi W h)
  have HLC := Lib.hid hlc
  unfold pcP
  rw [wordE_nxt]
  clear h hst hlc
  generalize isK l 1 St.bPc p = b at *
  have HW := Lib.hid hw
  clear hw
  cases b with
  | false =>
    rw [St.andP_no (show (4 : Nat) ≠ 0 by decide)]
    clear HAT HMK
    go_enter Tryz.func107, Tryz.ntmps107
    go_wp2_with (fail)
    refine HW.out.mono ?_
    rintro e w1 ⟨rfl, hn, hk1⟩
    have hl := HLC.out.keep hR hk1
    have f0 := hl.res.frozen 0
    have f1 := hl.res.frozen 1
    have r0 := hl.res.cell 0
    have r1 := hl.res.cell 1
    have hl2 := (hl.set_ 0 (.int .i64 0)).set_ 1 (.int .i64 0)
    have hn2 := (hn.setX (x := ⟨w.heap.size, 0, none⟩) hR (.int .i64 0)).setX (x := ⟨w.heap.size, 1, none⟩) hR (.int .i64 0)
    have v0 := hl2.res.cell 0
    have v1 := hl2.res.cell 1
    have HL2 := Lib.hid hl2
    have HN2 := Lib.hid hn2
    clear hl hn hl2 hn2
    clear hk1 HW HLC
    unfold errB
    dsimp only
    go_wp2
    refine bodyPost_ret (v := .tuple #[atv ⟨0, 0⟩, .int .i64 (4 : Nat)]) (by simp [results, Tryz.results107, go_sem, v0, v1, atv]) rfl ⟨⟨0, 0⟩, rfl, fun h => absurd h (show ¬ (4 : Nat) = 0 by decide), HN2.out, HL2.out.kept⟩
  | true =>
    rw [show (((), nxt true p, errB true) : Unit × Nat × Nat) = ((), p + 1, 0) from rfl, St.andP_do]
    obtain ⟨⟨⟨v, a⟩, q, er⟩, hat⟩ : ∃ r, St.atomP names l (p + 1) = r := ⟨_, rfl⟩
    have HA := Lib.hid (fun W (h : NRd R N U A c1 c2 ct names up l (p + 1) W) => HAT.out (p + 1) W h)
    rw [hat] at HA ⊢
    clear hat HAT
    by_cases her : er = 0
    · subst her
      rw [St.andP_do]
      rw [markE_nxt]
      have HM := Lib.hid (fun W (h : NRd R N U A c1 c2 ct names up l q W) => HMK.out q W h)
      clear HMK
      generalize isK l 3 Cd.bSemi q = b at *
      obtain ⟨res, hres⟩ : ∃ res, St.andP ((), nxt b q, errB b) (⟨0, 0⟩ : St.Atom) (fun _ j => ((⟨v, a⟩ : St.Atom), j, 0)) = res := ⟨_, rfl⟩
      have HR1 := Lib.hid (show res.2.1 = nxt b q ∧ res.2.2 = errB b ∧ (errB b = 0 → (⟨v, a⟩ : St.Atom) = res.1) by
        rw [← hres]
        unfold St.andP
        by_cases h0 : errB b = 0
        · rw [if_pos h0]; exact ⟨rfl, h0.symm, fun _ => rfl⟩
        · rw [if_neg h0]; exact ⟨rfl, rfl, fun h => absurd h h0⟩)
      rw [hres]
      clear hres
      go_enter Tryz.func107, Tryz.ntmps107
      go_wp2_with (fail)
      refine HW.out.mono ?_
      rintro e w1 ⟨rfl, h1, hk1⟩
      have HC := Lib.hid (HA.out w1 h1)
      have HL1 := Lib.hid (HLC.out.keep hR hk1)
      clear h1 hk1 HW HA HLC
      unfold errB
      rw [if_pos rfl]
      go_wp2_with (fail)
      refine HC.out.mono ?_
      rintro e w2 ⟨⟨x, y⟩, rfl, hx, hn0, hk2⟩
      obtain ⟨rfl, rfl⟩ : x = v ∧ y = a := by
        have := hx rfl
        injection this with e1 e2
        exact ⟨e1, e2⟩
      have hal := (Below.refl _ w2).alloc (Nat.le_refl _) (.cells #[.int .i64 x, .int .i64 y] 38)
      have hl := (HL1.out.keep hR hk2).below hal
      have hn := hn0.keep hal
      have hzz := HL1.out.kept.size
      have hz2 := hk2.size
      have hbx := Blk.new w2 38 #[.int .i64 x, .int .i64 y]
      obtain ⟨W3, hW3⟩ : ∃ W3, w2.alloc (.cells #[.int .i64 x, .int .i64 y] 38) = W3 := ⟨_, rfl⟩
      rw [hW3] at hl hn hbx
      have hlt := hl.res.lt
      have hltx := hbx.lt
      clear hk2 hal hn0 hx HL1 HC
      have hld := hl.drew
      have hnd := hn.drew
      have hls := (hld.set_ 0 (.int .i64 x)).set_ 1 (.int .i64 y)
      have hns := (hnd.setX (x := ⟨w.heap.size, 0, none⟩) hR (.int .i64 x)).setX (x := ⟨w.heap.size, 1, none⟩) hR (.int .i64 y)
      have x0 : W3.cell? ⟨w2.heap.size, 0, none⟩ = some (.int .i64 x) := hbx.cell 0
      have x1 : W3.cell? ⟨w2.heap.size, 1, none⟩ = some (.int .i64 y) := hbx.cell 1
      have f0 := hld.res.frozen 0
      have f1 := hld.res.frozen 1
      have r0 := hld.res.cell 0
      have r1 := hld.res.cell 1
      have HBX : Hid (∀ W4, Kept R R W3.drew W4 → Blk W4 w2.heap.size 38 #[.int .i64 x, .int .i64 y]) := Lib.hid fun W4 hk => (hk.block _ hltx (by have := hnd.lt; omega) (by have := hnd.lt; omega)).trans hbx
      have HLD := Lib.hid hld
      have HLS := Lib.hid hls
      have HND := Lib.hid hnd
      have HNS := Lib.hid hns
      clear hl hn hld hnd hls hns hbx
      unfold atv
      go_wp2
      go_region_with (go_at_call 134; refine (HM.out _ ?_).mono ?_; (first | exact HND.out | exact HNS.out); rintro e w4 ⟨rfl, hs2, hk4⟩; obtain ⟨u0, u1, hl4⟩ : ∃ u0 u1, RLoc R w w4 w.heap.size 38 #[u0, u1] := ⟨_, _, HLD.out.keep hR hk4⟩; have hbx4 := HBX.out _ hk4; have z0 := hbx4.cell 0; have z1 := hbx4.cell 1; have s0 := hl4.res.cell 0; have s1 := hl4.res.cell 1; have g0 := hl4.res.frozen 0; have g1 := hl4.res.frozen 1)
      all_goals go_wp2
      all_goals
        have hl5 := (hl4.set_ 0 (.int .i64 x)).set_ 1 (.int .i64 y)
        have hn5 := (hs2.setX (x := ⟨w.heap.size, 0, none⟩) hR (.int .i64 x)).setX (x := ⟨w.heap.size, 1, none⟩) hR (.int .i64 y)
        have v0 := hl5.res.cell 0
        have v1 := hl5.res.cell 1
        have HK5 := Lib.hid hl5.kept
        have HN5 := Lib.hid hn5
        clear hl5 hn5
        refine bodyPost_ret (v := .tuple #[atv ⟨x, y⟩, .int .i64 (errB b : Nat)]) (by simp [results, Tryz.results107, go_sem, v0, v1, atv]) rfl ⟨⟨x, y⟩, by rw [HR1.out.2.1], fun h => HR1.out.2.2 (by rw [← HR1.out.2.1]; exact h), by rw [HR1.out.1]; exact HN5.out, HK5.out⟩
    · rw [St.andP_no her]
      have hz1 : ((er : Int) != 0) = true := by rw [bne_iff_ne]; omega
      have HER := Lib.hid her
      clear her HMK
      go_enter Tryz.func107, Tryz.ntmps107
      go_wp2_with (fail)
      refine HW.out.mono ?_
      rintro e w1 ⟨rfl, h1, hk1⟩
      have HC := Lib.hid (HA.out w1 h1)
      have HL1 := Lib.hid (HLC.out.keep hR hk1)
      clear h1 hk1 HW HA HLC
      unfold errB
      rw [if_pos rfl]
      go_wp2_with (fail)
      refine HC.out.mono ?_
      rintro e w2 ⟨⟨x, y⟩, rfl, hx, hn0, hk2⟩
      have hal := (Below.refl _ w2).alloc (Nat.le_refl _) (.cells #[.int .i64 x, .int .i64 y] 38)
      have hl := (HL1.out.keep hR hk2).below hal
      have hn := hn0.keep hal
      have hbx := Blk.new w2 38 #[.int .i64 x, .int .i64 y]
      obtain ⟨W3, hW3⟩ : ∃ W3, w2.alloc (.cells #[.int .i64 x, .int .i64 y] 38) = W3 := ⟨_, rfl⟩
      rw [hW3] at hl hn hbx
      have x0 : W3.cell? ⟨w2.heap.size, 0, none⟩ = some (.int .i64 x) := hbx.cell 0
      have x1 : W3.cell? ⟨w2.heap.size, 1, none⟩ = some (.int .i64 y) := hbx.cell 1
      have f0 := hl.res.frozen 0
      have f1 := hl.res.frozen 1
      have r0 := hl.res.cell 0
      have r1 := hl.res.cell 1
      have hl2 := (hl.set_ 0 (.int .i64 x)).set_ 1 (.int .i64 y)
      have hn2 := (hn.setX (x := ⟨w.heap.size, 0, none⟩) hR (.int .i64 x)).setX (x := ⟨w.heap.size, 1, none⟩) hR (.int .i64 y)
      have v0 := hl2.res.cell 0
      have v1 := hl2.res.cell 1
      have HL2 := Lib.hid hl2
      have HN2 := Lib.hid hn2
      clear hl hn hl2 hn2
      clear hk2 hal hn0 hx hbx HL1 HC
      unfold atv
      go_wp2
      refine bodyPost_ret (v := .tuple #[atv ⟨x, y⟩, .int .i64 (er : Nat)]) (by simp [results, Tryz.results107, go_sem, v0, v1, atv]) rfl ⟨⟨x, y⟩, rfl, fun h => absurd h HER.out, HN2.out, HL2.out.kept⟩
end
end Go.Proofs.YtipbilmnknmhmaaGreatDoor

/- Walk of state's program. -/
namespace Go.Proofs.YtipbilmnknmhmaaGreatDoor
set_option maxRecDepth 100000
open Go.RowKit Go.Shelf Go.Sort
attribute [local go_sem] Oper.semAt_some
def progP (names : List ByteArray) (k : Nat) (l : List Lx.Tk) (i : Nat) : List Cd.In × Nat × Nat := St.andP (St.wordE l St.bCode i) [] fun _ j => Cd.fromP names k l 13 [] j
/-- What a row's reading answers. -/
def SRow9 {α : Type} (f : α → List Value) (R : Nat) (N U A : Option Addr) (c1 c2 ct : Nat) (names : List ByteArray) (up : List Nat) (l : List Lx.Tk) (w : World) (r : List α × Nat × Nat) (e : Ending) (w' : World) : Prop :=
  ∃ A' n' c', e = .returned (.tuple #[.slice A' n' c', .int .i64 (r.2.2 : Nat)]) ∧ (r.2.2 = 0 → KN f w.heap.size w' (.slice A' n' c') r.1) ∧ NRd R N U A c1 c2 ct names up l r.2.1 w' ∧ Kept R R w w'
section
variable {R c1 c2 ct p q : Nat} {N U A : Option Addr} {names : List ByteArray} {up : List Nat} {l : List Lx.Tk} {w w' : World}
set_option maxHeartbeats 8000000 in
theorem sprogram_any (hf : Tb.Fine l) (hz : checkN names up = 0) (w : World) (h : NRd R N U A c1 c2 ct names up l p w) (hi : Ins w) (hg : 0 < R) :
    Calls Tryz.prog 108 #[.pointer (some ⟨R, 0, none⟩)] w (SRow9 ivs R N U A c1 c2 ct names up l w (progP names up.length l p)) := by
  have hw := nword_any hf St.bCode w h
  have hmany := h.old.many
  have hR0 := h.lt
  unfold progP
  rw [wordE_nxt]
  cases hb : isK l 1 St.bCode p with
  | false =>
    rw [hb] at hw
    rw [St.andP_no (show (errB false) ≠ 0 by decide)]
    have HW := Lib.hid hw
    clear h hw hi hb
    go_enter Tryz.func108, Tryz.ntmps108
    go_wp2_with (fail)
    refine HW.out.mono ?_
    rintro e w1 ⟨rfl, hn, hk1⟩
    have HN := Lib.hid hn
    have HK := Lib.hid hk1
    clear hn hk1 HW
    unfold errB
    dsimp only
    go_wp2
    go_ret2
    exact ⟨_, _, _, rfl, fun h => absurd h (show ¬ (4 : Nat) = 0 by decide), HN.out, HK.out⟩
  | true =>
    have hp1 : p + 1 < l.length := by
      have := isK_next hf h.pos (show (1 : Int) ≠ 0 by decide) (t := St.bCode)
      rw [hb] at this
      exact this
    rw [hb] at hw
    rw [show (((), nxt true p, errB true) : Unit × Nat × Nat) = ((), p + 1, 0) from rfl, St.andP_do]
    obtain ⟨⟨o, q, er⟩, hfr⟩ : ∃ r, Cd.fromP names up.length l 13 [] (p + 1) = r := ⟨_, rfl⟩
    have hq := Cd.fromP_lt hf names up.length 13 [] _ hp1
    rw [hfr] at hq ⊢
    dsimp only at hq
    have HFR := Lib.hid (fun W (h : NRd R N U A c1 c2 ct names up l (p + 1) W) (hi : Ins W) => cfrom_new ct hf hp1 hmany hz W (h.old.lat.more (Nat.le_of_lt h.lt)) (h.old.toks.more (Nat.le_of_lt h.lt)) hi)
    rw [hfr] at HFR
    have HW := Lib.hid hw
    have HI := Lib.hid hi
    have HQ := Lib.hid hq
    clear h hw hi hb hfr hq
    go_enter Tryz.func108, Tryz.ntmps108
    go_wp2_with (fail)
    refine HW.out.mono ?_
    rintro e w1 ⟨rfl, h1, hk1⟩
    unfold errB
    rw [if_pos rfl]
    have h1 : NRd R N U A c1 c2 ct names up l (p + 1) w1 := h1
    have c0 := h1.c0
    have c1' := h1.c1_
    have c2' := h1.c2_
    have c3 := h1.c3
    have hR := h1.lt
    have hc := HFR.out w1.drew h1.drew (HI.out.below ((hk1.belowR (Nat.le_of_lt hR0)).trans (Below.mono (B := w1.heap.size) ⟨rfl, rfl, rfl, Nat.le_refl _, fun _ _ => rfl⟩ (Nat.le_of_lt hR))) hg)
    have hk1s := Lib.hid hk1.size
    have HC := Lib.hid hc
    have H1 := Lib.hid h1
    have HK1 := Lib.hid hk1
    clear h1 hk1 HW HFR hc
    go_wp2_with (fail)
    refine Free.region_seq [12] [3, 7, 11] 12 (fun W' => W'.cell? ⟨R, 0, none⟩ = some (.slice N names.length c1) ∧ W'.cell? ⟨R, 1, none⟩ = some (.slice U up.length c2) ∧ W'.cell? ⟨R, 2, none⟩ = some (.slice A l.length ct) ∧ W'.cell? ⟨R, 3, none⟩ = some (.int .i64 ((p + 1 : Nat) : Int))) (by kernel_rfl) (by kernel_rfl) (by kernel_rfl) (by kernel_rfl) (⟨c0, c1', c2', c3⟩) (fun ops hops => ?_)
    clear hops
    iterate 12
      refine Free.Seq.quiet (v := ?_) (a' := ?_) rfl rfl (fun W' hW' => ?_) ?_ ?_
      rotate_left 2
      · first | obtain ⟨s0, s1, s2, s3⟩ := hW' rfl | skip
        go_simp
        try with_reducible rfl
      · simp only [Act.put, List.setIfInBounds_toArray, List.set_cons_zero, List.set_cons_succ]
        try with_reducible rfl
    refine Free.Seq.loud_ rfl (.inl rfl) (fun K hK => ?_)
    go_simp
    refine HC.out.mono ?_
    rintro e' w3 ⟨v, rfl, hv, hb3⟩
    obtain ⟨A9, c9, rfl, -⟩ := id hv
    have h3 := H1.out.drew.keep hb3
    have hk3 : Kept R R w w3 := HK1.out.trans ((Kept.of (Below.refl _ w1).drew).trans (.of hb3))
    have hkl : KN ivs w.heap.size w3 _ o := hv.less hk1s.out
    have hf3 := h3.blk.frozen 3
    have c3' := h3.c3
    have hR3 := h3.lt
    have hg4 := h3.go HQ.out
    have hk4 := (Kept.refl R R w3).set_ (p := ⟨R, 3, none⟩) (.inl rfl) (.int .i64 (q : Int))
    have HKL := Lib.hid (hkl.kept hR0 hk4)
    have HG := Lib.hid hg4
    have HK := Lib.hid (hk3.trans hk4)
    clear h3 hk3 hkl hg4 hk4 hb3 hv
    refine hK.out _ _ rfl (fun h => absurd h (by decide)) ?_
    clear hK K
    iterate 7
      refine Free.Seq.quiet (v := ?_) (a' := ?_) rfl rfl (fun W' hW' => ?_) ?_ ?_
      rotate_left 2
      · skip
        go_simp
        try with_reducible rfl
      · simp only [Act.put, List.setIfInBounds_toArray, List.set_cons_zero, List.set_cons_succ]
        try with_reducible rfl
    refine Free.Seq.nil_ ?_
    clear c0 c1' c2' c3
    go_wp2
    go_ret2
    exact ⟨_, _, _, rfl, fun _ => HKL.out, HG.out, HK.out⟩
end
end Go.Proofs.YtipbilmnknmhmaaGreatDoor

/- Walks of state's row, of atoms and of slots (by gen_stmd.py). -/
namespace Go.Proofs.YtipbilmnknmhmaaGreatDoor
set_option maxRecDepth 100000
open Go.RowKit Go.Shelf Go.Sort
attribute [local go_sem] Oper.semAt_some
/-! The rows, plain, from a loop's head. -/
def tailQ (names : List ByteArray) (l : List Lx.Tk) (most : Nat) (rets : Bool) (n : Nat) (out : List St.Slot) (j : Nat) : List St.Slot × Nat × Nat :=
  if Cd.isM l St.bComma j = true then St.rowP names l most rets n out (j + 1) else if Cd.isM l Cd.bSemi j = true then (out, j + 1, 0) else ([], j, 4)
def headQ (names : List ByteArray) (l : List Lx.Tk) (most : Nat) (rets : Bool) (out : List St.Slot) (p : Nat) : List St.Slot × Nat × Nat :=
  if out = [] then St.rowP names l most rets (most + 1) [] p else tailQ names l most rets (most + 1 - out.length) out p
theorem rowP_step {names : List ByteArray} {l : List Lx.Tk} {most : Nat} {rets : Bool} {out : List St.Slot} {p : Nat} (h : out.length < most) (h0 : (St.slotP names rets l p).2.2 = 0) :
    St.rowP names l most rets (most + 1 - out.length) out p = headQ names l most rets (out ++ [(St.slotP names rets l p).1]) (St.slotP names rets l p).2.1 := by
  rw [show most + 1 - out.length = (most - out.length) + 1 by omega]
  unfold St.rowP headQ
  rw [if_neg (by omega), if_neg (by simp), St.andP_yes h0, show most + 1 - (out ++ [(St.slotP names rets l p).1]).length = most - out.length by simp]
  rfl
theorem rowP_bad {names : List ByteArray} {l : List Lx.Tk} {most : Nat} {rets : Bool} {out : List St.Slot} {p : Nat} (h : out.length < most) (h0 : (St.slotP names rets l p).2.2 ≠ 0) :
    St.rowP names l most rets (most + 1 - out.length) out p = ([], (St.slotP names rets l p).2.1, (St.slotP names rets l p).2.2) := by
  rw [show most + 1 - out.length = (most - out.length) + 1 by omega]
  unfold St.rowP
  rw [if_neg (by omega), St.andP_no h0]
theorem rowP_many {names : List ByteArray} {l : List Lx.Tk} {most : Nat} {rets : Bool} {out : List St.Slot} {p : Nat} (h : out.length = most) : St.rowP names l most rets (most + 1 - out.length) out p = ([], p, 8) := by
  rw [show most + 1 - out.length = 0 + 1 by omega]
  unfold St.rowP
  rw [if_pos h]
theorem headQ_nil {names : List ByteArray} {l : List Lx.Tk} {most : Nat} {rets : Bool} {p : Nat} : headQ names l most rets [] p = St.rowP names l most rets (most + 1 - ([] : List St.Slot).length) [] p := by
  unfold headQ
  rw [if_pos rfl]
  rfl
theorem headQ_more {names : List ByteArray} {l : List Lx.Tk} {most : Nat} {rets : Bool} {out : List St.Slot} {p : Nat} (h : out ≠ []) (hc : Cd.isM l St.bComma p = true) : headQ names l most rets out p = St.rowP names l most rets (most + 1 - out.length) out (p + 1) := by
  unfold headQ tailQ
  rw [if_neg h, if_pos hc]
theorem headQ_end {names : List ByteArray} {l : List Lx.Tk} {most : Nat} {rets : Bool} {out : List St.Slot} {p : Nat} (h : out ≠ []) (hc : Cd.isM l St.bComma p = false) :
    headQ names l most rets out p = if Cd.isM l Cd.bSemi p = true then (out, p + 1, 0) else ([], p, 4) := by
  unfold headQ tailQ
  rw [if_neg h, hc, if_neg (by decide)]
theorem wordQ {names : List ByteArray} {l : List Lx.Tk} {word : ByteArray} {most : Nat} {rets : Bool} {i : Nat} : St.wordP names l word most rets i =
    if isK l 1 word i = true then (if Cd.isM l Cd.bSemi (i + 1) = true then ([], i + 1 + 1, 0) else headQ names l most rets [] (i + 1)) else ([], i, 4) := by
  unfold St.wordP
  rw [wordE_nxt]
  cases isK l 1 word i with
  | true => rw [show (((), nxt true i, errB true) : Unit × Nat × Nat) = ((), i + 1, 0) from rfl, St.andP_do, if_pos rfl, headQ_nil]; rfl
  | false => rw [St.andP_no (show errB false ≠ 0 by decide), if_neg (by decide)]; rfl
def lenV (v : Value) : Nat := match v with
  | .slice _ n _ => n
  | _ => 0
theorem Kept.more {R : Nat} {a w w' : World} (h : Kept R R a w) (hb : Below a.heap.size w w') : Kept R R a w' :=
  ⟨hb.os.trans h.os, hb.tape.trans h.tape, hb.output.trans h.output, Nat.le_trans h.size hb.size, fun k hk h1 h2 => (hb.block k hk).trans (h.block k hk h1 h2)⟩
theorem Tryz.infoAtom : (Tryz.prog.info? 38).map (fun i => (i.zero, i.size, i.bytes)) = some (some (.agg #[.int .i64 0, .int .i64 0]), 2, 16) := by kernel_rfl
theorem Tryz.infoSlot : (Tryz.prog.info? 73).map (fun i => (i.zero, i.size, i.bytes)) = some (some (.agg #[.bool false, .int .i64 0, .int .i64 0]), 3, 24) := by kernel_rfl
def aTs (x : St.Slot) : List Value := avs (St.toAtom x)
theorem aTs_map (l : List St.Slot) : fcells aTs l = fcells avs (l.map St.toAtom) := by
  unfold fcells
  rw [List.flatMap_map]
  rfl
theorem KN.atoms {B : Nat} {w : World} {v : Value} {l : List St.Slot} (h : KN aTs B w v l) : KN avs B w v (l.map St.toAtom) := by
  obtain ⟨A, c, e, hr, hc⟩ := h
  exact ⟨A, c, by rw [List.length_map]; exact e, by rw [← aTs_map]; exact hr, by rw [List.length_map]; exact hc⟩
section
variable {R c1 c2 ct p q : Nat} {N U A : Option Addr} {names : List ByteArray} {up : List Nat} {l : List Lx.Tk} {w w' : World}
theorem NRd.belowB (h : NRd R N U A c1 c2 ct names up l p w) {B : Nat} (hb : Below B w w') (hR : R < B) : NRd R N U A c1 c2 ct names up l p w' :=
  ⟨h.blk.below hb hR, h.old.below (hb.mono (Nat.le_of_lt hR)), h.pos⟩
/-- A row of the call's own while the tokens' reader goes on. -/
theorem ownR {W W' : World} {base sz n : Nat} {e : TypeId} {rv : Value} {xs : List Value} (h : W.ownsRow base e sz rv n xs) (hR : R < base) (hk : Kept R R W W') : W'.ownsRow base e sz rv n xs :=
  own_of h fun g hg => by
    have := h.lt g hg
    exact hk.block g this.2 (by omega) (by omega)
/-- An atom as a slot's value. -/
def aSv (x : St.Slot) : Value := .agg #[.int .i64 x.v, .int .i64 x.l]
theorem sone_atom (hf : Tb.Fine l) (hz : checkN names up = 0) (w : World) (h : NRd R N U A c1 c2 ct names up l p w) : Calls Tryz.prog 110 #[.pointer (some ⟨R, 0, none⟩)] w (STold aSv R N U A c1 c2 ct names up l w (St.slotP names false l p)) := by
  refine (satom_any hf hz w h).mono ?_
  rintro e w' ⟨⟨v, a⟩, rfl, hx, hn, hk⟩
  have hsp : St.slotP names false l p = St.andP (St.atomP names l p) ⟨false, 0, 0⟩ fun a j => (⟨false, a.v, a.l⟩, j, 0) := rfl
  rw [hsp]
  by_cases h0 : (St.atomP names l p).2.2 = 0
  · rw [St.andP_yes h0]
    have := hx h0
    rw [h0]
    exact ⟨⟨false, v, a⟩, rfl, fun _ => by rw [← this], hn, hk⟩
  · rw [St.andP_no h0]
    exact ⟨⟨false, v, a⟩, rfl, fun h => absurd h h0, hn, hk⟩
set_option maxHeartbeats 16000000 in
theorem arow_any (hf : Tb.Fine l) (hz : checkN names up = 0) (word : ByteArray) (most : Nat) (hm0 : 0 < most) (hm1 : most ≤ 100) (w : World) (h : NRd R N U A c1 c2 ct names up l p w) :
    Calls Tryz.prog 109 #[.pointer (some ⟨R, 0, none⟩), .string word, .int .i64 (most : Int), .func (.func 110) #[] #[]] w (SRow9 aTs R N U A c1 c2 ct names up l w (St.wordP names l word most false p)) := by
  obtain ⟨i0, hi, hz0, hz1, hz2⟩ := info_parts Tryz.infoAtom
  have hcf := Tryz.call110
  have HW := Lib.hid (nword_any hf word w h)
  have HONE := Lib.hid (fun q W (h : NRd R N U A c1 c2 ct names up l q W) => sone_atom hf hz W h)
  have HTS := Lib.hid (fun q W (h : NRd R N U A c1 c2 ct names up l q W) => ntmark_any hf Cd.bSemi W h)
  have HTC := Lib.hid (fun q W (h : NRd R N U A c1 c2 ct names up l q W) => ntmark_any hf St.bComma W h)
  have HMK := Lib.hid (fun q W (h : NRd R N U A c1 c2 ct names up l q W) => nmark_any hf Cd.bSemi W h)
  have HRw := Lib.hid h.lt
  rw [wordQ]
  clear h
  cases hb : isK l 1 word p with
  | false =>
    rw [if_neg (by decide)]
    rw [hb] at HW
    clear hb HONE HTS HTC HMK
    go_enter Tryz.func109, Tryz.ntmps109
    go_wp2_with (fail)
    refine HW.out.mono ?_
    rintro e w1 ⟨rfl, h1, hk1⟩
    have HN1 := Lib.hid h1
    have HK1 := Lib.hid hk1
    clear h1 hk1 HW
    unfold errB
    dsimp only
    go_wp2
    go_ret2
    exact ⟨_, _, _, rfl, fun h => absurd h (show ¬ (4 : Nat) = 0 by decide), HN1.out, HK1.out⟩
  | true =>
    rw [if_pos rfl]
    rw [hb] at HW
    clear hb
    have HTS1 := Lib.hid (fun W h => HTS.out (p + 1) W h)
    rw [isK_mark] at HTS1
    cases hs : Cd.isM l Cd.bSemi (p + 1) with
    | true =>
      rw [if_pos rfl]
      rw [hs] at HTS1
      clear hs HONE HTS HTC HMK
      go_enter Tryz.func109, Tryz.ntmps109
      go_wp2_with (fail)
      refine HW.out.mono ?_
      rintro e w1 ⟨rfl, h1, hk1⟩
      have HC := Lib.hid (HTS1.out w1 h1)
      have HK1 := Lib.hid hk1
      clear h1 hk1 HW HTS1
      unfold errB
      rw [if_pos rfl]
      go_wp2_with (fail)
      refine HC.out.mono ?_
      rintro e w2 ⟨rfl, h2, hk2⟩
      have HN2 := Lib.hid h2
      have HK2 := Lib.hid (HK1.out.trans hk2)
      clear h2 hk2 HC
      go_wp2
      go_ret2
      exact ⟨_, _, _, rfl, fun _ => KN.nil _ _ _, HN2.out, HK2.out⟩
    | false =>
      rw [if_neg (by decide)]
      rw [hs] at HTS1
      obtain ⟨res, hres⟩ : ∃ res, headQ names l most false [] (p + 1) = res := ⟨_, rfl⟩
      rw [hres]
      have HRES := Lib.hid hres
      clear hs hres HTS
      go_enter Tryz.func109, Tryz.ntmps109
      go_wp2_with (fail)
      refine HW.out.mono ?_
      rintro e w1 ⟨rfl, h1, hk1⟩
      have HC := Lib.hid (HTS1.out w1 h1)
      have HK1 := Lib.hid hk1
      clear h1 hk1 HW HTS1
      unfold errB
      rw [if_pos rfl]
      go_wp2_with (fail)
      refine HC.out.mono ?_
      rintro e w2 ⟨rfl, h2, hk2⟩
      have HN2 : Hid (NRd R N U A c1 c2 ct names up l (p + 1) w2) := Lib.hid h2
      have HK2 := Lib.hid (HK1.out.trans hk2)
      clear h2 hk2 HC HK1
      go_wp2
      go_loopw [11] (fun v wr => ∃ (out : List St.Slot) (p : Nat), out.length ≤ most ∧ Hid (wr.ownsRow w.heap.size 38 2 v out.length (fcells aTs out)) ∧ Hid (NRd R N U A c1 c2 ct names up l p wr) ∧ Hid (Kept R R w wr) ∧ Hid (headQ names l most false out p = res)) (fun v _ => most - lenV v)
      case atStart => exact ⟨[], p + 1, Nat.zero_le _, Lib.hid (World.ownsRow_nil _ _ _ _), HN2, HK2, HRES⟩
      case round =>
        clear HN2 HK2 HRES
        obtain ⟨out, p, hle, HOWN, HN, HK, HH0⟩ := hrel
        obtain ⟨A1, cap, hrv⟩ := ownT_slice HOWN.out
        subst hrv
        by_cases hnil : out = []
        · have hl0 : ((out.length : Int) == 0) = true := by rw [hnil]; rfl
          have HQ : Hid (St.rowP names l most false (most + 1 - out.length) out p = res) := Lib.hid (by rw [← HH0.out, hnil, headQ_nil])
          have HL0 := Lib.hid (show out.length = 0 by rw [hnil]; rfl)
          have HN1 := HN
          have HK1 := HK
          have HOWN1 := HOWN
          clear hnil HN HK HOWN HH0 HTC HMK
          by_cases hm : out.length = most
          · exact absurd hm (by have := HL0.out; omega)
          · have hme : ((out.length : Int) == (most : Int)) = false := by rw [beq_eq_false_iff_ne]; omega
            have hs := rowP_step (names := names) (l := l) (rets := false) (p := p) (show out.length < most by omega)
            have hbd := rowP_bad (names := names) (l := l) (rets := false) (p := p) (show out.length < most by omega)
            have hcall := HONE.out (p) wr HN1.out
            obtain ⟨⟨⟨sr, sv, sl⟩, q, er⟩, hsl⟩ : ∃ r, St.slotP names false l (p) = r := ⟨_, rfl⟩
            rw [hsl] at hcall hs hbd
            dsimp only at hs hbd
            have HS : Hid (er = 0 → headQ names l most false (out ++ [⟨sr, sv, sl⟩]) q = res) := Lib.hid fun h => by rw [← HQ.out, hs h]
            have HBD : Hid (er ≠ 0 → ([], q, er) = res) := Lib.hid fun h => by rw [← HQ.out, hbd h]
            have HC := Lib.hid hcall
            clear hcall hs hbd hsl HQ
            go_wp2_with (fail)
            refine HC.out.mono ?_
            rintro e w3 ⟨⟨xr, xv, xl⟩, rfl, hx, hn3, hk3⟩
            have hal := (Below.refl _ w3).alloc (Nat.le_refl _) (.cells #[.int .i64 xv, .int .i64 xl] 38)
            have hown4 := ownR HOWN1.out HRw.out (hk3.trans (.of hal))
            have hbx := Blk.new w3 38 #[.int .i64 xv, .int .i64 xl]
            have hn4 := hn3.keep hal
            have hk4 := HK1.out.trans (hk3.trans (.of hal))
            obtain ⟨W4, hW4⟩ : ∃ W4, w3.alloc (.cells #[.int .i64 xv, .int .i64 xl] 38) = W4 := ⟨_, rfl⟩
            rw [hW4] at hown4 hbx hn4 hk4
            have HN4 := Lib.hid hn4
            have HK4 := Lib.hid hk4
            have x0 := hbx.cell 0
            have x1 := hbx.cell 1
            skip
            have hbl := hbx.lt
            have hsz4 := hk4.size
            clear hn3 hk3 hal hn4 hk4 hbx HN1 HK1 HOWN1
            by_cases her : er = 0
            · have HX : Hid ((⟨xr, xv, xl⟩ : St.Slot) = ⟨sr, sv, sl⟩ ∨ sr = false ∧ sv = xv ∧ sl = xl) := Lib.hid (.inl (hx her))
              have HH := Lib.hid (HS.out her)
              subst her
              clear hx HS HBD
              have hown := hown4
              clear hown4
              unfold aSv
              go_wp2_with (at_builtin; refine wpList_append_own _ rfl _ _ 39 rfl w.heap.size 38 i0 (.agg #[.int .i64 0, .int .i64 0]) 2 16 Tryz.underlying39 hi hz0 hz1 hz2 rfl (by decide) _ _ _ rfl (hown.alloc _) ⟨W4.heap.size, 0, none⟩ 1 1 [.int .i64 xv, .int .i64 xl] rfl rfl ?c1 ?c2 ?c3 ?c4 ?c5 ?_)
              case c1 => exact cells_new _ _ _
              case c2 => simp [Value.oneCell']
              case c3 => unfold maxLen; omega
              case c4 => omega
              case c5 => simp; omega
              intro v' w' hown' hgrow _
              have hbg : Below w.heap.size W4 w' := ((Below.refl w.heap.size W4).alloc hsz4 _).grown hgrow (by simp; omega) (fun k he => (hown.lt k he).1)
              have HO9 : Hid (w'.ownsRow w.heap.size 38 2 v' (out ++ [(⟨sr, sv, sl⟩ : St.Slot)]).length (fcells aTs (out ++ [(⟨sr, sv, sl⟩ : St.Slot)]))) := Lib.hid (by
                rw [fcells_snoc, List.length_append]
                rcases HX.out with h | h
                · injection h with e1 e2 e3
                  subst e1 e2 e3
                  exact hown'
                · obtain ⟨e1, e2, e3⟩ := h
                  subst e1 e2 e3
                  exact hown')
              have HN9 := Lib.hid (HN4.out.belowB hbg HRw.out)
              have HK9 := Lib.hid (HK4.out.more hbg)
              obtain ⟨g', cap', rfl⟩ := ownsRow_succ hown'
              clear hown hown' hgrow hbg
              go_wp2
              go_roundw
              case rel => exact ⟨out ++ [(⟨sr, sv, sl⟩ : St.Slot)], q, by simp; omega, HO9, HN9, HK9, HH⟩
              case measure => simp [lenV]; omega
            · have hz1 : ((er : Int) != 0) = true := by rw [bne_iff_ne]; omega
              have HF := Lib.hid (HBD.out her)
              have HER := Lib.hid her
              clear hx HS HBD her hown4
              unfold aSv
              go_wp2
              go_ret2
              rw [← HF.out]
              exact ⟨_, _, _, rfl, fun h => absurd h HER.out, HN4.out, HK4.out⟩
        · have hl0 : ((out.length : Int) == 0) = false := by
            have := List.length_pos_iff.2 hnil
            rw [beq_eq_false_iff_ne]; omega
          have HCM := Lib.hid (HTC.out p wr HN.out)
          rw [isK_mark] at HCM
          cases hcm : Cd.isM l St.bComma p with
          | true =>
            rw [hcm] at HCM
            have HQ : Hid (St.rowP names l most false (most + 1 - out.length) out (p + 1) = res) := Lib.hid (by rw [← HH0.out, headQ_more hnil hcm])
            clear hcm hnil HH0 HTC HMK
            go_wp2_with (fail)
            refine HCM.out.mono ?_
            rintro e w2 ⟨rfl, h2, hk2⟩
            have HOWN1 := Lib.hid (ownR HOWN.out HRw.out hk2)
            have HN1 : Hid (NRd R N U A c1 c2 ct names up l (p + 1) w2) := Lib.hid h2
            have HK1 := Lib.hid (HK.out.trans hk2)
            clear h2 hk2 HCM HOWN HN HK
            by_cases hm : out.length = most
            · have HF := Lib.hid (show ([], p + 1, 8) = res by rw [← HQ.out, rowP_many hm])
              have hme : ((out.length : Int) == (most : Int)) = true := by rw [beq_iff_eq]; omega
              go_wp2
              go_ret2
              rw [← HF.out]
              exact ⟨_, _, _, rfl, fun h => absurd h (show ¬ (8 : Nat) = 0 by decide), HN1.out, HK1.out⟩
            · have hme : ((out.length : Int) == (most : Int)) = false := by rw [beq_eq_false_iff_ne]; omega
              have hs := rowP_step (names := names) (l := l) (rets := false) (p := p + 1) (show out.length < most by omega)
              have hbd := rowP_bad (names := names) (l := l) (rets := false) (p := p + 1) (show out.length < most by omega)
              have hcall := HONE.out (p + 1) w2 HN1.out
              obtain ⟨⟨⟨sr, sv, sl⟩, q, er⟩, hsl⟩ : ∃ r, St.slotP names false l (p + 1) = r := ⟨_, rfl⟩
              rw [hsl] at hcall hs hbd
              dsimp only at hs hbd
              have HS : Hid (er = 0 → headQ names l most false (out ++ [⟨sr, sv, sl⟩]) q = res) := Lib.hid fun h => by rw [← HQ.out, hs h]
              have HBD : Hid (er ≠ 0 → ([], q, er) = res) := Lib.hid fun h => by rw [← HQ.out, hbd h]
              have HC := Lib.hid hcall
              clear hcall hs hbd hsl HQ
              go_wp2_with (fail)
              refine HC.out.mono ?_
              rintro e w3 ⟨⟨xr, xv, xl⟩, rfl, hx, hn3, hk3⟩
              have hal := (Below.refl _ w3).alloc (Nat.le_refl _) (.cells #[.int .i64 xv, .int .i64 xl] 38)
              have hown4 := ownR HOWN1.out HRw.out (hk3.trans (.of hal))
              have hbx := Blk.new w3 38 #[.int .i64 xv, .int .i64 xl]
              have hn4 := hn3.keep hal
              have hk4 := HK1.out.trans (hk3.trans (.of hal))
              obtain ⟨W4, hW4⟩ : ∃ W4, w3.alloc (.cells #[.int .i64 xv, .int .i64 xl] 38) = W4 := ⟨_, rfl⟩
              rw [hW4] at hown4 hbx hn4 hk4
              have HN4 := Lib.hid hn4
              have HK4 := Lib.hid hk4
              have x0 := hbx.cell 0
              have x1 := hbx.cell 1
              skip
              have hbl := hbx.lt
              have hsz4 := hk4.size
              clear hn3 hk3 hal hn4 hk4 hbx HN1 HK1 HOWN1
              by_cases her : er = 0
              · have HX : Hid ((⟨xr, xv, xl⟩ : St.Slot) = ⟨sr, sv, sl⟩ ∨ sr = false ∧ sv = xv ∧ sl = xl) := Lib.hid (.inl (hx her))
                have HH := Lib.hid (HS.out her)
                subst her
                clear hx HS HBD
                have hown := hown4
                clear hown4
                unfold aSv
                go_wp2_with (at_builtin; refine wpList_append_own _ rfl _ _ 39 rfl w.heap.size 38 i0 (.agg #[.int .i64 0, .int .i64 0]) 2 16 Tryz.underlying39 hi hz0 hz1 hz2 rfl (by decide) _ _ _ rfl (hown.alloc _) ⟨W4.heap.size, 0, none⟩ 1 1 [.int .i64 xv, .int .i64 xl] rfl rfl ?c1 ?c2 ?c3 ?c4 ?c5 ?_)
                case c1 => exact cells_new _ _ _
                case c2 => simp [Value.oneCell']
                case c3 => unfold maxLen; omega
                case c4 => omega
                case c5 => simp; omega
                intro v' w' hown' hgrow _
                have hbg : Below w.heap.size W4 w' := ((Below.refl w.heap.size W4).alloc hsz4 _).grown hgrow (by simp; omega) (fun k he => (hown.lt k he).1)
                have HO9 : Hid (w'.ownsRow w.heap.size 38 2 v' (out ++ [(⟨sr, sv, sl⟩ : St.Slot)]).length (fcells aTs (out ++ [(⟨sr, sv, sl⟩ : St.Slot)]))) := Lib.hid (by
                  rw [fcells_snoc, List.length_append]
                  rcases HX.out with h | h
                  · injection h with e1 e2 e3
                    subst e1 e2 e3
                    exact hown'
                  · obtain ⟨e1, e2, e3⟩ := h
                    subst e1 e2 e3
                    exact hown')
                have HN9 := Lib.hid (HN4.out.belowB hbg HRw.out)
                have HK9 := Lib.hid (HK4.out.more hbg)
                obtain ⟨g', cap', rfl⟩ := ownsRow_succ hown'
                clear hown hown' hgrow hbg
                go_wp2
                go_roundw
                case rel => exact ⟨out ++ [(⟨sr, sv, sl⟩ : St.Slot)], q, by simp; omega, HO9, HN9, HK9, HH⟩
                case measure => simp [lenV]; omega
              · have hz1 : ((er : Int) != 0) = true := by rw [bne_iff_ne]; omega
                have HF := Lib.hid (HBD.out her)
                have HER := Lib.hid her
                clear hx HS HBD her hown4
                unfold aSv
                go_wp2
                go_ret2
                rw [← HF.out]
                exact ⟨_, _, _, rfl, fun h => absurd h HER.out, HN4.out, HK4.out⟩
          | false =>
            rw [hcm] at HCM
            have hend := headQ_end (names := names) (most := most) (rets := false) hnil hcm
            rw [HH0.out] at hend
            have HMM := Lib.hid (fun W h => HMK.out p W h)
            rw [isK_mark] at HMM
            clear hcm hnil HH0 HTC HMK HONE
            go_wp2_with (fail)
            refine HCM.out.mono ?_
            rintro e w2 ⟨rfl, h2, hk2⟩
            have HOWN1 := Lib.hid (ownR HOWN.out HRw.out hk2)
            have h2 : NRd R N U A c1 c2 ct names up l p w2 := h2
            have HM2 := Lib.hid (HMM.out w2 h2)
            have HK1 := Lib.hid (HK.out.trans hk2)
            clear h2 hk2 HCM HOWN HN HK HMM
            cases hsm : Cd.isM l Cd.bSemi p with
            | true =>
              rw [hsm] at HM2
              rw [hsm, if_pos rfl] at hend
              have HF := Lib.hid hend
              clear hsm hend
              go_wp2_with (fail)
              refine HM2.out.mono ?_
              rintro e w3 ⟨rfl, h3, hk3⟩
              have HO3 := Lib.hid (KN.own (ownR HOWN1.out HRw.out hk3))
              have HN3 := Lib.hid h3
              have HK3 := Lib.hid (HK1.out.trans hk3)
              clear h3 hk3 HM2 HOWN1 HK1
              unfold errB
              dsimp only
              go_wp2
              go_ret2
              rw [HF.out]
              exact ⟨_, _, _, rfl, fun _ => HO3.out, HN3.out, HK3.out⟩
            | false =>
              rw [hsm] at HM2
              rw [hsm, if_neg (by decide)] at hend
              have HF := Lib.hid hend
              clear hsm hend
              go_wp2_with (fail)
              refine HM2.out.mono ?_
              rintro e w3 ⟨rfl, h3, hk3⟩
              have HN3 := Lib.hid h3
              have HK3 := Lib.hid (HK1.out.trans hk3)
              clear h3 hk3 HM2 HOWN1 HK1
              unfold errB
              dsimp only
              go_wp2
              go_ret2
              rw [HF.out]
              exact ⟨_, _, _, rfl, fun h => absurd h (show ¬ (4 : Nat) = 0 by decide), HN3.out, HK3.out⟩
set_option maxHeartbeats 16000000 in
theorem srow_any (hf : Tb.Fine l) (hz : checkN names up = 0) (word : ByteArray) (most : Nat) (hm0 : 0 < most) (hm1 : most ≤ 100) (w : World) (h : NRd R N U A c1 c2 ct names up l p w) :
    Calls Tryz.prog 111 #[.pointer (some ⟨R, 0, none⟩), .string word, .int .i64 (most : Int), .func (.func 112) #[] #[]] w (SRow9 svs R N U A c1 c2 ct names up l w (St.wordP names l word most true p)) := by
  obtain ⟨i0, hi, hz0, hz1, hz2⟩ := info_parts Tryz.infoSlot
  have hcf := Tryz.call112
  have HW := Lib.hid (nword_any hf word w h)
  have HONE := Lib.hid (fun q W (h : NRd R N U A c1 c2 ct names up l q W) => sslot_any hf hz W h)
  have HTS := Lib.hid (fun q W (h : NRd R N U A c1 c2 ct names up l q W) => ntmark_any hf Cd.bSemi W h)
  have HTC := Lib.hid (fun q W (h : NRd R N U A c1 c2 ct names up l q W) => ntmark_any hf St.bComma W h)
  have HMK := Lib.hid (fun q W (h : NRd R N U A c1 c2 ct names up l q W) => nmark_any hf Cd.bSemi W h)
  have HRw := Lib.hid h.lt
  rw [wordQ]
  clear h
  cases hb : isK l 1 word p with
  | false =>
    rw [if_neg (by decide)]
    rw [hb] at HW
    clear hb HONE HTS HTC HMK
    go_enter Tryz.func111, Tryz.ntmps111
    go_wp2_with (fail)
    refine HW.out.mono ?_
    rintro e w1 ⟨rfl, h1, hk1⟩
    have HN1 := Lib.hid h1
    have HK1 := Lib.hid hk1
    clear h1 hk1 HW
    unfold errB
    dsimp only
    go_wp2
    go_ret2
    exact ⟨_, _, _, rfl, fun h => absurd h (show ¬ (4 : Nat) = 0 by decide), HN1.out, HK1.out⟩
  | true =>
    rw [if_pos rfl]
    rw [hb] at HW
    clear hb
    have HTS1 := Lib.hid (fun W h => HTS.out (p + 1) W h)
    rw [isK_mark] at HTS1
    cases hs : Cd.isM l Cd.bSemi (p + 1) with
    | true =>
      rw [if_pos rfl]
      rw [hs] at HTS1
      clear hs HONE HTS HTC HMK
      go_enter Tryz.func111, Tryz.ntmps111
      go_wp2_with (fail)
      refine HW.out.mono ?_
      rintro e w1 ⟨rfl, h1, hk1⟩
      have HC := Lib.hid (HTS1.out w1 h1)
      have HK1 := Lib.hid hk1
      clear h1 hk1 HW HTS1
      unfold errB
      rw [if_pos rfl]
      go_wp2_with (fail)
      refine HC.out.mono ?_
      rintro e w2 ⟨rfl, h2, hk2⟩
      have HN2 := Lib.hid h2
      have HK2 := Lib.hid (HK1.out.trans hk2)
      clear h2 hk2 HC
      go_wp2
      go_ret2
      exact ⟨_, _, _, rfl, fun _ => KN.nil _ _ _, HN2.out, HK2.out⟩
    | false =>
      rw [if_neg (by decide)]
      rw [hs] at HTS1
      obtain ⟨res, hres⟩ : ∃ res, headQ names l most true [] (p + 1) = res := ⟨_, rfl⟩
      rw [hres]
      have HRES := Lib.hid hres
      clear hs hres HTS
      go_enter Tryz.func111, Tryz.ntmps111
      go_wp2_with (fail)
      refine HW.out.mono ?_
      rintro e w1 ⟨rfl, h1, hk1⟩
      have HC := Lib.hid (HTS1.out w1 h1)
      have HK1 := Lib.hid hk1
      clear h1 hk1 HW HTS1
      unfold errB
      rw [if_pos rfl]
      go_wp2_with (fail)
      refine HC.out.mono ?_
      rintro e w2 ⟨rfl, h2, hk2⟩
      have HN2 : Hid (NRd R N U A c1 c2 ct names up l (p + 1) w2) := Lib.hid h2
      have HK2 := Lib.hid (HK1.out.trans hk2)
      clear h2 hk2 HC HK1
      go_wp2
      go_loopw [11] (fun v wr => ∃ (out : List St.Slot) (p : Nat), out.length ≤ most ∧ Hid (wr.ownsRow w.heap.size 73 3 v out.length (fcells svs out)) ∧ Hid (NRd R N U A c1 c2 ct names up l p wr) ∧ Hid (Kept R R w wr) ∧ Hid (headQ names l most true out p = res)) (fun v _ => most - lenV v)
      case atStart => exact ⟨[], p + 1, Nat.zero_le _, Lib.hid (World.ownsRow_nil _ _ _ _), HN2, HK2, HRES⟩
      case round =>
        clear HN2 HK2 HRES
        obtain ⟨out, p, hle, HOWN, HN, HK, HH0⟩ := hrel
        obtain ⟨A1, cap, hrv⟩ := ownT_slice HOWN.out
        subst hrv
        by_cases hnil : out = []
        · have hl0 : ((out.length : Int) == 0) = true := by rw [hnil]; rfl
          have HQ : Hid (St.rowP names l most true (most + 1 - out.length) out p = res) := Lib.hid (by rw [← HH0.out, hnil, headQ_nil])
          have HL0 := Lib.hid (show out.length = 0 by rw [hnil]; rfl)
          have HN1 := HN
          have HK1 := HK
          have HOWN1 := HOWN
          clear hnil HN HK HOWN HH0 HTC HMK
          by_cases hm : out.length = most
          · exact absurd hm (by have := HL0.out; omega)
          · have hme : ((out.length : Int) == (most : Int)) = false := by rw [beq_eq_false_iff_ne]; omega
            have hs := rowP_step (names := names) (l := l) (rets := true) (p := p) (show out.length < most by omega)
            have hbd := rowP_bad (names := names) (l := l) (rets := true) (p := p) (show out.length < most by omega)
            have hcall := HONE.out (p) wr HN1.out
            obtain ⟨⟨⟨sr, sv, sl⟩, q, er⟩, hsl⟩ : ∃ r, St.slotP names true l (p) = r := ⟨_, rfl⟩
            rw [hsl] at hcall hs hbd
            dsimp only at hs hbd
            have HS : Hid (er = 0 → headQ names l most true (out ++ [⟨sr, sv, sl⟩]) q = res) := Lib.hid fun h => by rw [← HQ.out, hs h]
            have HBD : Hid (er ≠ 0 → ([], q, er) = res) := Lib.hid fun h => by rw [← HQ.out, hbd h]
            have HC := Lib.hid hcall
            clear hcall hs hbd hsl HQ
            go_wp2_with (fail)
            refine HC.out.mono ?_
            rintro e w3 ⟨⟨xr, xv, xl⟩, rfl, hx, hn3, hk3⟩
            have hal := (Below.refl _ w3).alloc (Nat.le_refl _) (.cells #[.bool xr, .int .i64 xv, .int .i64 xl] 73)
            have hown4 := ownR HOWN1.out HRw.out (hk3.trans (.of hal))
            have hbx := Blk.new w3 73 #[.bool xr, .int .i64 xv, .int .i64 xl]
            have hn4 := hn3.keep hal
            have hk4 := HK1.out.trans (hk3.trans (.of hal))
            obtain ⟨W4, hW4⟩ : ∃ W4, w3.alloc (.cells #[.bool xr, .int .i64 xv, .int .i64 xl] 73) = W4 := ⟨_, rfl⟩
            rw [hW4] at hown4 hbx hn4 hk4
            have HN4 := Lib.hid hn4
            have HK4 := Lib.hid hk4
            have x0 := hbx.cell 0
            have x1 := hbx.cell 1
            have x2 := hbx.cell 2
            have hbl := hbx.lt
            have hsz4 := hk4.size
            clear hn3 hk3 hal hn4 hk4 hbx HN1 HK1 HOWN1
            by_cases her : er = 0
            · have HX : Hid ((⟨xr, xv, xl⟩ : St.Slot) = ⟨sr, sv, sl⟩) := Lib.hid (hx her)
              have HH := Lib.hid (HS.out her)
              subst her
              clear hx HS HBD
              have hown := hown4
              clear hown4
              unfold slv
              go_wp2_with (at_builtin; refine wpList_append_own _ rfl _ _ 40 rfl w.heap.size 73 i0 (.agg #[.bool false, .int .i64 0, .int .i64 0]) 3 24 Tryz.underlying40 hi hz0 hz1 hz2 rfl (by decide) _ _ _ rfl (hown.alloc _) ⟨W4.heap.size, 0, none⟩ 1 1 [.bool xr, .int .i64 xv, .int .i64 xl] rfl rfl ?c1 ?c2 ?c3 ?c4 ?c5 ?_)
              case c1 => exact cells_new _ _ _
              case c2 => simp [Value.oneCell']
              case c3 => unfold maxLen; omega
              case c4 => omega
              case c5 => simp; omega
              intro v' w' hown' hgrow _
              have hbg : Below w.heap.size W4 w' := ((Below.refl w.heap.size W4).alloc hsz4 _).grown hgrow (by simp; omega) (fun k he => (hown.lt k he).1)
              have HO9 : Hid (w'.ownsRow w.heap.size 73 3 v' (out ++ [(⟨sr, sv, sl⟩ : St.Slot)]).length (fcells svs (out ++ [(⟨sr, sv, sl⟩ : St.Slot)]))) := Lib.hid (by
                rw [fcells_snoc, List.length_append]
                injection HX.out with e1 e2 e3
                subst e1 e2 e3
                exact hown')
              have HN9 := Lib.hid (HN4.out.belowB hbg HRw.out)
              have HK9 := Lib.hid (HK4.out.more hbg)
              obtain ⟨g', cap', rfl⟩ := ownsRow_succ hown'
              clear hown hown' hgrow hbg
              go_wp2
              go_roundw
              case rel => exact ⟨out ++ [(⟨sr, sv, sl⟩ : St.Slot)], q, by simp; omega, HO9, HN9, HK9, HH⟩
              case measure => simp [lenV]; omega
            · have hz1 : ((er : Int) != 0) = true := by rw [bne_iff_ne]; omega
              have HF := Lib.hid (HBD.out her)
              have HER := Lib.hid her
              clear hx HS HBD her hown4
              unfold slv
              go_wp2
              go_ret2
              rw [← HF.out]
              exact ⟨_, _, _, rfl, fun h => absurd h HER.out, HN4.out, HK4.out⟩
        · have hl0 : ((out.length : Int) == 0) = false := by
            have := List.length_pos_iff.2 hnil
            rw [beq_eq_false_iff_ne]; omega
          have HCM := Lib.hid (HTC.out p wr HN.out)
          rw [isK_mark] at HCM
          cases hcm : Cd.isM l St.bComma p with
          | true =>
            rw [hcm] at HCM
            have HQ : Hid (St.rowP names l most true (most + 1 - out.length) out (p + 1) = res) := Lib.hid (by rw [← HH0.out, headQ_more hnil hcm])
            clear hcm hnil HH0 HTC HMK
            go_wp2_with (fail)
            refine HCM.out.mono ?_
            rintro e w2 ⟨rfl, h2, hk2⟩
            have HOWN1 := Lib.hid (ownR HOWN.out HRw.out hk2)
            have HN1 : Hid (NRd R N U A c1 c2 ct names up l (p + 1) w2) := Lib.hid h2
            have HK1 := Lib.hid (HK.out.trans hk2)
            clear h2 hk2 HCM HOWN HN HK
            by_cases hm : out.length = most
            · have HF := Lib.hid (show ([], p + 1, 8) = res by rw [← HQ.out, rowP_many hm])
              have hme : ((out.length : Int) == (most : Int)) = true := by rw [beq_iff_eq]; omega
              go_wp2
              go_ret2
              rw [← HF.out]
              exact ⟨_, _, _, rfl, fun h => absurd h (show ¬ (8 : Nat) = 0 by decide), HN1.out, HK1.out⟩
            · have hme : ((out.length : Int) == (most : Int)) = false := by rw [beq_eq_false_iff_ne]; omega
              have hs := rowP_step (names := names) (l := l) (rets := true) (p := p + 1) (show out.length < most by omega)
              have hbd := rowP_bad (names := names) (l := l) (rets := true) (p := p + 1) (show out.length < most by omega)
              have hcall := HONE.out (p + 1) w2 HN1.out
              obtain ⟨⟨⟨sr, sv, sl⟩, q, er⟩, hsl⟩ : ∃ r, St.slotP names true l (p + 1) = r := ⟨_, rfl⟩
              rw [hsl] at hcall hs hbd
              dsimp only at hs hbd
              have HS : Hid (er = 0 → headQ names l most true (out ++ [⟨sr, sv, sl⟩]) q = res) := Lib.hid fun h => by rw [← HQ.out, hs h]
              have HBD : Hid (er ≠ 0 → ([], q, er) = res) := Lib.hid fun h => by rw [← HQ.out, hbd h]
              have HC := Lib.hid hcall
              clear hcall hs hbd hsl HQ
              go_wp2_with (fail)
              refine HC.out.mono ?_
              rintro e w3 ⟨⟨xr, xv, xl⟩, rfl, hx, hn3, hk3⟩
              have hal := (Below.refl _ w3).alloc (Nat.le_refl _) (.cells #[.bool xr, .int .i64 xv, .int .i64 xl] 73)
              have hown4 := ownR HOWN1.out HRw.out (hk3.trans (.of hal))
              have hbx := Blk.new w3 73 #[.bool xr, .int .i64 xv, .int .i64 xl]
              have hn4 := hn3.keep hal
              have hk4 := HK1.out.trans (hk3.trans (.of hal))
              obtain ⟨W4, hW4⟩ : ∃ W4, w3.alloc (.cells #[.bool xr, .int .i64 xv, .int .i64 xl] 73) = W4 := ⟨_, rfl⟩
              rw [hW4] at hown4 hbx hn4 hk4
              have HN4 := Lib.hid hn4
              have HK4 := Lib.hid hk4
              have x0 := hbx.cell 0
              have x1 := hbx.cell 1
              have x2 := hbx.cell 2
              have hbl := hbx.lt
              have hsz4 := hk4.size
              clear hn3 hk3 hal hn4 hk4 hbx HN1 HK1 HOWN1
              by_cases her : er = 0
              · have HX : Hid ((⟨xr, xv, xl⟩ : St.Slot) = ⟨sr, sv, sl⟩) := Lib.hid (hx her)
                have HH := Lib.hid (HS.out her)
                subst her
                clear hx HS HBD
                have hown := hown4
                clear hown4
                unfold slv
                go_wp2_with (at_builtin; refine wpList_append_own _ rfl _ _ 40 rfl w.heap.size 73 i0 (.agg #[.bool false, .int .i64 0, .int .i64 0]) 3 24 Tryz.underlying40 hi hz0 hz1 hz2 rfl (by decide) _ _ _ rfl (hown.alloc _) ⟨W4.heap.size, 0, none⟩ 1 1 [.bool xr, .int .i64 xv, .int .i64 xl] rfl rfl ?c1 ?c2 ?c3 ?c4 ?c5 ?_)
                case c1 => exact cells_new _ _ _
                case c2 => simp [Value.oneCell']
                case c3 => unfold maxLen; omega
                case c4 => omega
                case c5 => simp; omega
                intro v' w' hown' hgrow _
                have hbg : Below w.heap.size W4 w' := ((Below.refl w.heap.size W4).alloc hsz4 _).grown hgrow (by simp; omega) (fun k he => (hown.lt k he).1)
                have HO9 : Hid (w'.ownsRow w.heap.size 73 3 v' (out ++ [(⟨sr, sv, sl⟩ : St.Slot)]).length (fcells svs (out ++ [(⟨sr, sv, sl⟩ : St.Slot)]))) := Lib.hid (by
                  rw [fcells_snoc, List.length_append]
                  injection HX.out with e1 e2 e3
                  subst e1 e2 e3
                  exact hown')
                have HN9 := Lib.hid (HN4.out.belowB hbg HRw.out)
                have HK9 := Lib.hid (HK4.out.more hbg)
                obtain ⟨g', cap', rfl⟩ := ownsRow_succ hown'
                clear hown hown' hgrow hbg
                go_wp2
                go_roundw
                case rel => exact ⟨out ++ [(⟨sr, sv, sl⟩ : St.Slot)], q, by simp; omega, HO9, HN9, HK9, HH⟩
                case measure => simp [lenV]; omega
              · have hz1 : ((er : Int) != 0) = true := by rw [bne_iff_ne]; omega
                have HF := Lib.hid (HBD.out her)
                have HER := Lib.hid her
                clear hx HS HBD her hown4
                unfold slv
                go_wp2
                go_ret2
                rw [← HF.out]
                exact ⟨_, _, _, rfl, fun h => absurd h HER.out, HN4.out, HK4.out⟩
          | false =>
            rw [hcm] at HCM
            have hend := headQ_end (names := names) (most := most) (rets := true) hnil hcm
            rw [HH0.out] at hend
            have HMM := Lib.hid (fun W h => HMK.out p W h)
            rw [isK_mark] at HMM
            clear hcm hnil HH0 HTC HMK HONE
            go_wp2_with (fail)
            refine HCM.out.mono ?_
            rintro e w2 ⟨rfl, h2, hk2⟩
            have HOWN1 := Lib.hid (ownR HOWN.out HRw.out hk2)
            have h2 : NRd R N U A c1 c2 ct names up l p w2 := h2
            have HM2 := Lib.hid (HMM.out w2 h2)
            have HK1 := Lib.hid (HK.out.trans hk2)
            clear h2 hk2 HCM HOWN HN HK HMM
            cases hsm : Cd.isM l Cd.bSemi p with
            | true =>
              rw [hsm] at HM2
              rw [hsm, if_pos rfl] at hend
              have HF := Lib.hid hend
              clear hsm hend
              go_wp2_with (fail)
              refine HM2.out.mono ?_
              rintro e w3 ⟨rfl, h3, hk3⟩
              have HO3 := Lib.hid (KN.own (ownR HOWN1.out HRw.out hk3))
              have HN3 := Lib.hid h3
              have HK3 := Lib.hid (HK1.out.trans hk3)
              clear h3 hk3 HM2 HOWN1 HK1
              unfold errB
              dsimp only
              go_wp2
              go_ret2
              rw [HF.out]
              exact ⟨_, _, _, rfl, fun _ => HO3.out, HN3.out, HK3.out⟩
            | false =>
              rw [hsm] at HM2
              rw [hsm, if_neg (by decide)] at hend
              have HF := Lib.hid hend
              clear hsm hend
              go_wp2_with (fail)
              refine HM2.out.mono ?_
              rintro e w3 ⟨rfl, h3, hk3⟩
              have HN3 := Lib.hid h3
              have HK3 := Lib.hid (HK1.out.trans hk3)
              clear h3 hk3 HM2 HOWN1 HK1
              unfold errB
              dsimp only
              go_wp2
              go_ret2
              rw [HF.out]
              exact ⟨_, _, _, rfl, fun h => absurd h (show ¬ (4 : Nat) = 0 by decide), HN3.out, HK3.out⟩
end
end Go.Proofs.YtipbilmnknmhmaaGreatDoor

/- Walk of state's state (by gen_stme.py). -/
namespace Go.Proofs.YtipbilmnknmhmaaGreatDoor
set_option maxRecDepth 100000
open Go.RowKit Go.Shelf Go.Sort
attribute [local go_sem] Oper.semAt_some
/-! All that tokens tell of a state, plain, in steps. -/
def raw5 (names : List ByteArray) (l : List Lx.Tk) (pc : St.Atom) (code : List Cd.In) (mem stack : List St.Slot) (j : Nat) : St.State × Nat × Nat := St.andP (St.wordP names l St.bOut 8 false j) St.zero fun out j => (⟨pc, code, mem.map St.toAtom, stack, out.map St.toAtom⟩, j, 0)
def raw4 (names : List ByteArray) (l : List Lx.Tk) (pc : St.Atom) (code : List Cd.In) (mem : List St.Slot) (j : Nat) : St.State × Nat × Nat := St.andP (St.wordP names l St.bStack 12 true j) St.zero fun stack j => raw5 names l pc code mem stack j
def raw3 (names : List ByteArray) (l : List Lx.Tk) (pc : St.Atom) (code : List Cd.In) (j : Nat) : St.State × Nat × Nat := St.andP (St.wordP names l St.bMem 6 false j) St.zero fun mem j => raw4 names l pc code mem j
def raw2 (names : List ByteArray) (k : Nat) (l : List Lx.Tk) (pc : St.Atom) (j : Nat) : St.State × Nat × Nat := St.andP (progP names k l j) St.zero fun code j => raw3 names l pc code j
def rawS (names : List ByteArray) (k : Nat) (l : List Lx.Tk) (i : Nat) : St.State × Nat × Nat := St.andP (pcP names l i) St.zero fun pc j => raw2 names k l pc j
theorem andP_andP {α β γ : Type} (r : α × Nat × Nat) (y : β) (z : γ) (f : α → Nat → β × Nat × Nat) (g : β → Nat → γ × Nat × Nat) : St.andP (St.andP r y f) z g = St.andP r z fun a j => St.andP (f a j) z g := by
  by_cases h : r.2.2 = 0
  · rw [St.andP_yes h, St.andP_yes h]
  · rw [St.andP_no h, St.andP_no h]
    exact St.andP_no h
theorem fromS_raw (names : List ByteArray) (k : Nat) (l : List Lx.Tk) (i : Nat) : St.fromS names k l i = St.andP (rawS names k l i) St.zero fun s j => St.endS k i s j := by
  unfold rawS raw2 raw3 raw4 raw5 pcP progP St.fromS
  simp only [andP_andP, St.andP_do]
/-- A state in new blocks. -/
def KSt (B : Nat) (w : World) (v : Value) (s : St.State) : Prop := ∃ cv mv sv ov, v = stv s cv mv sv ov ∧ KN ivs B w cv s.code ∧ KN avs B w mv s.mem ∧ KN svs B w sv s.stack ∧ KN avs B w ov s.out
theorem KSt.isSt {B : Nat} {w : World} {v : Value} {s : St.State} (h : KSt B w v s) : IsSt w w.heap.size v s := by
  obtain ⟨cv, mv, sv, ov, e, h1, h2, h3, h4⟩ := h
  exact ⟨cv, mv, sv, ov, e, h1.ins, h2.isL, h3.isL, h4.isL⟩
theorem KSt.of_block {B : Nat} {w w' : World} {v : Value} {s : St.State} (h : KSt B w v s) (hs : w.heap.size ≤ w'.heap.size) (hb : ∀ k, B ≤ k → k < w.heap.size → w'.heap[k]? = w.heap[k]?) : KSt B w' v s := by
  obtain ⟨cv, mv, sv, ov, e, h1, h2, h3, h4⟩ := h
  exact ⟨cv, mv, sv, ov, e, h1.of_block hs hb, h2.of_block hs hb, h3.of_block hs hb, h4.of_block hs hb⟩
theorem KSt.below {B : Nat} {w w' : World} {v : Value} {s : St.State} (h : KSt B w v s) (hb : Below w.heap.size w w') : KSt B w' v s := h.of_block hb.size fun k _ h2 => hb.block k h2
theorem KSt.kept {B R : Nat} {w w' : World} {v : Value} {s : St.State} (h : KSt B w v s) (hR : R < B) (hk : Kept R R w w') : KSt B w' v s := h.of_block hk.size fun k h1 h2 => hk.block k h2 (by omega) (by omega)
theorem KSt.set_ {B : Nat} {w : World} {v : Value} {s : St.State} (h : KSt B w v s) {p : Addr} (hp : p.block < B) (u : Value) : KSt B (w.setCell p u) v s := h.of_block (by simp [World.setCell]) fun k h1 _ => Below.heap_setCell _ _ _ _ (by omega)
theorem KSt.less {B B' : Nat} {w : World} {v : Value} {s : St.State} (h : KSt B w v s) (hB : B' ≤ B) : KSt B' w v s := by
  obtain ⟨cv, mv, sv, ov, e, h1, h2, h3, h4⟩ := h
  exact ⟨cv, mv, sv, ov, e, h1.less hB, h2.less hB, h3.less hB, h4.less hB⟩
/-- What state answers. -/
def SStold (R : Nat) (N U A : Option Addr) (c1 c2 ct : Nat) (names : List ByteArray) (up : List Nat) (l : List Lx.Tk) (w : World) (r : St.State × Nat × Nat) (e : Ending) (w' : World) : Prop :=
  ∃ (a b : Int) (cA : Option Addr) (cn cc : Nat) (mA : Option Addr) (mn mc : Nat) (sA : Option Addr) (sn sc : Nat) (oA : Option Addr) (on oc : Nat), e = .returned (.tuple #[.agg #[.int .i64 a, .int .i64 b, .slice cA cn cc, .slice mA mn mc, .slice sA sn sc, .slice oA on oc], .int .i64 (r.2.2 : Nat)]) ∧ (r.2.2 = 0 → KSt w.heap.size w' (.agg #[.int .i64 a, .int .i64 b, .slice cA cn cc, .slice mA mn mc, .slice sA sn sc, .slice oA on oc]) r.1) ∧ NRd R N U A c1 c2 ct names up l r.2.1 w' ∧ Kept R R w w'
abbrev zcs : Array Value := #[.int .i64 0, .int .i64 0, .slice none 0 0, .slice none 0 0, .slice none 0 0, .slice none 0 0]
/-- The answer's block, and the state so far. -/
structure SLc (R : Nat) (w W : World) (ys xs : Array Value) : Prop where
  res : Blk W w.heap.size 42 ys
  loc : Blk W (w.heap.size + 1) 42 xs
  kept : Kept R R w W
section
variable {R : Nat} {w W W' : World} {ys xs : Array Value}
theorem SLc.keep (h : SLc R w W ys xs) (hR : R < w.heap.size) (hk : Kept R R W W') : SLc R w W' ys xs :=
  ⟨(hk.block _ h.res.lt (by omega) (by omega)).trans h.res, (hk.block _ h.loc.lt (by omega) (by omega)).trans h.loc, h.kept.trans hk⟩
theorem SLc.setL (h : SLc R w W ys xs) (i : Nat) (u : Value) : SLc R w (W.setCell ⟨w.heap.size + 1, i, none⟩ u) ys (xs.setIfInBounds i u) :=
  ⟨h.res.other (by show w.heap.size + 1 ≠ _; omega) _, h.loc.set_ i _, h.kept.setNew (by show w.heap.size ≤ w.heap.size + 1; omega) _⟩
theorem SLc.setY (h : SLc R w W ys xs) (i : Nat) (u : Value) : SLc R w (W.setCell ⟨w.heap.size, i, none⟩ u) (ys.setIfInBounds i u) xs :=
  ⟨h.res.set_ i _, h.loc.other (by show w.heap.size ≠ _; omega) _, h.kept.setNew (Nat.le_refl _) _⟩
theorem SLc.drew (h : SLc R w W ys xs) : SLc R w W.drew ys xs := ⟨h.res, h.loc, h.kept.os, h.kept.tape, h.kept.output, h.kept.size, h.kept.block⟩
theorem SLc.start : SLc R w ((w.alloc (.cells zcs 42)).alloc (.cells zcs 42)) zcs zcs := by
  have h0 : (w.alloc (.cells zcs 42)).heap.size = w.heap.size + 1 := by simp
  have h1 := Blk.new (w.alloc (.cells zcs 42)) 42 zcs
  rw [h0] at h1
  exact ⟨(Blk.new _ _ _).alloc _, h1, .of (((Below.refl _ w).alloc (Nat.le_refl _) _).alloc (by simp) _)⟩
/-- The answer is stored. -/
def ansS (w W : World) (a b c d e f : Value) : World := (((((W.setCell ⟨w.heap.size, 0, none⟩ a).setCell ⟨w.heap.size, 1, none⟩ b).setCell ⟨w.heap.size, 2, none⟩ c).setCell ⟨w.heap.size, 3, none⟩ d).setCell ⟨w.heap.size, 4, none⟩ e).setCell ⟨w.heap.size, 5, none⟩ f
theorem SLc.ans {a b c d e f : Value} {y0 y1 y2 y3 y4 y5 : Value} (h : SLc R w W #[y0, y1, y2, y3, y4, y5] xs) : SLc R w (ansS w W a b c d e f) #[a, b, c, d, e, f] xs :=
  (((((h.setY 0 a).setY 1 b).setY 2 c).setY 3 d).setY 4 e).setY 5 f
end
section
variable {R c1 c2 ct p q : Nat} {N U A : Option Addr} {names : List ByteArray} {up : List Nat} {l : List Lx.Tk} {w w' W : World}
theorem NRd.ansS (h : NRd R N U A c1 c2 ct names up l p W) (hR : R < w.heap.size) (a b c d e f : Value) : NRd R N U A c1 c2 ct names up l p (ansS w W a b c d e f) :=
  (((((h.setX (x := ⟨w.heap.size, 0, none⟩) hR a).setX (x := ⟨w.heap.size, 1, none⟩) hR b).setX (x := ⟨w.heap.size, 2, none⟩) hR c).setX (x := ⟨w.heap.size, 3, none⟩) hR d).setX (x := ⟨w.heap.size, 4, none⟩) hR e).setX (x := ⟨w.heap.size, 5, none⟩) hR f
theorem KN.ansS {α : Type} {g : α → List Value} {B : Nat} {v : Value} {l : List α} (h : KN g B W v l) (hB : w.heap.size < B) (a b c d e f : Value) : KN g B (ansS w W a b c d e f) v l :=
  (((((h.set_ (p := ⟨w.heap.size, 0, none⟩) hB a).set_ (p := ⟨w.heap.size, 1, none⟩) hB b).set_ (p := ⟨w.heap.size, 2, none⟩) hB c).set_ (p := ⟨w.heap.size, 3, none⟩) hB d).set_ (p := ⟨w.heap.size, 4, none⟩) hB e).set_ (p := ⟨w.heap.size, 5, none⟩) hB f
set_option maxHeartbeats 16000000 in
theorem sstate_any (hf : Tb.Fine l) (hz : checkN names up = 0) (w : World) (h : NRd R N U A c1 c2 ct names up l p w) (hi : Ins w) (hg : 0 < R) :
    Calls Tryz.prog 85 #[.pointer (some ⟨R, 0, none⟩)] w (SStold R N U A c1 c2 ct names up l w (rawS names up.length l p)) := by
  have hR := h.lt
  obtain ⟨W0, hW0⟩ : ∃ W0, (w.alloc (.cells #[.int .i64 0, .int .i64 0, .slice none 0 0, .slice none 0 0, .slice none 0 0, .slice none 0 0] 42)).alloc (.cells #[.int .i64 0, .int .i64 0, .slice none 0 0, .slice none 0 0, .slice none 0 0, .slice none 0 0] 42) = W0 := ⟨_, rfl⟩
  have hsl := SLc.start (R := R) (w := w)
  have hnr := h.keep (((Below.refl _ w).alloc (Nat.le_refl _) (.cells #[.int .i64 0, .int .i64 0, .slice none 0 0, .slice none 0 0, .slice none 0 0, .slice none 0 0] 42)).alloc (by simp) (.cells #[.int .i64 0, .int .i64 0, .slice none 0 0, .slice none 0 0, .slice none 0 0, .slice none 0 0] 42))
  rw [hW0] at hsl hnr
  have HIN := Lib.hid (fun W (hk : Kept R R w W) => hi.below (hk.belowR (Nat.le_of_lt hR)) hg)
  have HSL := Lib.hid hsl
  have HNR := Lib.hid hnr
  have HPC := Lib.hid (fun W (h : NRd R N U A c1 c2 ct names up l p W) => spc_any hf hz W h)
  have HPR0 := Lib.hid (fun q W (h : NRd R N U A c1 c2 ct names up l q W) (hi : Ins W) => sprogram_any hf hz W h hi hg)
  have HME0 := Lib.hid (fun q W (h : NRd R N U A c1 c2 ct names up l q W) => arow_any hf hz St.bMem 6 (by decide) (by decide) W h)
  have HST0 := Lib.hid (fun q W (h : NRd R N U A c1 c2 ct names up l q W) => srow_any hf hz St.bStack 12 (by decide) (by decide) W h)
  have HOU0 := Lib.hid (fun q W (h : NRd R N U A c1 c2 ct names up l q W) => arow_any hf hz St.bOut 8 (by decide) (by decide) W h)
  obtain ⟨res, hres⟩ : ∃ res, rawS names up.length l p = res := ⟨_, rfl⟩
  rw [hres]
  have HRS := Lib.hid hres
  clear h hi hsl hnr hres
  go_enter Tryz.func85, Tryz.ntmps85
  obtain ⟨⟨⟨av, al⟩, j1, e1⟩, hpl⟩ : ∃ r, pcP names l p = r := ⟨_, rfl⟩
  have hc := HPC.out W0 HNR.out
  rw [hpl] at hc
  have HRS0 := HRS
  clear HRS
  by_cases her : e1 = 0
  · subst her
    have HRS : Hid (raw2 names up.length l ⟨av, al⟩ j1 = res) := Lib.hid (by rw [← HRS0.out]; unfold rawS; rw [hpl, St.andP_do])
    have HC := Lib.hid hc
    clear hc hpl HRS0
    go_wp2_with (fail)
    refine HC.out.mono ?_
    rintro e w1 ⟨⟨pv, pl⟩, rfl, hx, hn, hk⟩
    obtain ⟨rfl, rfl⟩ : pv = av ∧ pl = al := by
      have := hx rfl
      exact ⟨congrArg St.Atom.v this, congrArg St.Atom.l this⟩
    clear hx
    unfold atv
    have hs0 := HSL.out.keep hR hk
    have hwsz := HSL.out.kept.size
    have hwnz := HSL.out.loc.lt
    have hkw := hk
    have hs1 := ((hs0).setL 0 (.int .i64 pv)).setL 1 (.int .i64 pl)
    have hn1 := ((hn.setX (x := ⟨w.heap.size + 1, 0, none⟩) (by show R < w.heap.size + 1; omega) (.int .i64 pv)).setX (x := ⟨w.heap.size + 1, 1, none⟩) (by show R < w.heap.size + 1; omega) (.int .i64 pl))
    have g0 := hs0.loc.frozen 0
    have z0 := hs0.loc.cell 0
    have g1 := hs0.loc.frozen 1
    have z1 := hs0.loc.cell 1
    obtain ⟨W1, hW1⟩ : ∃ W1, ((w1.setCell ⟨w.heap.size + 1, 0, none⟩ (.int .i64 pv)).setCell ⟨w.heap.size + 1, 1, none⟩ (.int .i64 pl)) = W1 := ⟨_, rfl⟩
    rw [hW1] at hs1 hn1 
    clear HSL HNR
    have HSL := Lib.hid hs1
    have HNR := Lib.hid hn1
    clear hs0 hs1 hn hn1 hk hkw HC hwsz hwnz
    obtain ⟨⟨code, j2, e2⟩, hpl⟩ : ∃ r, progP names up.length l j1 = r := ⟨_, rfl⟩
    have hc := HPR0.out j1 W1 HNR.out (HIN.out W1 HSL.out.kept)
    rw [hpl] at hc
    have HRS0 := HRS
    clear HRS
    by_cases her : e2 = 0
    · subst her
      have HRS : Hid (raw3 names l ⟨pv, pl⟩ code j2 = res) := Lib.hid (by rw [← HRS0.out]; unfold raw2; rw [hpl, St.andP_do])
      have HC := Lib.hid hc
      clear hc hpl HRS0
      go_wp2_with (fail)
      refine HC.out.mono ?_
      rintro e w2 ⟨cA, cn, cc, rfl, hx, hn, hk⟩
      have hx := hx rfl
      have hs0 := HSL.out.keep hR hk
      have hwsz := HSL.out.kept.size
      have hwnz := HSL.out.loc.lt
      have hkw := hk
      have hs1 := (hs0).setL 2 (.slice cA cn cc)
      have hn1 := (hn.setX (x := ⟨w.heap.size + 1, 2, none⟩) (by show R < w.heap.size + 1; omega) (.slice cA cn cc))
      have g2 := hs0.loc.frozen 2
      have z2 := hs0.loc.cell 2
      have hqcode := (hx.less (show w.heap.size + 2 ≤ W1.heap.size by omega)).set_ (p := ⟨w.heap.size + 1, 2, none⟩) (by show w.heap.size + 1 < w.heap.size + 2; omega) (.slice cA cn cc)
      obtain ⟨W2, hW2⟩ : ∃ W2, (w2.setCell ⟨w.heap.size + 1, 2, none⟩ (.slice cA cn cc)) = W2 := ⟨_, rfl⟩
      rw [hW2] at hs1 hn1 hqcode
      clear HSL HNR
      have HSL := Lib.hid hs1
      have HNR := Lib.hid hn1
      have HKcode := Lib.hid hqcode
      clear hs0 hs1 hn hn1 hk hkw HC hwsz hwnz hqcode hx
      obtain ⟨⟨mem, j3, e3⟩, hpl⟩ : ∃ r, St.wordP names l St.bMem 6 false j2 = r := ⟨_, rfl⟩
      have hc := HME0.out j2 W2 HNR.out
      rw [hpl] at hc
      have HRS0 := HRS
      clear HRS
      by_cases her : e3 = 0
      · subst her
        have HRS : Hid (raw4 names l ⟨pv, pl⟩ code mem j3 = res) := Lib.hid (by rw [← HRS0.out]; unfold raw3; rw [hpl, St.andP_do])
        have HC := Lib.hid hc
        clear hc hpl HRS0
        go_wp2_with (fail)
        refine HC.out.mono ?_
        rintro e w3 ⟨mA, mn, mc, rfl, hx, hn, hk⟩
        have hx := (hx rfl).atoms
        have hs0 := HSL.out.keep hR hk
        have hwsz := HSL.out.kept.size
        have hwnz := HSL.out.loc.lt
        have hkw := hk
        have hkcode := HKcode.out.kept (show R < w.heap.size + 2 by omega) hk
        have hs1 := (hs0).setL 3 (.slice mA mn mc)
        have hn1 := (hn.setX (x := ⟨w.heap.size + 1, 3, none⟩) (by show R < w.heap.size + 1; omega) (.slice mA mn mc))
        have g3 := hs0.loc.frozen 3
        have z3 := hs0.loc.cell 3
        have hqcode := hkcode.set_ (p := ⟨w.heap.size + 1, 3, none⟩) (by show w.heap.size + 1 < w.heap.size + 2; omega) (.slice mA mn mc)
        have hqmem := (hx.less (show w.heap.size + 2 ≤ W2.heap.size by omega)).set_ (p := ⟨w.heap.size + 1, 3, none⟩) (by show w.heap.size + 1 < w.heap.size + 2; omega) (.slice mA mn mc)
        obtain ⟨W3, hW3⟩ : ∃ W3, (w3.setCell ⟨w.heap.size + 1, 3, none⟩ (.slice mA mn mc)) = W3 := ⟨_, rfl⟩
        rw [hW3] at hs1 hn1 hqcode hqmem
        clear HSL HNR HKcode
        have HSL := Lib.hid hs1
        have HNR := Lib.hid hn1
        have HKcode := Lib.hid hqcode
        have HKmem := Lib.hid hqmem
        clear hs0 hs1 hn hn1 hk hkw HC hwsz hwnz hkcode hqcode hqmem hx
        obtain ⟨⟨stack, j4, e4⟩, hpl⟩ : ∃ r, St.wordP names l St.bStack 12 true j3 = r := ⟨_, rfl⟩
        have hc := HST0.out j3 W3 HNR.out
        rw [hpl] at hc
        have HRS0 := HRS
        clear HRS
        by_cases her : e4 = 0
        · subst her
          have HRS : Hid (raw5 names l ⟨pv, pl⟩ code mem stack j4 = res) := Lib.hid (by rw [← HRS0.out]; unfold raw4; rw [hpl, St.andP_do])
          have HC := Lib.hid hc
          clear hc hpl HRS0
          go_wp2_with (fail)
          refine HC.out.mono ?_
          rintro e w4 ⟨sA, sn, sc, rfl, hx, hn, hk⟩
          have hx := hx rfl
          have hs0 := HSL.out.keep hR hk
          have hwsz := HSL.out.kept.size
          have hwnz := HSL.out.loc.lt
          have hkw := hk
          have hkcode := HKcode.out.kept (show R < w.heap.size + 2 by omega) hk
          have hkmem := HKmem.out.kept (show R < w.heap.size + 2 by omega) hk
          have hs1 := (hs0).setL 4 (.slice sA sn sc)
          have hn1 := (hn.setX (x := ⟨w.heap.size + 1, 4, none⟩) (by show R < w.heap.size + 1; omega) (.slice sA sn sc))
          have g4 := hs0.loc.frozen 4
          have z4 := hs0.loc.cell 4
          have hqcode := hkcode.set_ (p := ⟨w.heap.size + 1, 4, none⟩) (by show w.heap.size + 1 < w.heap.size + 2; omega) (.slice sA sn sc)
          have hqmem := hkmem.set_ (p := ⟨w.heap.size + 1, 4, none⟩) (by show w.heap.size + 1 < w.heap.size + 2; omega) (.slice sA sn sc)
          have hqstack := (hx.less (show w.heap.size + 2 ≤ W3.heap.size by omega)).set_ (p := ⟨w.heap.size + 1, 4, none⟩) (by show w.heap.size + 1 < w.heap.size + 2; omega) (.slice sA sn sc)
          obtain ⟨W4, hW4⟩ : ∃ W4, (w4.setCell ⟨w.heap.size + 1, 4, none⟩ (.slice sA sn sc)) = W4 := ⟨_, rfl⟩
          rw [hW4] at hs1 hn1 hqcode hqmem hqstack
          clear HSL HNR HKcode HKmem
          have HSL := Lib.hid hs1
          have HNR := Lib.hid hn1
          have HKcode := Lib.hid hqcode
          have HKmem := Lib.hid hqmem
          have HKstack := Lib.hid hqstack
          clear hs0 hs1 hn hn1 hk hkw HC hwsz hwnz hkcode hkmem hqcode hqmem hqstack hx
          obtain ⟨⟨out, j5, e5⟩, hpl⟩ : ∃ r, St.wordP names l St.bOut 8 false j4 = r := ⟨_, rfl⟩
          have hc := HOU0.out j4 W4 HNR.out
          rw [hpl] at hc
          have HRS0 := HRS
          clear HRS
          by_cases her : e5 = 0
          · subst her
            have HRS : Hid (((⟨⟨pv, pl⟩, code, mem.map St.toAtom, stack, out.map St.toAtom⟩ : St.State), j5, 0) = res) := Lib.hid (by rw [← HRS0.out]; unfold raw5; rw [hpl, St.andP_do])
            have HC := Lib.hid hc
            clear hc hpl HRS0
            go_wp2_with (fail)
            refine HC.out.mono ?_
            rintro e w5 ⟨oA, on, oc, rfl, hx, hn, hk⟩
            have hx := (hx rfl).atoms
            have hs0 := HSL.out.keep hR hk
            have hwsz := HSL.out.kept.size
            have hwnz := HSL.out.loc.lt
            have hkw := hk
            have hkcode := HKcode.out.kept (show R < w.heap.size + 2 by omega) hk
            have hkmem := HKmem.out.kept (show R < w.heap.size + 2 by omega) hk
            have hkstack := HKstack.out.kept (show R < w.heap.size + 2 by omega) hk
            have hs1 := (hs0).setL 5 (.slice oA on oc)
            have hn1 := (hn.setX (x := ⟨w.heap.size + 1, 5, none⟩) (by show R < w.heap.size + 1; omega) (.slice oA on oc))
            have g5 := hs0.loc.frozen 5
            have z5 := hs0.loc.cell 5
            have hqcode := hkcode.set_ (p := ⟨w.heap.size + 1, 5, none⟩) (by show w.heap.size + 1 < w.heap.size + 2; omega) (.slice oA on oc)
            have hqmem := hkmem.set_ (p := ⟨w.heap.size + 1, 5, none⟩) (by show w.heap.size + 1 < w.heap.size + 2; omega) (.slice oA on oc)
            have hqstack := hkstack.set_ (p := ⟨w.heap.size + 1, 5, none⟩) (by show w.heap.size + 1 < w.heap.size + 2; omega) (.slice oA on oc)
            have hqout := (hx.less (show w.heap.size + 2 ≤ W4.heap.size by omega)).set_ (p := ⟨w.heap.size + 1, 5, none⟩) (by show w.heap.size + 1 < w.heap.size + 2; omega) (.slice oA on oc)
            obtain ⟨W5, hW5⟩ : ∃ W5, (w5.setCell ⟨w.heap.size + 1, 5, none⟩ (.slice oA on oc)) = W5 := ⟨_, rfl⟩
            rw [hW5] at hs1 hn1 hqcode hqmem hqstack hqout
            clear HSL HNR HKcode HKmem HKstack
            have HSL := Lib.hid hs1
            have HNR := Lib.hid hn1
            have HKcode := Lib.hid hqcode
            have HKmem := Lib.hid hqmem
            have HKstack := Lib.hid hqstack
            have HKout := Lib.hid hqout
            clear hs0 hs1 hn hn1 hk hkw HC hwsz hwnz hkcode hkmem hkstack hqcode hqmem hqstack hqout hx
            have x0 := HSL.out.loc.cell 0
            have x1 := HSL.out.loc.cell 1
            have x2 := HSL.out.loc.cell 2
            have x3 := HSL.out.loc.cell 3
            have x4 := HSL.out.loc.cell 4
            have x5 := HSL.out.loc.cell 5
            have y0 := HSL.out.res.cell 0
            have y1 := HSL.out.res.cell 1
            have y2 := HSL.out.res.cell 2
            have y3 := HSL.out.res.cell 3
            have y4 := HSL.out.res.cell 4
            have y5 := HSL.out.res.cell 5
            have f0 := HSL.out.res.frozen 0
            have f1 := HSL.out.res.frozen 1
            have f2 := HSL.out.res.frozen 2
            have f3 := HSL.out.res.frozen 3
            have f4 := HSL.out.res.frozen 4
            have f5 := HSL.out.res.frozen 5
            have hsl := HSL.out.ans (a := .int .i64 pv) (b := .int .i64 pl) (c := .slice cA cn cc) (d := .slice mA mn mc) (e := .slice sA sn sc) (f := .slice oA on oc)
            have hnr := HNR.out.ansS (w := w) hR (.int .i64 pv) (.int .i64 pl) (.slice cA cn cc) (.slice mA mn mc) (.slice sA sn sc) (.slice oA on oc)
            have v0 := hsl.res.cell 0
            have v1 := hsl.res.cell 1
            have v2 := hsl.res.cell 2
            have v3 := hsl.res.cell 3
            have v4 := hsl.res.cell 4
            have v5 := hsl.res.cell 5
            have HK := Lib.hid hsl.kept
            have HNZ := Lib.hid hnr
            have HKZ : Hid (KSt w.heap.size (ansS w W5 (.int .i64 pv) (.int .i64 pl) (.slice cA cn cc) (.slice mA mn mc) (.slice sA sn sc) (.slice oA on oc)) (.agg #[.int .i64 pv, .int .i64 pl, .slice cA cn cc, .slice mA mn mc, .slice sA sn sc, .slice oA on oc]) (⟨⟨pv, pl⟩, code, mem.map St.toAtom, stack, out.map St.toAtom⟩ : St.State)) := Lib.hid ⟨_, _, _, _, rfl, (HKcode.out.ansS (by omega) _ _ _ _ _ _).less (by omega), (HKmem.out.ansS (by omega) _ _ _ _ _ _).less (by omega), (HKstack.out.ansS (by omega) _ _ _ _ _ _).less (by omega), (HKout.out.ansS (by omega) _ _ _ _ _ _).less (by omega)⟩
            unfold ansS at v0 v1 v2 v3 v4 v5 HK HNZ HKZ
            clear hsl hnr
            go_wp2
            refine bodyPost_ret (v := .tuple #[.agg #[.int .i64 pv, .int .i64 pl, .slice cA cn cc, .slice mA mn mc, .slice sA sn sc, .slice oA on oc], .int .i64 (0 : Nat)]) (by simp [results, Tryz.results85, go_sem, v0, v1, v2, v3, v4, v5]) rfl ⟨pv, pl, cA, cn, cc, mA, mn, mc, sA, sn, sc, oA, on, oc, by rw [← HRS.out], ?_, ?_, HK.out⟩
            · intro _; rw [← HRS.out]; exact HKZ.out
            · rw [← HRS.out]; exact HNZ.out
          · have hz1 : ((e5 : Int) != 0) = true := by rw [bne_iff_ne]; omega
            have HRS : Hid ((St.zero, j5, e5) = res) := Lib.hid (by rw [← HRS0.out]; unfold raw5; rw [hpl, St.andP_no her])
            have HER := Lib.hid her
            have HC := Lib.hid hc
            clear hc hpl HRS0 her HKcode HKmem HKstack
            go_wp2_with (fail)
            refine HC.out.mono ?_
            rintro e w5 ⟨oA, on, oc, rfl, hx, hn, hk⟩
            have hs0 := HSL.out.keep hR hk
            have hs1 := (hs0).setL 5 (.slice oA on oc)
            have hn1 := (hn.setX (x := ⟨w.heap.size + 1, 5, none⟩) (by show R < w.heap.size + 1; omega) (.slice oA on oc))
            have g5 := hs0.loc.frozen 5
            have z5 := hs0.loc.cell 5
            obtain ⟨W5, hW5⟩ : ∃ W5, (w5.setCell ⟨w.heap.size + 1, 5, none⟩ (.slice oA on oc)) = W5 := ⟨_, rfl⟩
            rw [hW5] at hs1 hn1
            clear HSL HNR
            have HSL := Lib.hid hs1
            have HNR := Lib.hid hn1
            clear hs0 hs1 hn hn1 hk hx HC
            have x0 := HSL.out.loc.cell 0
            have x1 := HSL.out.loc.cell 1
            have x2 := HSL.out.loc.cell 2
            have x3 := HSL.out.loc.cell 3
            have x4 := HSL.out.loc.cell 4
            have x5 := HSL.out.loc.cell 5
            have y0 := HSL.out.res.cell 0
            have y1 := HSL.out.res.cell 1
            have y2 := HSL.out.res.cell 2
            have y3 := HSL.out.res.cell 3
            have y4 := HSL.out.res.cell 4
            have y5 := HSL.out.res.cell 5
            have f0 := HSL.out.res.frozen 0
            have f1 := HSL.out.res.frozen 1
            have f2 := HSL.out.res.frozen 2
            have f3 := HSL.out.res.frozen 3
            have f4 := HSL.out.res.frozen 4
            have f5 := HSL.out.res.frozen 5
            have hsl := HSL.out.ans (a := .int .i64 pv) (b := .int .i64 pl) (c := .slice cA cn cc) (d := .slice mA mn mc) (e := .slice sA sn sc) (f := .slice oA on oc)
            have hnr := HNR.out.ansS (w := w) hR (.int .i64 pv) (.int .i64 pl) (.slice cA cn cc) (.slice mA mn mc) (.slice sA sn sc) (.slice oA on oc)
            have v0 := hsl.res.cell 0
            have v1 := hsl.res.cell 1
            have v2 := hsl.res.cell 2
            have v3 := hsl.res.cell 3
            have v4 := hsl.res.cell 4
            have v5 := hsl.res.cell 5
            have HK := Lib.hid hsl.kept
            have HNZ := Lib.hid hnr
            skip
            unfold ansS at v0 v1 v2 v3 v4 v5 HK HNZ
            clear hsl hnr
            go_wp2
            refine bodyPost_ret (v := .tuple #[.agg #[.int .i64 pv, .int .i64 pl, .slice cA cn cc, .slice mA mn mc, .slice sA sn sc, .slice oA on oc], .int .i64 (e5 : Nat)]) (by simp [results, Tryz.results85, go_sem, v0, v1, v2, v3, v4, v5]) rfl ⟨pv, pl, cA, cn, cc, mA, mn, mc, sA, sn, sc, oA, on, oc, by rw [← HRS.out], ?_, ?_, HK.out⟩
            · intro h; rw [← HRS.out] at h; exact absurd h HER.out
            · rw [← HRS.out]; exact HNZ.out
        · have hz1 : ((e4 : Int) != 0) = true := by rw [bne_iff_ne]; omega
          have HRS : Hid ((St.zero, j4, e4) = res) := Lib.hid (by rw [← HRS0.out]; unfold raw4; rw [hpl, St.andP_no her])
          have HER := Lib.hid her
          have HC := Lib.hid hc
          clear hc hpl HRS0 her HKcode HKmem
          go_wp2_with (fail)
          refine HC.out.mono ?_
          rintro e w4 ⟨sA, sn, sc, rfl, hx, hn, hk⟩
          have hs0 := HSL.out.keep hR hk
          have hs1 := (hs0).setL 4 (.slice sA sn sc)
          have hn1 := (hn.setX (x := ⟨w.heap.size + 1, 4, none⟩) (by show R < w.heap.size + 1; omega) (.slice sA sn sc))
          have g4 := hs0.loc.frozen 4
          have z4 := hs0.loc.cell 4
          obtain ⟨W4, hW4⟩ : ∃ W4, (w4.setCell ⟨w.heap.size + 1, 4, none⟩ (.slice sA sn sc)) = W4 := ⟨_, rfl⟩
          rw [hW4] at hs1 hn1
          clear HSL HNR
          have HSL := Lib.hid hs1
          have HNR := Lib.hid hn1
          clear hs0 hs1 hn hn1 hk hx HC
          have x0 := HSL.out.loc.cell 0
          have x1 := HSL.out.loc.cell 1
          have x2 := HSL.out.loc.cell 2
          have x3 := HSL.out.loc.cell 3
          have x4 := HSL.out.loc.cell 4
          have x5 := HSL.out.loc.cell 5
          have y0 := HSL.out.res.cell 0
          have y1 := HSL.out.res.cell 1
          have y2 := HSL.out.res.cell 2
          have y3 := HSL.out.res.cell 3
          have y4 := HSL.out.res.cell 4
          have y5 := HSL.out.res.cell 5
          have f0 := HSL.out.res.frozen 0
          have f1 := HSL.out.res.frozen 1
          have f2 := HSL.out.res.frozen 2
          have f3 := HSL.out.res.frozen 3
          have f4 := HSL.out.res.frozen 4
          have f5 := HSL.out.res.frozen 5
          have hsl := HSL.out.ans (a := .int .i64 pv) (b := .int .i64 pl) (c := .slice cA cn cc) (d := .slice mA mn mc) (e := .slice sA sn sc) (f := .slice none 0 0)
          have hnr := HNR.out.ansS (w := w) hR (.int .i64 pv) (.int .i64 pl) (.slice cA cn cc) (.slice mA mn mc) (.slice sA sn sc) (.slice none 0 0)
          have v0 := hsl.res.cell 0
          have v1 := hsl.res.cell 1
          have v2 := hsl.res.cell 2
          have v3 := hsl.res.cell 3
          have v4 := hsl.res.cell 4
          have v5 := hsl.res.cell 5
          have HK := Lib.hid hsl.kept
          have HNZ := Lib.hid hnr
          skip
          unfold ansS at v0 v1 v2 v3 v4 v5 HK HNZ
          clear hsl hnr
          go_wp2
          refine bodyPost_ret (v := .tuple #[.agg #[.int .i64 pv, .int .i64 pl, .slice cA cn cc, .slice mA mn mc, .slice sA sn sc, .slice none 0 0], .int .i64 (e4 : Nat)]) (by simp [results, Tryz.results85, go_sem, v0, v1, v2, v3, v4, v5]) rfl ⟨pv, pl, cA, cn, cc, mA, mn, mc, sA, sn, sc, none, 0, 0, by rw [← HRS.out], ?_, ?_, HK.out⟩
          · intro h; rw [← HRS.out] at h; exact absurd h HER.out
          · rw [← HRS.out]; exact HNZ.out
      · have hz1 : ((e3 : Int) != 0) = true := by rw [bne_iff_ne]; omega
        have HRS : Hid ((St.zero, j3, e3) = res) := Lib.hid (by rw [← HRS0.out]; unfold raw3; rw [hpl, St.andP_no her])
        have HER := Lib.hid her
        have HC := Lib.hid hc
        clear hc hpl HRS0 her HKcode
        go_wp2_with (fail)
        refine HC.out.mono ?_
        rintro e w3 ⟨mA, mn, mc, rfl, hx, hn, hk⟩
        have hs0 := HSL.out.keep hR hk
        have hs1 := (hs0).setL 3 (.slice mA mn mc)
        have hn1 := (hn.setX (x := ⟨w.heap.size + 1, 3, none⟩) (by show R < w.heap.size + 1; omega) (.slice mA mn mc))
        have g3 := hs0.loc.frozen 3
        have z3 := hs0.loc.cell 3
        obtain ⟨W3, hW3⟩ : ∃ W3, (w3.setCell ⟨w.heap.size + 1, 3, none⟩ (.slice mA mn mc)) = W3 := ⟨_, rfl⟩
        rw [hW3] at hs1 hn1
        clear HSL HNR
        have HSL := Lib.hid hs1
        have HNR := Lib.hid hn1
        clear hs0 hs1 hn hn1 hk hx HC
        have x0 := HSL.out.loc.cell 0
        have x1 := HSL.out.loc.cell 1
        have x2 := HSL.out.loc.cell 2
        have x3 := HSL.out.loc.cell 3
        have x4 := HSL.out.loc.cell 4
        have x5 := HSL.out.loc.cell 5
        have y0 := HSL.out.res.cell 0
        have y1 := HSL.out.res.cell 1
        have y2 := HSL.out.res.cell 2
        have y3 := HSL.out.res.cell 3
        have y4 := HSL.out.res.cell 4
        have y5 := HSL.out.res.cell 5
        have f0 := HSL.out.res.frozen 0
        have f1 := HSL.out.res.frozen 1
        have f2 := HSL.out.res.frozen 2
        have f3 := HSL.out.res.frozen 3
        have f4 := HSL.out.res.frozen 4
        have f5 := HSL.out.res.frozen 5
        have hsl := HSL.out.ans (a := .int .i64 pv) (b := .int .i64 pl) (c := .slice cA cn cc) (d := .slice mA mn mc) (e := .slice none 0 0) (f := .slice none 0 0)
        have hnr := HNR.out.ansS (w := w) hR (.int .i64 pv) (.int .i64 pl) (.slice cA cn cc) (.slice mA mn mc) (.slice none 0 0) (.slice none 0 0)
        have v0 := hsl.res.cell 0
        have v1 := hsl.res.cell 1
        have v2 := hsl.res.cell 2
        have v3 := hsl.res.cell 3
        have v4 := hsl.res.cell 4
        have v5 := hsl.res.cell 5
        have HK := Lib.hid hsl.kept
        have HNZ := Lib.hid hnr
        skip
        unfold ansS at v0 v1 v2 v3 v4 v5 HK HNZ
        clear hsl hnr
        go_wp2
        refine bodyPost_ret (v := .tuple #[.agg #[.int .i64 pv, .int .i64 pl, .slice cA cn cc, .slice mA mn mc, .slice none 0 0, .slice none 0 0], .int .i64 (e3 : Nat)]) (by simp [results, Tryz.results85, go_sem, v0, v1, v2, v3, v4, v5]) rfl ⟨pv, pl, cA, cn, cc, mA, mn, mc, none, 0, 0, none, 0, 0, by rw [← HRS.out], ?_, ?_, HK.out⟩
        · intro h; rw [← HRS.out] at h; exact absurd h HER.out
        · rw [← HRS.out]; exact HNZ.out
    · have hz1 : ((e2 : Int) != 0) = true := by rw [bne_iff_ne]; omega
      have HRS : Hid ((St.zero, j2, e2) = res) := Lib.hid (by rw [← HRS0.out]; unfold raw2; rw [hpl, St.andP_no her])
      have HER := Lib.hid her
      have HC := Lib.hid hc
      clear hc hpl HRS0 her
      go_wp2_with (fail)
      refine HC.out.mono ?_
      rintro e w2 ⟨cA, cn, cc, rfl, hx, hn, hk⟩
      have hs0 := HSL.out.keep hR hk
      have hs1 := (hs0).setL 2 (.slice cA cn cc)
      have hn1 := (hn.setX (x := ⟨w.heap.size + 1, 2, none⟩) (by show R < w.heap.size + 1; omega) (.slice cA cn cc))
      have g2 := hs0.loc.frozen 2
      have z2 := hs0.loc.cell 2
      obtain ⟨W2, hW2⟩ : ∃ W2, (w2.setCell ⟨w.heap.size + 1, 2, none⟩ (.slice cA cn cc)) = W2 := ⟨_, rfl⟩
      rw [hW2] at hs1 hn1
      clear HSL HNR
      have HSL := Lib.hid hs1
      have HNR := Lib.hid hn1
      clear hs0 hs1 hn hn1 hk hx HC
      have x0 := HSL.out.loc.cell 0
      have x1 := HSL.out.loc.cell 1
      have x2 := HSL.out.loc.cell 2
      have x3 := HSL.out.loc.cell 3
      have x4 := HSL.out.loc.cell 4
      have x5 := HSL.out.loc.cell 5
      have y0 := HSL.out.res.cell 0
      have y1 := HSL.out.res.cell 1
      have y2 := HSL.out.res.cell 2
      have y3 := HSL.out.res.cell 3
      have y4 := HSL.out.res.cell 4
      have y5 := HSL.out.res.cell 5
      have f0 := HSL.out.res.frozen 0
      have f1 := HSL.out.res.frozen 1
      have f2 := HSL.out.res.frozen 2
      have f3 := HSL.out.res.frozen 3
      have f4 := HSL.out.res.frozen 4
      have f5 := HSL.out.res.frozen 5
      have hsl := HSL.out.ans (a := .int .i64 pv) (b := .int .i64 pl) (c := .slice cA cn cc) (d := .slice none 0 0) (e := .slice none 0 0) (f := .slice none 0 0)
      have hnr := HNR.out.ansS (w := w) hR (.int .i64 pv) (.int .i64 pl) (.slice cA cn cc) (.slice none 0 0) (.slice none 0 0) (.slice none 0 0)
      have v0 := hsl.res.cell 0
      have v1 := hsl.res.cell 1
      have v2 := hsl.res.cell 2
      have v3 := hsl.res.cell 3
      have v4 := hsl.res.cell 4
      have v5 := hsl.res.cell 5
      have HK := Lib.hid hsl.kept
      have HNZ := Lib.hid hnr
      skip
      unfold ansS at v0 v1 v2 v3 v4 v5 HK HNZ
      clear hsl hnr
      go_wp2
      refine bodyPost_ret (v := .tuple #[.agg #[.int .i64 pv, .int .i64 pl, .slice cA cn cc, .slice none 0 0, .slice none 0 0, .slice none 0 0], .int .i64 (e2 : Nat)]) (by simp [results, Tryz.results85, go_sem, v0, v1, v2, v3, v4, v5]) rfl ⟨pv, pl, cA, cn, cc, none, 0, 0, none, 0, 0, none, 0, 0, by rw [← HRS.out], ?_, ?_, HK.out⟩
      · intro h; rw [← HRS.out] at h; exact absurd h HER.out
      · rw [← HRS.out]; exact HNZ.out
  · have hz1 : ((e1 : Int) != 0) = true := by rw [bne_iff_ne]; omega
    have HRS : Hid ((St.zero, j1, e1) = res) := Lib.hid (by rw [← HRS0.out]; unfold rawS; rw [hpl, St.andP_no her])
    have HER := Lib.hid her
    have HC := Lib.hid hc
    clear hc hpl HRS0 her
    go_wp2_with (fail)
    refine HC.out.mono ?_
    rintro e w1 ⟨⟨pv, pl⟩, rfl, hx, hn, hk⟩
    unfold atv
    have hs0 := HSL.out.keep hR hk
    have hs1 := ((hs0).setL 0 (.int .i64 pv)).setL 1 (.int .i64 pl)
    have hn1 := ((hn.setX (x := ⟨w.heap.size + 1, 0, none⟩) (by show R < w.heap.size + 1; omega) (.int .i64 pv)).setX (x := ⟨w.heap.size + 1, 1, none⟩) (by show R < w.heap.size + 1; omega) (.int .i64 pl))
    have g0 := hs0.loc.frozen 0
    have z0 := hs0.loc.cell 0
    have g1 := hs0.loc.frozen 1
    have z1 := hs0.loc.cell 1
    obtain ⟨W1, hW1⟩ : ∃ W1, ((w1.setCell ⟨w.heap.size + 1, 0, none⟩ (.int .i64 pv)).setCell ⟨w.heap.size + 1, 1, none⟩ (.int .i64 pl)) = W1 := ⟨_, rfl⟩
    rw [hW1] at hs1 hn1
    clear HSL HNR
    have HSL := Lib.hid hs1
    have HNR := Lib.hid hn1
    clear hs0 hs1 hn hn1 hk hx HC
    have x0 := HSL.out.loc.cell 0
    have x1 := HSL.out.loc.cell 1
    have x2 := HSL.out.loc.cell 2
    have x3 := HSL.out.loc.cell 3
    have x4 := HSL.out.loc.cell 4
    have x5 := HSL.out.loc.cell 5
    have y0 := HSL.out.res.cell 0
    have y1 := HSL.out.res.cell 1
    have y2 := HSL.out.res.cell 2
    have y3 := HSL.out.res.cell 3
    have y4 := HSL.out.res.cell 4
    have y5 := HSL.out.res.cell 5
    have f0 := HSL.out.res.frozen 0
    have f1 := HSL.out.res.frozen 1
    have f2 := HSL.out.res.frozen 2
    have f3 := HSL.out.res.frozen 3
    have f4 := HSL.out.res.frozen 4
    have f5 := HSL.out.res.frozen 5
    have hsl := HSL.out.ans (a := .int .i64 pv) (b := .int .i64 pl) (c := .slice none 0 0) (d := .slice none 0 0) (e := .slice none 0 0) (f := .slice none 0 0)
    have hnr := HNR.out.ansS (w := w) hR (.int .i64 pv) (.int .i64 pl) (.slice none 0 0) (.slice none 0 0) (.slice none 0 0) (.slice none 0 0)
    have v0 := hsl.res.cell 0
    have v1 := hsl.res.cell 1
    have v2 := hsl.res.cell 2
    have v3 := hsl.res.cell 3
    have v4 := hsl.res.cell 4
    have v5 := hsl.res.cell 5
    have HK := Lib.hid hsl.kept
    have HNZ := Lib.hid hnr
    skip
    unfold ansS at v0 v1 v2 v3 v4 v5 HK HNZ
    clear hsl hnr
    go_wp2
    refine bodyPost_ret (v := .tuple #[.agg #[.int .i64 pv, .int .i64 pl, .slice none 0 0, .slice none 0 0, .slice none 0 0, .slice none 0 0], .int .i64 (e1 : Nat)]) (by simp [results, Tryz.results85, go_sem, v0, v1, v2, v3, v4, v5]) rfl ⟨pv, pl, none, 0, 0, none, 0, 0, none, 0, 0, none, 0, 0, by rw [← HRS.out], ?_, ?_, HK.out⟩
    · intro h; rw [← HRS.out] at h; exact absurd h HER.out
    · rw [← HRS.out]; exact HNZ.out
end
end Go.Proofs.YtipbilmnknmhmaaGreatDoor

/- Which states may be (by gen_stmg.py): walks of isLabel, isAtom, isPlace, atomOf, isSlot, allRight, Right. -/
namespace Go.Proofs.YtipbilmnknmhmaaGreatDoor
set_option maxRecDepth 100000
open Go.RowKit Go.Shelf Go.Sort
attribute [local go_sem] Oper.semAt_some
section
variable {v : Value} {names : List ByteArray} {up : List Nat}
set_option maxHeartbeats 2000000 in
theorem sisLabel_any (a : Int) (w : World) (h : IsLat w w.heap.size v names up) : Calls Tryz.prog 82 #[v, .int .i64 a] w (Tells w (St.labB up.length a)) := by
  obtain ⟨⟨N, U, c1, c2, rfl, hN, hU⟩, hsh, hfew, hcaps⟩ := h
  clear hN hU
  have HB0 := Lib.hid ((Below.refl _ w).alloc (Nat.le_refl _) (.cells #[.slice N names.length c1, .slice U up.length c2] 25))
  by_cases h0 : 0 ≤ a
  · have hr : St.labB up.length a = decide (a < (up.length : Int)) := by unfold St.labB; exact decide_eq_decide.2 ⟨fun h => h.2, fun h => ⟨h0, h⟩⟩
    rw [hr]
    clear hr
    go_enter Tryz.func82, Tryz.ntmps82
    go_wp2
    go_ret
    exact ⟨rfl, HB0.out⟩
  · have hr : St.labB up.length a = false := by unfold St.labB; exact decide_eq_false fun h => h0 h.1
    rw [hr]
    clear hr
    go_enter Tryz.func82, Tryz.ntmps82
    go_wp2
    go_ret
    exact ⟨rfl, HB0.out⟩
set_option maxHeartbeats 2000000 in
theorem sisPlace_any (x : St.Atom) (w : World) (h : IsLat w w.heap.size v names up) : Calls Tryz.prog 49 #[v, .agg #[.int .i64 x.v, .int .i64 x.l]] w (Tells w (St.pcB x.v && St.labB up.length x.l)) := by
  obtain ⟨⟨N, U, c1, c2, rfl, hN, hU⟩, hsh, hfew, hcaps⟩ := id h
  obtain ⟨a, l⟩ := x
  dsimp only
  have hb0 := (((Below.refl _ w).alloc (Nat.le_refl _) (.cells #[.slice N names.length c1, .slice U up.length c2] 25)).alloc (by simp) (.cells #[.int .i64 a, .int .i64 l] 38))
  have HL := Lib.hid (sisLabel_any l _ ((h.below hb0).more hb0.size))
  have HB0 := Lib.hid hb0
  clear h hN hU hb0
  by_cases h0 : 0 ≤ a
  · by_cases h1 : a ≤ 12
    · have hr : St.pcB a = true := by unfold St.pcB; exact decide_eq_true ⟨h0, h1⟩
      rw [hr, Bool.true_and]
      generalize St.labB up.length l = b at *
      clear hr
      go_enter Tryz.func49, Tryz.ntmps49
      go_wp2_with (fail)
      refine HL.out.mono ?_
      rintro e w1 ⟨rfl, hb1⟩
      have HB1 := Lib.hid (HB0.out.trans (hb1.mono HB0.out.size))
      clear hb1 HL
      go_wp2
      go_ret
      exact ⟨rfl, HB1.out⟩
    · have hr : St.pcB a = false := by unfold St.pcB; exact decide_eq_false fun h => h1 h.2
      rw [hr, Bool.false_and]
      clear hr HL
      go_enter Tryz.func49, Tryz.ntmps49
      go_wp2
      go_ret
      exact ⟨rfl, HB0.out⟩
  · have hr : St.pcB a = false := by unfold St.pcB; exact decide_eq_false fun h => h0 h.1
    rw [hr, Bool.false_and]
    clear hr HL
    go_enter Tryz.func49, Tryz.ntmps49
    go_wp2
    go_ret
    exact ⟨rfl, HB0.out⟩
set_option maxHeartbeats 2000000 in
theorem sisAtom_any (x : St.Atom) (w : World) (h : IsLat w w.heap.size v names up) : Calls Tryz.prog 51 #[v, .agg #[.int .i64 x.v, .int .i64 x.l]] w (Tells w (St.valB x.v && St.labB up.length x.l)) := by
  obtain ⟨⟨N, U, c1, c2, rfl, hN, hU⟩, hsh, hfew, hcaps⟩ := id h
  obtain ⟨a, l⟩ := x
  dsimp only
  have hb0 := (((Below.refl _ w).alloc (Nat.le_refl _) (.cells #[.slice N names.length c1, .slice U up.length c2] 25)).alloc (by simp) (.cells #[.int .i64 a, .int .i64 l] 38))
  have HL := Lib.hid (sisLabel_any l _ ((h.below hb0).more hb0.size))
  have HB0 := Lib.hid hb0
  clear h hN hU hb0
  by_cases h0 : -20 ≤ a
  · by_cases h1 : a ≤ 20
    · have hr : St.valB a = true := by unfold St.valB; exact decide_eq_true ⟨h0, h1⟩
      rw [hr, Bool.true_and]
      generalize St.labB up.length l = b at *
      clear hr
      go_enter Tryz.func51, Tryz.ntmps51
      go_wp2_with (fail)
      refine HL.out.mono ?_
      rintro e w1 ⟨rfl, hb1⟩
      have HB1 := Lib.hid (HB0.out.trans (hb1.mono HB0.out.size))
      clear hb1 HL
      go_wp2
      go_ret
      exact ⟨rfl, HB1.out⟩
    · have hr : St.valB a = false := by unfold St.valB; exact decide_eq_false fun h => h1 h.2
      rw [hr, Bool.false_and]
      clear hr HL
      go_enter Tryz.func51, Tryz.ntmps51
      go_wp2
      go_ret
      exact ⟨rfl, HB0.out⟩
  · have hr : St.valB a = false := by unfold St.valB; exact decide_eq_false fun h => h0 h.1
    rw [hr, Bool.false_and]
    clear hr HL
    go_enter Tryz.func51, Tryz.ntmps51
    go_wp2
    go_ret
    exact ⟨rfl, HB0.out⟩
theorem satomOf_any (x : St.Slot) (w : World) : Calls Tryz.prog 81 #[.agg #[.bool x.ret, .int .i64 x.v, .int .i64 x.l]] w fun e w' => e = .returned (.agg #[.int .i64 x.v, .int .i64 x.l]) ∧ Below w.heap.size w w' := by
  obtain ⟨r, a, l⟩ := x
  dsimp only
  go_enter Tryz.func81, Tryz.ntmps81
  go_wp2
  go_returns
  exact ⟨rfl, ((Below.refl _ w).alloc (Nat.le_refl _) _).alloc (by simp) _⟩
theorem slotB_eq (k : Nat) (x : St.Slot) : St.slotB k x = if x.ret = true then St.pcB x.v && St.labB k x.l else St.valB x.v && St.labB k x.l := by
  unfold St.slotB
  cases x.ret with
  | false => simp
  | true =>
    simp only [Bool.not_true, Bool.false_or, if_true]
    cases hp : St.pcB x.v with
    | false => simp
    | true =>
      have hv : St.valB x.v = true := by
        unfold St.pcB at hp
        unfold St.valB
        have := of_decide_eq_true hp
        exact decide_eq_true (by omega)
      rw [hv]
      simp
set_option maxHeartbeats 4000000 in
theorem sisSlot_any (x : St.Slot) (w : World) (h : IsLat w w.heap.size v names up) : Calls Tryz.prog 53 #[v, .agg #[.bool x.ret, .int .i64 x.v, .int .i64 x.l]] w (Tells w (St.slotB up.length x)) := by
  obtain ⟨⟨N, U, c1, c2, rfl, hN, hU⟩, hsh, hfew, hcaps⟩ := id h
  rw [slotB_eq]
  have HPL := Lib.hid (fun W (h : IsLat W W.heap.size (.agg #[.slice N names.length c1, .slice U up.length c2]) names up) => sisPlace_any ⟨x.v, x.l⟩ W h)
  have HAT := Lib.hid (fun W (h : IsLat W W.heap.size (.agg #[.slice N names.length c1, .slice U up.length c2]) names up) => sisAtom_any ⟨x.v, x.l⟩ W h)
  have HOF := Lib.hid (fun W => satomOf_any x W)
  obtain ⟨r, a, l⟩ := x
  dsimp only at HPL HAT HOF ⊢
  have hb0 := (((Below.refl _ w).alloc (Nat.le_refl _) (.cells #[.slice N names.length c1, .slice U up.length c2] 25)).alloc (by simp) (.cells #[.bool r, .int .i64 a, .int .i64 l] 73))
  obtain ⟨W0, hW0⟩ : ∃ W0, (w.alloc (.cells #[.slice N names.length c1, .slice U up.length c2] 25)).alloc (.cells #[.bool r, .int .i64 a, .int .i64 l] 73) = W0 := ⟨_, rfl⟩
  have hp0 : Blk W0 w.heap.size 25 #[.slice N names.length c1, .slice U up.length c2] := hW0 ▸ (Blk.new _ _ _).alloc _
  have hp1 : Blk W0 (w.heap.size + 1) 73 #[.bool r, .int .i64 a, .int .i64 l] := by
    have h1 := Blk.new (w.alloc (.cells #[.slice N names.length c1, .slice U up.length c2] 25)) 73 #[.bool r, .int .i64 a, .int .i64 l]
    rw [show (w.alloc (.cells #[.slice N names.length c1, .slice U up.length c2] 25)).heap.size = w.heap.size + 1 by simp] at h1
    rw [← hW0]; exact h1
  rw [hW0] at hb0
  have HB0 := Lib.hid hb0
  have H := Lib.hid ((h.below hb0).more hb0.size)
  have a0 : W0.cell? ⟨w.heap.size, 0, none⟩ = some (.slice N names.length c1) := hp0.cell 0
  have a1 : W0.cell? ⟨w.heap.size, 1, none⟩ = some (.slice U up.length c2) := hp0.cell 1
  have s0 : W0.cell? ⟨w.heap.size + 1, 0, none⟩ = some (.bool r) := hp1.cell 0
  have s1 : W0.cell? ⟨w.heap.size + 1, 1, none⟩ = some (.int .i64 a) := hp1.cell 1
  have s2 : W0.cell? ⟨w.heap.size + 1, 2, none⟩ = some (.int .i64 l) := hp1.cell 2
  have g0 := fun d os => cell_regrown a0 d os
  have g1 := fun d os => cell_regrown a1 d os
  have g2 := fun d os => cell_regrown s0 d os
  have g3 := fun d os => cell_regrown s1 d os
  have g4 := fun d os => cell_regrown s2 d os
  clear h hN hU hb0 hp0 hp1
  cases r with
  | true =>
    rw [if_pos rfl]
    generalize (St.pcB a && St.labB up.length l) = b at *
    go_enter Tryz.func53, Tryz.ntmps53
    go_wp2
    refine wp_region_quiet_below (by kernel_rfl) (by kernel_rfl) ?_
    repeat (quiet_step (first | (go_at_call 81; exact Calls.regrown_of (HOF.out _)) | (go_at_call 49; exact Calls.regrown_of (HPL.out _ ((H.out.below (below_regrown _ _ _)).more (below_regrown _ _ _).size)))))
    refine wpQuiet_nil ?_
    rintro _ ⟨⟨d, os⟩, rfl⟩
    have HB5 := Lib.hid (HB0.out.trans ((below_regrown W0 d os).mono HB0.out.size))
    clear g0 g1 g2 g3 g4
    generalize grow (redrawn W0 d) os = w5 at *
    go_wp2
    go_ret
    exact ⟨rfl, HB5.out⟩
  | false =>
    rw [if_neg (by decide)]
    generalize (St.valB a && St.labB up.length l) = b at *
    go_enter Tryz.func53, Tryz.ntmps53
    go_wp2
    refine wp_region_quiet_below (by kernel_rfl) (by kernel_rfl) ?_
    repeat (quiet_step (first | (go_at_call 81; exact Calls.regrown_of (HOF.out _)) | (go_at_call 51; exact Calls.regrown_of (HAT.out _ ((H.out.below (below_regrown _ _ _)).more (below_regrown _ _ _).size)))))
    refine wpQuiet_nil ?_
    rintro _ ⟨⟨d, os⟩, rfl⟩
    have HB5 := Lib.hid (HB0.out.trans ((below_regrown W0 d os).mono HB0.out.size))
    clear g0 g1 g2 g3 g4
    generalize grow (redrawn W0 d) os = w5 at *
    go_wp2
    go_ret
    exact ⟨rfl, HB5.out⟩
theorem all_no {α : Type} {f : α → Bool} {l : List α} {j m : Nat} {x : α} (h : l[j]? = some x) (hx : f x = false) : (decide (l.length ≤ m) && l.all f) = false := by
  rw [Bool.and_eq_false_iff]
  refine .inr ?_
  rw [List.all_eq_false]
  exact ⟨x, List.mem_of_getElem? h, by rw [hx]; decide⟩
theorem all_yes {α : Type} {f : α → Bool} {l : List α} {m : Nat} (hl : l.length ≤ m) (h : ∀ (j : Nat) x, l[j]? = some x → f x = true) : (decide (l.length ≤ m) && l.all f) = true := by
  rw [Bool.and_eq_true]
  refine ⟨decide_eq_true hl, List.all_eq_true.2 fun x hx => ?_⟩
  obtain ⟨j, hj, rfl⟩ := List.getElem_of_mem hx
  exact h j _ (List.getElem?_eq_getElem hj)
set_option maxHeartbeats 4000000 in
theorem allA_any {A : Option Addr} {l : List St.Atom} (c m : Nat) (hm : m ≤ 100) (w : World) (h : IsLat w w.heap.size v names up) (hr : Row w w.heap.size A (fcells avs l)) (hl : l.length ≤ 1000) :
    Calls Tryz.prog 50 #[v, .slice A l.length c, .int .i64 (m : Int), .func (.func 51) #[] #[]] w (Tells w (decide (l.length ≤ m) && l.all (St.atomB up.length))) := by
  obtain ⟨⟨N, U, c1, c2, rfl, hN, hU⟩, hsh, hfew, hcaps⟩ := id h
  obtain ⟨res, hres⟩ : ∃ res, (decide (l.length ≤ m) && l.all (St.atomB up.length)) = res := ⟨_, rfl⟩
  rw [hres]
  have HRES := Lib.hid hres
  clear hres
  have hb0 : Below w.heap.size w (w.alloc (.cells #[.slice N names.length c1, .slice U up.length c2] 25)) := (Below.refl _ w).alloc (Nat.le_refl _) _
  have p0 := Blk.new w 25 #[.slice N names.length c1, .slice U up.length c2]
  have HB0 := Lib.hid hb0
  have hcf := Tryz.call51
  by_cases h12 : m < l.length
  · have HR2 := Lib.hid (show false = res by rw [← HRES.out, decide_eq_false (by omega)]; rfl)
    clear h hN hU hr hb0 p0
    go_enter Tryz.func50, Tryz.ntmps50
    go_wp2
    go_ret
    exact ⟨retb HR2.out, HB0.out⟩
  · have HONE := Lib.hid (fun (x : St.Atom) W (hb : Below w.heap.size w W) => sisAtom_any (v := .agg #[.slice N names.length c1, .slice U up.length c2]) x W ((h.below hb).more hb.size))
    have H := Lib.hid hr
    have P0 := Lib.hid p0
    clear h hN hU hr hb0 p0
    go_enter Tryz.func50, Tryz.ntmps50
    go_wp2
    go_loopw [17] (fun i wr => ∃ k : Nat, k ≤ l.length ∧ i = .int .i64 k ∧ Hid (∀ (j : Nat) (x : St.Atom), j < k → l[j]? = some x → St.atomB up.length x = true) ∧ Hid (Below w.heap.size w wr) ∧ Hid (Blk wr w.heap.size 25 #[.slice N names.length c1, .slice U up.length c2])) (fun i _ => l.length - (intOf i).toNat)
    case atStart => exact ⟨0, Nat.zero_le _, rfl, Lib.hid fun j x hj => absurd hj (Nat.not_lt_zero _), HB0, P0⟩
    case round =>
      clear HB0 P0
      obtain ⟨k, hk, rfl, HS, HBW, P0⟩ := hrel
      by_cases hlt : k < l.length
      · obtain ⟨ad, x, rfl, hxb, hx, x0, x1⟩ := arow_at (H.out.below HBW.out) hlt
        have hz := HBW.out.size
        have hxb2 : (ad.add (k * 2)).block < wr.heap.size := by rw [add_block]; omega
        have HX := Lib.hid hx
        have hal := (Below.refl wr.heap.size wr).alloc (Nat.le_refl _) (.cells #[.int .i64 x.v, .int .i64 x.l] 38)
        have hbw1 := HBW.out.trans (hal.mono HBW.out.size)
        have hp1 := P0.out.below hal P0.out.lt
        have hbx := Blk.new wr 38 #[.int .i64 x.v, .int .i64 x.l]
        have hc := HONE.out x _ hbw1
        obtain ⟨W1, hW1⟩ : ∃ W1, wr.alloc (.cells #[.int .i64 x.v, .int .i64 x.l] 38) = W1 := ⟨_, rfl⟩
        rw [hW1] at hbw1 hp1 hbx hc
        have a0 : W1.cell? ⟨w.heap.size, 0, none⟩ = some (.slice N names.length c1) := hp1.cell 0
        have a1 : W1.cell? ⟨w.heap.size, 1, none⟩ = some (.slice U up.length c2) := hp1.cell 1
        have s0 := hbx.cell 0
        have s1 := hbx.cell 1
        skip
        have HB1 := Lib.hid hbw1
        have HP1 := Lib.hid hp1
        have hz1 := hbw1.size
        clear hx hal hbw1 hp1 hbx P0
        cases hi : St.atomB up.length x with
        | true =>
          have HC := Lib.hid (show Calls _ _ _ _ (Tells W1 true) by rw [← hi]; exact hc)
          have HI := Lib.hid hi
          clear hi hc
          go_wp2_with (fail)
          refine HC.out.mono ?_
          rintro e w2 ⟨rfl, hb2⟩
          have HB2 := Lib.hid (HB1.out.trans (hb2.mono HB1.out.size))
          have HP2 := Lib.hid (HP1.out.below hb2 HP1.out.lt)
          clear hb2 a0 a1 s0 s1 
          go_wp2
          go_roundw
          case rel => exact ⟨k + 1, by omega, by go_num, Lib.hid fun j u hj hu => by
            rcases Nat.lt_or_eq_of_le (Nat.le_of_lt_succ hj) with h | rfl
            · exact HS.out j u h hu
            · rw [HX.out] at hu
              injection hu with hu
              rw [← hu]; exact HI.out, HB2, HP2⟩
          case measure => simp [intOf]; omega
        | false =>
          have HC := Lib.hid (show Calls _ _ _ _ (Tells W1 false) by rw [← hi]; exact hc)
          have HR2 := Lib.hid (show false = res by rw [← HRES.out]; exact (all_no HX.out hi).symm)
          clear hi hc
          go_wp2_with (fail)
          refine HC.out.mono ?_
          rintro e w2 ⟨rfl, hb2⟩
          have HB2 := Lib.hid (HB1.out.trans (hb2.mono HB1.out.size))
          clear hb2
          go_wp2
          go_ret
          exact ⟨retb HR2.out, HB2.out⟩
      · obtain rfl : k = l.length := by omega
        have HR2 := Lib.hid (show true = res by rw [← HRES.out]; exact (all_yes (by omega) fun j x hx => HS.out j x (List.getElem?_eq_some_iff.1 hx).1 hx).symm)
        go_wp2
        go_ret
        exact ⟨retb HR2.out, HBW.out⟩
set_option maxHeartbeats 4000000 in
theorem allS_any {A : Option Addr} {l : List St.Slot} (c m : Nat) (hm : m ≤ 100) (w : World) (h : IsLat w w.heap.size v names up) (hr : Row w w.heap.size A (fcells svs l)) (hl : l.length ≤ 1000) :
    Calls Tryz.prog 52 #[v, .slice A l.length c, .int .i64 (m : Int), .func (.func 53) #[] #[]] w (Tells w (decide (l.length ≤ m) && l.all (St.slotB up.length))) := by
  obtain ⟨⟨N, U, c1, c2, rfl, hN, hU⟩, hsh, hfew, hcaps⟩ := id h
  obtain ⟨res, hres⟩ : ∃ res, (decide (l.length ≤ m) && l.all (St.slotB up.length)) = res := ⟨_, rfl⟩
  rw [hres]
  have HRES := Lib.hid hres
  clear hres
  have hb0 : Below w.heap.size w (w.alloc (.cells #[.slice N names.length c1, .slice U up.length c2] 25)) := (Below.refl _ w).alloc (Nat.le_refl _) _
  have p0 := Blk.new w 25 #[.slice N names.length c1, .slice U up.length c2]
  have HB0 := Lib.hid hb0
  have hcf := Tryz.call53
  by_cases h12 : m < l.length
  · have HR2 := Lib.hid (show false = res by rw [← HRES.out, decide_eq_false (by omega)]; rfl)
    clear h hN hU hr hb0 p0
    go_enter Tryz.func52, Tryz.ntmps52
    go_wp2
    go_ret
    exact ⟨retb HR2.out, HB0.out⟩
  · have HONE := Lib.hid (fun (x : St.Slot) W (hb : Below w.heap.size w W) => sisSlot_any (v := .agg #[.slice N names.length c1, .slice U up.length c2]) x W ((h.below hb).more hb.size))
    have H := Lib.hid hr
    have P0 := Lib.hid p0
    clear h hN hU hr hb0 p0
    go_enter Tryz.func52, Tryz.ntmps52
    go_wp2
    go_loopw [17] (fun i wr => ∃ k : Nat, k ≤ l.length ∧ i = .int .i64 k ∧ Hid (∀ (j : Nat) (x : St.Slot), j < k → l[j]? = some x → St.slotB up.length x = true) ∧ Hid (Below w.heap.size w wr) ∧ Hid (Blk wr w.heap.size 25 #[.slice N names.length c1, .slice U up.length c2])) (fun i _ => l.length - (intOf i).toNat)
    case atStart => exact ⟨0, Nat.zero_le _, rfl, Lib.hid fun j x hj => absurd hj (Nat.not_lt_zero _), HB0, P0⟩
    case round =>
      clear HB0 P0
      obtain ⟨k, hk, rfl, HS, HBW, P0⟩ := hrel
      by_cases hlt : k < l.length
      · obtain ⟨ad, x, rfl, hxb, hx, x0, x1, x2⟩ := srow_at (H.out.below HBW.out) hlt
        have hz := HBW.out.size
        have hxb2 : (ad.add (k * 3)).block < wr.heap.size := by rw [add_block]; omega
        have HX := Lib.hid hx
        have hal := (Below.refl wr.heap.size wr).alloc (Nat.le_refl _) (.cells #[.bool x.ret, .int .i64 x.v, .int .i64 x.l] 73)
        have hbw1 := HBW.out.trans (hal.mono HBW.out.size)
        have hp1 := P0.out.below hal P0.out.lt
        have hbx := Blk.new wr 73 #[.bool x.ret, .int .i64 x.v, .int .i64 x.l]
        have hc := HONE.out x _ hbw1
        obtain ⟨W1, hW1⟩ : ∃ W1, wr.alloc (.cells #[.bool x.ret, .int .i64 x.v, .int .i64 x.l] 73) = W1 := ⟨_, rfl⟩
        rw [hW1] at hbw1 hp1 hbx hc
        have a0 : W1.cell? ⟨w.heap.size, 0, none⟩ = some (.slice N names.length c1) := hp1.cell 0
        have a1 : W1.cell? ⟨w.heap.size, 1, none⟩ = some (.slice U up.length c2) := hp1.cell 1
        have s0 := hbx.cell 0
        have s1 := hbx.cell 1
        have s2 := hbx.cell 2
        have HB1 := Lib.hid hbw1
        have HP1 := Lib.hid hp1
        have hz1 := hbw1.size
        clear hx hal hbw1 hp1 hbx P0
        cases hi : St.slotB up.length x with
        | true =>
          have HC := Lib.hid (show Calls _ _ _ _ (Tells W1 true) by rw [← hi]; exact hc)
          have HI := Lib.hid hi
          clear hi hc
          go_wp2_with (fail)
          refine HC.out.mono ?_
          rintro e w2 ⟨rfl, hb2⟩
          have HB2 := Lib.hid (HB1.out.trans (hb2.mono HB1.out.size))
          have HP2 := Lib.hid (HP1.out.below hb2 HP1.out.lt)
          clear hb2 a0 a1 s0 s1 s2
          go_wp2
          go_roundw
          case rel => exact ⟨k + 1, by omega, by go_num, Lib.hid fun j u hj hu => by
            rcases Nat.lt_or_eq_of_le (Nat.le_of_lt_succ hj) with h | rfl
            · exact HS.out j u h hu
            · rw [HX.out] at hu
              injection hu with hu
              rw [← hu]; exact HI.out, HB2, HP2⟩
          case measure => simp [intOf]; omega
        | false =>
          have HC := Lib.hid (show Calls _ _ _ _ (Tells W1 false) by rw [← hi]; exact hc)
          have HR2 := Lib.hid (show false = res by rw [← HRES.out]; exact (all_no HX.out hi).symm)
          clear hi hc
          go_wp2_with (fail)
          refine HC.out.mono ?_
          rintro e w2 ⟨rfl, hb2⟩
          have HB2 := Lib.hid (HB1.out.trans (hb2.mono HB1.out.size))
          clear hb2
          go_wp2
          go_ret
          exact ⟨retb HR2.out, HB2.out⟩
      · obtain rfl : k = l.length := by omega
        have HR2 := Lib.hid (show true = res by rw [← HRES.out]; exact (all_yes (by omega) fun j x hx => HS.out j x (List.getElem?_eq_some_iff.1 hx).1 hx).symm)
        go_wp2
        go_ret
        exact ⟨retb HR2.out, HBW.out⟩
end
def pubS (names : List ByteArray) (up : List Nat) (s : St.State) : Bool := decide (checkN names up = 0) && St.rightB up.length s
/-- Few enough of each. -/
structure SmallS (s : St.State) : Prop where
  code : s.code.length ≤ 1000
  mem : s.mem.length ≤ 1000
  stack : s.stack.length ≤ 1000
  out : s.out.length ≤ 1000
theorem pubS_five (names : List ByteArray) (up : List Nat) (s : St.State) : pubS names up s = (Cd.pubB names up s.code && ((St.pcB s.pc.v && St.labB up.length s.pc.l) && ((decide (s.mem.length ≤ 6) && s.mem.all (St.atomB up.length)) && ((decide (s.stack.length ≤ 12) && s.stack.all (St.slotB up.length)) && (decide (s.out.length ≤ 8) && s.out.all (St.atomB up.length)))))) := by
  unfold pubS St.rightB Cd.pubB
  simp only [Bool.and_assoc]
set_option maxHeartbeats 8000000 in
theorem sright_any {v sv : Value} {names : List ByteArray} {up : List Nat} {s : St.State} (w : World) (h : IsLat w w.heap.size v names up) (hs : IsSt w w.heap.size sv s) (hsm : SmallS s) :
    Calls Tryz.prog 20 #[v, sv] w (Tells w (pubS names up s)) := by
  obtain ⟨⟨N, U, c1, c2, rfl, hN, hU⟩, hsh, hfew, hcaps⟩ := id h
  obtain ⟨⟨pv, pl⟩, code, mem, stack, out⟩ := s
  obtain ⟨cv, mv, stv_, ov, rfl, ⟨cA, cc, rfl, hcr, hcc⟩, ⟨mA, mc, rfl, hmr, hmc⟩, ⟨sA, sc, rfl, hsr, hsc⟩, ⟨oA, oc, rfl, hor, hoc⟩⟩ := hs
  obtain ⟨hs1, hs2, hs3, hs4⟩ := hsm
  rw [pubS_five]
  dsimp only at hcr hcc hmr hmc hsr hsc hor hoc hs1 hs2 hs3 hs4 ⊢
  unfold stv
  dsimp only
  have HC1 := Lib.hid (fun W (hb : Below w.heap.size w W) => cRight_any cc W ((h.below hb).more hb.size) ((hcr.below hb).more hb.size) hs1)
  have HC2 := Lib.hid (fun W (hb : Below w.heap.size w W) => sisPlace_any ⟨pv, pl⟩ W ((h.below hb).more hb.size))
  have HC3 := Lib.hid (fun W (hb : Below w.heap.size w W) => allA_any mc 6 (by decide) W ((h.below hb).more hb.size) ((hmr.below hb).more hb.size) hs2)
  have HC4 := Lib.hid (fun W (hb : Below w.heap.size w W) => allS_any sc 12 (by decide) W ((h.below hb).more hb.size) ((hsr.below hb).more hb.size) hs3)
  have HC5 := Lib.hid (fun W (hb : Below w.heap.size w W) => allA_any oc 8 (by decide) W ((h.below hb).more hb.size) ((hor.below hb).more hb.size) hs4)
  have hb := (((Below.refl _ w).alloc (Nat.le_refl _) (.cells #[.slice N names.length c1, .slice U up.length c2] 25)).alloc (by simp) (.cells #[.int .i64 pv, .int .i64 pl, .slice cA code.length cc, .slice mA mem.length mc, .slice sA stack.length sc, .slice oA out.length oc] 42))
  obtain ⟨W0, hW0⟩ : ∃ W0, (w.alloc (.cells #[.slice N names.length c1, .slice U up.length c2] 25)).alloc (.cells #[.int .i64 pv, .int .i64 pl, .slice cA code.length cc, .slice mA mem.length mc, .slice sA stack.length sc, .slice oA out.length oc] 42) = W0 := ⟨_, rfl⟩
  have hp0 : Blk W0 w.heap.size 25 #[.slice N names.length c1, .slice U up.length c2] := hW0 ▸ (Blk.new _ _ _).alloc _
  have hp1 : Blk W0 (w.heap.size + 1) 42 #[.int .i64 pv, .int .i64 pl, .slice cA code.length cc, .slice mA mem.length mc, .slice sA stack.length sc, .slice oA out.length oc] := by
    have h1 := Blk.new (w.alloc (.cells #[.slice N names.length c1, .slice U up.length c2] 25)) 42 #[.int .i64 pv, .int .i64 pl, .slice cA code.length cc, .slice mA mem.length mc, .slice sA stack.length sc, .slice oA out.length oc]
    rw [show (w.alloc (.cells #[.slice N names.length c1, .slice U up.length c2] 25)).heap.size = w.heap.size + 1 by simp] at h1
    rw [← hW0]; exact h1
  rw [hW0] at hb
  clear h hN hU hcr hmr hsr hor
  have a0 : W0.cell? ⟨w.heap.size, 0, none⟩ = some (.slice N names.length c1) := hp0.cell 0
  have a1 : W0.cell? ⟨w.heap.size, 1, none⟩ = some (.slice U up.length c2) := hp0.cell 1
  have s0 : W0.cell? ⟨w.heap.size + 1, 0, none⟩ = some (.int .i64 pv) := hp1.cell 0
  have s1 : W0.cell? ⟨w.heap.size + 1, 1, none⟩ = some (.int .i64 pl) := hp1.cell 1
  have s2 : W0.cell? ⟨w.heap.size + 1, 2, none⟩ = some (.slice cA code.length cc) := hp1.cell 2
  have s3 : W0.cell? ⟨w.heap.size + 1, 3, none⟩ = some (.slice mA mem.length mc) := hp1.cell 3
  have s4 : W0.cell? ⟨w.heap.size + 1, 4, none⟩ = some (.slice sA stack.length sc) := hp1.cell 4
  have s5 : W0.cell? ⟨w.heap.size + 1, 5, none⟩ = some (.slice oA out.length oc) := hp1.cell 5
  have HB := Lib.hid hb
  have HP0 := Lib.hid hp0
  have HP1 := Lib.hid hp1
  clear hb hp0 hp1
  dsimp only at HC2
  generalize Cd.pubB names up code = b1 at *
  generalize (St.pcB pv && St.labB up.length pl) = b2 at *
  generalize (decide (mem.length ≤ 6) && mem.all (St.atomB up.length)) = b3 at *
  generalize (decide (stack.length ≤ 12) && stack.all (St.slotB up.length)) = b4 at *
  generalize (decide (out.length ≤ 8) && out.all (St.atomB up.length)) = b5 at *
  cases b1 with
  | false =>
    rw [Bool.false_and]
    go_enter Tryz.func20, Tryz.ntmps20
    go_wp2_with (fail)
    refine (HC1.out W0 HB.out).mono ?_
    rintro e W1 ⟨rfl, hb9⟩
    have HB9 := Lib.hid (HB.out.trans (hb9.mono HB.out.size))
    clear hb9 a0 a1 s0 s1 s2 s3 s4 s5
    go_wp2
    go_ret
    exact ⟨rfl, HB9.out⟩
  | true =>
    rw [Bool.true_and]
    cases b2 with
    | false =>
      rw [Bool.false_and]
      go_enter Tryz.func20, Tryz.ntmps20
      go_wp2_with (fail)
      refine (HC1.out W0 HB.out).mono ?_
      rintro e W1 ⟨rfl, hb9⟩
      have hp0 := HP0.out.below hb9 HP0.out.lt
      have hp1 := HP1.out.below hb9 HP1.out.lt
      have hb := HB.out.trans (hb9.mono HB.out.size)
      clear hb9 HB HP0 HP1 a0 a1 s0 s1 s2 s3 s4 s5
      have a0 : W1.cell? ⟨w.heap.size, 0, none⟩ = some (.slice N names.length c1) := hp0.cell 0
      have a1 : W1.cell? ⟨w.heap.size, 1, none⟩ = some (.slice U up.length c2) := hp0.cell 1
      have s0 : W1.cell? ⟨w.heap.size + 1, 0, none⟩ = some (.int .i64 pv) := hp1.cell 0
      have s1 : W1.cell? ⟨w.heap.size + 1, 1, none⟩ = some (.int .i64 pl) := hp1.cell 1
      have s2 : W1.cell? ⟨w.heap.size + 1, 2, none⟩ = some (.slice cA code.length cc) := hp1.cell 2
      have s3 : W1.cell? ⟨w.heap.size + 1, 3, none⟩ = some (.slice mA mem.length mc) := hp1.cell 3
      have s4 : W1.cell? ⟨w.heap.size + 1, 4, none⟩ = some (.slice sA stack.length sc) := hp1.cell 4
      have s5 : W1.cell? ⟨w.heap.size + 1, 5, none⟩ = some (.slice oA out.length oc) := hp1.cell 5
      have HB := Lib.hid hb
      have HP0 := Lib.hid hp0
      have HP1 := Lib.hid hp1
      clear hb hp0 hp1
      go_wp2_with (fail)
      refine (HC2.out W1 HB.out).mono ?_
      rintro e W2 ⟨rfl, hb9⟩
      have HB9 := Lib.hid (HB.out.trans (hb9.mono HB.out.size))
      clear hb9 a0 a1 s0 s1 s2 s3 s4 s5
      go_wp2
      go_ret
      exact ⟨rfl, HB9.out⟩
    | true =>
      rw [Bool.true_and]
      cases b3 with
      | false =>
        rw [Bool.false_and]
        go_enter Tryz.func20, Tryz.ntmps20
        go_wp2_with (fail)
        refine (HC1.out W0 HB.out).mono ?_
        rintro e W1 ⟨rfl, hb9⟩
        have hp0 := HP0.out.below hb9 HP0.out.lt
        have hp1 := HP1.out.below hb9 HP1.out.lt
        have hb := HB.out.trans (hb9.mono HB.out.size)
        clear hb9 HB HP0 HP1 a0 a1 s0 s1 s2 s3 s4 s5
        have a0 : W1.cell? ⟨w.heap.size, 0, none⟩ = some (.slice N names.length c1) := hp0.cell 0
        have a1 : W1.cell? ⟨w.heap.size, 1, none⟩ = some (.slice U up.length c2) := hp0.cell 1
        have s0 : W1.cell? ⟨w.heap.size + 1, 0, none⟩ = some (.int .i64 pv) := hp1.cell 0
        have s1 : W1.cell? ⟨w.heap.size + 1, 1, none⟩ = some (.int .i64 pl) := hp1.cell 1
        have s2 : W1.cell? ⟨w.heap.size + 1, 2, none⟩ = some (.slice cA code.length cc) := hp1.cell 2
        have s3 : W1.cell? ⟨w.heap.size + 1, 3, none⟩ = some (.slice mA mem.length mc) := hp1.cell 3
        have s4 : W1.cell? ⟨w.heap.size + 1, 4, none⟩ = some (.slice sA stack.length sc) := hp1.cell 4
        have s5 : W1.cell? ⟨w.heap.size + 1, 5, none⟩ = some (.slice oA out.length oc) := hp1.cell 5
        have HB := Lib.hid hb
        have HP0 := Lib.hid hp0
        have HP1 := Lib.hid hp1
        clear hb hp0 hp1
        go_wp2_with (fail)
        refine (HC2.out W1 HB.out).mono ?_
        rintro e W2 ⟨rfl, hb9⟩
        have hp0 := HP0.out.below hb9 HP0.out.lt
        have hp1 := HP1.out.below hb9 HP1.out.lt
        have hb := HB.out.trans (hb9.mono HB.out.size)
        clear hb9 HB HP0 HP1 a0 a1 s0 s1 s2 s3 s4 s5
        have a0 : W2.cell? ⟨w.heap.size, 0, none⟩ = some (.slice N names.length c1) := hp0.cell 0
        have a1 : W2.cell? ⟨w.heap.size, 1, none⟩ = some (.slice U up.length c2) := hp0.cell 1
        have s0 : W2.cell? ⟨w.heap.size + 1, 0, none⟩ = some (.int .i64 pv) := hp1.cell 0
        have s1 : W2.cell? ⟨w.heap.size + 1, 1, none⟩ = some (.int .i64 pl) := hp1.cell 1
        have s2 : W2.cell? ⟨w.heap.size + 1, 2, none⟩ = some (.slice cA code.length cc) := hp1.cell 2
        have s3 : W2.cell? ⟨w.heap.size + 1, 3, none⟩ = some (.slice mA mem.length mc) := hp1.cell 3
        have s4 : W2.cell? ⟨w.heap.size + 1, 4, none⟩ = some (.slice sA stack.length sc) := hp1.cell 4
        have s5 : W2.cell? ⟨w.heap.size + 1, 5, none⟩ = some (.slice oA out.length oc) := hp1.cell 5
        have HB := Lib.hid hb
        have HP0 := Lib.hid hp0
        have HP1 := Lib.hid hp1
        clear hb hp0 hp1
        go_wp2_with (fail)
        refine (HC3.out W2 HB.out).mono ?_
        rintro e W3 ⟨rfl, hb9⟩
        have HB9 := Lib.hid (HB.out.trans (hb9.mono HB.out.size))
        clear hb9 a0 a1 s0 s1 s2 s3 s4 s5
        go_wp2
        go_ret
        exact ⟨rfl, HB9.out⟩
      | true =>
        rw [Bool.true_and]
        cases b4 with
        | false =>
          rw [Bool.false_and]
          go_enter Tryz.func20, Tryz.ntmps20
          go_wp2_with (fail)
          refine (HC1.out W0 HB.out).mono ?_
          rintro e W1 ⟨rfl, hb9⟩
          have hp0 := HP0.out.below hb9 HP0.out.lt
          have hp1 := HP1.out.below hb9 HP1.out.lt
          have hb := HB.out.trans (hb9.mono HB.out.size)
          clear hb9 HB HP0 HP1 a0 a1 s0 s1 s2 s3 s4 s5
          have a0 : W1.cell? ⟨w.heap.size, 0, none⟩ = some (.slice N names.length c1) := hp0.cell 0
          have a1 : W1.cell? ⟨w.heap.size, 1, none⟩ = some (.slice U up.length c2) := hp0.cell 1
          have s0 : W1.cell? ⟨w.heap.size + 1, 0, none⟩ = some (.int .i64 pv) := hp1.cell 0
          have s1 : W1.cell? ⟨w.heap.size + 1, 1, none⟩ = some (.int .i64 pl) := hp1.cell 1
          have s2 : W1.cell? ⟨w.heap.size + 1, 2, none⟩ = some (.slice cA code.length cc) := hp1.cell 2
          have s3 : W1.cell? ⟨w.heap.size + 1, 3, none⟩ = some (.slice mA mem.length mc) := hp1.cell 3
          have s4 : W1.cell? ⟨w.heap.size + 1, 4, none⟩ = some (.slice sA stack.length sc) := hp1.cell 4
          have s5 : W1.cell? ⟨w.heap.size + 1, 5, none⟩ = some (.slice oA out.length oc) := hp1.cell 5
          have HB := Lib.hid hb
          have HP0 := Lib.hid hp0
          have HP1 := Lib.hid hp1
          clear hb hp0 hp1
          go_wp2_with (fail)
          refine (HC2.out W1 HB.out).mono ?_
          rintro e W2 ⟨rfl, hb9⟩
          have hp0 := HP0.out.below hb9 HP0.out.lt
          have hp1 := HP1.out.below hb9 HP1.out.lt
          have hb := HB.out.trans (hb9.mono HB.out.size)
          clear hb9 HB HP0 HP1 a0 a1 s0 s1 s2 s3 s4 s5
          have a0 : W2.cell? ⟨w.heap.size, 0, none⟩ = some (.slice N names.length c1) := hp0.cell 0
          have a1 : W2.cell? ⟨w.heap.size, 1, none⟩ = some (.slice U up.length c2) := hp0.cell 1
          have s0 : W2.cell? ⟨w.heap.size + 1, 0, none⟩ = some (.int .i64 pv) := hp1.cell 0
          have s1 : W2.cell? ⟨w.heap.size + 1, 1, none⟩ = some (.int .i64 pl) := hp1.cell 1
          have s2 : W2.cell? ⟨w.heap.size + 1, 2, none⟩ = some (.slice cA code.length cc) := hp1.cell 2
          have s3 : W2.cell? ⟨w.heap.size + 1, 3, none⟩ = some (.slice mA mem.length mc) := hp1.cell 3
          have s4 : W2.cell? ⟨w.heap.size + 1, 4, none⟩ = some (.slice sA stack.length sc) := hp1.cell 4
          have s5 : W2.cell? ⟨w.heap.size + 1, 5, none⟩ = some (.slice oA out.length oc) := hp1.cell 5
          have HB := Lib.hid hb
          have HP0 := Lib.hid hp0
          have HP1 := Lib.hid hp1
          clear hb hp0 hp1
          go_wp2_with (fail)
          refine (HC3.out W2 HB.out).mono ?_
          rintro e W3 ⟨rfl, hb9⟩
          have hp0 := HP0.out.below hb9 HP0.out.lt
          have hp1 := HP1.out.below hb9 HP1.out.lt
          have hb := HB.out.trans (hb9.mono HB.out.size)
          clear hb9 HB HP0 HP1 a0 a1 s0 s1 s2 s3 s4 s5
          have a0 : W3.cell? ⟨w.heap.size, 0, none⟩ = some (.slice N names.length c1) := hp0.cell 0
          have a1 : W3.cell? ⟨w.heap.size, 1, none⟩ = some (.slice U up.length c2) := hp0.cell 1
          have s0 : W3.cell? ⟨w.heap.size + 1, 0, none⟩ = some (.int .i64 pv) := hp1.cell 0
          have s1 : W3.cell? ⟨w.heap.size + 1, 1, none⟩ = some (.int .i64 pl) := hp1.cell 1
          have s2 : W3.cell? ⟨w.heap.size + 1, 2, none⟩ = some (.slice cA code.length cc) := hp1.cell 2
          have s3 : W3.cell? ⟨w.heap.size + 1, 3, none⟩ = some (.slice mA mem.length mc) := hp1.cell 3
          have s4 : W3.cell? ⟨w.heap.size + 1, 4, none⟩ = some (.slice sA stack.length sc) := hp1.cell 4
          have s5 : W3.cell? ⟨w.heap.size + 1, 5, none⟩ = some (.slice oA out.length oc) := hp1.cell 5
          have HB := Lib.hid hb
          have HP0 := Lib.hid hp0
          have HP1 := Lib.hid hp1
          clear hb hp0 hp1
          go_wp2_with (fail)
          refine (HC4.out W3 HB.out).mono ?_
          rintro e W4 ⟨rfl, hb9⟩
          have HB9 := Lib.hid (HB.out.trans (hb9.mono HB.out.size))
          clear hb9 a0 a1 s0 s1 s2 s3 s4 s5
          go_wp2
          go_ret
          exact ⟨rfl, HB9.out⟩
        | true =>
          rw [Bool.true_and]
          go_enter Tryz.func20, Tryz.ntmps20
          go_wp2_with (fail)
          refine (HC1.out W0 HB.out).mono ?_
          rintro e W1 ⟨rfl, hb9⟩
          have hp0 := HP0.out.below hb9 HP0.out.lt
          have hp1 := HP1.out.below hb9 HP1.out.lt
          have hb := HB.out.trans (hb9.mono HB.out.size)
          clear hb9 HB HP0 HP1 a0 a1 s0 s1 s2 s3 s4 s5
          have a0 : W1.cell? ⟨w.heap.size, 0, none⟩ = some (.slice N names.length c1) := hp0.cell 0
          have a1 : W1.cell? ⟨w.heap.size, 1, none⟩ = some (.slice U up.length c2) := hp0.cell 1
          have s0 : W1.cell? ⟨w.heap.size + 1, 0, none⟩ = some (.int .i64 pv) := hp1.cell 0
          have s1 : W1.cell? ⟨w.heap.size + 1, 1, none⟩ = some (.int .i64 pl) := hp1.cell 1
          have s2 : W1.cell? ⟨w.heap.size + 1, 2, none⟩ = some (.slice cA code.length cc) := hp1.cell 2
          have s3 : W1.cell? ⟨w.heap.size + 1, 3, none⟩ = some (.slice mA mem.length mc) := hp1.cell 3
          have s4 : W1.cell? ⟨w.heap.size + 1, 4, none⟩ = some (.slice sA stack.length sc) := hp1.cell 4
          have s5 : W1.cell? ⟨w.heap.size + 1, 5, none⟩ = some (.slice oA out.length oc) := hp1.cell 5
          have HB := Lib.hid hb
          have HP0 := Lib.hid hp0
          have HP1 := Lib.hid hp1
          clear hb hp0 hp1
          go_wp2_with (fail)
          refine (HC2.out W1 HB.out).mono ?_
          rintro e W2 ⟨rfl, hb9⟩
          have hp0 := HP0.out.below hb9 HP0.out.lt
          have hp1 := HP1.out.below hb9 HP1.out.lt
          have hb := HB.out.trans (hb9.mono HB.out.size)
          clear hb9 HB HP0 HP1 a0 a1 s0 s1 s2 s3 s4 s5
          have a0 : W2.cell? ⟨w.heap.size, 0, none⟩ = some (.slice N names.length c1) := hp0.cell 0
          have a1 : W2.cell? ⟨w.heap.size, 1, none⟩ = some (.slice U up.length c2) := hp0.cell 1
          have s0 : W2.cell? ⟨w.heap.size + 1, 0, none⟩ = some (.int .i64 pv) := hp1.cell 0
          have s1 : W2.cell? ⟨w.heap.size + 1, 1, none⟩ = some (.int .i64 pl) := hp1.cell 1
          have s2 : W2.cell? ⟨w.heap.size + 1, 2, none⟩ = some (.slice cA code.length cc) := hp1.cell 2
          have s3 : W2.cell? ⟨w.heap.size + 1, 3, none⟩ = some (.slice mA mem.length mc) := hp1.cell 3
          have s4 : W2.cell? ⟨w.heap.size + 1, 4, none⟩ = some (.slice sA stack.length sc) := hp1.cell 4
          have s5 : W2.cell? ⟨w.heap.size + 1, 5, none⟩ = some (.slice oA out.length oc) := hp1.cell 5
          have HB := Lib.hid hb
          have HP0 := Lib.hid hp0
          have HP1 := Lib.hid hp1
          clear hb hp0 hp1
          go_wp2_with (fail)
          refine (HC3.out W2 HB.out).mono ?_
          rintro e W3 ⟨rfl, hb9⟩
          have hp0 := HP0.out.below hb9 HP0.out.lt
          have hp1 := HP1.out.below hb9 HP1.out.lt
          have hb := HB.out.trans (hb9.mono HB.out.size)
          clear hb9 HB HP0 HP1 a0 a1 s0 s1 s2 s3 s4 s5
          have a0 : W3.cell? ⟨w.heap.size, 0, none⟩ = some (.slice N names.length c1) := hp0.cell 0
          have a1 : W3.cell? ⟨w.heap.size, 1, none⟩ = some (.slice U up.length c2) := hp0.cell 1
          have s0 : W3.cell? ⟨w.heap.size + 1, 0, none⟩ = some (.int .i64 pv) := hp1.cell 0
          have s1 : W3.cell? ⟨w.heap.size + 1, 1, none⟩ = some (.int .i64 pl) := hp1.cell 1
          have s2 : W3.cell? ⟨w.heap.size + 1, 2, none⟩ = some (.slice cA code.length cc) := hp1.cell 2
          have s3 : W3.cell? ⟨w.heap.size + 1, 3, none⟩ = some (.slice mA mem.length mc) := hp1.cell 3
          have s4 : W3.cell? ⟨w.heap.size + 1, 4, none⟩ = some (.slice sA stack.length sc) := hp1.cell 4
          have s5 : W3.cell? ⟨w.heap.size + 1, 5, none⟩ = some (.slice oA out.length oc) := hp1.cell 5
          have HB := Lib.hid hb
          have HP0 := Lib.hid hp0
          have HP1 := Lib.hid hp1
          clear hb hp0 hp1
          go_wp2_with (fail)
          refine (HC4.out W3 HB.out).mono ?_
          rintro e W4 ⟨rfl, hb9⟩
          have hp0 := HP0.out.below hb9 HP0.out.lt
          have hp1 := HP1.out.below hb9 HP1.out.lt
          have hb := HB.out.trans (hb9.mono HB.out.size)
          clear hb9 HB HP0 HP1 a0 a1 s0 s1 s2 s3 s4 s5
          have a0 : W4.cell? ⟨w.heap.size, 0, none⟩ = some (.slice N names.length c1) := hp0.cell 0
          have a1 : W4.cell? ⟨w.heap.size, 1, none⟩ = some (.slice U up.length c2) := hp0.cell 1
          have s0 : W4.cell? ⟨w.heap.size + 1, 0, none⟩ = some (.int .i64 pv) := hp1.cell 0
          have s1 : W4.cell? ⟨w.heap.size + 1, 1, none⟩ = some (.int .i64 pl) := hp1.cell 1
          have s2 : W4.cell? ⟨w.heap.size + 1, 2, none⟩ = some (.slice cA code.length cc) := hp1.cell 2
          have s3 : W4.cell? ⟨w.heap.size + 1, 3, none⟩ = some (.slice mA mem.length mc) := hp1.cell 3
          have s4 : W4.cell? ⟨w.heap.size + 1, 4, none⟩ = some (.slice sA stack.length sc) := hp1.cell 4
          have s5 : W4.cell? ⟨w.heap.size + 1, 5, none⟩ = some (.slice oA out.length oc) := hp1.cell 5
          have HB := Lib.hid hb
          have HP0 := Lib.hid hp0
          have HP1 := Lib.hid hp1
          clear hb hp0 hp1
          go_wp2_with (fail)
          refine (HC5.out W4 HB.out).mono ?_
          rintro e W5 ⟨rfl, hb9⟩
          have HB9 := Lib.hid (HB.out.trans (hb9.mono HB.out.size))
          clear hb9 a0 a1 s0 s1 s2 s3 s4 s5
          go_wp2
          go_ret
          exact ⟨rfl, HB9.out⟩
end Go.Proofs.YtipbilmnknmhmaaGreatDoor

/- Walk of state.From (by gen_stmf.py). -/
namespace Go.Proofs.YtipbilmnknmhmaaGreatDoor
set_option maxRecDepth 100000
open Go.RowKit Go.Shelf Go.Sort
attribute [local go_sem] Oper.semAt_some
theorem rowP_len {names : List ByteArray} {l : List Lx.Tk} {most : Nat} {rets : Bool} : ∀ (n : Nat) (out : List St.Slot) (i : Nat), out.length ≤ most → (St.rowP names l most rets n out i).1.length ≤ most
  | 0, _, _, _ => Nat.zero_le _
  | n + 1, out, i, h => by
    unfold St.rowP
    by_cases hm : out.length = most
    · rw [if_pos hm]; exact Nat.zero_le _
    · rw [if_neg hm]
      by_cases h0 : (St.slotP names rets l i).2.2 = 0
      · rw [St.andP_yes h0]
        have hl : (out ++ [(St.slotP names rets l i).1]).length ≤ most := by simp; omega
        split
        · exact rowP_len n _ _ hl
        · split
          · exact hl
          · exact Nat.zero_le _
      · rw [St.andP_no h0]; exact Nat.zero_le _
theorem wordP_len {names : List ByteArray} {l : List Lx.Tk} {word : ByteArray} {most : Nat} {rets : Bool} {i : Nat} : (St.wordP names l word most rets i).1.length ≤ most := by
  unfold St.wordP
  by_cases h0 : (St.wordE l word i).2.2 = 0
  · rw [St.andP_yes h0]
    split
    · exact Nat.zero_le _
    · exact rowP_len _ _ _ (Nat.zero_le _)
  · rw [St.andP_no h0]; exact Nat.zero_le _
theorem andP_P {α β : Type} {P : β → Prop} {r : α × Nat × Nat} {z : β} {f : α → Nat → β × Nat × Nat} (hz : P z) (hf : P (f r.1 r.2.1).1) : P (St.andP r z f).1 := by
  by_cases h : r.2.2 = 0
  · rw [St.andP_yes h]; exact hf
  · rw [St.andP_no h]; exact hz
theorem small_zero : SmallS St.zero := ⟨Nat.zero_le _, Nat.zero_le _, Nat.zero_le _, Nat.zero_le _⟩
theorem fromP_len (names : List ByteArray) (k : Nat) (l : List Lx.Tk) (i : Nat) : (Cd.fromP names k l 13 [] i).1.length ≤ 1000 := by
  by_cases h : (Cd.fromP names k l 13 [] i).2.2 = 0
  · rcases Cd.fromP_right (l := l) names k 13 [] i rfl (fun x hx => by simp at hx) h with h1 | h1
    · unfold Cd.rightB at h1
      rw [Bool.and_eq_true] at h1
      have := of_decide_eq_true h1.1
      omega
    · cases h1
  · rw [fromP_nil names k l 13 [] i h]; exact Nat.zero_le _
theorem rawS_small (names : List ByteArray) (k : Nat) (l : List Lx.Tk) (i : Nat) : SmallS (rawS names k l i).1 := by
  unfold rawS
  refine andP_P (P := SmallS) small_zero ?_
  unfold raw2
  refine andP_P (P := SmallS) small_zero ?_
  have hc : (progP names k l (pcP names l i).2.1).1.length ≤ 1000 := by
    unfold progP
    exact andP_P (P := fun c : List Cd.In => c.length ≤ 1000) (Nat.zero_le _) (fromP_len _ _ _ _)
  generalize progP names k l (pcP names l i).2.1 = pp at *
  unfold raw3
  refine andP_P (P := SmallS) small_zero ?_
  unfold raw4
  refine andP_P (P := SmallS) small_zero ?_
  unfold raw5
  refine andP_P (P := SmallS) small_zero ?_
  have h6 := fun j => wordP_len (names := names) (l := l) (word := St.bMem) (most := 6) (rets := false) (i := j)
  have h12 := fun j => wordP_len (names := names) (l := l) (word := St.bStack) (most := 12) (rets := true) (i := j)
  have h8 := fun j => wordP_len (names := names) (l := l) (word := St.bOut) (most := 8) (rets := false) (i := j)
  refine ⟨hc, ?_, ?_, ?_⟩
  · dsimp only
    rw [List.length_map]
    exact Nat.le_trans (h6 _) (by decide)
  · exact Nat.le_trans (h12 _) (by decide)
  · dsimp only
    rw [List.length_map]
    exact Nat.le_trans (h8 _) (by decide)
/-- What From answers. -/
def SFromR (w : World) (r : St.State × Nat × Nat) (e : Ending) (w' : World) : Prop :=
  ∃ (a b : Int) (cA : Option Addr) (cn cc : Nat) (mA : Option Addr) (mn mc : Nat) (sA : Option Addr) (sn sc : Nat) (oA : Option Addr) (on oc : Nat), e = .returned (.tuple #[.agg #[.int .i64 a, .int .i64 b, .slice cA cn cc, .slice mA mn mc, .slice sA sn sc, .slice oA on oc], .int .i64 (r.2.1 : Nat), .int .i64 (r.2.2 : Nat)]) ∧
    KSt w.heap.size w' (.agg #[.int .i64 a, .int .i64 b, .slice cA cn cc, .slice mA mn mc, .slice sA sn sc, .slice oA on oc]) r.1 ∧ Below w.heap.size w w'
theorem KSt.zero (B : Nat) (w : World) : KSt B w zstv St.zero := ⟨_, _, _, _, rfl, KN.nil _ _ _, KN.nil _ _ _, KN.nil _ _ _, KN.nil _ _ _⟩
/-- Six cells of the block behind a call's first one are stored. -/
def ansF (w W : World) (a b c d e f : Value) : World := (((((W.setCell ⟨w.heap.size + 1, 0, none⟩ a).setCell ⟨w.heap.size + 1, 1, none⟩ b).setCell ⟨w.heap.size + 1, 2, none⟩ c).setCell ⟨w.heap.size + 1, 3, none⟩ d).setCell ⟨w.heap.size + 1, 4, none⟩ e).setCell ⟨w.heap.size + 1, 5, none⟩ f
theorem blk_ansF {w W : World} {t : TypeId} {a b c d e f y0 y1 y2 y3 y4 y5 : Value} (h : Blk W (w.heap.size + 1) t #[y0, y1, y2, y3, y4, y5]) : Blk (ansF w W a b c d e f) (w.heap.size + 1) t #[a, b, c, d, e, f] :=
  (((((h.set_ 0 a).set_ 1 b).set_ 2 c).set_ 3 d).set_ 4 e).set_ 5 f
theorem blk_otherF {w W : World} {t : TypeId} {g : Nat} {cs : Array Value} {a b c d e f : Value} (h : Blk W g t cs) (hg : g ≠ w.heap.size + 1) : Blk (ansF w W a b c d e f) g t cs :=
  (((((h.other (Ne.symm hg) a).other (Ne.symm hg) b).other (Ne.symm hg) c).other (Ne.symm hg) d).other (Ne.symm hg) e).other (Ne.symm hg) f
theorem Blk.drew9 {W : World} {t : TypeId} {g : Nat} {cs : Array Value} (h : Blk W g t cs) : Blk W.drew g t cs := h
theorem KSt.drew9 {B : Nat} {W : World} {v : Value} {s : St.State} (h : KSt B W v s) : KSt B W.drew v s := h.below (Below.refl _ _).drew
theorem below_ansF {w W w0 : World} {a b c d e f : Value} (h : Below w.heap.size w0 W) : Below w.heap.size w0 (ansF w W a b c d e f) :=
  (((((h.setCell (by show w.heap.size ≤ w.heap.size + 1; omega) a).setCell (by show w.heap.size ≤ w.heap.size + 1; omega) b).setCell (by show w.heap.size ≤ w.heap.size + 1; omega) c).setCell (by show w.heap.size ≤ w.heap.size + 1; omega) d).setCell (by show w.heap.size ≤ w.heap.size + 1; omega) e).setCell (by show w.heap.size ≤ w.heap.size + 1; omega) f
theorem KSt.ansF {w W : World} {B : Nat} {v : Value} {s : St.State} (h : KSt B W v s) (hB : w.heap.size + 1 < B) (a b c d e f : Value) : KSt B (ansF w W a b c d e f) v s :=
  (((((h.set_ (p := ⟨w.heap.size + 1, 0, none⟩) hB a).set_ (p := ⟨w.heap.size + 1, 1, none⟩) hB b).set_ (p := ⟨w.heap.size + 1, 2, none⟩) hB c).set_ (p := ⟨w.heap.size + 1, 3, none⟩) hB d).set_ (p := ⟨w.heap.size + 1, 4, none⟩) hB e).set_ (p := ⟨w.heap.size + 1, 5, none⟩) hB f
set_option maxHeartbeats 16000000 in
theorem sfrom_any {v : Value} {names : List ByteArray} {up : List Nat} {A : Option Addr} {l : List Lx.Tk} {p : Nat} (ct : Nat) (hf : Tb.Fine l) (hp : p < l.length) (hl : l.length ≤ 100000) (hz : checkN names up = 0) (w : World) (h : IsLat w w.heap.size v names up) (hr : Row w w.heap.size A (tcells l)) (hi : Ins w) :
    Calls Tryz.prog 60 #[v, .slice A l.length ct, .int .i64 (p : Int)] w (SFromR w (St.fromS names up.length l p)) := by
  obtain ⟨⟨N, U, c1, c2, rfl, hN, hU⟩, hsh, hfew, hcaps⟩ := id h
  have hb0 := (((Below.refl _ w).alloc (Nat.le_refl _) (.cells #[.slice N names.length c1, .slice U up.length c2] 25)).alloc (by simp) (.cells #[.int .i64 0, .int .i64 0, .slice none 0 0, .slice none 0 0, .slice none 0 0, .slice none 0 0] 42))
  obtain ⟨W0, hW0⟩ : ∃ W0, (w.alloc (.cells #[.slice N names.length c1, .slice U up.length c2] 25)).alloc (.cells #[.int .i64 0, .int .i64 0, .slice none 0 0, .slice none 0 0, .slice none 0 0, .slice none 0 0] 42) = W0 := ⟨_, rfl⟩
  have hp0 : Blk W0 w.heap.size 25 #[.slice N names.length c1, .slice U up.length c2] := hW0 ▸ (Blk.new _ _ _).alloc _
  have hy0 : Blk W0 (w.heap.size + 1) 42 #[.int .i64 0, .int .i64 0, .slice none 0 0, .slice none 0 0, .slice none 0 0, .slice none 0 0] := by
    have h1 := Blk.new (w.alloc (.cells #[.slice N names.length c1, .slice U up.length c2] 25)) 42 #[.int .i64 0, .int .i64 0, .slice none 0 0, .slice none 0 0, .slice none 0 0, .slice none 0 0]
    rw [show (w.alloc (.cells #[.slice N names.length c1, .slice U up.length c2] 25)).heap.size = w.heap.size + 1 by simp] at h1
    rw [← hW0]; exact h1
  have hsz0 : W0.heap.size = w.heap.size + 2 := by rw [← hW0]; simp
  rw [hW0] at hb0
  have HNF := Lib.hid (nfrom_any ct hf hp hl hz W0 ((h.below hb0).more hb0.size) ((hr.below hb0).more hb0.size))
  have HLAT := Lib.hid (fun W (hb : Below w.heap.size w W) => (h.below hb).more hb.size)
  have HINS := Lib.hid (fun W (hb : Below w.heap.size w W) => hi.below hb hi.lt)
  have HG := Lib.hid hi.lt
  have HP0 := Lib.hid hp0
  have HY0 := Lib.hid hy0
  have HB0 := Lib.hid hb0
  have a0 : W0.cell? ⟨w.heap.size, 0, none⟩ = some (.slice N names.length c1) := hp0.cell 0
  have a1 : W0.cell? ⟨w.heap.size, 1, none⟩ = some (.slice U up.length c2) := hp0.cell 1
  have hsm := rawS_small names up.length l p
  rw [fromS_raw]
  obtain ⟨⟨s, q, er⟩, hraw⟩ : ∃ r, rawS names up.length l p = r := ⟨_, rfl⟩
  rw [hraw] at hsm ⊢
  obtain ⟨res, hres⟩ : ∃ res, St.andP (s, q, er) St.zero (fun s j => St.endS up.length p s j) = res := ⟨_, rfl⟩
  rw [hres]
  have HSS := Lib.hid (fun R W (h : NRd R N U A c1 c2 ct names up l p W) (hi : Ins W) (hg : 0 < R) => sstate_any hf hz W h hi hg)
  rw [hraw] at HSS
  have HRS0 := Lib.hid hres
  have HSM := Lib.hid hsm
  have HPP := Lib.hid hp
  clear h hr hi hN hU hp0 hy0 hb0 hraw hres hsm
  go_enter Tryz.func60, Tryz.ntmps60
  go_wp2_with (fail)
  refine HNF.out.mono ?_
  rintro e w1 ⟨R, rfl, hRw, hrd, hb1⟩
  have hbw1 : Below w.heap.size w w1 := HB0.out.trans (hb1.mono HB0.out.size)
  have HR2 : Hid (w.heap.size + 2 ≤ R) := Lib.hid (by omega)
  have hgR : 0 < R := Nat.lt_of_lt_of_le HG.out (Nat.le_trans (by omega) HR2.out)
  have HC := Lib.hid (HSS.out R w1 hrd (HINS.out w1 hbw1) hgR)
  have HP1 := Lib.hid (HP0.out.below hb1 HP0.out.lt)
  have HY1 := Lib.hid (HY0.out.below hb1 HY0.out.lt)
  have HBW1 := Lib.hid hbw1
  have HZ1 := Lib.hid (show w.heap.size + 2 ≤ w1.heap.size by have := hb1.size; omega)
  clear hb1 hbw1 hrd hRw HNF HSS a0 a1 hgR
  go_wp2_with (fail)
  refine HC.out.mono ?_
  rintro e w2 ⟨a, b, cA, cn, cc, mA, mn, mc, sA, sn, sc, oA, on, oc, rfl, hks, hn2, hk2⟩
  have hal := (Below.refl _ w2).alloc (Nat.le_refl _) (.cells #[.int .i64 a, .int .i64 b, .slice cA cn cc, .slice mA mn mc, .slice sA sn sc, .slice oA on oc] 42)
  have hbx := Blk.new w2 42 #[.int .i64 a, .int .i64 b, .slice cA cn cc, .slice mA mn mc, .slice sA sn sc, .slice oA on oc]
  have hn3 := hn2.keep hal
  have hr2 := HR2.out
  have hz1 := HZ1.out
  have hk3 : Kept R R w1 (w2.alloc (.cells #[.int .i64 a, .int .i64 b, .slice cA cn cc, .slice mA mn mc, .slice sA sn sc, .slice oA on oc] 42)) := hk2.trans (.of hal)
  have hp3 : Blk (w2.alloc (.cells #[.int .i64 a, .int .i64 b, .slice cA cn cc, .slice mA mn mc, .slice sA sn sc, .slice oA on oc] 42)) w.heap.size 25 #[.slice N names.length c1, .slice U up.length c2] := (hk3.block _ HP1.out.lt (by omega) (by omega)).trans HP1.out
  have hy3 : Blk (w2.alloc (.cells #[.int .i64 a, .int .i64 b, .slice cA cn cc, .slice mA mn mc, .slice sA sn sc, .slice oA on oc] 42)) (w.heap.size + 1) 42 #[.int .i64 0, .int .i64 0, .slice none 0 0, .slice none 0 0, .slice none 0 0, .slice none 0 0] := (hk3.block _ HY1.out.lt (by omega) (by omega)).trans HY1.out
  have hb3 : Below w.heap.size w (w2.alloc (.cells #[.int .i64 a, .int .i64 b, .slice cA cn cc, .slice mA mn mc, .slice sA sn sc, .slice oA on oc] 42)) := HBW1.out.trans (hk3.below HBW1.out.size (by omega) (by omega))
  have hks3 := fun h => (hks h).below hal
  have hz3 := hal.size
  have hz2 := hk2.size
  obtain ⟨W3, hW3⟩ : ∃ W3, w2.alloc (.cells #[.int .i64 a, .int .i64 b, .slice cA cn cc, .slice mA mn mc, .slice sA sn sc, .slice oA on oc] 42) = W3 := ⟨_, rfl⟩
  rw [hW3] at hal hbx hn3 hk3 hp3 hy3 hb3 hks3 hz3
  have HN := Lib.hid hn3
  have HB := Lib.hid hb3
  have HP := Lib.hid hp3
  have HY := Lib.hid hy3
  have HX := Lib.hid hbx
  have HKS : Hid (er = 0 → KSt w1.heap.size W3 (.agg #[.int .i64 a, .int .i64 b, .slice cA cn cc, .slice mA mn mc, .slice sA sn sc, .slice oA on oc]) s) := Lib.hid hks3
  have c3 := hn3.c3
  have hRl := hn3.lt
  have hbxl := hbx.lt
  clear hal hbx hn2 hn3 hk2 hk3 hp3 hy3 hb3 hks hks3 HC HY1 HP1 HY0 HP0
  by_cases her : er = 0
  · have hks := HKS.out her
    have hsr := sright_any W3 (HLAT.out W3 HB.out) hks.isSt HSM.out
    have a0 : W3.cell? ⟨w.heap.size, 0, none⟩ = some (.slice N names.length c1) := HP.out.cell 0
    have a1 : W3.cell? ⟨w.heap.size, 1, none⟩ = some (.slice U up.length c2) := HP.out.cell 1
    have x0 : W3.cell? ⟨w2.heap.size, 0, none⟩ = some (.int .i64 a) := HX.out.cell 0
    have x1 : W3.cell? ⟨w2.heap.size, 1, none⟩ = some (.int .i64 b) := HX.out.cell 1
    have x2 : W3.cell? ⟨w2.heap.size, 2, none⟩ = some (.slice cA cn cc) := HX.out.cell 2
    have x3 : W3.cell? ⟨w2.heap.size, 3, none⟩ = some (.slice mA mn mc) := HX.out.cell 3
    have x4 : W3.cell? ⟨w2.heap.size, 4, none⟩ = some (.slice sA sn sc) := HX.out.cell 4
    have x5 : W3.cell? ⟨w2.heap.size, 5, none⟩ = some (.slice oA on oc) := HX.out.cell 5
    have hpub : pubS names up s = St.rightB up.length s := by unfold pubS; rw [decide_eq_true hz, Bool.true_and]
    rw [hpub] at hsr
    subst her
    rw [St.andP_do] at HRS0
    unfold St.endS at HRS0
    have HKS3 := Lib.hid hks
    have HSR := Lib.hid hsr
    clear hks hsr hpub HKS
    cases hrb : St.rightB up.length s with
    | true =>
      rw [hrb] at HSR
      have HRS : Hid ((s, q, 0) = res) := Lib.hid (by rw [← HRS0.out, hrb, if_pos rfl])
      clear hrb HRS0
      go_wp2_with (fail)
      refine HSR.out.mono ?_
      rintro e w4 ⟨rfl, hb4⟩
      have hn4 := HN.out.keep hb4
      have c3' := hn4.c3
      have hy4 := HY.out.below hb4 HY.out.lt
      have hx4 := HX.out.below hb4 HX.out.lt
      have hbb := HB.out.trans (hb4.mono HB.out.size)
      have hks4 := HKS3.out.below hb4
      have hR4 := hn4.lt
      have hx4l := hx4.lt
      have z0 : w4.cell? ⟨w2.heap.size, 0, none⟩ = some (.int .i64 a) := hx4.cell 0
      have z1 : w4.cell? ⟨w2.heap.size, 1, none⟩ = some (.int .i64 b) := hx4.cell 1
      have z2 : w4.cell? ⟨w2.heap.size, 2, none⟩ = some (.slice cA cn cc) := hx4.cell 2
      have z3 : w4.cell? ⟨w2.heap.size, 3, none⟩ = some (.slice mA mn mc) := hx4.cell 3
      have z4 : w4.cell? ⟨w2.heap.size, 4, none⟩ = some (.slice sA sn sc) := hx4.cell 4
      have z5 : w4.cell? ⟨w2.heap.size, 5, none⟩ = some (.slice oA on oc) := hx4.cell 5
      clear HY HB HN HX HSR HP c3 a0 a1 x0 x1 x2 x3 x4 x5
      have HY := Lib.hid hy4
      have HB := Lib.hid hbb
      have HK4 := Lib.hid hks4
      have HXE := Lib.hid hx4
      have HRE := Lib.hid hn4.blk
      have hr2' := HR2.out
      clear hb4 hn4 hy4 hx4 hbb hks4 HKS3
      have hyv : Blk (ansF w w4 (.int .i64 a) (.int .i64 b) (.slice cA cn cc) (.slice mA mn mc) (.slice sA sn sc) (.slice oA on oc)).drew (w.heap.size + 1) 42 #[.int .i64 a, .int .i64 b, .slice cA cn cc, .slice mA mn mc, .slice sA sn sc, .slice oA on oc] := (blk_ansF HY.out).drew9
      have hbv : Below w.heap.size w (ansF w w4 (.int .i64 a) (.int .i64 b) (.slice cA cn cc) (.slice mA mn mc) (.slice sA sn sc) (.slice oA on oc)).drew := (below_ansF HB.out).drew
      have hkv := ((HK4.out.ansF (show w.heap.size + 1 < w1.heap.size by omega) (.int .i64 a) (.int .i64 b) (.slice cA cn cc) (.slice mA mn mc) (.slice sA sn sc) (.slice oA on oc)).drew9).less (show w.heap.size ≤ w1.heap.size by omega)
      have y0 : w4.cell? ⟨w.heap.size + 1, 0, none⟩ = some (.int .i64 0) := HY.out.cell 0
      have f0 : w4.frozen? ⟨w.heap.size + 1, 0, none⟩ = false := HY.out.frozen 0
      have v0 := hyv.cell 0
      have y1 : w4.cell? ⟨w.heap.size + 1, 1, none⟩ = some (.int .i64 0) := HY.out.cell 1
      have f1 : w4.frozen? ⟨w.heap.size + 1, 1, none⟩ = false := HY.out.frozen 1
      have v1 := hyv.cell 1
      have y2 : w4.cell? ⟨w.heap.size + 1, 2, none⟩ = some (.slice none 0 0) := HY.out.cell 2
      have f2 : w4.frozen? ⟨w.heap.size + 1, 2, none⟩ = false := HY.out.frozen 2
      have v2 := hyv.cell 2
      have y3 : w4.cell? ⟨w.heap.size + 1, 3, none⟩ = some (.slice none 0 0) := HY.out.cell 3
      have f3 : w4.frozen? ⟨w.heap.size + 1, 3, none⟩ = false := HY.out.frozen 3
      have v3 := hyv.cell 3
      have y4 : w4.cell? ⟨w.heap.size + 1, 4, none⟩ = some (.slice none 0 0) := HY.out.cell 4
      have f4 : w4.frozen? ⟨w.heap.size + 1, 4, none⟩ = false := HY.out.frozen 4
      have v4 := hyv.cell 4
      have y5 : w4.cell? ⟨w.heap.size + 1, 5, none⟩ = some (.slice none 0 0) := HY.out.cell 5
      have f5 : w4.frozen? ⟨w.heap.size + 1, 5, none⟩ = false := HY.out.frozen 5
      have v5 := hyv.cell 5
      have HBV := Lib.hid hbv
      have HKV := Lib.hid hkv
      have hylt := HY.out.lt
      unfold ansF at v0 v1 v2 v3 v4 v5 HBV HKV
      clear hyv hbv hkv
      go_wp2_with (fail)
      have hxv : Blk (ansF w w4 (.int .i64 a) (.int .i64 b) (.slice cA cn cc) (.slice mA mn mc) (.slice sA sn sc) (.slice oA on oc)).drew w2.heap.size 42 _ := (blk_otherF HXE.out (by omega)).drew9
      have hrv : Blk (ansF w w4 (.int .i64 a) (.int .i64 b) (.slice cA cn cc) (.slice mA mn mc) (.slice sA sn sc) (.slice oA on oc)).drew R 126 _ := (blk_otherF HRE.out (by omega)).drew9
      unfold ansF at hxv hrv
      refine Free.region_seq [5] [0, 4] 8 (fun W' => W'.cell? ⟨w2.heap.size, 0, none⟩ = some (.int .i64 a) ∧ W'.cell? ⟨w2.heap.size, 1, none⟩ = some (.int .i64 b) ∧ W'.cell? ⟨w2.heap.size, 2, none⟩ = some (.slice cA cn cc) ∧ W'.cell? ⟨w2.heap.size, 3, none⟩ = some (.slice mA mn mc) ∧ W'.cell? ⟨w2.heap.size, 4, none⟩ = some (.slice sA sn sc) ∧ W'.cell? ⟨w2.heap.size, 5, none⟩ = some (.slice oA on oc) ∧ W'.cell? ⟨R, 3, none⟩ = some (.int .i64 (q : Int))) (by kernel_rfl) (by kernel_rfl) (by kernel_rfl) (by kernel_rfl) (⟨z0, z1, z2, z3, z4, z5, c3'⟩) (fun ops hops => ?_)
      clear hops
      iterate 5
        refine Free.Seq.quiet (v := ?_) (a' := ?_) rfl rfl (fun W' hW' => ?_) ?_ ?_
        rotate_left 2
        · first | obtain ⟨s0, s1, s2, s3, s4, s5, s6⟩ := hW' rfl | skip
          go_simp
          try with_reducible rfl
        · simp only [Act.put, List.setIfInBounds_toArray, List.set_cons_zero, List.set_cons_succ]
          try with_reducible rfl
      refine Free.Seq.loud_ rfl (.inl rfl) (fun K hK => ?_)
      go_simp
      refine hK.out _ _ rfl (fun _ => ⟨hxv.cell 0, hxv.cell 1, hxv.cell 2, hxv.cell 3, hxv.cell 4, hxv.cell 5, hrv.cell 3⟩) ?_
      clear hK K
      iterate 2
        refine Free.Seq.quiet (v := ?_) (a' := ?_) rfl rfl (fun W' hW' => ?_) ?_ ?_
        rotate_left 2
        · skip
          go_simp
          try with_reducible rfl
        · simp only [Act.put, List.setIfInBounds_toArray, List.set_cons_zero, List.set_cons_succ]
          try with_reducible rfl
      refine Free.Seq.nil_ ?_
      go_wp2
      refine bodyPost_ret (v := .tuple #[.agg #[.int .i64 a, .int .i64 b, .slice cA cn cc, .slice mA mn mc, .slice sA sn sc, .slice oA on oc], .int .i64 (q : Nat), .int .i64 (0 : Nat)]) (by simp [results, Tryz.results60, go_sem, v0, v1, v2, v3, v4, v5]) rfl ?_
      rw [← HRS.out]
      exact ⟨a, b, cA, cn, cc, mA, mn, mc, sA, sn, sc, oA, on, oc, rfl, HKV.out, HBV.out⟩
    | false =>
      rw [hrb] at HSR
      have HRS : Hid ((St.zero, p, 1) = res) := Lib.hid (by rw [← HRS0.out, hrb, if_neg (by decide)])
      clear hrb HRS0
      go_wp2_with (fail)
      refine HSR.out.mono ?_
      rintro e w4 ⟨rfl, hb4⟩
      have hn4 := HN.out.keep hb4
      have hfz := hn4.blk.frozen 3
      have c3' := hn4.c3
      have hR4 := hn4.lt
      have hn5 := hn4.go HPP.out
      have hr2' := HR2.out
      have hy5 := (HY.out.below hb4 HY.out.lt).other (p := ⟨R, 3, none⟩) (by show R ≠ _; omega) (.int .i64 (p : Int))
      have hbb : Below w.heap.size w (w4.setCell ⟨R, 3, none⟩ (.int .i64 (p : Int))) := (HB.out.trans (hb4.mono HB.out.size)).setCell (by show w.heap.size ≤ R; omega) _
      obtain ⟨W5, hW5⟩ : ∃ W5, w4.setCell ⟨R, 3, none⟩ (.int .i64 (p : Int)) = W5 := ⟨_, rfl⟩
      rw [hW5] at hn5 hy5 hbb
      have c5 := hn5.c3
      have hR5 := hn5.lt
      clear HY HB HN HX HSR HP c3 a0 a1 x0 x1 x2 x3 x4 x5
      have HY := Lib.hid hy5
      have HB := Lib.hid hbb
      have HRE := Lib.hid hn5.blk
      clear hb4 hn4 hn5 hy5 hbb HKS3
      have hyv : Blk (ansF w W5 (.int .i64 0) (.int .i64 0) (.slice none 0 0) (.slice none 0 0) (.slice none 0 0) (.slice none 0 0)).drew (w.heap.size + 1) 42 #[.int .i64 0, .int .i64 0, .slice none 0 0, .slice none 0 0, .slice none 0 0, .slice none 0 0] := (blk_ansF HY.out).drew9
      have hbv : Below w.heap.size w (ansF w W5 (.int .i64 0) (.int .i64 0) (.slice none 0 0) (.slice none 0 0) (.slice none 0 0) (.slice none 0 0)).drew := (below_ansF HB.out).drew
      have hkv := KSt.zero w.heap.size (ansF w W5 (.int .i64 0) (.int .i64 0) (.slice none 0 0) (.slice none 0 0) (.slice none 0 0) (.slice none 0 0)).drew
      have y0 : W5.cell? ⟨w.heap.size + 1, 0, none⟩ = some (.int .i64 0) := HY.out.cell 0
      have f0 : W5.frozen? ⟨w.heap.size + 1, 0, none⟩ = false := HY.out.frozen 0
      have v0 := hyv.cell 0
      have y1 : W5.cell? ⟨w.heap.size + 1, 1, none⟩ = some (.int .i64 0) := HY.out.cell 1
      have f1 : W5.frozen? ⟨w.heap.size + 1, 1, none⟩ = false := HY.out.frozen 1
      have v1 := hyv.cell 1
      have y2 : W5.cell? ⟨w.heap.size + 1, 2, none⟩ = some (.slice none 0 0) := HY.out.cell 2
      have f2 : W5.frozen? ⟨w.heap.size + 1, 2, none⟩ = false := HY.out.frozen 2
      have v2 := hyv.cell 2
      have y3 : W5.cell? ⟨w.heap.size + 1, 3, none⟩ = some (.slice none 0 0) := HY.out.cell 3
      have f3 : W5.frozen? ⟨w.heap.size + 1, 3, none⟩ = false := HY.out.frozen 3
      have v3 := hyv.cell 3
      have y4 : W5.cell? ⟨w.heap.size + 1, 4, none⟩ = some (.slice none 0 0) := HY.out.cell 4
      have f4 : W5.frozen? ⟨w.heap.size + 1, 4, none⟩ = false := HY.out.frozen 4
      have v4 := hyv.cell 4
      have y5 : W5.cell? ⟨w.heap.size + 1, 5, none⟩ = some (.slice none 0 0) := HY.out.cell 5
      have f5 : W5.frozen? ⟨w.heap.size + 1, 5, none⟩ = false := HY.out.frozen 5
      have v5 := hyv.cell 5
      have HBV := Lib.hid hbv
      have HKV := Lib.hid hkv
      have hylt := HY.out.lt
      unfold ansF at v0 v1 v2 v3 v4 v5 HBV HKV
      clear hyv hbv hkv
      go_wp2_with (fail)
      have hrv : Blk (ansF w W5 (.int .i64 0) (.int .i64 0) (.slice none 0 0) (.slice none 0 0) (.slice none 0 0) (.slice none 0 0)).drew R 126 _ := (blk_otherF HRE.out (by omega)).drew9
      unfold ansF at hrv
      refine Free.region_seq [6] [4] 9 (fun W' => W'.cell? ⟨R, 3, none⟩ = some (.int .i64 (p : Int))) (by kernel_rfl) (by kernel_rfl) (by kernel_rfl) (by kernel_rfl) (c5) (fun ops hops => ?_)
      clear hops
      iterate 6
        refine Free.Seq.quiet (v := ?_) (a' := ?_) rfl rfl (fun W' hW' => ?_) ?_ ?_
        rotate_left 2
        · first | obtain s6 := hW' rfl | skip
          go_simp
          try with_reducible rfl
        · simp only [Act.put, List.setIfInBounds_toArray, List.set_cons_zero, List.set_cons_succ]
          try with_reducible rfl
      refine Free.Seq.loud_ rfl (.inl rfl) (fun K hK => ?_)
      go_simp
      refine hK.out _ _ rfl (fun _ => hrv.cell 3) ?_
      clear hK K
      iterate 2
        refine Free.Seq.quiet (v := ?_) (a' := ?_) rfl rfl (fun W' hW' => ?_) ?_ ?_
        rotate_left 2
        · skip
          go_simp
          try with_reducible rfl
        · simp only [Act.put, List.setIfInBounds_toArray, List.set_cons_zero, List.set_cons_succ]
          try with_reducible rfl
      refine Free.Seq.nil_ ?_
      go_wp2
      refine bodyPost_ret (v := .tuple #[.agg #[.int .i64 0, .int .i64 0, .slice none 0 0, .slice none 0 0, .slice none 0 0, .slice none 0 0], .int .i64 (p : Nat), .int .i64 (1 : Nat)]) (by simp [results, Tryz.results60, go_sem, v0, v1, v2, v3, v4, v5]) rfl ?_
      rw [← HRS.out]
      exact ⟨0, 0, none, 0, 0, none, 0, 0, none, 0, 0, none, 0, 0, rfl, HKV.out, HBV.out⟩
  · have hz9 : ((er : Int) != 0) = true := by rw [bne_iff_ne]; omega
    have hz8 : ((er : Int) == 0) = false := by rw [beq_eq_false_iff_ne]; omega
    have HRS : Hid ((St.zero, q, er) = res) := Lib.hid (by rw [← HRS0.out, St.andP_no her])
    have HRE := Lib.hid HN.out.blk
    clear her HKS HRS0
    have hyv : Blk (ansF w W3 (.int .i64 0) (.int .i64 0) (.slice none 0 0) (.slice none 0 0) (.slice none 0 0) (.slice none 0 0)).drew (w.heap.size + 1) 42 #[.int .i64 0, .int .i64 0, .slice none 0 0, .slice none 0 0, .slice none 0 0, .slice none 0 0] := (blk_ansF HY.out).drew9
    have hbv : Below w.heap.size w (ansF w W3 (.int .i64 0) (.int .i64 0) (.slice none 0 0) (.slice none 0 0) (.slice none 0 0) (.slice none 0 0)).drew := (below_ansF HB.out).drew
    have hkv := KSt.zero w.heap.size (ansF w W3 (.int .i64 0) (.int .i64 0) (.slice none 0 0) (.slice none 0 0) (.slice none 0 0) (.slice none 0 0)).drew
    have y0 : W3.cell? ⟨w.heap.size + 1, 0, none⟩ = some (.int .i64 0) := HY.out.cell 0
    have f0 : W3.frozen? ⟨w.heap.size + 1, 0, none⟩ = false := HY.out.frozen 0
    have v0 := hyv.cell 0
    have y1 : W3.cell? ⟨w.heap.size + 1, 1, none⟩ = some (.int .i64 0) := HY.out.cell 1
    have f1 : W3.frozen? ⟨w.heap.size + 1, 1, none⟩ = false := HY.out.frozen 1
    have v1 := hyv.cell 1
    have y2 : W3.cell? ⟨w.heap.size + 1, 2, none⟩ = some (.slice none 0 0) := HY.out.cell 2
    have f2 : W3.frozen? ⟨w.heap.size + 1, 2, none⟩ = false := HY.out.frozen 2
    have v2 := hyv.cell 2
    have y3 : W3.cell? ⟨w.heap.size + 1, 3, none⟩ = some (.slice none 0 0) := HY.out.cell 3
    have f3 : W3.frozen? ⟨w.heap.size + 1, 3, none⟩ = false := HY.out.frozen 3
    have v3 := hyv.cell 3
    have y4 : W3.cell? ⟨w.heap.size + 1, 4, none⟩ = some (.slice none 0 0) := HY.out.cell 4
    have f4 : W3.frozen? ⟨w.heap.size + 1, 4, none⟩ = false := HY.out.frozen 4
    have v4 := hyv.cell 4
    have y5 : W3.cell? ⟨w.heap.size + 1, 5, none⟩ = some (.slice none 0 0) := HY.out.cell 5
    have f5 : W3.frozen? ⟨w.heap.size + 1, 5, none⟩ = false := HY.out.frozen 5
    have v5 := hyv.cell 5
    have HBV := Lib.hid hbv
    have HKV := Lib.hid hkv
    have hylt := HY.out.lt
    unfold ansF at v0 v1 v2 v3 v4 v5 HBV HKV
    clear hyv hbv hkv
    go_wp2_with (fail)
    have hrv : Blk (ansF w W3 (.int .i64 0) (.int .i64 0) (.slice none 0 0) (.slice none 0 0) (.slice none 0 0) (.slice none 0 0)).drew R 126 _ := (blk_otherF HRE.out (by omega)).drew9
    unfold ansF at hrv
    refine Free.region_seq [6] [4] 9 (fun W' => W'.cell? ⟨R, 3, none⟩ = some (.int .i64 (q : Int))) (by kernel_rfl) (by kernel_rfl) (by kernel_rfl) (by kernel_rfl) (c3) (fun ops hops => ?_)
    clear hops
    iterate 6
      refine Free.Seq.quiet (v := ?_) (a' := ?_) rfl rfl (fun W' hW' => ?_) ?_ ?_
      rotate_left 2
      · first | obtain s6 := hW' rfl | skip
        go_simp
        try with_reducible rfl
      · simp only [Act.put, List.setIfInBounds_toArray, List.set_cons_zero, List.set_cons_succ]
        try with_reducible rfl
    refine Free.Seq.loud_ rfl (.inl rfl) (fun K hK => ?_)
    go_simp
    refine hK.out _ _ rfl (fun _ => hrv.cell 3) ?_
    clear hK K
    iterate 2
      refine Free.Seq.quiet (v := ?_) (a' := ?_) rfl rfl (fun W' hW' => ?_) ?_ ?_
      rotate_left 2
      · skip
        go_simp
        try with_reducible rfl
      · simp only [Act.put, List.setIfInBounds_toArray, List.set_cons_zero, List.set_cons_succ]
        try with_reducible rfl
    refine Free.Seq.nil_ ?_
    go_wp2
    refine bodyPost_ret (v := .tuple #[.agg #[.int .i64 0, .int .i64 0, .slice none 0 0, .slice none 0 0, .slice none 0 0, .slice none 0 0], .int .i64 (q : Nat), .int .i64 (er : Nat)]) (by simp [results, Tryz.results60, go_sem, v0, v1, v2, v3, v4, v5]) rfl ?_
    rw [← HRS.out]
    exact ⟨0, 0, none, 0, 0, none, 0, 0, none, 0, 0, none, 0, 0, rfl, HKV.out, HBV.out⟩
end Go.Proofs.YtipbilmnknmhmaaGreatDoor

/- Walks of Whole (of states) and state.Parse (by gen_stmh.py). -/
namespace Go.Proofs.YtipbilmnknmhmaaGreatDoor
set_option maxRecDepth 100000
open Go.RowKit Go.Shelf Go.Sort
attribute [local go_sem] Oper.semAt_some
/-- What Parse answers. -/
def SPRes (w : World) (r : St.State × Int × Nat) (e : Ending) (w' : World) : Prop :=
  ∃ (a b : Int) (cA : Option Addr) (cn cc : Nat) (mA : Option Addr) (mn mc : Nat) (sA : Option Addr) (sn sc : Nat) (oA : Option Addr) (on oc : Nat), e = .returned (.tuple #[.agg #[.int .i64 a, .int .i64 b, .slice cA cn cc, .slice mA mn mc, .slice sA sn sc, .slice oA on oc], .int .i64 r.2.1, .int .i64 (r.2.2 : Nat)]) ∧
    KSt w.heap.size w' (.agg #[.int .i64 a, .int .i64 b, .slice cA cn cc, .slice mA mn mc, .slice sA sn sc, .slice oA on oc]) r.1 ∧ Below w.heap.size w w'
theorem fromS_lt {l : List Lx.Tk} (hf : Tb.Fine l) (names : List ByteArray) (k : Nat) {i : Nat} (h : i < l.length) : (St.fromS names k l i).2.1 < l.length := by
  have hW : ∀ (t : ByteArray) (i : Nat), i < l.length → (St.wordE l t i).2.1 < l.length := fun t i h => by
    rw [wordE_nxt]; exact isK_next hf h (by decide)
  have hM : ∀ (t : ByteArray) (i : Nat), i < l.length → (St.markE l t i).2.1 < l.length := fun t i h => by
    rw [markE_nxt]; exact isK_next hf h (by decide)
  have hA : ∀ {α β : Type} (r : α × Nat × Nat) (z : β) (f : α → Nat → β × Nat × Nat), r.2.1 < l.length → (∀ a j, j < l.length → (f a j).2.1 < l.length) → (St.andP r z f).2.1 < l.length := fun r z f hr hf => by
    by_cases h0 : r.2.2 = 0
    · rw [St.andP_yes h0]; exact hf _ _ hr
    · rw [St.andP_no h0]; exact hr
  have hat : ∀ i, i < l.length → (St.atomP names l i).2.1 < l.length := fun i h => by
    unfold St.atomP
    exact hA _ _ _ (Cd.intP_lt hf h) fun a j hj => hA _ _ _ (Cd.labP_lt hf names hj) fun _ _ hj => hj
  have hsl : ∀ rets i, i < l.length → (St.slotP names rets l i).2.1 < l.length := fun rets i h => by
    unfold St.slotP
    refine hA _ _ _ (hat _ ?_) fun _ _ hj => hj
    by_cases hr : St.retP rets l i = true
    · rw [if_pos hr]
      unfold St.retP at hr
      rw [Bool.and_eq_true] at hr
      exact Cd.kind_next hf h (by have := (of_decide_eq_true hr.2).1; omega)
    · rw [if_neg hr]; exact h
  have hrow : ∀ most rets (n : Nat) (out : List St.Slot) i, i < l.length → (St.rowP names l most rets n out i).2.1 < l.length := fun most rets n => by
    induction n with
    | zero => intro out i h; exact h
    | succ n ih =>
      intro out i h
      unfold St.rowP
      by_cases hm : out.length = most
      · rw [if_pos hm]; exact h
      · rw [if_neg hm]
        refine hA _ _ _ (hsl _ _ h) fun x j hj => ?_
        split
        · rename_i hc
          exact ih _ _ (Cd.isM_next hf hj hc)
        · split
          · rename_i hc
            exact Cd.isM_next hf hj hc
          · exact hj
  have hword : ∀ word most rets i, i < l.length → (St.wordP names l word most rets i).2.1 < l.length := fun word most rets i h => by
    unfold St.wordP
    refine hA _ _ _ (hW _ _ h) fun _ j hj => ?_
    split
    · rename_i hc
      exact Cd.isM_next hf hj hc
    · exact hrow _ _ _ _ _ hj
  unfold St.fromS
  refine hA _ _ _ (hW _ _ h) fun _ j hj => hA _ _ _ (hat _ hj) fun _ j hj => hA _ _ _ (hM _ _ hj) fun _ j hj => hA _ _ _ (hW _ _ hj) fun _ j hj => hA _ _ _ (Cd.fromP_lt hf names k 13 [] j hj) fun _ j hj => hA _ _ _ (hword _ _ _ _ hj) fun _ j hj => hA _ _ _ (hword _ _ _ _ hj) fun _ j hj => hA _ _ _ (hword _ _ _ _ hj) fun _ j hj => ?_
  unfold St.endS
  split
  · exact hj
  · exact h
theorem heap_ansF {w W : World} {k : Nat} {a b c d e f : Value} (hk : k ≠ w.heap.size + 1) : (ansF w W a b c d e f).heap[k]? = W.heap[k]? := by
  unfold ansF
  exact (Below.heap_setCell _ ⟨w.heap.size + 1, 5, none⟩ f k hk).trans ((Below.heap_setCell _ ⟨w.heap.size + 1, 4, none⟩ e k hk).trans ((Below.heap_setCell _ ⟨w.heap.size + 1, 3, none⟩ d k hk).trans ((Below.heap_setCell _ ⟨w.heap.size + 1, 2, none⟩ c k hk).trans ((Below.heap_setCell _ ⟨w.heap.size + 1, 1, none⟩ b k hk).trans (Below.heap_setCell _ ⟨w.heap.size + 1, 0, none⟩ a k hk)))))
theorem cell_drew9 (W : World) (p : Addr) : W.drew.cell? p = W.cell? p := rfl
theorem cell_ansF9 {w W : World} {p : Addr} {u a b c d e f : Value} (h : W.cell? p = some u) (hp : p.block ≠ w.heap.size + 1) : (ansF w W a b c d e f).drew.cell? p = some u := by
  rw [cell_drew9, World.cell?_of_block (w := W) (heap_ansF hp)]
  exact h
/-- A token's row does not lie in a state's block. -/
theorem toks_ne {w : World} {ad : Addr} {l : List Lx.Tk} {p g : Nat} {cs : Array Value} (h : Row w w.heap.size (some ad) (tcells l)) (hp : p < l.length) (hb : Blk w g 42 cs) (hcs : ∀ (i : Nat) (t : ByteArray), cs[i]? ≠ some (Value.string t)) : (ad.add (p * 3)).block ≠ g := by
  obtain ⟨ad', t, e, hbl, ht, c0, c1, c2⟩ := trow_at h hp
  injection e with e
  subst e
  intro hg
  rw [show (⟨(ad.add (p * 3)).block, (ad.add (p * 3)).off + 1, none⟩ : Addr) = ⟨g, (ad.add (p * 3)).off + 1, none⟩ by rw [hg]] at c1
  rw [hb.cell] at c1
  exact hcs _ _ c1
theorem zcs_str (i : Nat) (t : ByteArray) : (#[.int .i64 0, .int .i64 0, .slice none 0 0, .slice none 0 0, .slice none 0 0, .slice none 0 0] : Array Value)[i]? ≠ some (Value.string t) := by
  rcases i with _ | _ | _ | _ | _ | _ | i <;> simp
set_option maxHeartbeats 16000000 in
theorem swhole_any {v : Value} {names : List ByteArray} {up : List Nat} (s : ByteArray) (hs : s.size ≤ maxLen) (w : World) (h : IsLat w w.heap.size v names up) (hi : Ins w) :
    Calls Tryz.prog 59 #[v, .string s, .func (.func 60) #[] #[]] w (SPRes w (St.parse names up s.data.toList)) := by
  obtain ⟨⟨N, U, c1, c2, rfl, hN, hU⟩, hsh, hfew, hcaps⟩ := id h
  have hb0 := ((((Below.refl _ w).alloc (Nat.le_refl _) (.cells #[.slice N names.length c1, .slice U up.length c2] 25)).alloc (by simp) (.cells #[.int .i64 0, .int .i64 0, .slice none 0 0, .slice none 0 0, .slice none 0 0, .slice none 0 0] 42)).alloc (by simp; omega) (.cells #[.int .i64 0, .int .i64 0, .slice none 0 0, .slice none 0 0, .slice none 0 0, .slice none 0 0] 42))
  obtain ⟨W0, hW0⟩ : ∃ W0, ((w.alloc (.cells #[.slice N names.length c1, .slice U up.length c2] 25)).alloc (.cells #[.int .i64 0, .int .i64 0, .slice none 0 0, .slice none 0 0, .slice none 0 0, .slice none 0 0] 42)).alloc (.cells #[.int .i64 0, .int .i64 0, .slice none 0 0, .slice none 0 0, .slice none 0 0, .slice none 0 0] 42) = W0 := ⟨_, rfl⟩
  have hp0 : Blk W0 w.heap.size 25 #[.slice N names.length c1, .slice U up.length c2] := hW0 ▸ ((Blk.new _ _ _).alloc _).alloc _
  have hy0 : Blk W0 (w.heap.size + 1) 42 #[.int .i64 0, .int .i64 0, .slice none 0 0, .slice none 0 0, .slice none 0 0, .slice none 0 0] := by
    have h1 := Blk.new (w.alloc (.cells #[.slice N names.length c1, .slice U up.length c2] 25)) 42 #[.int .i64 0, .int .i64 0, .slice none 0 0, .slice none 0 0, .slice none 0 0, .slice none 0 0]
    rw [show (w.alloc (.cells #[.slice N names.length c1, .slice U up.length c2] 25)).heap.size = w.heap.size + 1 by simp] at h1
    rw [← hW0]; exact h1.alloc _
  have ho0 : Blk W0 (w.heap.size + 2) 42 #[.int .i64 0, .int .i64 0, .slice none 0 0, .slice none 0 0, .slice none 0 0, .slice none 0 0] := by
    have h1 := Blk.new ((w.alloc (.cells #[.slice N names.length c1, .slice U up.length c2] 25)).alloc (.cells #[.int .i64 0, .int .i64 0, .slice none 0 0, .slice none 0 0, .slice none 0 0, .slice none 0 0] 42)) 42 #[.int .i64 0, .int .i64 0, .slice none 0 0, .slice none 0 0, .slice none 0 0, .slice none 0 0]
    rw [show ((w.alloc (.cells #[.slice N names.length c1, .slice U up.length c2] 25)).alloc (.cells #[.int .i64 0, .int .i64 0, .slice none 0 0, .slice none 0 0, .slice none 0 0, .slice none 0 0] 42)).heap.size = w.heap.size + 2 by simp] at h1
    rw [← hW0]; exact h1
  rw [hW0] at hb0
  have a0 : W0.cell? ⟨w.heap.size, 0, none⟩ = some (.slice N names.length c1) := hp0.cell 0
  have a1 : W0.cell? ⟨w.heap.size, 1, none⟩ = some (.slice U up.length c2) := hp0.cell 1
  have hch := check_any _ ((h.below hb0).more hb0.size)
  have HP0 := Lib.hid hp0
  have HY0 := Lib.hid hy0
  have HO0 := Lib.hid ho0
  have HB0 := Lib.hid hb0
  have H := Lib.hid h
  have HI := Lib.hid hi
  have hcf := Tryz.call60
  obtain ⟨n, hn⟩ : ∃ n, checkN names up = n := ⟨_, rfl⟩
  rw [hn] at hch
  have HCH := Lib.hid hch
  by_cases hz : n = 0
  · subst hz
    have HLX := Lib.hid (fun W => lex_any s W hs)
    obtain ⟨⟨l, a9, er⟩, hlex⟩ : ∃ r, Lx.lex s.data.toList = r := ⟨_, rfl⟩
    have hp : St.parse names up s.data.toList = St.parseL names up.length (l, a9, er) := by unfold St.parse; rw [if_pos hn, hlex]
    rw [hlex] at HLX
    rw [hp]
    have HLEX := Lib.hid hlex
    have HNN := Lib.hid hn
    clear h hi hN hU hp0 hy0 ho0 hb0 hch hn hp hlex
    by_cases her : er = 0
    · subst her
      obtain ⟨hfine, h0, h200, ha⟩ := Tb.lex_fine HLEX.out
      obtain ⟨⟨o, q, e2⟩, hfr⟩ : ∃ r, St.fromS names up.length l 0 = r := ⟨_, rfl⟩
      have hq := fromS_lt hfine names up.length h0
      have hpl : St.parseL names up.length (l, a9, 0) = St.endT l (o, q, e2) := by unfold St.parseL; rw [if_pos rfl, hfr]
      rw [hfr] at hq
      dsimp only at hq
      rw [hpl]
      have HFR := Lib.hid hfr
      have HFI := Lib.hid hfine
      unfold St.endT
      dsimp only
      have hcall : ∀ W A c, Row W W.heap.size A (tcells l) → Below w.heap.size w W → Calls Tryz.prog 60 #[.agg #[.slice N names.length c1, .slice U up.length c2], .slice A l.length c, .int .i64 0] W (SFromR W (o, q, e2)) := fun W A c hr hb => by
        have := sfrom_any c HFI.out h0 (by omega) HNN.out W ((H.out.below hb).more hb.size) hr (HI.out.below hb HI.out.lt)
        rw [HFR.out] at this
        exact this
      have HFC := Lib.hid hcall
      clear hfr hfine hpl hcall ha
      by_cases h2 : e2 = 0
      · subst h2
        rw [if_pos rfl]
        by_cases hk : (Tb.tok l q).kind = 0
        · rw [if_pos hk]
          go_enter Tryz.func59, Tryz.ntmps59
          go_wp2_with (go_at_call 27; refine HCH.out.mono ?_)
          rintro e w1 ⟨rfl, hb1⟩
          have HP1 := Lib.hid (HP0.out.below hb1 HP0.out.lt)
          have HY1 := Lib.hid (HY0.out.below hb1 HY0.out.lt)
          have HO1 := Lib.hid (HO0.out.below hb1 HO0.out.lt)
          have HB1 := Lib.hid (HB0.out.trans (hb1.mono HB0.out.size))
          clear hb1
          have HC2 := Lib.hid (HLX.out w1)
          go_wp2_with (fail)
          refine HC2.out.mono ?_
          rintro e w2 ⟨v2, rfl, htk, hb2⟩
          obtain ⟨A, ct, rfl, hr2, -⟩ := htk
          have hp2 := HP1.out.below hb2 HP1.out.lt
          have hc0 : w2.cell? ⟨w.heap.size, 0, none⟩ = some (.slice N names.length c1) := hp2.cell 0
          have hc1 : w2.cell? ⟨w.heap.size, 1, none⟩ = some (.slice U up.length c2) := hp2.cell 1
          have HB2 := Lib.hid (HB1.out.trans (hb2.mono HB1.out.size))
          have HR2 := Lib.hid hr2
          have HY2 := Lib.hid (HY1.out.below hb2 HY1.out.lt)
          have HO2 := Lib.hid (HO1.out.below hb2 HO1.out.lt)
          have HC3 := Lib.hid (HFC.out w2 A ct hr2 HB2.out)
          clear hb2 hp2 hr2 HY1 HO1 HP1 HB1
          go_wp2_with (fail)
          refine HC3.out.mono ?_
          rintro e w3 ⟨a, b, cA, cn, cc, mA, mn, mc, sA, sn, sc, oA, on, oc, rfl, hks, hb3⟩
          have hal := (Below.refl _ w3).alloc (Nat.le_refl _) (.cells #[.int .i64 a, .int .i64 b, .slice cA cn cc, .slice mA mn mc, .slice sA sn sc, .slice oA on oc] 42)
          have hb4 := hb3.alloc hb3.size (.cells #[.int .i64 a, .int .i64 b, .slice cA cn cc, .slice mA mn mc, .slice sA sn sc, .slice oA on oc] 42)
          have hbx := Blk.new w3 42 #[.int .i64 a, .int .i64 b, .slice cA cn cc, .slice mA mn mc, .slice sA sn sc, .slice oA on oc]
          have hks4 := hks.below hal
          have hy4 := HY2.out.below hb4 HY2.out.lt
          have ho4 := HO2.out.below hb4 HO2.out.lt
          have hbb := HB2.out.trans (hb4.mono HB2.out.size)
          have hr4 := (HR2.out.below hb4).more hb4.size
          have hw3 := hb3.size
          have hw2 := HB2.out.size
          have HZ2 := Lib.hid (show w.heap.size + 3 ≤ w2.heap.size by have := HO2.out.lt; omega)
          obtain ⟨W4, hW4⟩ : ∃ W4, w3.alloc (.cells #[.int .i64 a, .int .i64 b, .slice cA cn cc, .slice mA mn mc, .slice sA sn sc, .slice oA on oc] 42) = W4 := ⟨_, rfl⟩
          rw [hW4] at hbx hks4 hy4 ho4 hbb hr4
          have HY := Lib.hid hy4
          have HO := Lib.hid ho4
          have HB := Lib.hid hbb
          have HX := Lib.hid hbx
          have HKS := Lib.hid hks4
          clear hal hb4 hb3 hks hbx hks4 hy4 ho4 hbb hc0 hc1 HY2 HO2 HC3 HC2
          obtain ⟨ad, rfl, hbl, k0, k2⟩ := itok_at hr4 hq
          rw [hk] at k0
          have hz2 := HZ2.out
          have hxlt := HX.out.lt
          have x0 : W4.cell? ⟨w3.heap.size, 0, none⟩ = some (.int .i64 a) := HX.out.cell 0
          have x1 : W4.cell? ⟨w3.heap.size, 1, none⟩ = some (.int .i64 b) := HX.out.cell 1
          have x2 : W4.cell? ⟨w3.heap.size, 2, none⟩ = some (.slice cA cn cc) := HX.out.cell 2
          have x3 : W4.cell? ⟨w3.heap.size, 3, none⟩ = some (.slice mA mn mc) := HX.out.cell 3
          have x4 : W4.cell? ⟨w3.heap.size, 4, none⟩ = some (.slice sA sn sc) := HX.out.cell 4
          have x5 : W4.cell? ⟨w3.heap.size, 5, none⟩ = some (.slice oA on oc) := HX.out.cell 5
          clear k2 hr4
          have hyv : Blk (ansF w W4 (.int .i64 a) (.int .i64 b) (.slice cA cn cc) (.slice mA mn mc) (.slice sA sn sc) (.slice oA on oc)) (w.heap.size + 1) 42 #[.int .i64 a, .int .i64 b, .slice cA cn cc, .slice mA mn mc, .slice sA sn sc, .slice oA on oc] := (blk_ansF HY.out)
          have hbv : Below w.heap.size w (ansF w W4 (.int .i64 a) (.int .i64 b) (.slice cA cn cc) (.slice mA mn mc) (.slice sA sn sc) (.slice oA on oc)) := (below_ansF HB.out)
          have y0 : W4.cell? ⟨w.heap.size + 1, 0, none⟩ = some (.int .i64 0) := HY.out.cell 0
          have f0 : W4.frozen? ⟨w.heap.size + 1, 0, none⟩ = false := HY.out.frozen 0
          have v0 := hyv.cell 0
          have y1 : W4.cell? ⟨w.heap.size + 1, 1, none⟩ = some (.int .i64 0) := HY.out.cell 1
          have f1 : W4.frozen? ⟨w.heap.size + 1, 1, none⟩ = false := HY.out.frozen 1
          have v1 := hyv.cell 1
          have y2 : W4.cell? ⟨w.heap.size + 1, 2, none⟩ = some (.slice none 0 0) := HY.out.cell 2
          have f2 : W4.frozen? ⟨w.heap.size + 1, 2, none⟩ = false := HY.out.frozen 2
          have v2 := hyv.cell 2
          have y3 : W4.cell? ⟨w.heap.size + 1, 3, none⟩ = some (.slice none 0 0) := HY.out.cell 3
          have f3 : W4.frozen? ⟨w.heap.size + 1, 3, none⟩ = false := HY.out.frozen 3
          have v3 := hyv.cell 3
          have y4 : W4.cell? ⟨w.heap.size + 1, 4, none⟩ = some (.slice none 0 0) := HY.out.cell 4
          have f4 : W4.frozen? ⟨w.heap.size + 1, 4, none⟩ = false := HY.out.frozen 4
          have v4 := hyv.cell 4
          have y5 : W4.cell? ⟨w.heap.size + 1, 5, none⟩ = some (.slice none 0 0) := HY.out.cell 5
          have f5 : W4.frozen? ⟨w.heap.size + 1, 5, none⟩ = false := HY.out.frozen 5
          have v5 := hyv.cell 5
          have hkv : KSt w.heap.size (ansF w W4 (.int .i64 a) (.int .i64 b) (.slice cA cn cc) (.slice mA mn mc) (.slice sA sn sc) (.slice oA on oc)) (.agg #[.int .i64 a, .int .i64 b, .slice cA cn cc, .slice mA mn mc, .slice sA sn sc, .slice oA on oc]) o := (HKS.out.ansF (show w.heap.size + 1 < w2.heap.size by omega) _ _ _ _ _ _).less (show w.heap.size ≤ w2.heap.size by omega)
          have HBV := Lib.hid hbv
          have HKV := Lib.hid hkv
          have hylt := HY.out.lt
          unfold ansF at v0 v1 v2 v3 v4 v5 HBV HKV
          clear hyv hbv hkv
          go_wp2
          refine bodyPost_ret (v := .tuple #[.agg #[.int .i64 a, .int .i64 b, .slice cA cn cc, .slice mA mn mc, .slice sA sn sc, .slice oA on oc], .int .i64 0, .int .i64 (0 : Nat)]) (by simp [results, Tryz.results59, go_sem, v0, v1, v2, v3, v4, v5]) rfl ?_
          exact ⟨a, b, cA, cn, cc, mA, mn, mc, sA, sn, sc, oA, on, oc, rfl, HKV.out, HBV.out⟩
        · rw [if_neg hk]
          have hkb : ((Tb.tok l q).kind != 0) = true := by rw [bne_iff_ne]; exact hk
          go_enter Tryz.func59, Tryz.ntmps59
          go_wp2_with (go_at_call 27; refine HCH.out.mono ?_)
          rintro e w1 ⟨rfl, hb1⟩
          have HP1 := Lib.hid (HP0.out.below hb1 HP0.out.lt)
          have HY1 := Lib.hid (HY0.out.below hb1 HY0.out.lt)
          have HO1 := Lib.hid (HO0.out.below hb1 HO0.out.lt)
          have HB1 := Lib.hid (HB0.out.trans (hb1.mono HB0.out.size))
          clear hb1
          have HC2 := Lib.hid (HLX.out w1)
          go_wp2_with (fail)
          refine HC2.out.mono ?_
          rintro e w2 ⟨v2, rfl, htk, hb2⟩
          obtain ⟨A, ct, rfl, hr2, -⟩ := htk
          have hp2 := HP1.out.below hb2 HP1.out.lt
          have hc0 : w2.cell? ⟨w.heap.size, 0, none⟩ = some (.slice N names.length c1) := hp2.cell 0
          have hc1 : w2.cell? ⟨w.heap.size, 1, none⟩ = some (.slice U up.length c2) := hp2.cell 1
          have HB2 := Lib.hid (HB1.out.trans (hb2.mono HB1.out.size))
          have HR2 := Lib.hid hr2
          have HY2 := Lib.hid (HY1.out.below hb2 HY1.out.lt)
          have HO2 := Lib.hid (HO1.out.below hb2 HO1.out.lt)
          have HC3 := Lib.hid (HFC.out w2 A ct hr2 HB2.out)
          clear hb2 hp2 hr2 HY1 HO1 HP1 HB1
          go_wp2_with (fail)
          refine HC3.out.mono ?_
          rintro e w3 ⟨a, b, cA, cn, cc, mA, mn, mc, sA, sn, sc, oA, on, oc, rfl, hks, hb3⟩
          have hal := (Below.refl _ w3).alloc (Nat.le_refl _) (.cells #[.int .i64 a, .int .i64 b, .slice cA cn cc, .slice mA mn mc, .slice sA sn sc, .slice oA on oc] 42)
          have hb4 := hb3.alloc hb3.size (.cells #[.int .i64 a, .int .i64 b, .slice cA cn cc, .slice mA mn mc, .slice sA sn sc, .slice oA on oc] 42)
          have hbx := Blk.new w3 42 #[.int .i64 a, .int .i64 b, .slice cA cn cc, .slice mA mn mc, .slice sA sn sc, .slice oA on oc]
          have hks4 := hks.below hal
          have hy4 := HY2.out.below hb4 HY2.out.lt
          have ho4 := HO2.out.below hb4 HO2.out.lt
          have hbb := HB2.out.trans (hb4.mono HB2.out.size)
          have hr4 := (HR2.out.below hb4).more hb4.size
          have hw3 := hb3.size
          have hw2 := HB2.out.size
          have HZ2 := Lib.hid (show w.heap.size + 3 ≤ w2.heap.size by have := HO2.out.lt; omega)
          obtain ⟨W4, hW4⟩ : ∃ W4, w3.alloc (.cells #[.int .i64 a, .int .i64 b, .slice cA cn cc, .slice mA mn mc, .slice sA sn sc, .slice oA on oc] 42) = W4 := ⟨_, rfl⟩
          rw [hW4] at hbx hks4 hy4 ho4 hbb hr4
          have HY := Lib.hid hy4
          have HO := Lib.hid ho4
          have HB := Lib.hid hbb
          have HX := Lib.hid hbx
          have HKS := Lib.hid hks4
          clear hal hb4 hb3 hks hbx hks4 hy4 ho4 hbb hc0 hc1 HY2 HO2 HC3 HC2
          obtain ⟨ad, rfl, hbl, k0, k2⟩ := itok_at hr4 hq
          have hadne := toks_ne hr4 hq HY.out zcs_str
          generalize (Tb.tok l q).kind = kd at *
          generalize (Tb.tok l q).pos = ps at *
          have n0 : W4.cell? ⟨w.heap.size + 2, 0, none⟩ = some (.int .i64 0) := HO.out.cell 0
          have n1 : W4.cell? ⟨w.heap.size + 2, 1, none⟩ = some (.int .i64 0) := HO.out.cell 1
          have n2 : W4.cell? ⟨w.heap.size + 2, 2, none⟩ = some (.slice none 0 0) := HO.out.cell 2
          have n3 : W4.cell? ⟨w.heap.size + 2, 3, none⟩ = some (.slice none 0 0) := HO.out.cell 3
          have n4 : W4.cell? ⟨w.heap.size + 2, 4, none⟩ = some (.slice none 0 0) := HO.out.cell 4
          have n5 : W4.cell? ⟨w.heap.size + 2, 5, none⟩ = some (.slice none 0 0) := HO.out.cell 5
          clear hr4 hk
          have hyv : Blk (ansF w W4 (.int .i64 0) (.int .i64 0) (.slice none 0 0) (.slice none 0 0) (.slice none 0 0) (.slice none 0 0)).drew (w.heap.size + 1) 42 #[.int .i64 0, .int .i64 0, .slice none 0 0, .slice none 0 0, .slice none 0 0, .slice none 0 0] := (blk_ansF HY.out).drew9
          have hbv : Below w.heap.size w (ansF w W4 (.int .i64 0) (.int .i64 0) (.slice none 0 0) (.slice none 0 0) (.slice none 0 0) (.slice none 0 0)).drew := (below_ansF HB.out).drew
          have y0 : W4.cell? ⟨w.heap.size + 1, 0, none⟩ = some (.int .i64 0) := HY.out.cell 0
          have f0 : W4.frozen? ⟨w.heap.size + 1, 0, none⟩ = false := HY.out.frozen 0
          have v0 := hyv.cell 0
          have y1 : W4.cell? ⟨w.heap.size + 1, 1, none⟩ = some (.int .i64 0) := HY.out.cell 1
          have f1 : W4.frozen? ⟨w.heap.size + 1, 1, none⟩ = false := HY.out.frozen 1
          have v1 := hyv.cell 1
          have y2 : W4.cell? ⟨w.heap.size + 1, 2, none⟩ = some (.slice none 0 0) := HY.out.cell 2
          have f2 : W4.frozen? ⟨w.heap.size + 1, 2, none⟩ = false := HY.out.frozen 2
          have v2 := hyv.cell 2
          have y3 : W4.cell? ⟨w.heap.size + 1, 3, none⟩ = some (.slice none 0 0) := HY.out.cell 3
          have f3 : W4.frozen? ⟨w.heap.size + 1, 3, none⟩ = false := HY.out.frozen 3
          have v3 := hyv.cell 3
          have y4 : W4.cell? ⟨w.heap.size + 1, 4, none⟩ = some (.slice none 0 0) := HY.out.cell 4
          have f4 : W4.frozen? ⟨w.heap.size + 1, 4, none⟩ = false := HY.out.frozen 4
          have v4 := hyv.cell 4
          have y5 : W4.cell? ⟨w.heap.size + 1, 5, none⟩ = some (.slice none 0 0) := HY.out.cell 5
          have f5 : W4.frozen? ⟨w.heap.size + 1, 5, none⟩ = false := HY.out.frozen 5
          have v5 := hyv.cell 5
          have hkv : KSt w.heap.size (ansF w W4 (.int .i64 0) (.int .i64 0) (.slice none 0 0) (.slice none 0 0) (.slice none 0 0) (.slice none 0 0)).drew (.agg #[.int .i64 0, .int .i64 0, .slice none 0 0, .slice none 0 0, .slice none 0 0, .slice none 0 0]) St.zero := KSt.zero _ _
          have HBV := Lib.hid hbv
          have HKV := Lib.hid hkv
          have hylt := HY.out.lt
          have hov : Blk (ansF w W4 (.int .i64 0) (.int .i64 0) (.slice none 0 0) (.slice none 0 0) (.slice none 0 0) (.slice none 0 0)).drew (w.heap.size + 2) 42 #[.int .i64 0, .int .i64 0, .slice none 0 0, .slice none 0 0, .slice none 0 0, .slice none 0 0] := (blk_otherF HO.out (by omega)).drew9
          have hkv2 : (ansF w W4 (.int .i64 0) (.int .i64 0) (.slice none 0 0) (.slice none 0 0) (.slice none 0 0) (.slice none 0 0)).drew.cell? ⟨(ad.add (q * 3)).block, (ad.add (q * 3)).off + 2, none⟩ = some (.int .i64 ps) := cell_ansF9 k2 (by show (ad.add (q * 3)).block ≠ _; exact hadne)
          unfold ansF at hov hkv2
          unfold ansF at v0 v1 v2 v3 v4 v5 HBV HKV
          clear hyv hbv hkv
          go_wp2_with (fail)
          refine Free.region_seq [7] [0, 5] 10 (fun W' => W'.cell? ⟨w.heap.size + 2, 0, none⟩ = some (.int .i64 0) ∧ W'.cell? ⟨w.heap.size + 2, 1, none⟩ = some (.int .i64 0) ∧ W'.cell? ⟨w.heap.size + 2, 2, none⟩ = some (.slice none 0 0) ∧ W'.cell? ⟨w.heap.size + 2, 3, none⟩ = some (.slice none 0 0) ∧ W'.cell? ⟨w.heap.size + 2, 4, none⟩ = some (.slice none 0 0) ∧ W'.cell? ⟨w.heap.size + 2, 5, none⟩ = some (.slice none 0 0) ∧ W'.cell? ⟨(ad.add (q * 3)).block, (ad.add (q * 3)).off + 2, none⟩ = some (.int .i64 ps)) (by kernel_rfl) (by kernel_rfl) (by kernel_rfl) (by kernel_rfl) (⟨n0, n1, n2, n3, n4, n5, k2⟩) (fun ops hops => ?_)
          clear hops
          iterate 7
            refine Free.Seq.quiet (v := ?_) (a' := ?_) rfl rfl (fun W' hW' => ?_) ?_ ?_
            rotate_left 2
            · first | obtain ⟨s0, s1, s2, s3, s4, s5, s6⟩ := hW' rfl | skip
              go_simp
              try with_reducible rfl
            · simp only [Act.put, List.setIfInBounds_toArray, List.set_cons_zero, List.set_cons_succ]
              try with_reducible rfl
          refine Free.Seq.loud_ rfl (.inl rfl) (fun K hK => ?_)
          go_simp
          refine hK.out _ _ rfl (fun _ => ⟨hov.cell 0, hov.cell 1, hov.cell 2, hov.cell 3, hov.cell 4, hov.cell 5, hkv2⟩) ?_
          clear hK K
          iterate 2
            refine Free.Seq.quiet (v := ?_) (a' := ?_) rfl rfl (fun W' hW' => ?_) ?_ ?_
            rotate_left 2
            · skip
              go_simp
              try with_reducible rfl
            · simp only [Act.put, List.setIfInBounds_toArray, List.set_cons_zero, List.set_cons_succ]
              try with_reducible rfl
          refine Free.Seq.nil_ ?_
          go_wp2
          refine bodyPost_ret (v := .tuple #[.agg #[.int .i64 0, .int .i64 0, .slice none 0 0, .slice none 0 0, .slice none 0 0, .slice none 0 0], .int .i64 ps, .int .i64 (4 : Nat)]) (by simp [results, Tryz.results59, go_sem, v0, v1, v2, v3, v4, v5]) rfl ?_
          exact ⟨0, 0, none, 0, 0, none, 0, 0, none, 0, 0, none, 0, 0, rfl, HKV.out, HBV.out⟩
      · rw [if_neg h2]
        have hz1 : ((e2 : Int) == 0) = false := by rw [beq_eq_false_iff_ne]; omega
        have hz2 : ((e2 : Int) != 0) = true := by rw [bne_iff_ne]; omega
        go_enter Tryz.func59, Tryz.ntmps59
        go_wp2_with (go_at_call 27; refine HCH.out.mono ?_)
        rintro e w1 ⟨rfl, hb1⟩
        have HP1 := Lib.hid (HP0.out.below hb1 HP0.out.lt)
        have HY1 := Lib.hid (HY0.out.below hb1 HY0.out.lt)
        have HO1 := Lib.hid (HO0.out.below hb1 HO0.out.lt)
        have HB1 := Lib.hid (HB0.out.trans (hb1.mono HB0.out.size))
        clear hb1
        have HC2 := Lib.hid (HLX.out w1)
        go_wp2_with (fail)
        refine HC2.out.mono ?_
        rintro e w2 ⟨v2, rfl, htk, hb2⟩
        obtain ⟨A, ct, rfl, hr2, -⟩ := htk
        have hp2 := HP1.out.below hb2 HP1.out.lt
        have hc0 : w2.cell? ⟨w.heap.size, 0, none⟩ = some (.slice N names.length c1) := hp2.cell 0
        have hc1 : w2.cell? ⟨w.heap.size, 1, none⟩ = some (.slice U up.length c2) := hp2.cell 1
        have HB2 := Lib.hid (HB1.out.trans (hb2.mono HB1.out.size))
        have HR2 := Lib.hid hr2
        have HY2 := Lib.hid (HY1.out.below hb2 HY1.out.lt)
        have HO2 := Lib.hid (HO1.out.below hb2 HO1.out.lt)
        have HC3 := Lib.hid (HFC.out w2 A ct hr2 HB2.out)
        clear hb2 hp2 hr2 HY1 HO1 HP1 HB1
        go_wp2_with (fail)
        refine HC3.out.mono ?_
        rintro e w3 ⟨a, b, cA, cn, cc, mA, mn, mc, sA, sn, sc, oA, on, oc, rfl, hks, hb3⟩
        have hal := (Below.refl _ w3).alloc (Nat.le_refl _) (.cells #[.int .i64 a, .int .i64 b, .slice cA cn cc, .slice mA mn mc, .slice sA sn sc, .slice oA on oc] 42)
        have hb4 := hb3.alloc hb3.size (.cells #[.int .i64 a, .int .i64 b, .slice cA cn cc, .slice mA mn mc, .slice sA sn sc, .slice oA on oc] 42)
        have hbx := Blk.new w3 42 #[.int .i64 a, .int .i64 b, .slice cA cn cc, .slice mA mn mc, .slice sA sn sc, .slice oA on oc]
        have hks4 := hks.below hal
        have hy4 := HY2.out.below hb4 HY2.out.lt
        have ho4 := HO2.out.below hb4 HO2.out.lt
        have hbb := HB2.out.trans (hb4.mono HB2.out.size)
        have hr4 := (HR2.out.below hb4).more hb4.size
        have hw3 := hb3.size
        have hw2 := HB2.out.size
        have HZ2 := Lib.hid (show w.heap.size + 3 ≤ w2.heap.size by have := HO2.out.lt; omega)
        obtain ⟨W4, hW4⟩ : ∃ W4, w3.alloc (.cells #[.int .i64 a, .int .i64 b, .slice cA cn cc, .slice mA mn mc, .slice sA sn sc, .slice oA on oc] 42) = W4 := ⟨_, rfl⟩
        rw [hW4] at hbx hks4 hy4 ho4 hbb hr4
        have HY := Lib.hid hy4
        have HO := Lib.hid ho4
        have HB := Lib.hid hbb
        have HX := Lib.hid hbx
        have HKS := Lib.hid hks4
        clear hal hb4 hb3 hks hbx hks4 hy4 ho4 hbb hc0 hc1 HY2 HO2 HC3 HC2
        obtain ⟨ad, rfl, hbl, k0, k2⟩ := itok_at hr4 hq
        have hadne := toks_ne hr4 hq HY.out zcs_str
        generalize (Tb.tok l q).kind = kd at *
        generalize (Tb.tok l q).pos = ps at *
        have n0 : W4.cell? ⟨w.heap.size + 2, 0, none⟩ = some (.int .i64 0) := HO.out.cell 0
        have n1 : W4.cell? ⟨w.heap.size + 2, 1, none⟩ = some (.int .i64 0) := HO.out.cell 1
        have n2 : W4.cell? ⟨w.heap.size + 2, 2, none⟩ = some (.slice none 0 0) := HO.out.cell 2
        have n3 : W4.cell? ⟨w.heap.size + 2, 3, none⟩ = some (.slice none 0 0) := HO.out.cell 3
        have n4 : W4.cell? ⟨w.heap.size + 2, 4, none⟩ = some (.slice none 0 0) := HO.out.cell 4
        have n5 : W4.cell? ⟨w.heap.size + 2, 5, none⟩ = some (.slice none 0 0) := HO.out.cell 5
        clear hr4
        have hyv : Blk (ansF w W4 (.int .i64 0) (.int .i64 0) (.slice none 0 0) (.slice none 0 0) (.slice none 0 0) (.slice none 0 0)).drew (w.heap.size + 1) 42 #[.int .i64 0, .int .i64 0, .slice none 0 0, .slice none 0 0, .slice none 0 0, .slice none 0 0] := (blk_ansF HY.out).drew9
        have hbv : Below w.heap.size w (ansF w W4 (.int .i64 0) (.int .i64 0) (.slice none 0 0) (.slice none 0 0) (.slice none 0 0) (.slice none 0 0)).drew := (below_ansF HB.out).drew
        have y0 : W4.cell? ⟨w.heap.size + 1, 0, none⟩ = some (.int .i64 0) := HY.out.cell 0
        have f0 : W4.frozen? ⟨w.heap.size + 1, 0, none⟩ = false := HY.out.frozen 0
        have v0 := hyv.cell 0
        have y1 : W4.cell? ⟨w.heap.size + 1, 1, none⟩ = some (.int .i64 0) := HY.out.cell 1
        have f1 : W4.frozen? ⟨w.heap.size + 1, 1, none⟩ = false := HY.out.frozen 1
        have v1 := hyv.cell 1
        have y2 : W4.cell? ⟨w.heap.size + 1, 2, none⟩ = some (.slice none 0 0) := HY.out.cell 2
        have f2 : W4.frozen? ⟨w.heap.size + 1, 2, none⟩ = false := HY.out.frozen 2
        have v2 := hyv.cell 2
        have y3 : W4.cell? ⟨w.heap.size + 1, 3, none⟩ = some (.slice none 0 0) := HY.out.cell 3
        have f3 : W4.frozen? ⟨w.heap.size + 1, 3, none⟩ = false := HY.out.frozen 3
        have v3 := hyv.cell 3
        have y4 : W4.cell? ⟨w.heap.size + 1, 4, none⟩ = some (.slice none 0 0) := HY.out.cell 4
        have f4 : W4.frozen? ⟨w.heap.size + 1, 4, none⟩ = false := HY.out.frozen 4
        have v4 := hyv.cell 4
        have y5 : W4.cell? ⟨w.heap.size + 1, 5, none⟩ = some (.slice none 0 0) := HY.out.cell 5
        have f5 : W4.frozen? ⟨w.heap.size + 1, 5, none⟩ = false := HY.out.frozen 5
        have v5 := hyv.cell 5
        have hkv : KSt w.heap.size (ansF w W4 (.int .i64 0) (.int .i64 0) (.slice none 0 0) (.slice none 0 0) (.slice none 0 0) (.slice none 0 0)).drew (.agg #[.int .i64 0, .int .i64 0, .slice none 0 0, .slice none 0 0, .slice none 0 0, .slice none 0 0]) St.zero := KSt.zero _ _
        have HBV := Lib.hid hbv
        have HKV := Lib.hid hkv
        have hylt := HY.out.lt
        have hov : Blk (ansF w W4 (.int .i64 0) (.int .i64 0) (.slice none 0 0) (.slice none 0 0) (.slice none 0 0) (.slice none 0 0)).drew (w.heap.size + 2) 42 #[.int .i64 0, .int .i64 0, .slice none 0 0, .slice none 0 0, .slice none 0 0, .slice none 0 0] := (blk_otherF HO.out (by omega)).drew9
        have hkv2 : (ansF w W4 (.int .i64 0) (.int .i64 0) (.slice none 0 0) (.slice none 0 0) (.slice none 0 0) (.slice none 0 0)).drew.cell? ⟨(ad.add (q * 3)).block, (ad.add (q * 3)).off + 2, none⟩ = some (.int .i64 ps) := cell_ansF9 k2 (by show (ad.add (q * 3)).block ≠ _; exact hadne)
        unfold ansF at hov hkv2
        unfold ansF at v0 v1 v2 v3 v4 v5 HBV HKV
        clear hyv hbv hkv
        go_wp2_with (fail)
        refine Free.region_seq [7] [0, 5] 10 (fun W' => W'.cell? ⟨w.heap.size + 2, 0, none⟩ = some (.int .i64 0) ∧ W'.cell? ⟨w.heap.size + 2, 1, none⟩ = some (.int .i64 0) ∧ W'.cell? ⟨w.heap.size + 2, 2, none⟩ = some (.slice none 0 0) ∧ W'.cell? ⟨w.heap.size + 2, 3, none⟩ = some (.slice none 0 0) ∧ W'.cell? ⟨w.heap.size + 2, 4, none⟩ = some (.slice none 0 0) ∧ W'.cell? ⟨w.heap.size + 2, 5, none⟩ = some (.slice none 0 0) ∧ W'.cell? ⟨(ad.add (q * 3)).block, (ad.add (q * 3)).off + 2, none⟩ = some (.int .i64 ps)) (by kernel_rfl) (by kernel_rfl) (by kernel_rfl) (by kernel_rfl) (⟨n0, n1, n2, n3, n4, n5, k2⟩) (fun ops hops => ?_)
        clear hops
        iterate 7
          refine Free.Seq.quiet (v := ?_) (a' := ?_) rfl rfl (fun W' hW' => ?_) ?_ ?_
          rotate_left 2
          · first | obtain ⟨s0, s1, s2, s3, s4, s5, s6⟩ := hW' rfl | skip
            go_simp
            try with_reducible rfl
          · simp only [Act.put, List.setIfInBounds_toArray, List.set_cons_zero, List.set_cons_succ]
            try with_reducible rfl
        refine Free.Seq.loud_ rfl (.inl rfl) (fun K hK => ?_)
        go_simp
        refine hK.out _ _ rfl (fun _ => ⟨hov.cell 0, hov.cell 1, hov.cell 2, hov.cell 3, hov.cell 4, hov.cell 5, hkv2⟩) ?_
        clear hK K
        iterate 2
          refine Free.Seq.quiet (v := ?_) (a' := ?_) rfl rfl (fun W' hW' => ?_) ?_ ?_
          rotate_left 2
          · skip
            go_simp
            try with_reducible rfl
          · simp only [Act.put, List.setIfInBounds_toArray, List.set_cons_zero, List.set_cons_succ]
            try with_reducible rfl
        refine Free.Seq.nil_ ?_
        go_wp2
        refine bodyPost_ret (v := .tuple #[.agg #[.int .i64 0, .int .i64 0, .slice none 0 0, .slice none 0 0, .slice none 0 0, .slice none 0 0], .int .i64 ps, .int .i64 (e2 : Nat)]) (by simp [results, Tryz.results59, go_sem, v0, v1, v2, v3, v4, v5]) rfl ?_
        exact ⟨0, 0, none, 0, 0, none, 0, 0, none, 0, 0, none, 0, 0, rfl, HKV.out, HBV.out⟩
    · have hz1 : ((er : Int) != 0) = true := by rw [bne_iff_ne]; omega
      have hpl : St.parseL names up.length (l, a9, er) = (St.zero, (a9 : Int), er) := by unfold St.parseL; rw [if_neg her]
      rw [hpl]
      clear hpl her
      go_enter Tryz.func59, Tryz.ntmps59
      go_wp2_with (go_at_call 27; refine HCH.out.mono ?_)
      rintro e w1 ⟨rfl, hb1⟩
      have HP1 := Lib.hid (HP0.out.below hb1 HP0.out.lt)
      have HY1 := Lib.hid (HY0.out.below hb1 HY0.out.lt)
      have HO1 := Lib.hid (HO0.out.below hb1 HO0.out.lt)
      have HB1 := Lib.hid (HB0.out.trans (hb1.mono HB0.out.size))
      clear hb1
      have HC2 := Lib.hid (HLX.out w1)
      go_wp2_with (fail)
      refine HC2.out.mono ?_
      rintro e w2 ⟨v2, rfl, htk, hb2⟩
      have HY := Lib.hid (HY1.out.below hb2 HY1.out.lt)
      have ho2 := HO1.out.below hb2 HO1.out.lt
      have HB := Lib.hid (HB1.out.trans (hb2.mono HB1.out.size))
      have n0 : w2.cell? ⟨w.heap.size + 2, 0, none⟩ = some (.int .i64 0) := ho2.cell 0
      have n1 : w2.cell? ⟨w.heap.size + 2, 1, none⟩ = some (.int .i64 0) := ho2.cell 1
      have n2 : w2.cell? ⟨w.heap.size + 2, 2, none⟩ = some (.slice none 0 0) := ho2.cell 2
      have n3 : w2.cell? ⟨w.heap.size + 2, 3, none⟩ = some (.slice none 0 0) := ho2.cell 3
      have n4 : w2.cell? ⟨w.heap.size + 2, 4, none⟩ = some (.slice none 0 0) := ho2.cell 4
      have n5 : w2.cell? ⟨w.heap.size + 2, 5, none⟩ = some (.slice none 0 0) := ho2.cell 5
      have holt := ho2.lt
      clear hb2 ho2 HY1 HO1 HB1 htk
      have hyv : Blk (ansF w w2 (.int .i64 0) (.int .i64 0) (.slice none 0 0) (.slice none 0 0) (.slice none 0 0) (.slice none 0 0)) (w.heap.size + 1) 42 #[.int .i64 0, .int .i64 0, .slice none 0 0, .slice none 0 0, .slice none 0 0, .slice none 0 0] := (blk_ansF HY.out)
      have hbv : Below w.heap.size w (ansF w w2 (.int .i64 0) (.int .i64 0) (.slice none 0 0) (.slice none 0 0) (.slice none 0 0) (.slice none 0 0)) := (below_ansF HB.out)
      have y0 : w2.cell? ⟨w.heap.size + 1, 0, none⟩ = some (.int .i64 0) := HY.out.cell 0
      have f0 : w2.frozen? ⟨w.heap.size + 1, 0, none⟩ = false := HY.out.frozen 0
      have v0 := hyv.cell 0
      have y1 : w2.cell? ⟨w.heap.size + 1, 1, none⟩ = some (.int .i64 0) := HY.out.cell 1
      have f1 : w2.frozen? ⟨w.heap.size + 1, 1, none⟩ = false := HY.out.frozen 1
      have v1 := hyv.cell 1
      have y2 : w2.cell? ⟨w.heap.size + 1, 2, none⟩ = some (.slice none 0 0) := HY.out.cell 2
      have f2 : w2.frozen? ⟨w.heap.size + 1, 2, none⟩ = false := HY.out.frozen 2
      have v2 := hyv.cell 2
      have y3 : w2.cell? ⟨w.heap.size + 1, 3, none⟩ = some (.slice none 0 0) := HY.out.cell 3
      have f3 : w2.frozen? ⟨w.heap.size + 1, 3, none⟩ = false := HY.out.frozen 3
      have v3 := hyv.cell 3
      have y4 : w2.cell? ⟨w.heap.size + 1, 4, none⟩ = some (.slice none 0 0) := HY.out.cell 4
      have f4 : w2.frozen? ⟨w.heap.size + 1, 4, none⟩ = false := HY.out.frozen 4
      have v4 := hyv.cell 4
      have y5 : w2.cell? ⟨w.heap.size + 1, 5, none⟩ = some (.slice none 0 0) := HY.out.cell 5
      have f5 : w2.frozen? ⟨w.heap.size + 1, 5, none⟩ = false := HY.out.frozen 5
      have v5 := hyv.cell 5
      have hkv : KSt w.heap.size (ansF w w2 (.int .i64 0) (.int .i64 0) (.slice none 0 0) (.slice none 0 0) (.slice none 0 0) (.slice none 0 0)) (.agg #[.int .i64 0, .int .i64 0, .slice none 0 0, .slice none 0 0, .slice none 0 0, .slice none 0 0]) St.zero := KSt.zero _ _
      have HBV := Lib.hid hbv
      have HKV := Lib.hid hkv
      have hylt := HY.out.lt
      unfold ansF at v0 v1 v2 v3 v4 v5 HBV HKV
      clear hyv hbv hkv
      go_wp2
      refine bodyPost_ret (v := .tuple #[.agg #[.int .i64 0, .int .i64 0, .slice none 0 0, .slice none 0 0, .slice none 0 0, .slice none 0 0], .int .i64 (a9 : Int), .int .i64 (er : Nat)]) (by simp [results, Tryz.results59, go_sem, v0, v1, v2, v3, v4, v5]) rfl ?_
      exact ⟨0, 0, none, 0, 0, none, 0, 0, none, 0, 0, none, 0, 0, rfl, HKV.out, HBV.out⟩
  · have hp : St.parse names up s.data.toList = (St.zero, 0, n) := by unfold St.parse; rw [hn, if_neg hz]
    rw [hp]
    have hz1 : ((n : Int) != 0) = true := by rw [bne_iff_ne]; omega
    clear h hi hN hU hp0 hy0 ho0 hb0 hch hn hp hz
    go_enter Tryz.func59, Tryz.ntmps59
    go_wp2_with (go_at_call 27; refine HCH.out.mono ?_)
    rintro e w1 ⟨rfl, hb1⟩
    have HP1 := Lib.hid (HP0.out.below hb1 HP0.out.lt)
    have HY1 := Lib.hid (HY0.out.below hb1 HY0.out.lt)
    have HO1 := Lib.hid (HO0.out.below hb1 HO0.out.lt)
    have HB1 := Lib.hid (HB0.out.trans (hb1.mono HB0.out.size))
    clear hb1
    have HY := HY1
    have HB := HB1
    have n0 : w1.cell? ⟨w.heap.size + 2, 0, none⟩ = some (.int .i64 0) := HO1.out.cell 0
    have n1 : w1.cell? ⟨w.heap.size + 2, 1, none⟩ = some (.int .i64 0) := HO1.out.cell 1
    have n2 : w1.cell? ⟨w.heap.size + 2, 2, none⟩ = some (.slice none 0 0) := HO1.out.cell 2
    have n3 : w1.cell? ⟨w.heap.size + 2, 3, none⟩ = some (.slice none 0 0) := HO1.out.cell 3
    have n4 : w1.cell? ⟨w.heap.size + 2, 4, none⟩ = some (.slice none 0 0) := HO1.out.cell 4
    have n5 : w1.cell? ⟨w.heap.size + 2, 5, none⟩ = some (.slice none 0 0) := HO1.out.cell 5
    have holt := HO1.out.lt
    clear HY1 HB1
    have hyv : Blk (ansF w w1 (.int .i64 0) (.int .i64 0) (.slice none 0 0) (.slice none 0 0) (.slice none 0 0) (.slice none 0 0)) (w.heap.size + 1) 42 #[.int .i64 0, .int .i64 0, .slice none 0 0, .slice none 0 0, .slice none 0 0, .slice none 0 0] := (blk_ansF HY.out)
    have hbv : Below w.heap.size w (ansF w w1 (.int .i64 0) (.int .i64 0) (.slice none 0 0) (.slice none 0 0) (.slice none 0 0) (.slice none 0 0)) := (below_ansF HB.out)
    have y0 : w1.cell? ⟨w.heap.size + 1, 0, none⟩ = some (.int .i64 0) := HY.out.cell 0
    have f0 : w1.frozen? ⟨w.heap.size + 1, 0, none⟩ = false := HY.out.frozen 0
    have v0 := hyv.cell 0
    have y1 : w1.cell? ⟨w.heap.size + 1, 1, none⟩ = some (.int .i64 0) := HY.out.cell 1
    have f1 : w1.frozen? ⟨w.heap.size + 1, 1, none⟩ = false := HY.out.frozen 1
    have v1 := hyv.cell 1
    have y2 : w1.cell? ⟨w.heap.size + 1, 2, none⟩ = some (.slice none 0 0) := HY.out.cell 2
    have f2 : w1.frozen? ⟨w.heap.size + 1, 2, none⟩ = false := HY.out.frozen 2
    have v2 := hyv.cell 2
    have y3 : w1.cell? ⟨w.heap.size + 1, 3, none⟩ = some (.slice none 0 0) := HY.out.cell 3
    have f3 : w1.frozen? ⟨w.heap.size + 1, 3, none⟩ = false := HY.out.frozen 3
    have v3 := hyv.cell 3
    have y4 : w1.cell? ⟨w.heap.size + 1, 4, none⟩ = some (.slice none 0 0) := HY.out.cell 4
    have f4 : w1.frozen? ⟨w.heap.size + 1, 4, none⟩ = false := HY.out.frozen 4
    have v4 := hyv.cell 4
    have y5 : w1.cell? ⟨w.heap.size + 1, 5, none⟩ = some (.slice none 0 0) := HY.out.cell 5
    have f5 : w1.frozen? ⟨w.heap.size + 1, 5, none⟩ = false := HY.out.frozen 5
    have v5 := hyv.cell 5
    have hkv : KSt w.heap.size (ansF w w1 (.int .i64 0) (.int .i64 0) (.slice none 0 0) (.slice none 0 0) (.slice none 0 0) (.slice none 0 0)) (.agg #[.int .i64 0, .int .i64 0, .slice none 0 0, .slice none 0 0, .slice none 0 0, .slice none 0 0]) St.zero := KSt.zero _ _
    have HBV := Lib.hid hbv
    have HKV := Lib.hid hkv
    have hylt := HY.out.lt
    unfold ansF at v0 v1 v2 v3 v4 v5 HBV HKV
    clear hyv hbv hkv
    go_wp2
    refine bodyPost_ret (v := .tuple #[.agg #[.int .i64 0, .int .i64 0, .slice none 0 0, .slice none 0 0, .slice none 0 0, .slice none 0 0], .int .i64 0, .int .i64 (n : Nat)]) (by simp [results, Tryz.results59, go_sem, v0, v1, v2, v3, v4, v5]) rfl ?_
    exact ⟨0, 0, none, 0, 0, none, 0, 0, none, 0, 0, none, 0, 0, rfl, HKV.out, HBV.out⟩
set_option maxHeartbeats 4000000 in
theorem sparse_any {v : Value} {names : List ByteArray} {up : List Nat} (s : ByteArray) (hs : s.size ≤ maxLen) (w : World) (h : IsLat w w.heap.size v names up) (hi : Ins w) :
    Calls Tryz.prog 25 #[v, .string s] w (SPRes w (St.parse names up s.data.toList)) := by
  obtain ⟨⟨N, U, c1, c2, rfl, hN, hU⟩, hsh, hfew, hcaps⟩ := id h
  have hb0 := (((Below.refl _ w).alloc (Nat.le_refl _) (.cells #[.slice N names.length c1, .slice U up.length c2] 25)).alloc (by simp) (.cells #[.int .i64 0, .int .i64 0, .slice none 0 0, .slice none 0 0, .slice none 0 0, .slice none 0 0] 42))
  obtain ⟨W0, hW0⟩ : ∃ W0, (w.alloc (.cells #[.slice N names.length c1, .slice U up.length c2] 25)).alloc (.cells #[.int .i64 0, .int .i64 0, .slice none 0 0, .slice none 0 0, .slice none 0 0, .slice none 0 0] 42) = W0 := ⟨_, rfl⟩
  have hp0 : Blk W0 w.heap.size 25 #[.slice N names.length c1, .slice U up.length c2] := hW0 ▸ (Blk.new _ _ _).alloc _
  have hy0 : Blk W0 (w.heap.size + 1) 42 #[.int .i64 0, .int .i64 0, .slice none 0 0, .slice none 0 0, .slice none 0 0, .slice none 0 0] := by
    have h1 := Blk.new (w.alloc (.cells #[.slice N names.length c1, .slice U up.length c2] 25)) 42 #[.int .i64 0, .int .i64 0, .slice none 0 0, .slice none 0 0, .slice none 0 0, .slice none 0 0]
    rw [show (w.alloc (.cells #[.slice N names.length c1, .slice U up.length c2] 25)).heap.size = w.heap.size + 1 by simp] at h1
    rw [← hW0]; exact h1
  have hsz0 : W0.heap.size = w.heap.size + 2 := by rw [← hW0]; simp
  rw [hW0] at hb0
  have a0 : W0.cell? ⟨w.heap.size, 0, none⟩ = some (.slice N names.length c1) := hp0.cell 0
  have a1 : W0.cell? ⟨w.heap.size, 1, none⟩ = some (.slice U up.length c2) := hp0.cell 1
  have HW := Lib.hid (swhole_any s hs W0 ((h.below hb0).more hb0.size) (hi.below hb0 hi.lt))
  have HB0 := Lib.hid hb0
  have HY0 := Lib.hid hy0
  obtain ⟨⟨st, ps, er⟩, hr⟩ : ∃ r, St.parse names up s.data.toList = r := ⟨_, rfl⟩
  rw [hr] at HW ⊢
  clear h hi hN hU hb0 hp0 hy0 hr
  go_enter Tryz.func25, Tryz.ntmps25
  go_wp2_with (fail)
  refine HW.out.mono ?_
  rintro e w1 ⟨a, b, cA, cn, cc, mA, mn, mc, sA, sn, sc, oA, on, oc, rfl, hks, hb1⟩
  have HB := Lib.hid (HB0.out.trans (hb1.mono HB0.out.size))
  have HY := Lib.hid (HY0.out.below hb1 HY0.out.lt)
  have HK := Lib.hid hks
  clear hks hb1 a0 a1
  have hyv : Blk (ansF w w1 (.int .i64 a) (.int .i64 b) (.slice cA cn cc) (.slice mA mn mc) (.slice sA sn sc) (.slice oA on oc)) (w.heap.size + 1) 42 #[.int .i64 a, .int .i64 b, .slice cA cn cc, .slice mA mn mc, .slice sA sn sc, .slice oA on oc] := (blk_ansF HY.out)
  have hbv : Below w.heap.size w (ansF w w1 (.int .i64 a) (.int .i64 b) (.slice cA cn cc) (.slice mA mn mc) (.slice sA sn sc) (.slice oA on oc)) := (below_ansF HB.out)
  have y0 : w1.cell? ⟨w.heap.size + 1, 0, none⟩ = some (.int .i64 0) := HY.out.cell 0
  have f0 : w1.frozen? ⟨w.heap.size + 1, 0, none⟩ = false := HY.out.frozen 0
  have v0 := hyv.cell 0
  have y1 : w1.cell? ⟨w.heap.size + 1, 1, none⟩ = some (.int .i64 0) := HY.out.cell 1
  have f1 : w1.frozen? ⟨w.heap.size + 1, 1, none⟩ = false := HY.out.frozen 1
  have v1 := hyv.cell 1
  have y2 : w1.cell? ⟨w.heap.size + 1, 2, none⟩ = some (.slice none 0 0) := HY.out.cell 2
  have f2 : w1.frozen? ⟨w.heap.size + 1, 2, none⟩ = false := HY.out.frozen 2
  have v2 := hyv.cell 2
  have y3 : w1.cell? ⟨w.heap.size + 1, 3, none⟩ = some (.slice none 0 0) := HY.out.cell 3
  have f3 : w1.frozen? ⟨w.heap.size + 1, 3, none⟩ = false := HY.out.frozen 3
  have v3 := hyv.cell 3
  have y4 : w1.cell? ⟨w.heap.size + 1, 4, none⟩ = some (.slice none 0 0) := HY.out.cell 4
  have f4 : w1.frozen? ⟨w.heap.size + 1, 4, none⟩ = false := HY.out.frozen 4
  have v4 := hyv.cell 4
  have y5 : w1.cell? ⟨w.heap.size + 1, 5, none⟩ = some (.slice none 0 0) := HY.out.cell 5
  have f5 : w1.frozen? ⟨w.heap.size + 1, 5, none⟩ = false := HY.out.frozen 5
  have v5 := hyv.cell 5
  have hkv : KSt w.heap.size (ansF w w1 (.int .i64 a) (.int .i64 b) (.slice cA cn cc) (.slice mA mn mc) (.slice sA sn sc) (.slice oA on oc)) (.agg #[.int .i64 a, .int .i64 b, .slice cA cn cc, .slice mA mn mc, .slice sA sn sc, .slice oA on oc]) st := (HK.out.ansF (show w.heap.size + 1 < W0.heap.size by omega) _ _ _ _ _ _).less (show w.heap.size ≤ W0.heap.size by omega)
  have HBV := Lib.hid hbv
  have HKV := Lib.hid hkv
  have hylt := HY.out.lt
  unfold ansF at v0 v1 v2 v3 v4 v5 HBV HKV
  clear hyv hbv hkv
  go_wp2
  refine bodyPost_ret (v := .tuple #[.agg #[.int .i64 a, .int .i64 b, .slice cA cn cc, .slice mA mn mc, .slice sA sn sc, .slice oA on oc], .int .i64 ps, .int .i64 (er : Nat)]) (by simp [results, Tryz.results25, go_sem, v0, v1, v2, v3, v4, v5]) rfl ?_
  exact ⟨a, b, cA, cn, cc, mA, mn, mc, sA, sn, sc, oA, on, oc, rfl, HKV.out, HBV.out⟩
end Go.Proofs.YtipbilmnknmhmaaGreatDoor

/- The reference's AtomsSame and Same (by gen_stmi.py). -/
namespace Go.Proofs.YtipbilmnknmhmaaGreatDoor
set_option maxRecDepth 100000
open Go.RowKit Go.Shelf Go.Sort
attribute [local go_sem] Oper.semAt_some
theorem eqF2 {P : Program} {it : TypeId} (hu : P.underlying it = some (.int .i64)) (hp : P.plainKey it = true) (w : World) (d : Nat) (f0 f1 : Field) (h0 : f0.name ≠ "_" ∧ f0.type = it ∧ f0.offset = 0) (h1 : f1.name ≠ "_" ∧ f1.type = it ∧ f1.offset = 1) (a0 a1 b0 b1 : Int) :
    (Op.eqFields (d + 1) #[.int .i64 a0, .int .i64 a1] #[.int .i64 b0, .int .i64 b1] [f0, f1]).run P w = .ok (a0 == b0 && a1 == b1) w := by
  have p : ∀ (xs : Array Value) (off : Nat) (v : Value), xs[off]? = some v → (part it xs off).run P w = .ok v w := fun xs off v h => run_part_plain w hp h
  have p0 : ∀ a b : Int, (part it #[.int .i64 a, .int .i64 b] 0).run P w = .ok (.int .i64 a) w := fun a b => p _ _ _ rfl
  have p1 : ∀ a b : Int, (part it #[.int .i64 a, .int .i64 b] 1).run P w = .ok (.int .i64 b) w := fun a b => p _ _ _ rfl
  have q : ∀ a b : Int, (Op.equalIn (d + 1) it (.int .i64 a) (.int .i64 b)).run P w = .ok (a == b) w := fun a b => run_equalIn_int w d it .i64 .i64 a b hu
  obtain ⟨n0, t0, o0⟩ := h0
  obtain ⟨n1, t1, o1⟩ := h1
  simp only [Op.eqFields, n0, n1, t0, t1, o0, o1, ne_eq, not_false_eq_true, if_true, Sem.run_bind, Sem.run_ite, Sem.run_pure, p0, p1, q, Result.andThen_ok]
  generalize (a0 == b0) = u0
  generalize (a1 == b1) = u1
  clear p p0 p1 q
  cases u0 <;> cases u1 <;> simp [Result.andThen]
theorem eqF3b {P : Program} {bt it : TypeId} (hub : P.underlying bt = some .bool) (hpb : P.plainKey bt = true) (hu : P.underlying it = some (.int .i64)) (hp : P.plainKey it = true) (w : World) (d : Nat) (f0 f1 f2 : Field) (h0 : f0.name ≠ "_" ∧ f0.type = bt ∧ f0.offset = 0) (h1 : f1.name ≠ "_" ∧ f1.type = it ∧ f1.offset = 1) (h2 : f2.name ≠ "_" ∧ f2.type = it ∧ f2.offset = 2) (a0 b0 : Bool) (a1 a2 b1 b2 : Int) :
    (Op.eqFields (d + 1) #[.bool a0, .int .i64 a1, .int .i64 a2] #[.bool b0, .int .i64 b1, .int .i64 b2] [f0, f1, f2]).run P w = .ok (a0 == b0 && (a1 == b1 && a2 == b2)) w := by
  have p : ∀ (xs : Array Value) (off : Nat) (v : Value), xs[off]? = some v → (part it xs off).run P w = .ok v w := fun xs off v h => run_part_plain w hp h
  have p0 : ∀ (a : Bool) (b c : Int), (part bt #[.bool a, .int .i64 b, .int .i64 c] 0).run P w = .ok (.bool a) w := fun a b c => run_part_plain w hpb rfl
  have p1 : ∀ (a : Bool) (b c : Int), (part it #[.bool a, .int .i64 b, .int .i64 c] 1).run P w = .ok (.int .i64 b) w := fun a b c => p _ _ _ rfl
  have p2 : ∀ (a : Bool) (b c : Int), (part it #[.bool a, .int .i64 b, .int .i64 c] 2).run P w = .ok (.int .i64 c) w := fun a b c => p _ _ _ rfl
  have q0 : ∀ a b : Bool, (Op.equalIn (d + 1) bt (.bool a) (.bool b)).run P w = .ok (a == b) w := fun a b => run_equalIn_bool w d bt a b hub
  have q : ∀ a b : Int, (Op.equalIn (d + 1) it (.int .i64 a) (.int .i64 b)).run P w = .ok (a == b) w := fun a b => run_equalIn_int w d it .i64 .i64 a b hu
  obtain ⟨n0, t0, o0⟩ := h0
  obtain ⟨n1, t1, o1⟩ := h1
  obtain ⟨n2, t2, o2⟩ := h2
  simp only [Op.eqFields, n0, n1, n2, t0, t1, t2, o0, o1, o2, ne_eq, not_false_eq_true, if_true, Sem.run_bind, Sem.run_ite, Sem.run_pure, p0, p1, p2, q0, q, Result.andThen_ok]
  generalize (a0 == b0) = u0
  generalize (a1 == b1) = u1
  generalize (a2 == b2) = u2
  clear p p0 p1 p2 q q0
  cases u0 <;> cases u1 <;> cases u2 <;> simp [Result.andThen]
theorem run_ateq (x y : St.Atom) (w : World) : (Op.equalIn 10000 38 (.agg #[.int .i64 x.v, .int .i64 x.l]) (.agg #[.int .i64 y.v, .int .i64 y.l])).run Tryz.prog w = .ok (decide (x = y)) w := by
  have hd : decide (x = y) = (x.v == y.v && x.l == y.l) := by
    obtain ⟨a, b⟩ := x
    obtain ⟨d, e⟩ := y
    rw [Bool.eq_iff_iff]
    simp
  have hl : (Tryz.prog.fieldsOf 38).toList = [(Tryz.prog.fieldsOf 38).getD 0 ⟨ "", 0, 0, false, "", "", 0⟩, (Tryz.prog.fieldsOf 38).getD 1 ⟨ "", 0, 0, false, "", "", 0⟩] := by kernel_rfl
  rw [hd, run_equalIn_struct w 9999 38 _ _ (by kernel_rfl) (by kernel_rfl), hl]
  exact eqF2 Tryz.underlying3 (by kernel_rfl) w 9998 _ _ ⟨by decide +kernel, by kernel_rfl, by kernel_rfl⟩ ⟨by decide +kernel, by kernel_rfl, by kernel_rfl⟩ _ _ _ _
theorem run_sleq (x y : St.Slot) (w : World) : (Op.equalIn 10000 73 (.agg #[.bool x.ret, .int .i64 x.v, .int .i64 x.l]) (.agg #[.bool y.ret, .int .i64 y.v, .int .i64 y.l])).run Tryz.prog w = .ok (decide (x = y)) w := by
  have hd : decide (x = y) = (x.ret == y.ret && (x.v == y.v && x.l == y.l)) := by
    obtain ⟨a, b, c⟩ := x
    obtain ⟨d, e, f⟩ := y
    rw [Bool.eq_iff_iff]
    simp
  have hl : (Tryz.prog.fieldsOf 73).toList = [(Tryz.prog.fieldsOf 73).getD 0 ⟨ "", 0, 0, false, "", "", 0⟩, (Tryz.prog.fieldsOf 73).getD 1 ⟨ "", 0, 0, false, "", "", 0⟩, (Tryz.prog.fieldsOf 73).getD 2 ⟨ "", 0, 0, false, "", "", 0⟩] := by kernel_rfl
  rw [hd, run_equalIn_struct w 9999 73 _ _ (by kernel_rfl) (by kernel_rfl), hl]
  exact eqF3b Tryz.underlying4 (by kernel_rfl) Tryz.underlying3 (by kernel_rfl) w 9998 _ _ _ ⟨by decide +kernel, by kernel_rfl, by kernel_rfl⟩ ⟨by decide +kernel, by kernel_rfl, by kernel_rfl⟩ ⟨by decide +kernel, by kernel_rfl, by kernel_rfl⟩ _ _ _ _ _ _
theorem run_at_neq (x y : St.Atom) (w : World) : (binOp .neq 38 (.agg #[.int .i64 x.v, .int .i64 x.l]) (.agg #[.int .i64 y.v, .int .i64 y.l])).run Tryz.prog w = .ok (.bool (!decide (x = y))) w := by
  rw [run_neq_struct, run_ateq]
  rfl
theorem run_at_eql (x y : St.Atom) (w : World) : (binOp .eql 38 (.agg #[.int .i64 x.v, .int .i64 x.l]) (.agg #[.int .i64 y.v, .int .i64 y.l])).run Tryz.prog w = .ok (.bool (decide (x = y))) w := by
  rw [run_eql_struct, run_ateq]
  rfl
theorem run_sl_neq (x y : St.Slot) (w : World) : (binOp .neq 73 (.agg #[.bool x.ret, .int .i64 x.v, .int .i64 x.l]) (.agg #[.bool y.ret, .int .i64 y.v, .int .i64 y.l])).run Tryz.prog w = .ok (.bool (!decide (x = y))) w := by
  rw [run_neq_struct, run_sleq]
  rfl
theorem run_sl_eql (x y : St.Slot) (w : World) : (binOp .eql 73 (.agg #[.bool x.ret, .int .i64 x.v, .int .i64 x.l]) (.agg #[.bool y.ret, .int .i64 y.v, .int .i64 y.l])).run Tryz.prog w = .ok (.bool (decide (x = y))) w := by
  rw [run_eql_struct, run_sleq]
  rfl
theorem below_drawn_blk {b : Nat} {t : TypeId} {c : Array Value} {w : World} (h : Blk w b t c) (n : Nat) : Blk (w.drewN n) b t c := h
theorem same_stepA {α : Type} {a b : List α} {k : Nat} {x y : α} (ha : a[k]? = some x) (hb : b[k]? = some y) (h : x ≠ y) : a ≠ b := fun e => by
  rw [e, hb] at ha
  injection ha with ha
  exact h ha.symm
theorem same_allA {α : Type} {a b : List α} (hl : a.length = b.length) (h : ∀ (k : Nat) (x y : α), a[k]? = some x → b[k]? = some y → x = y) : a = b :=
  List.ext_getElem? fun k => by
    by_cases hk : k < a.length
    · rw [List.getElem?_eq_getElem hk, List.getElem?_eq_getElem (by omega), h k _ _ (List.getElem?_eq_getElem hk) (List.getElem?_eq_getElem (by omega))]
    · rw [List.getElem?_eq_none (by omega), List.getElem?_eq_none (by omega)]
set_option maxHeartbeats 4000000 in
theorem rAtomsSame_any {A B : Option Addr} {a b : List St.Atom} (c d : Nat) (w : World) (h : Row w w.heap.size A (fcells avs a)) (h' : Row w w.heap.size B (fcells avs b)) (ha : a.length ≤ 1000) (hb : b.length ≤ 1000) :
    Calls Tryz.prog 56 #[.slice A a.length c, .slice B b.length d] w (Tells w (decide (a = b))) := by
  obtain ⟨res, hres⟩ : ∃ res, decide (a = b) = res := ⟨_, rfl⟩
  rw [hres]
  have HA := Lib.hid h
  have HBR := Lib.hid h'
  have HRES := Lib.hid hres
  have HB := Lib.hid (Below.refl w.heap.size w)
  clear h h' hres
  by_cases hl : a.length = b.length
  · have h1 : ((a.length : Int) != (b.length : Int)) = false := by rw [bne_eq_false_iff_eq]; omega
    have HL := Lib.hid hl
    go_enter Tryz.func56, Tryz.ntmps56
    go_wp2
    go_loopw [13] (fun i wr => ∃ k : Nat, k ≤ a.length ∧ i = .int .i64 k ∧ Hid (∀ (j : Nat) (x y : St.Atom), j < k → a[j]? = some x → b[j]? = some y → x = y) ∧ Hid (Below w.heap.size w wr)) (fun i _ => a.length - (intOf i).toNat)
    case atStart => exact ⟨0, Nat.zero_le _, rfl, Lib.hid fun j x y hj => absurd hj (Nat.not_lt_zero _), HB⟩
    case round =>
      obtain ⟨k, hk, rfl, HS, HBW⟩ := hrel
      by_cases hlt : k < a.length
      · obtain ⟨ad, x, rfl, hxb, hx, x0, x1⟩ := arow_at (HA.out.below HBW.out) hlt
        obtain ⟨bd, y, rfl, hyb, hy, y0, y1⟩ := arow_at (HBR.out.below HBW.out) (show k < b.length by have := HL.out; omega)
        have hq := fun w => run_at_neq x y w
        have hz := HBW.out.size
        have hxb2 : (ad.add (k * 2)).block < wr.heap.size := by rw [add_block]; omega
        have hyb2 : (bd.add (k * 2)).block < wr.heap.size := by rw [add_block]; omega
        have HX := Lib.hid hx
        have HY := Lib.hid hy
        clear hx hy
        have hlt2 : k < b.length := by have := HL.out; omega

        by_cases he : x = y
        · have hf : (!decide (x = y)) = false := by rw [decide_eq_true he]; rfl
          rw [hf] at hq
          have HE := Lib.hid he
          clear he hf
          generalize hx0 : x.v = xv at *
          generalize hx1 : x.l = xl at *
          generalize hy0 : y.v = yv at *
          generalize hy1 : y.l = yl at *
          clear hx0 hx1 hy0 hy1
          go_wp2
          go_quiet (fail)
          all_goals go_wp2
          go_roundw
          case rel => exact ⟨k + 1, by omega, by go_num, Lib.hid fun j u v hj hu hv => by
            rcases Nat.lt_or_eq_of_le (Nat.le_of_lt_succ hj) with h | rfl
            · exact HS.out j u v h hu hv
            · rw [HX.out] at hu; rw [HY.out] at hv
              injection hu with hu; injection hv with hv
              rw [← hu, ← hv]; exact HE.out, Lib.hid (below_drawn HBW.out _)⟩
          case measure => simp [intOf]; omega
        · have hf : (!decide (x = y)) = true := by rw [decide_eq_false he]; rfl
          rw [hf] at hq
          have HE := Lib.hid he
          clear he hf
          generalize hx0 : x.v = xv at *
          generalize hx1 : x.l = xl at *
          generalize hy0 : y.v = yv at *
          generalize hy1 : y.l = yl at *
          clear hx0 hx1 hy0 hy1
          go_wp2
          go_quiet (fail)
          all_goals go_wp2
          go_ret
          exact ⟨retb (by rw [← HRES.out]; exact (decide_eq_false (same_stepA HX.out HY.out HE.out)).symm), below_drawn HBW.out _⟩
      · obtain rfl : k = a.length := by omega
        go_wp2
        go_ret
        exact ⟨retb (by rw [← HRES.out]; exact (decide_eq_true (same_allA HL.out fun k x y hx hy => HS.out k x y (List.getElem?_eq_some_iff.1 hx).1 hx hy)).symm), HBW.out⟩
  · have h1 : ((a.length : Int) != (b.length : Int)) = true := by rw [bne_iff_ne]; omega
    have HR2 := Lib.hid (show false = res by rw [← HRES.out]; exact (decide_eq_false fun e => hl (by rw [e])).symm)
    clear hl
    go_enter Tryz.func56, Tryz.ntmps56
    go_wp2
    go_ret
    exact ⟨retb HR2.out, HB.out⟩
/-- Are two states the same? -/
def sameB (s t : St.State) : Bool := decide (s.pc = t.pc) && (decide (s.code = t.code) && (decide (s.mem = t.mem) && (decide (s.out = t.out) && decide (s.stack = t.stack))))
theorem sameB_iff {s t : St.State} : sameB s t = true ↔ s = t := by
  obtain ⟨a, b, c, d, e⟩ := s
  obtain ⟨a', b', c', d', e'⟩ := t
  unfold sameB
  simp only [Bool.and_eq_true, decide_eq_true_eq, St.State.mk.injEq]
  constructor
  · rintro ⟨h1, h2, h3, h4, h5⟩; exact ⟨h1, h2, h3, h5, h4⟩
  · rintro ⟨h1, h2, h3, h5, h4⟩; exact ⟨h1, h2, h3, h4, h5⟩
theorem sameB_refl (s : St.State) : sameB s s = true := sameB_iff.2 rfl
set_option maxHeartbeats 16000000 in
theorem rSame9_any {sv tv : Value} {s t : St.State} (w : World) (hs : IsSt w w.heap.size sv s) (ht : IsSt w w.heap.size tv t) (hsm : SmallS s) (htm : SmallS t) :
    Calls Tryz.prog 22 #[sv, tv] w (Tells w (sameB s t)) := by
  obtain ⟨⟨av, al⟩, acode, amem, astack, aout⟩ := s
  obtain ⟨⟨bv, bl⟩, bcode, bmem, bstack, bout⟩ := t
  obtain ⟨cv, mv, stv_, ov, rfl, ⟨acA, acc, rfl, hacr, hacc⟩, ⟨amA, amc, rfl, hamr, hamc⟩, ⟨asA, asc, rfl, hasr, hasc⟩, ⟨aoA, aoc, rfl, haor, haoc⟩⟩ := hs
  obtain ⟨cv, mv, stv_, ov, rfl, ⟨bcA, bcc, rfl, hbcr, hbcc⟩, ⟨bmA, bmc, rfl, hbmr, hbmc⟩, ⟨bsA, bsc, rfl, hbsr, hbsc⟩, ⟨boA, boc, rfl, hbor, hboc⟩⟩ := ht
  obtain ⟨hs1, hs2, hs3, hs4⟩ := hsm
  obtain ⟨ht1, ht2, ht3, ht4⟩ := htm
  unfold stv sameB
  dsimp only at hacr hacc hamr hamc hasr hasc haor haoc hbcr hbcc hbmr hbmc hbsr hbsc hbor hboc hs1 hs2 hs3 hs4 ht1 ht2 ht3 ht4 ⊢
  have HC1 := Lib.hid (fun W (hb : Below w.heap.size w W) => rSame_in acc bcc W ((hacr.below hb).more hb.size) ((hbcr.below hb).more hb.size) hs1 ht1)
  have HC2 := Lib.hid (fun W (hb : Below w.heap.size w W) => rAtomsSame_any amc bmc W ((hamr.below hb).more hb.size) ((hbmr.below hb).more hb.size) hs2 ht2)
  have HC3 := Lib.hid (fun W (hb : Below w.heap.size w W) => rAtomsSame_any aoc boc W ((haor.below hb).more hb.size) ((hbor.below hb).more hb.size) hs4 ht4)
  have HA := Lib.hid hasr
  have HBR := Lib.hid hbsr
  have hb0 := (((Below.refl _ w).alloc (Nat.le_refl _) (.cells #[.int .i64 av, .int .i64 al, .slice acA acode.length acc, .slice amA amem.length amc, .slice asA astack.length asc, .slice aoA aout.length aoc] 42)).alloc (by simp) (.cells #[.int .i64 bv, .int .i64 bl, .slice bcA bcode.length bcc, .slice bmA bmem.length bmc, .slice bsA bstack.length bsc, .slice boA bout.length boc] 42))
  obtain ⟨W0, hW0⟩ : ∃ W0, (w.alloc (.cells #[.int .i64 av, .int .i64 al, .slice acA acode.length acc, .slice amA amem.length amc, .slice asA astack.length asc, .slice aoA aout.length aoc] 42)).alloc (.cells #[.int .i64 bv, .int .i64 bl, .slice bcA bcode.length bcc, .slice bmA bmem.length bmc, .slice bsA bstack.length bsc, .slice boA bout.length boc] 42) = W0 := ⟨_, rfl⟩
  have hp0 : Blk W0 w.heap.size 42 #[.int .i64 av, .int .i64 al, .slice acA acode.length acc, .slice amA amem.length amc, .slice asA astack.length asc, .slice aoA aout.length aoc] := hW0 ▸ (Blk.new _ _ _).alloc _
  have hq0 : Blk W0 (w.heap.size + 1) 42 #[.int .i64 bv, .int .i64 bl, .slice bcA bcode.length bcc, .slice bmA bmem.length bmc, .slice bsA bstack.length bsc, .slice boA bout.length boc] := by
    have h1 := Blk.new (w.alloc (.cells #[.int .i64 av, .int .i64 al, .slice acA acode.length acc, .slice amA amem.length amc, .slice asA astack.length asc, .slice aoA aout.length aoc] 42)) 42 #[.int .i64 bv, .int .i64 bl, .slice bcA bcode.length bcc, .slice bmA bmem.length bmc, .slice bsA bstack.length bsc, .slice boA bout.length boc]
    rw [show (w.alloc (.cells #[.int .i64 av, .int .i64 al, .slice acA acode.length acc, .slice amA amem.length amc, .slice asA astack.length asc, .slice aoA aout.length aoc] 42)).heap.size = w.heap.size + 1 by simp] at h1
    rw [← hW0]; exact h1
  rw [hW0] at hb0
  have HP := Lib.hid hp0
  have HQ := Lib.hid hq0
  have HB := Lib.hid hb0
  have hpcq := fun w => run_at_neq ⟨av, al⟩ ⟨bv, bl⟩ w
  dsimp only at hpcq
  clear hb0 hp0 hq0 hacr hamr hasr haor hbcr hbmr hbsr hbor
  have a0 : W0.cell? ⟨w.heap.size, 0, none⟩ = some (.int .i64 av) := HP.out.cell 0
  have a1 : W0.cell? ⟨w.heap.size, 1, none⟩ = some (.int .i64 al) := HP.out.cell 1
  have a2 : W0.cell? ⟨w.heap.size, 2, none⟩ = some (.slice acA acode.length acc) := HP.out.cell 2
  have a3 : W0.cell? ⟨w.heap.size, 3, none⟩ = some (.slice amA amem.length amc) := HP.out.cell 3
  have a4 : W0.cell? ⟨w.heap.size, 4, none⟩ = some (.slice asA astack.length asc) := HP.out.cell 4
  have a5 : W0.cell? ⟨w.heap.size, 5, none⟩ = some (.slice aoA aout.length aoc) := HP.out.cell 5
  have b0 : W0.cell? ⟨w.heap.size + 1, 0, none⟩ = some (.int .i64 bv) := HQ.out.cell 0
  have b1 : W0.cell? ⟨w.heap.size + 1, 1, none⟩ = some (.int .i64 bl) := HQ.out.cell 1
  have b2 : W0.cell? ⟨w.heap.size + 1, 2, none⟩ = some (.slice bcA bcode.length bcc) := HQ.out.cell 2
  have b3 : W0.cell? ⟨w.heap.size + 1, 3, none⟩ = some (.slice bmA bmem.length bmc) := HQ.out.cell 3
  have b4 : W0.cell? ⟨w.heap.size + 1, 4, none⟩ = some (.slice bsA bstack.length bsc) := HQ.out.cell 4
  have b5 : W0.cell? ⟨w.heap.size + 1, 5, none⟩ = some (.slice boA bout.length boc) := HQ.out.cell 5
  generalize hd1 : decide ((⟨av, al⟩ : St.Atom) = ⟨bv, bl⟩) = d1 at *
  generalize hd2 : decide (acode = bcode) = d2 at *
  generalize hd3 : decide (amem = bmem) = d3 at *
  generalize hd4 : decide (aout = bout) = d4 at *
  clear hd1 hd2 hd3 hd4
  cases d1 with
  | false =>
    rw [Bool.false_and]
    simp only [Bool.not_false] at hpcq
    clear HC1 HC2 HC3
    go_enter Tryz.func22, Tryz.ntmps22
    go_wp2
    go_ret
    exact ⟨rfl, HB.out⟩
  | true =>
    rw [Bool.true_and]
    simp only [Bool.not_true] at hpcq
    cases d2 with
    | false =>
      rw [Bool.false_and]
      clear HC2 HC3
      go_enter Tryz.func22, Tryz.ntmps22
      go_wp2_with (fail)
      refine (HC1.out W0 HB.out).mono ?_
      rintro e W1 ⟨rfl, hb9⟩
      have hb1 := HB.out.trans (hb9.mono HB.out.size)
      have hp1 := HP.out.below hb9 HP.out.lt
      have hq1 := HQ.out.below hb9 HQ.out.lt
      clear HB HP HQ hb9
      clear a0 b0 a1 b1 a2 b2 a3 b3 a4 b4 a5 b5
      have HB := Lib.hid hb1
      have HP := Lib.hid hp1
      have HQ := Lib.hid hq1
      clear hb1 hp1 hq1
      go_wp2
      go_ret
      exact ⟨rfl, HB.out⟩
    | true =>
      rw [Bool.true_and]
      cases d3 with
      | false =>
        rw [Bool.false_and]
        clear HC3
        go_enter Tryz.func22, Tryz.ntmps22
        go_wp2_with (fail)
        refine (HC1.out W0 HB.out).mono ?_
        rintro e W1 ⟨rfl, hb9⟩
        have hb1 := HB.out.trans (hb9.mono HB.out.size)
        have hp1 := HP.out.below hb9 HP.out.lt
        have hq1 := HQ.out.below hb9 HQ.out.lt
        clear HB HP HQ hb9
        clear a0 b0 a1 b1 a2 b2 a3 b3 a4 b4 a5 b5
        have HB := Lib.hid hb1
        have HP := Lib.hid hp1
        have HQ := Lib.hid hq1
        clear hb1 hp1 hq1
        have a0 : W1.cell? ⟨w.heap.size, 0, none⟩ = some (.int .i64 av) := HP.out.cell 0
        have a1 : W1.cell? ⟨w.heap.size, 1, none⟩ = some (.int .i64 al) := HP.out.cell 1
        have a2 : W1.cell? ⟨w.heap.size, 2, none⟩ = some (.slice acA acode.length acc) := HP.out.cell 2
        have a3 : W1.cell? ⟨w.heap.size, 3, none⟩ = some (.slice amA amem.length amc) := HP.out.cell 3
        have a4 : W1.cell? ⟨w.heap.size, 4, none⟩ = some (.slice asA astack.length asc) := HP.out.cell 4
        have a5 : W1.cell? ⟨w.heap.size, 5, none⟩ = some (.slice aoA aout.length aoc) := HP.out.cell 5
        have b0 : W1.cell? ⟨w.heap.size + 1, 0, none⟩ = some (.int .i64 bv) := HQ.out.cell 0
        have b1 : W1.cell? ⟨w.heap.size + 1, 1, none⟩ = some (.int .i64 bl) := HQ.out.cell 1
        have b2 : W1.cell? ⟨w.heap.size + 1, 2, none⟩ = some (.slice bcA bcode.length bcc) := HQ.out.cell 2
        have b3 : W1.cell? ⟨w.heap.size + 1, 3, none⟩ = some (.slice bmA bmem.length bmc) := HQ.out.cell 3
        have b4 : W1.cell? ⟨w.heap.size + 1, 4, none⟩ = some (.slice bsA bstack.length bsc) := HQ.out.cell 4
        have b5 : W1.cell? ⟨w.heap.size + 1, 5, none⟩ = some (.slice boA bout.length boc) := HQ.out.cell 5
        go_wp2_with (fail)
        refine (HC2.out W1 HB.out).mono ?_
        rintro e W2 ⟨rfl, hb9⟩
        have hb1 := HB.out.trans (hb9.mono HB.out.size)
        have hp1 := HP.out.below hb9 HP.out.lt
        have hq1 := HQ.out.below hb9 HQ.out.lt
        clear HB HP HQ hb9
        clear a0 b0 a1 b1 a2 b2 a3 b3 a4 b4 a5 b5
        have HB := Lib.hid hb1
        have HP := Lib.hid hp1
        have HQ := Lib.hid hq1
        clear hb1 hp1 hq1
        go_wp2
        go_ret
        exact ⟨rfl, HB.out⟩
      | true =>
        rw [Bool.true_and]
        cases d4 with
        | false =>
          rw [Bool.false_and]
          go_enter Tryz.func22, Tryz.ntmps22
          go_wp2_with (fail)
          refine (HC1.out W0 HB.out).mono ?_
          rintro e W1 ⟨rfl, hb9⟩
          have hb1 := HB.out.trans (hb9.mono HB.out.size)
          have hp1 := HP.out.below hb9 HP.out.lt
          have hq1 := HQ.out.below hb9 HQ.out.lt
          clear HB HP HQ hb9
          clear a0 b0 a1 b1 a2 b2 a3 b3 a4 b4 a5 b5
          have HB := Lib.hid hb1
          have HP := Lib.hid hp1
          have HQ := Lib.hid hq1
          clear hb1 hp1 hq1
          have a0 : W1.cell? ⟨w.heap.size, 0, none⟩ = some (.int .i64 av) := HP.out.cell 0
          have a1 : W1.cell? ⟨w.heap.size, 1, none⟩ = some (.int .i64 al) := HP.out.cell 1
          have a2 : W1.cell? ⟨w.heap.size, 2, none⟩ = some (.slice acA acode.length acc) := HP.out.cell 2
          have a3 : W1.cell? ⟨w.heap.size, 3, none⟩ = some (.slice amA amem.length amc) := HP.out.cell 3
          have a4 : W1.cell? ⟨w.heap.size, 4, none⟩ = some (.slice asA astack.length asc) := HP.out.cell 4
          have a5 : W1.cell? ⟨w.heap.size, 5, none⟩ = some (.slice aoA aout.length aoc) := HP.out.cell 5
          have b0 : W1.cell? ⟨w.heap.size + 1, 0, none⟩ = some (.int .i64 bv) := HQ.out.cell 0
          have b1 : W1.cell? ⟨w.heap.size + 1, 1, none⟩ = some (.int .i64 bl) := HQ.out.cell 1
          have b2 : W1.cell? ⟨w.heap.size + 1, 2, none⟩ = some (.slice bcA bcode.length bcc) := HQ.out.cell 2
          have b3 : W1.cell? ⟨w.heap.size + 1, 3, none⟩ = some (.slice bmA bmem.length bmc) := HQ.out.cell 3
          have b4 : W1.cell? ⟨w.heap.size + 1, 4, none⟩ = some (.slice bsA bstack.length bsc) := HQ.out.cell 4
          have b5 : W1.cell? ⟨w.heap.size + 1, 5, none⟩ = some (.slice boA bout.length boc) := HQ.out.cell 5
          go_wp2_with (fail)
          refine (HC2.out W1 HB.out).mono ?_
          rintro e W2 ⟨rfl, hb9⟩
          have hb1 := HB.out.trans (hb9.mono HB.out.size)
          have hp1 := HP.out.below hb9 HP.out.lt
          have hq1 := HQ.out.below hb9 HQ.out.lt
          clear HB HP HQ hb9
          clear a0 b0 a1 b1 a2 b2 a3 b3 a4 b4 a5 b5
          have HB := Lib.hid hb1
          have HP := Lib.hid hp1
          have HQ := Lib.hid hq1
          clear hb1 hp1 hq1
          have a0 : W2.cell? ⟨w.heap.size, 0, none⟩ = some (.int .i64 av) := HP.out.cell 0
          have a1 : W2.cell? ⟨w.heap.size, 1, none⟩ = some (.int .i64 al) := HP.out.cell 1
          have a2 : W2.cell? ⟨w.heap.size, 2, none⟩ = some (.slice acA acode.length acc) := HP.out.cell 2
          have a3 : W2.cell? ⟨w.heap.size, 3, none⟩ = some (.slice amA amem.length amc) := HP.out.cell 3
          have a4 : W2.cell? ⟨w.heap.size, 4, none⟩ = some (.slice asA astack.length asc) := HP.out.cell 4
          have a5 : W2.cell? ⟨w.heap.size, 5, none⟩ = some (.slice aoA aout.length aoc) := HP.out.cell 5
          have b0 : W2.cell? ⟨w.heap.size + 1, 0, none⟩ = some (.int .i64 bv) := HQ.out.cell 0
          have b1 : W2.cell? ⟨w.heap.size + 1, 1, none⟩ = some (.int .i64 bl) := HQ.out.cell 1
          have b2 : W2.cell? ⟨w.heap.size + 1, 2, none⟩ = some (.slice bcA bcode.length bcc) := HQ.out.cell 2
          have b3 : W2.cell? ⟨w.heap.size + 1, 3, none⟩ = some (.slice bmA bmem.length bmc) := HQ.out.cell 3
          have b4 : W2.cell? ⟨w.heap.size + 1, 4, none⟩ = some (.slice bsA bstack.length bsc) := HQ.out.cell 4
          have b5 : W2.cell? ⟨w.heap.size + 1, 5, none⟩ = some (.slice boA bout.length boc) := HQ.out.cell 5
          go_wp2_with (fail)
          refine (HC3.out W2 HB.out).mono ?_
          rintro e W3 ⟨rfl, hb9⟩
          have hb1 := HB.out.trans (hb9.mono HB.out.size)
          have hp1 := HP.out.below hb9 HP.out.lt
          have hq1 := HQ.out.below hb9 HQ.out.lt
          clear HB HP HQ hb9
          clear a0 b0 a1 b1 a2 b2 a3 b3 a4 b4 a5 b5
          have HB := Lib.hid hb1
          have HP := Lib.hid hp1
          have HQ := Lib.hid hq1
          clear hb1 hp1 hq1
          go_wp2
          go_ret
          exact ⟨rfl, HB.out⟩
        | true =>
          rw [Bool.true_and]
          obtain ⟨res, hres⟩ : ∃ res, decide (astack = bstack) = res := ⟨_, rfl⟩
          rw [hres]
          have HRES := Lib.hid hres
          clear hres
          by_cases hl : astack.length = bstack.length
          · have h1 : ((astack.length : Int) != (bstack.length : Int)) = false := by rw [bne_eq_false_iff_eq]; omega
            have HL := Lib.hid hl
            clear hl
            generalize astack = a at *
            generalize bstack = b at *
            go_enter Tryz.func22, Tryz.ntmps22
            go_wp2_with (fail)
            refine (HC1.out W0 HB.out).mono ?_
            rintro e W1 ⟨rfl, hb9⟩
            have hb1 := HB.out.trans (hb9.mono HB.out.size)
            have hp1 := HP.out.below hb9 HP.out.lt
            have hq1 := HQ.out.below hb9 HQ.out.lt
            clear HB HP HQ hb9
            clear a0 b0 a1 b1 a2 b2 a3 b3 a4 b4 a5 b5
            have HB := Lib.hid hb1
            have HP := Lib.hid hp1
            have HQ := Lib.hid hq1
            clear hb1 hp1 hq1
            have a0 : W1.cell? ⟨w.heap.size, 0, none⟩ = some (.int .i64 av) := HP.out.cell 0
            have a1 : W1.cell? ⟨w.heap.size, 1, none⟩ = some (.int .i64 al) := HP.out.cell 1
            have a2 : W1.cell? ⟨w.heap.size, 2, none⟩ = some (.slice acA acode.length acc) := HP.out.cell 2
            have a3 : W1.cell? ⟨w.heap.size, 3, none⟩ = some (.slice amA amem.length amc) := HP.out.cell 3
            have a4 : W1.cell? ⟨w.heap.size, 4, none⟩ = some (.slice asA a.length asc) := HP.out.cell 4
            have a5 : W1.cell? ⟨w.heap.size, 5, none⟩ = some (.slice aoA aout.length aoc) := HP.out.cell 5
            have b0 : W1.cell? ⟨w.heap.size + 1, 0, none⟩ = some (.int .i64 bv) := HQ.out.cell 0
            have b1 : W1.cell? ⟨w.heap.size + 1, 1, none⟩ = some (.int .i64 bl) := HQ.out.cell 1
            have b2 : W1.cell? ⟨w.heap.size + 1, 2, none⟩ = some (.slice bcA bcode.length bcc) := HQ.out.cell 2
            have b3 : W1.cell? ⟨w.heap.size + 1, 3, none⟩ = some (.slice bmA bmem.length bmc) := HQ.out.cell 3
            have b4 : W1.cell? ⟨w.heap.size + 1, 4, none⟩ = some (.slice bsA b.length bsc) := HQ.out.cell 4
            have b5 : W1.cell? ⟨w.heap.size + 1, 5, none⟩ = some (.slice boA bout.length boc) := HQ.out.cell 5
            go_wp2_with (fail)
            refine (HC2.out W1 HB.out).mono ?_
            rintro e W2 ⟨rfl, hb9⟩
            have hb1 := HB.out.trans (hb9.mono HB.out.size)
            have hp1 := HP.out.below hb9 HP.out.lt
            have hq1 := HQ.out.below hb9 HQ.out.lt
            clear HB HP HQ hb9
            clear a0 b0 a1 b1 a2 b2 a3 b3 a4 b4 a5 b5
            have HB := Lib.hid hb1
            have HP := Lib.hid hp1
            have HQ := Lib.hid hq1
            clear hb1 hp1 hq1
            have a0 : W2.cell? ⟨w.heap.size, 0, none⟩ = some (.int .i64 av) := HP.out.cell 0
            have a1 : W2.cell? ⟨w.heap.size, 1, none⟩ = some (.int .i64 al) := HP.out.cell 1
            have a2 : W2.cell? ⟨w.heap.size, 2, none⟩ = some (.slice acA acode.length acc) := HP.out.cell 2
            have a3 : W2.cell? ⟨w.heap.size, 3, none⟩ = some (.slice amA amem.length amc) := HP.out.cell 3
            have a4 : W2.cell? ⟨w.heap.size, 4, none⟩ = some (.slice asA a.length asc) := HP.out.cell 4
            have a5 : W2.cell? ⟨w.heap.size, 5, none⟩ = some (.slice aoA aout.length aoc) := HP.out.cell 5
            have b0 : W2.cell? ⟨w.heap.size + 1, 0, none⟩ = some (.int .i64 bv) := HQ.out.cell 0
            have b1 : W2.cell? ⟨w.heap.size + 1, 1, none⟩ = some (.int .i64 bl) := HQ.out.cell 1
            have b2 : W2.cell? ⟨w.heap.size + 1, 2, none⟩ = some (.slice bcA bcode.length bcc) := HQ.out.cell 2
            have b3 : W2.cell? ⟨w.heap.size + 1, 3, none⟩ = some (.slice bmA bmem.length bmc) := HQ.out.cell 3
            have b4 : W2.cell? ⟨w.heap.size + 1, 4, none⟩ = some (.slice bsA b.length bsc) := HQ.out.cell 4
            have b5 : W2.cell? ⟨w.heap.size + 1, 5, none⟩ = some (.slice boA bout.length boc) := HQ.out.cell 5
            go_wp2_with (fail)
            refine (HC3.out W2 HB.out).mono ?_
            rintro e W3 ⟨rfl, hb9⟩
            have hb1 := HB.out.trans (hb9.mono HB.out.size)
            have hp1 := HP.out.below hb9 HP.out.lt
            have hq1 := HQ.out.below hb9 HQ.out.lt
            clear HB HP HQ hb9
            clear a0 b0 a1 b1 a2 b2 a3 b3 a4 b4 a5 b5
            have HB := Lib.hid hb1
            have HP := Lib.hid hp1
            have HQ := Lib.hid hq1
            clear hb1 hp1 hq1
            have a0 : W3.cell? ⟨w.heap.size, 0, none⟩ = some (.int .i64 av) := HP.out.cell 0
            have a1 : W3.cell? ⟨w.heap.size, 1, none⟩ = some (.int .i64 al) := HP.out.cell 1
            have a2 : W3.cell? ⟨w.heap.size, 2, none⟩ = some (.slice acA acode.length acc) := HP.out.cell 2
            have a3 : W3.cell? ⟨w.heap.size, 3, none⟩ = some (.slice amA amem.length amc) := HP.out.cell 3
            have a4 : W3.cell? ⟨w.heap.size, 4, none⟩ = some (.slice asA a.length asc) := HP.out.cell 4
            have a5 : W3.cell? ⟨w.heap.size, 5, none⟩ = some (.slice aoA aout.length aoc) := HP.out.cell 5
            have b0 : W3.cell? ⟨w.heap.size + 1, 0, none⟩ = some (.int .i64 bv) := HQ.out.cell 0
            have b1 : W3.cell? ⟨w.heap.size + 1, 1, none⟩ = some (.int .i64 bl) := HQ.out.cell 1
            have b2 : W3.cell? ⟨w.heap.size + 1, 2, none⟩ = some (.slice bcA bcode.length bcc) := HQ.out.cell 2
            have b3 : W3.cell? ⟨w.heap.size + 1, 3, none⟩ = some (.slice bmA bmem.length bmc) := HQ.out.cell 3
            have b4 : W3.cell? ⟨w.heap.size + 1, 4, none⟩ = some (.slice bsA b.length bsc) := HQ.out.cell 4
            have b5 : W3.cell? ⟨w.heap.size + 1, 5, none⟩ = some (.slice boA bout.length boc) := HQ.out.cell 5
            go_wp2
            go_loopw [47] (fun i wr => ∃ k : Nat, k ≤ a.length ∧ i = .int .i64 k ∧ Hid (∀ (j : Nat) (x y : St.Slot), j < k → a[j]? = some x → b[j]? = some y → x = y) ∧ Hid (Below w.heap.size w wr) ∧ Hid (Blk wr w.heap.size 42 #[.int .i64 av, .int .i64 al, .slice acA acode.length acc, .slice amA amem.length amc, .slice asA a.length asc, .slice aoA aout.length aoc]) ∧ Hid (Blk wr (w.heap.size + 1) 42 #[.int .i64 bv, .int .i64 bl, .slice bcA bcode.length bcc, .slice bmA bmem.length bmc, .slice bsA b.length bsc, .slice boA bout.length boc])) (fun i _ => a.length - (intOf i).toNat)
            case atStart => exact ⟨0, Nat.zero_le _, rfl, Lib.hid fun j x y hj => absurd hj (Nat.not_lt_zero _), HB, HP, HQ⟩
            case round =>
              clear HB HP HQ a0 a1 a2 a3 a4 a5 b0 b1 b2 b3 b4 b5
              obtain ⟨k, hk, rfl, HS, HBW, HP, HQ⟩ := hrel
              by_cases hlt : k < a.length
              · obtain ⟨ad, x, rfl, hxb, hx, x0, x1, x2⟩ := srow_at (HA.out.below HBW.out) hlt
                obtain ⟨bd, y, rfl, hyb, hy, y0, y1, y2⟩ := srow_at (HBR.out.below HBW.out) (show k < b.length by have := HL.out; omega)
                have hq := fun w => run_sl_neq x y w
                have hz := HBW.out.size
                have hxb2 : (ad.add (k * 3)).block < wr.heap.size := by rw [add_block]; omega
                have hyb2 : (bd.add (k * 3)).block < wr.heap.size := by rw [add_block]; omega
                have HX := Lib.hid hx
                have HY := Lib.hid hy
                clear hx hy
                have hlt2 : k < b.length := by have := HL.out; omega
                have a4 : wr.cell? ⟨w.heap.size, 4, none⟩ = some (.slice (some ad) a.length asc) := HP.out.cell 4
                have b4 : wr.cell? ⟨w.heap.size + 1, 4, none⟩ = some (.slice (some bd) b.length bsc) := HQ.out.cell 4
                have hpl := HP.out.lt
                have hql := HQ.out.lt
                by_cases he : x = y
                · have hf : (!decide (x = y)) = false := by rw [decide_eq_true he]; rfl
                  rw [hf] at hq
                  have HE := Lib.hid he
                  clear he hf
                  generalize hx0 : x.ret = xret at *
                  generalize hx1 : x.v = xv at *
                  generalize hx2 : x.l = xl at *
                  generalize hy0 : y.ret = yret at *
                  generalize hy1 : y.v = yv at *
                  generalize hy2 : y.l = yl at *
                  clear hx0 hx1 hx2 hy0 hy1 hy2
                  go_wp2
                  go_quiet (fail)
                  all_goals go_wp2
                  go_roundw
                  case rel => exact ⟨k + 1, by omega, by go_num, Lib.hid fun j u v hj hu hv => by
                    rcases Nat.lt_or_eq_of_le (Nat.le_of_lt_succ hj) with h | rfl
                    · exact HS.out j u v h hu hv
                    · rw [HX.out] at hu; rw [HY.out] at hv
                      injection hu with hu; injection hv with hv
                      rw [← hu, ← hv]; exact HE.out, Lib.hid (below_drawn HBW.out _), Lib.hid (below_drawn_blk HP.out _), Lib.hid (below_drawn_blk HQ.out _)⟩
                  case measure => simp [intOf]; omega
                · have hf : (!decide (x = y)) = true := by rw [decide_eq_false he]; rfl
                  rw [hf] at hq
                  have HE := Lib.hid he
                  clear he hf
                  generalize hx0 : x.ret = xret at *
                  generalize hx1 : x.v = xv at *
                  generalize hx2 : x.l = xl at *
                  generalize hy0 : y.ret = yret at *
                  generalize hy1 : y.v = yv at *
                  generalize hy2 : y.l = yl at *
                  clear hx0 hx1 hx2 hy0 hy1 hy2
                  go_wp2
                  go_quiet (fail)
                  all_goals go_wp2
                  go_ret
                  exact ⟨retb (by rw [← HRES.out]; exact (decide_eq_false (same_stepA HX.out HY.out HE.out)).symm), below_drawn HBW.out _⟩
              · obtain rfl : k = a.length := by omega
                go_wp2
                go_ret
                exact ⟨retb (by rw [← HRES.out]; exact (decide_eq_true (same_allA HL.out fun k x y hx hy => HS.out k x y (List.getElem?_eq_some_iff.1 hx).1 hx hy)).symm), HBW.out⟩
          · have h1 : ((astack.length : Int) != (bstack.length : Int)) = true := by rw [bne_iff_ne]; omega
            have HR2 := Lib.hid (show false = res by rw [← HRES.out]; exact (decide_eq_false fun e => hl (by rw [e])).symm)
            clear hl
            go_enter Tryz.func22, Tryz.ntmps22
            go_wp2_with (fail)
            refine (HC1.out W0 HB.out).mono ?_
            rintro e W1 ⟨rfl, hb9⟩
            have hb1 := HB.out.trans (hb9.mono HB.out.size)
            have hp1 := HP.out.below hb9 HP.out.lt
            have hq1 := HQ.out.below hb9 HQ.out.lt
            clear HB HP HQ hb9
            clear a0 b0 a1 b1 a2 b2 a3 b3 a4 b4 a5 b5
            have HB := Lib.hid hb1
            have HP := Lib.hid hp1
            have HQ := Lib.hid hq1
            clear hb1 hp1 hq1
            have a0 : W1.cell? ⟨w.heap.size, 0, none⟩ = some (.int .i64 av) := HP.out.cell 0
            have a1 : W1.cell? ⟨w.heap.size, 1, none⟩ = some (.int .i64 al) := HP.out.cell 1
            have a2 : W1.cell? ⟨w.heap.size, 2, none⟩ = some (.slice acA acode.length acc) := HP.out.cell 2
            have a3 : W1.cell? ⟨w.heap.size, 3, none⟩ = some (.slice amA amem.length amc) := HP.out.cell 3
            have a4 : W1.cell? ⟨w.heap.size, 4, none⟩ = some (.slice asA astack.length asc) := HP.out.cell 4
            have a5 : W1.cell? ⟨w.heap.size, 5, none⟩ = some (.slice aoA aout.length aoc) := HP.out.cell 5
            have b0 : W1.cell? ⟨w.heap.size + 1, 0, none⟩ = some (.int .i64 bv) := HQ.out.cell 0
            have b1 : W1.cell? ⟨w.heap.size + 1, 1, none⟩ = some (.int .i64 bl) := HQ.out.cell 1
            have b2 : W1.cell? ⟨w.heap.size + 1, 2, none⟩ = some (.slice bcA bcode.length bcc) := HQ.out.cell 2
            have b3 : W1.cell? ⟨w.heap.size + 1, 3, none⟩ = some (.slice bmA bmem.length bmc) := HQ.out.cell 3
            have b4 : W1.cell? ⟨w.heap.size + 1, 4, none⟩ = some (.slice bsA bstack.length bsc) := HQ.out.cell 4
            have b5 : W1.cell? ⟨w.heap.size + 1, 5, none⟩ = some (.slice boA bout.length boc) := HQ.out.cell 5
            go_wp2_with (fail)
            refine (HC2.out W1 HB.out).mono ?_
            rintro e W2 ⟨rfl, hb9⟩
            have hb1 := HB.out.trans (hb9.mono HB.out.size)
            have hp1 := HP.out.below hb9 HP.out.lt
            have hq1 := HQ.out.below hb9 HQ.out.lt
            clear HB HP HQ hb9
            clear a0 b0 a1 b1 a2 b2 a3 b3 a4 b4 a5 b5
            have HB := Lib.hid hb1
            have HP := Lib.hid hp1
            have HQ := Lib.hid hq1
            clear hb1 hp1 hq1
            have a0 : W2.cell? ⟨w.heap.size, 0, none⟩ = some (.int .i64 av) := HP.out.cell 0
            have a1 : W2.cell? ⟨w.heap.size, 1, none⟩ = some (.int .i64 al) := HP.out.cell 1
            have a2 : W2.cell? ⟨w.heap.size, 2, none⟩ = some (.slice acA acode.length acc) := HP.out.cell 2
            have a3 : W2.cell? ⟨w.heap.size, 3, none⟩ = some (.slice amA amem.length amc) := HP.out.cell 3
            have a4 : W2.cell? ⟨w.heap.size, 4, none⟩ = some (.slice asA astack.length asc) := HP.out.cell 4
            have a5 : W2.cell? ⟨w.heap.size, 5, none⟩ = some (.slice aoA aout.length aoc) := HP.out.cell 5
            have b0 : W2.cell? ⟨w.heap.size + 1, 0, none⟩ = some (.int .i64 bv) := HQ.out.cell 0
            have b1 : W2.cell? ⟨w.heap.size + 1, 1, none⟩ = some (.int .i64 bl) := HQ.out.cell 1
            have b2 : W2.cell? ⟨w.heap.size + 1, 2, none⟩ = some (.slice bcA bcode.length bcc) := HQ.out.cell 2
            have b3 : W2.cell? ⟨w.heap.size + 1, 3, none⟩ = some (.slice bmA bmem.length bmc) := HQ.out.cell 3
            have b4 : W2.cell? ⟨w.heap.size + 1, 4, none⟩ = some (.slice bsA bstack.length bsc) := HQ.out.cell 4
            have b5 : W2.cell? ⟨w.heap.size + 1, 5, none⟩ = some (.slice boA bout.length boc) := HQ.out.cell 5
            go_wp2_with (fail)
            refine (HC3.out W2 HB.out).mono ?_
            rintro e W3 ⟨rfl, hb9⟩
            have hb1 := HB.out.trans (hb9.mono HB.out.size)
            have hp1 := HP.out.below hb9 HP.out.lt
            have hq1 := HQ.out.below hb9 HQ.out.lt
            clear HB HP HQ hb9
            clear a0 b0 a1 b1 a2 b2 a3 b3 a4 b4 a5 b5
            have HB := Lib.hid hb1
            have HP := Lib.hid hp1
            have HQ := Lib.hid hq1
            clear hb1 hp1 hq1
            have a0 : W3.cell? ⟨w.heap.size, 0, none⟩ = some (.int .i64 av) := HP.out.cell 0
            have a1 : W3.cell? ⟨w.heap.size, 1, none⟩ = some (.int .i64 al) := HP.out.cell 1
            have a2 : W3.cell? ⟨w.heap.size, 2, none⟩ = some (.slice acA acode.length acc) := HP.out.cell 2
            have a3 : W3.cell? ⟨w.heap.size, 3, none⟩ = some (.slice amA amem.length amc) := HP.out.cell 3
            have a4 : W3.cell? ⟨w.heap.size, 4, none⟩ = some (.slice asA astack.length asc) := HP.out.cell 4
            have a5 : W3.cell? ⟨w.heap.size, 5, none⟩ = some (.slice aoA aout.length aoc) := HP.out.cell 5
            have b0 : W3.cell? ⟨w.heap.size + 1, 0, none⟩ = some (.int .i64 bv) := HQ.out.cell 0
            have b1 : W3.cell? ⟨w.heap.size + 1, 1, none⟩ = some (.int .i64 bl) := HQ.out.cell 1
            have b2 : W3.cell? ⟨w.heap.size + 1, 2, none⟩ = some (.slice bcA bcode.length bcc) := HQ.out.cell 2
            have b3 : W3.cell? ⟨w.heap.size + 1, 3, none⟩ = some (.slice bmA bmem.length bmc) := HQ.out.cell 3
            have b4 : W3.cell? ⟨w.heap.size + 1, 4, none⟩ = some (.slice bsA bstack.length bsc) := HQ.out.cell 4
            have b5 : W3.cell? ⟨w.heap.size + 1, 5, none⟩ = some (.slice boA bout.length boc) := HQ.out.cell 5
            go_wp2
            go_ret
            exact ⟨retb HR2.out, HB.out⟩
end Go.Proofs.YtipbilmnknmhmaaGreatDoor
