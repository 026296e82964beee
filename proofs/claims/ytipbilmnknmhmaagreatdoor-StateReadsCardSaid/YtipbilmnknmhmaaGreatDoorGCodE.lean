/- The reference's one is the plain one; what From holds at the head of a round. -/
import Derived.Test.YtipbilmnknmhmaaGreatDoorGCodC
import Derived.Test.YtipbilmnknmhmaaGreatDoorGCodK
import Derived.Test.YtipbilmnknmhmaaGreatDoorGRefJ
import Derived.Test.YtipbilmnknmhmaaGreatDoorGNotG
import Derived.Test.YtipbilmnknmhmaaGreatDoorGCodP
import Derived.Test.YtipbilmnknmhmaaGreatDoorGFree
import Derived.Test.YtipbilmnknmhmaaGreatDoorGCodA
import Derived.Test.YtipbilmnknmhmaaGreatDoorGTabE
namespace Go.Proofs.YtipbilmnknmhmaaGreatDoor
set_option maxRecDepth 100000
open Go.RowKit Go.Shelf Go.Sort

theorem intP_err (l : List Lx.Tk) (i : Nat) (h : (Cd.intP l i).2.2 ≠ 0) : (Cd.intP l i).2.2 = 4 := by
  unfold Cd.intP at h ⊢
  split
  · next hc => rw [if_pos hc] at h; exact absurd rfl h
  · rfl
theorem rOneN_step (l : List Lx.Tk) (op : Int) (i : Nat) : (rOneN l op i).i = (Cd.numStep op l (i + 1)).2.1 ∧ (rOneN l op i).e = (Cd.numStep op l (i + 1)).2.2 ∧ ((Cd.numStep op l (i + 1)).2.2 = 0 → (rOneN l op i).x = ⟨op, (Cd.numStep op l (i + 1)).1, 0⟩) := by
  unfold rOneN Cd.numStep
  by_cases hn : Cd.number op = true
  · rw [if_pos hn, if_pos hn]
    unfold rInt setN8
    dsimp only
    rw [if_pos rfl]
    by_cases h0 : (Cd.intP l (i + 1)).2.2 = 0
    · rw [if_pos h0]
      exact ⟨rfl, h0.symm, fun _ => rfl⟩
    · rw [if_neg h0]
      exact ⟨rfl, (intP_err l _ h0).symm, fun h => absurd h h0⟩
  · rw [if_neg hn, if_neg hn]
    exact ⟨rfl, rfl, fun _ => rfl⟩
theorem rMark_err (l : List Lx.Tk) (t : ByteArray) (p : RP) (h : p.e ≠ 0) : rMark l t p = p := by unfold rMark; rw [if_neg h]
theorem rLab_err (names : List ByteArray) (l : List Lx.Tk) (p : RP) (h : p.e ≠ 0) : rLab names l p = p := by
  unfold rLab
  rw [rMark_err l _ p h, if_neg h]
theorem rLab_labP (names : List ByteArray) (l : List Lx.Tk) (p : RP) (h : p.e = 0) : (rLab names l p).i = (Cd.labP names l p.i).2.1 ∧ (rLab names l p).e = (Cd.labP names l p.i).2.2 ∧ (rLab names l p).x = p.x ∧ ((Cd.labP names l p.i).2.2 = 0 → (rLab names l p).n = (Cd.labP names l p.i).1) := by
  unfold rLab rMark Cd.labP
  rw [if_pos h]
  by_cases hm : Cd.isM l Cd.bAt p.i = true
  · rw [if_pos hm, if_pos hm]
    dsimp only
    rw [if_pos h]
    unfold rName Cd.nameP
    dsimp only
    by_cases hk : (Tb.tok l (p.i + 1)).kind = 1
    · rw [if_pos hk, if_pos hk]
      cases idxN names (Tb.tok l (p.i + 1)).text with
      | none => exact ⟨rfl, rfl, rfl, fun h => absurd (show (6 : Nat) = 0 from h) (by decide)⟩
      | some a => exact ⟨rfl, h, rfl, fun _ => rfl⟩
    · rw [if_neg hk, if_neg hk]
      exact ⟨rfl, rfl, rfl, fun h => absurd (show (4 : Nat) = 0 from h) (by decide)⟩
  · rw [if_neg hm, if_neg hm]
    dsimp only
    rw [if_neg (by decide)]
    exact ⟨rfl, rfl, rfl, fun h => absurd (show (4 : Nat) = 0 from h) (by decide)⟩
theorem rest_rest (names : List ByteArray) (op : Int) (l : List Lx.Tk) (i : Nat) : (rMark l Cd.bSemi (rOneL names l op i)).i = (Cd.restP names op l (i + 1)).2.1 ∧ (rMark l Cd.bSemi (rOneL names l op i)).e = (Cd.restP names op l (i + 1)).2.2 ∧ ((Cd.restP names op l (i + 1)).2.2 = 0 → (rMark l Cd.bSemi (rOneL names l op i)).x = (Cd.restP names op l (i + 1)).1) := by
  obtain ⟨a1, a2, a3⟩ := rOneN_step l op i
  unfold Cd.restP
  by_cases h0 : (Cd.numStep op l (i + 1)).2.2 = 0
  · rw [if_pos h0]
    have a3 := a3 h0
    rw [h0] at a2
    have key : (rOneL names l op i).i = (Cd.labStep names op l (Cd.numStep op l (i + 1)).2.1).2.1 ∧ (rOneL names l op i).e = (Cd.labStep names op l (Cd.numStep op l (i + 1)).2.1).2.2 ∧ ((Cd.labStep names op l (Cd.numStep op l (i + 1)).2.1).2.2 = 0 → (rOneL names l op i).x = ⟨op, (Cd.numStep op l (i + 1)).1, (Cd.labStep names op l (Cd.numStep op l (i + 1)).2.1).1⟩) := by
      unfold rOneL Cd.labStep
      by_cases h1 : op = 1
      · rw [if_pos h1, if_pos h1]
        obtain ⟨b1, b2, b3, b4⟩ := rLab_labP names l (rOneN l op i) a2
        rw [a1] at b1 b2 b4
        unfold setL8
        refine ⟨b1, b2, fun h => ?_⟩
        dsimp only
        rw [b3, b4 h, a3]
      · rw [if_neg h1, if_neg h1]
        exact ⟨a1, a2, fun _ => a3⟩
    obtain ⟨k1, k2, k3⟩ := key
    unfold Cd.endStep
    by_cases h2 : (Cd.labStep names op l (Cd.numStep op l (i + 1)).2.1).2.2 = 0
    · rw [if_pos h2]
      rw [h2] at k2
      have k3 := k3 h2
      unfold rMark Cd.markP
      rw [if_pos k2, k1]
      by_cases hm : Cd.isM l Cd.bSemi (Cd.labStep names op l (Cd.numStep op l (i + 1)).2.1).2.1 = true
      · rw [if_pos hm, if_pos hm]
        exact ⟨rfl, k2, fun _ => k3⟩
      · rw [if_neg hm, if_neg hm]
        exact ⟨rfl, rfl, fun h => absurd (show (4 : Nat) = 0 from h) (by decide)⟩
    · rw [if_neg h2]
      have he : (rOneL names l op i).e ≠ 0 := by rw [k2]; exact h2
      rw [rMark_err l _ _ he]
      exact ⟨k1, k2, fun h => absurd h h2⟩
  · rw [if_neg h0]
    have he : (rOneN l op i).e ≠ 0 := by rw [a2]; exact h0
    have hl : (rOneL names l op i).i = (Cd.numStep op l (i + 1)).2.1 ∧ (rOneL names l op i).e = (Cd.numStep op l (i + 1)).2.2 := by
      unfold rOneL
      by_cases h1 : op = 1
      · rw [if_pos h1, rLab_err names l _ he]
        exact ⟨a1, a2⟩
      · rw [if_neg h1]
        exact ⟨a1, a2⟩
    have he2 : (rOneL names l op i).e ≠ 0 := by rw [hl.2]; exact h0
    rw [rMark_err l _ _ he2]
    exact ⟨hl.1, hl.2, fun h => absurd h h0⟩
theorem rOne_one (names : List ByteArray) (k : Nat) (op : Int) (l : List Lx.Tk) (i : Nat) : (rOne names k op l i).i = (Cd.oneP names k op l i).2.1 ∧ (rOne names k op l i).e = (Cd.oneP names k op l i).2.2 ∧ ((Cd.oneP names k op l i).2.2 = 0 → (rOne names k op l i).x = (Cd.oneP names k op l i).1) := by
  obtain ⟨a1, a2, a3⟩ := rest_rest names op l i
  unfold rOne Cd.oneP
  generalize rMark l Cd.bSemi (rOneL names l op i) = q at *
  generalize Cd.restP names op l (i + 1) = r at *
  unfold rEnd Cd.okP
  by_cases h0 : r.2.2 = 0
  · rw [if_pos h0]
    have a3 := a3 h0
    rw [h0] at a2
    rw [a3]
    by_cases hb : Cd.inB k r.1 = true
    · rw [if_pos hb, if_neg (fun h => by rw [hb] at h; exact absurd h.2 (by decide))]
      exact ⟨a1, by rw [a2, h0], fun _ => a3⟩
    · rw [if_neg hb, if_pos ⟨a2, by simpa using hb⟩]
      exact ⟨rfl, rfl, fun h => absurd (show (1 : Nat) = 0 from h) (by decide)⟩
  · rw [if_neg h0, if_neg (fun h => h0 (by rw [← a2]; exact h.1))]
    exact ⟨a1, a2, fun h => absurd h h0⟩

/-- At the head of a round of From. -/
structure FrIn (w : World) (lv : Array Value) (out : List Cd.In) (v : Value) (W : World) : Prop where
  below : Below w.heap.size w W
  lat : Blk W w.heap.size 25 lv
  res : Blk W (w.heap.size + 1) 134 #[.slice none 0 0, .int .i64 0, .int .i64 0]
  own : W.ownsRow (w.heap.size + 2) 57 3 v out.length (icells out)
theorem FrIn.start (w : World) (lv : Array Value) : FrIn w lv [] (.slice (some ⟨w.heap.size + 1 + 1, 0, none⟩) 0 0) (((w.alloc (.cells lv 25)).alloc (.cells #[.slice none 0 0, .int .i64 0, .int .i64 0] 134)).alloc (.cells #[] 57)) := by
  have h1 := Blk.new (w.alloc (.cells lv 25)) 134 #[.slice none 0 0, .int .i64 0, .int .i64 0]
  have h2 := World.ownsRow_made (e := 57) (size := 3) (base := w.heap.size + 2) ((w.alloc (.cells lv 25)).alloc (.cells #[.slice none 0 0, .int .i64 0, .int .i64 0] 134)) #[] 0 (by simp) (by decide) rfl
  simp only [World.size_alloc] at h1 h2
  exact ⟨three_new w _ _ _, ((Blk.new w _ _).alloc _).alloc _, h1.alloc _, h2⟩
/-- The row is kept where its own block is. -/
theorem own_keep8 {W W' : World} {base sz n B : Nat} {e : TypeId} {rv : Value} {xs : List Value} (h : W.ownsRow base e sz rv n xs) (hB : W.heap.size ≤ B) (hb : Below B W W') : W'.ownsRow base e sz rv n xs :=
  own_of h fun g hg => hb.block g (Nat.lt_of_lt_of_le (h.lt g hg).2 hB)
theorem FrIn.keep {w W W' : World} {lv : Array Value} {out : List Cd.In} {v : Value} (h : FrIn w lv out v W) (hb : Below W.heap.size W W') : FrIn w lv out v W' :=
  ⟨h.below.trans (hb.mono h.below.size), h.lat.below hb h.lat.lt, h.res.below hb h.res.lt, own_keep8 h.own (Nat.le_refl _) hb⟩
end Go.Proofs.YtipbilmnknmhmaaGreatDoor

/- The reference's way of reading a state, plain: it is what tokens tell. -/
namespace Go.Proofs.YtipbilmnknmhmaaGreatDoor
set_option maxRecDepth 100000
open Lx (Tk)
open Tb (tok Fine)
namespace St

/-- The reference's state: place, atom, error. -/
structure Rp where
  i : Nat
  a : Atom
  e : Nat
def hereR (l : List Tk) (p : Rp) (kd : Int) (t : ByteArray) : Bool := decide (p.e = 0) && decide ((tok l p.i).kind = kd ∧ (tok l p.i).text = t)
def mustR (l : List Tk) (p : Rp) (kd : Int) (t : ByteArray) : Rp := if p.e = 0 then (if hereR l p kd t = true then { p with i := p.i + 1 } else { p with e := 4 }) else p
def intR (l : List Tk) (p : Rp) : RP := rInt l ⟨p.i, 0, ⟨0, 0, 0⟩, p.e⟩
def labR (names : List ByteArray) (l : List Tk) (p : Rp) : RP := rLab names l (intR l p)
def atomR (names : List ByteArray) (l : List Tk) (p : Rp) : Rp := ⟨(labR names l p).i, ⟨(intR l p).n, (labR names l p).n⟩, (labR names l p).e⟩
def stepR8 (rets : Bool) (l : List Tk) (p : Rp) : Bool := rets && hereR l p 1 bRet
def nextR (names : List ByteArray) (rets : Bool) (l : List Tk) (p : Rp) : Rp := atomR names l (if stepR8 rets l p = true then { p with i := p.i + 1 } else p)
def slotR (names : List ByteArray) (rets : Bool) (l : List Tk) (p : Rp) : Slot := ⟨stepR8 rets l p, (nextR names rets l p).a.v, (nextR names rets l p).a.l⟩
def loopR (names : List ByteArray) (l : List Tk) (most : Nat) (rets : Bool) : Nat → Rp → List Slot → Rp × List Slot
  | 0, p, s => (p, s)
  | n + 1, p, s => if p.e = 0 then (if s.length = most then ({ p with e := 8 }, s) else if hereR l (nextR names rets l p) 3 bComma = true then loopR names l most rets n { nextR names rets l p with i := (nextR names rets l p).i + 1 } (s ++ [slotR names rets l p])
      else (mustR l (nextR names rets l p) 3 Cd.bSemi, s ++ [slotR names rets l p])) else (p, s)
def rowR (names : List ByteArray) (l : List Tk) (p : Rp) (word : ByteArray) (most : Nat) (rets : Bool) : Rp × List Slot :=
  if hereR l (mustR l p 1 word) 3 Cd.bSemi = true then ({ mustR l p 1 word with i := (mustR l p 1 word).i + 1 }, []) else loopR names l most rets (most + 1) (mustR l p 1 word) []

theorem andP_yes {α β : Type} {r : α × Nat × Nat} {z : β} {f : α → Nat → β × Nat × Nat} (h : r.2.2 = 0) : andP r z f = f r.1 r.2.1 := by unfold andP; rw [if_pos h]
theorem andP_no {α β : Type} {r : α × Nat × Nat} {z : β} {f : α → Nat → β × Nat × Nat} (h : r.2.2 ≠ 0) : andP r z f = (z, r.2.1, r.2.2) := by unfold andP; rw [if_neg h]
theorem hereR_bad {l : List Tk} {p : Rp} (h : p.e ≠ 0) (kd : Int) (t : ByteArray) : hereR l p kd t = false := by unfold hereR; rw [decide_eq_false h]; rfl
theorem mustR_bad {l : List Tk} {p : Rp} (h : p.e ≠ 0) (kd : Int) (t : ByteArray) : mustR l p kd t = p := by unfold mustR; rw [if_neg h]
theorem hereR_M {l : List Tk} {p : Rp} (h : p.e = 0) (t : ByteArray) : hereR l p 3 t = Cd.isM l t p.i := by unfold hereR Cd.isM; rw [decide_eq_true h, Bool.true_and]
theorem hereR_W {l : List Tk} {p : Rp} (h : p.e = 0) (t : ByteArray) : hereR l p 1 t = isW l t p.i := by unfold hereR isW; rw [decide_eq_true h, Bool.true_and]
theorem mustR_M {l : List Tk} {p : Rp} (h : p.e = 0) (t : ByteArray) : (mustR l p 3 t).i = (markE l t p.i).2.1 ∧ (mustR l p 3 t).e = (markE l t p.i).2.2 ∧ (mustR l p 3 t).a = p.a := by
  unfold mustR markE
  rw [if_pos h, hereR_M h]
  by_cases hm : Cd.isM l t p.i = true
  · rw [if_pos hm, if_pos hm]; exact ⟨rfl, h, rfl⟩
  · rw [if_neg hm, if_neg hm]; exact ⟨rfl, rfl, rfl⟩
theorem mustR_W {l : List Tk} {p : Rp} (h : p.e = 0) (t : ByteArray) : (mustR l p 1 t).i = (wordE l t p.i).2.1 ∧ (mustR l p 1 t).e = (wordE l t p.i).2.2 := by
  unfold mustR wordE
  rw [if_pos h, hereR_W h]
  by_cases hm : isW l t p.i = true
  · rw [if_pos hm, if_pos hm]; exact ⟨rfl, h⟩
  · rw [if_neg hm, if_neg hm]; exact ⟨rfl, rfl⟩
theorem atomR_bad {names : List ByteArray} {l : List Tk} {p : Rp} (h : p.e ≠ 0) : (atomR names l p).i = p.i ∧ (atomR names l p).e = p.e := by
  have hi : intR l p = ⟨p.i, 0, ⟨0, 0, 0⟩, p.e⟩ := by unfold intR rInt; rw [if_neg h]
  unfold atomR labR
  rw [hi, rLab_err names l _ h]
  exact ⟨rfl, rfl⟩
theorem atomR_atomP {names : List ByteArray} {l : List Tk} {p : Rp} (h : p.e = 0) : (atomR names l p).i = (atomP names l p.i).2.1 ∧ (atomR names l p).e = (atomP names l p.i).2.2 ∧ ((atomP names l p.i).2.2 = 0 → (atomR names l p).a = (atomP names l p.i).1) := by
  unfold atomR labR atomP
  by_cases h0 : (Cd.intP l p.i).2.2 = 0
  · have hi : intR l p = ⟨(Cd.intP l p.i).2.1, (Cd.intP l p.i).1, ⟨0, 0, 0⟩, p.e⟩ := by
      unfold intR rInt
      rw [if_pos h, if_pos h0]
    have hl := rLab_labP names l (intR l p) (by rw [hi]; exact h)
    have hii : (intR l p).i = (Cd.intP l p.i).2.1 := by rw [hi]
    have hin : (intR l p).n = (Cd.intP l p.i).1 := by rw [hi]
    rw [hii] at hl
    obtain ⟨l1, l2, -, l4⟩ := hl
    rw [andP_yes h0]
    dsimp only
    by_cases h1 : (Cd.labP names l (Cd.intP l p.i).2.1).2.2 = 0
    · rw [andP_yes h1]
      refine ⟨l1, by rw [l2]; exact h1, fun _ => ?_⟩
      dsimp only
      rw [hin, l4 h1]
    · rw [andP_no h1]
      exact ⟨l1, l2, fun h => absurd h h1⟩
  · have h4 := intP_err l p.i h0
    have hi : intR l p = ⟨(Cd.intP l p.i).2.1, 0, ⟨0, 0, 0⟩, 4⟩ := by
      unfold intR rInt
      rw [if_pos h, if_neg h0]
    have hb : (intR l p).e ≠ 0 := by rw [hi]; exact (by decide : (4 : Nat) ≠ 0)
    rw [rLab_err names l _ hb, hi, andP_no h0]
    exact ⟨rfl, h4.symm, fun h => absurd h h0⟩
theorem nextR_slotP {names : List ByteArray} {rets : Bool} {l : List Tk} {p : Rp} (h : p.e = 0) : (nextR names rets l p).i = (slotP names rets l p.i).2.1 ∧ (nextR names rets l p).e = (slotP names rets l p.i).2.2 ∧ ((slotP names rets l p.i).2.2 = 0 → slotR names rets l p = (slotP names rets l p.i).1) := by
  have hs : stepR8 rets l p = retP rets l p.i := by unfold stepR8 retP; rw [hereR_W h]
  unfold slotR nextR slotP
  rw [hs]
  generalize retP rets l p.i = b
  have key : ∀ p' : Rp, p'.e = 0 → p'.i = (if b = true then p.i + 1 else p.i) → (atomR names l p').i = (andP (atomP names l (if b = true then p.i + 1 else p.i)) (⟨false, 0, 0⟩ : Slot) fun a j => (⟨b, a.v, a.l⟩, j, 0)).2.1 ∧ (atomR names l p').e = (andP (atomP names l (if b = true then p.i + 1 else p.i)) (⟨false, 0, 0⟩ : Slot) fun a j => (⟨b, a.v, a.l⟩, j, 0)).2.2 ∧
      ((andP (atomP names l (if b = true then p.i + 1 else p.i)) (⟨false, 0, 0⟩ : Slot) fun a j => (⟨b, a.v, a.l⟩, j, 0)).2.2 = 0 → (⟨b, (atomR names l p').a.v, (atomR names l p').a.l⟩ : Slot) = (andP (atomP names l (if b = true then p.i + 1 else p.i)) (⟨false, 0, 0⟩ : Slot) fun a j => (⟨b, a.v, a.l⟩, j, 0)).1) := fun p' he hi => by
    obtain ⟨a1, a2, a3⟩ := atomR_atomP (names := names) (l := l) he
    rw [hi] at a1 a2 a3
    by_cases h0 : (atomP names l (if b = true then p.i + 1 else p.i)).2.2 = 0
    · rw [andP_yes h0]
      exact ⟨a1, by rw [a2, h0], fun _ => by rw [a3 h0]⟩
    · rw [andP_no h0]
      exact ⟨a1, a2, fun h => absurd h h0⟩
  cases b with
  | true => exact key _ h rfl
  | false => exact key _ h rfl
theorem loopR_bad {names : List ByteArray} {l : List Tk} {most : Nat} {rets : Bool} {n : Nat} {p : Rp} {s : List Slot} (h : p.e ≠ 0) : loopR names l most rets n p s = (p, s) := by
  cases n with
  | zero => rfl
  | succ n => unfold loopR; rw [if_neg h]
theorem loopR_rowP {names : List ByteArray} {l : List Tk} {most : Nat} {rets : Bool} : ∀ (n : Nat) (p : Rp) (s : List Slot), p.e = 0 → n + s.length = most + 1 → s.length ≤ most →
    (loopR names l most rets n p s).1.i = (rowP names l most rets n s p.i).2.1 ∧ (loopR names l most rets n p s).1.e = (rowP names l most rets n s p.i).2.2 ∧ ((rowP names l most rets n s p.i).2.2 = 0 → (loopR names l most rets n p s).2 = (rowP names l most rets n s p.i).1)
  | 0, p, s, he, hn, hl => by omega
  | n + 1, p, s, he, hn, hl => by
    obtain ⟨a1, a2, a3⟩ := nextR_slotP (names := names) (rets := rets) (l := l) he
    unfold loopR rowP
    rw [if_pos he]
    by_cases hm : s.length = most
    · rw [if_pos hm, if_pos hm]
      exact ⟨rfl, rfl, fun h => absurd (show (8 : Nat) = 0 from h) (by decide)⟩
    · rw [if_neg hm, if_neg hm]
      by_cases h0 : (slotP names rets l p.i).2.2 = 0
      · rw [h0] at a2
        rw [andP_yes h0, hereR_M a2, a1]
        dsimp only
        by_cases hc : Cd.isM l bComma (slotP names rets l p.i).2.1 = true
        · rw [if_pos hc, if_pos hc, a3 h0]
          exact loopR_rowP n { nextR names rets l p with i := (slotP names rets l p.i).2.1 + 1 } (s ++ [(slotP names rets l p.i).1]) a2 (by simp; omega) (by simp; omega)
        · rw [if_neg hc, if_neg hc]
          obtain ⟨b1, b2, -⟩ := mustR_M (l := l) a2 Cd.bSemi
          rw [a1] at b1 b2
          unfold markE at b1 b2
          by_cases hs : Cd.isM l Cd.bSemi (slotP names rets l p.i).2.1 = true
          · rw [if_pos hs] at b1 b2 ⊢
            exact ⟨b1, b2, fun _ => by rw [a3 h0]⟩
          · rw [if_neg hs] at b1 b2 ⊢
            exact ⟨b1, b2, fun h => absurd (show (4 : Nat) = 0 from h) (by decide)⟩
      · have hb : (nextR names rets l p).e ≠ 0 := by rw [a2]; exact h0
        rw [andP_no h0, hereR_bad hb, if_neg (by decide), mustR_bad hb]
        exact ⟨a1, a2, fun h => absurd h h0⟩
theorem rowR_bad {names : List ByteArray} {l : List Tk} {p : Rp} (h : p.e ≠ 0) (word : ByteArray) (most : Nat) (rets : Bool) : rowR names l p word most rets = (p, []) := by
  unfold rowR
  rw [mustR_bad h, hereR_bad h, if_neg (by decide), loopR_bad h]
theorem rowR_wordP {names : List ByteArray} {l : List Tk} {p : Rp} (h : p.e = 0) (word : ByteArray) (most : Nat) (rets : Bool) : (rowR names l p word most rets).1.i = (wordP names l word most rets p.i).2.1 ∧ (rowR names l p word most rets).1.e = (wordP names l word most rets p.i).2.2 ∧ ((wordP names l word most rets p.i).2.2 = 0 → (rowR names l p word most rets).2 = (wordP names l word most rets p.i).1) := by
  obtain ⟨a1, a2⟩ := mustR_W (l := l) h word
  unfold rowR wordP
  by_cases h0 : (wordE l word p.i).2.2 = 0
  · rw [h0] at a2
    rw [andP_yes h0, hereR_M a2, a1]
    dsimp only
    by_cases hs : Cd.isM l Cd.bSemi (wordE l word p.i).2.1 = true
    · rw [if_pos hs, if_pos hs]
      exact ⟨rfl, a2, fun _ => rfl⟩
    · rw [if_neg hs, if_neg hs]
      have := loopR_rowP (names := names) (l := l) (most := most) (rets := rets) (most + 1) (mustR l p 1 word) [] a2 (by simp) (by simp)
      rw [a1] at this
      exact this
  · have hb : (mustR l p 1 word).e ≠ 0 := by rw [a2]; exact h0
    rw [andP_no h0, hereR_bad hb, if_neg (by decide), loopR_bad hb]
    exact ⟨a1, a2, fun h => absurd h h0⟩
/-- The rows, and the end. -/
def tailR (names : List ByteArray) (k : Nat) (l : List Tk) (i : Nat) (pc : Atom) (code : List Cd.In) (p : Rp) : State × Nat × Nat :=
  if (rowR names l (rowR names l (rowR names l p bMem 6 false).1 bStack 12 true).1 bOut 8 false).1.e = 0 then
    endS k i ⟨pc, code, (rowR names l p bMem 6 false).2.map toAtom, (rowR names l (rowR names l p bMem 6 false).1 bStack 12 true).2, (rowR names l (rowR names l (rowR names l p bMem 6 false).1 bStack 12 true).1 bOut 8 false).2.map toAtom⟩ (rowR names l (rowR names l (rowR names l p bMem 6 false).1 bStack 12 true).1 bOut 8 false).1.i
  else (zero, (rowR names l (rowR names l (rowR names l p bMem 6 false).1 bStack 12 true).1 bOut 8 false).1.i, (rowR names l (rowR names l (rowR names l p bMem 6 false).1 bStack 12 true).1 bOut 8 false).1.e)
def fromR (names : List ByteArray) (k : Nat) (l : List Tk) (i : Nat) : State × Nat × Nat :=
  tailR names k l i (atomR names l (mustR l ⟨i, ⟨0, 0⟩, 0⟩ 1 bPc)).a
    (if (mustR l (mustR l (atomR names l (mustR l ⟨i, ⟨0, 0⟩, 0⟩ 1 bPc)) 3 Cd.bSemi) 1 bCode).e = 0 then (Cd.fromP names k l 13 [] (mustR l (mustR l (atomR names l (mustR l ⟨i, ⟨0, 0⟩, 0⟩ 1 bPc)) 3 Cd.bSemi) 1 bCode).i).1 else [])
    (if (mustR l (mustR l (atomR names l (mustR l ⟨i, ⟨0, 0⟩, 0⟩ 1 bPc)) 3 Cd.bSemi) 1 bCode).e = 0 then
      { mustR l (mustR l (atomR names l (mustR l ⟨i, ⟨0, 0⟩, 0⟩ 1 bPc)) 3 Cd.bSemi) 1 bCode with i := (Cd.fromP names k l 13 [] (mustR l (mustR l (atomR names l (mustR l ⟨i, ⟨0, 0⟩, 0⟩ 1 bPc)) 3 Cd.bSemi) 1 bCode).i).2.1, e := (Cd.fromP names k l 13 [] (mustR l (mustR l (atomR names l (mustR l ⟨i, ⟨0, 0⟩, 0⟩ 1 bPc)) 3 Cd.bSemi) 1 bCode).i).2.2 }
     else mustR l (mustR l (atomR names l (mustR l ⟨i, ⟨0, 0⟩, 0⟩ 1 bPc)) 3 Cd.bSemi) 1 bCode)
theorem tailR_bad {names : List ByteArray} {k : Nat} {l : List Tk} {i : Nat} {pc : Atom} {code : List Cd.In} {p : Rp} (h : p.e ≠ 0) : tailR names k l i pc code p = (zero, p.i, p.e) := by
  unfold tailR
  rw [rowR_bad h, rowR_bad h, rowR_bad h, if_neg h]
theorem tailR_rows {names : List ByteArray} {k : Nat} {l : List Tk} {i : Nat} {pc : Atom} {code : List Cd.In} {p : Rp} (h : p.e = 0) : tailR names k l i pc code p = andP (wordP names l bMem 6 false p.i) zero fun mem j => andP (wordP names l bStack 12 true j) zero fun stack j =>
    andP (wordP names l bOut 8 false j) zero fun out j => endS k i ⟨pc, code, mem.map toAtom, stack, out.map toAtom⟩ j := by
  obtain ⟨a1, a2, a3⟩ := rowR_wordP (names := names) (l := l) h bMem 6 false
  unfold tailR
  by_cases h0 : (wordP names l bMem 6 false p.i).2.2 = 0
  · rw [andP_yes h0]
    rw [h0] at a2
    have a3 := a3 h0
    obtain ⟨b1, b2, b3⟩ := rowR_wordP (names := names) (l := l) a2 bStack 12 true
    rw [a1] at b1 b2 b3
    by_cases h1 : (wordP names l bStack 12 true (wordP names l bMem 6 false p.i).2.1).2.2 = 0
    · rw [andP_yes h1]
      rw [h1] at b2
      have b3 := b3 h1
      obtain ⟨c1, c2, c3⟩ := rowR_wordP (names := names) (l := l) b2 bOut 8 false
      rw [b1] at c1 c2 c3
      rw [c1, c2]
      by_cases h2 : (wordP names l bOut 8 false (wordP names l bStack 12 true (wordP names l bMem 6 false p.i).2.1).2.1).2.2 = 0
      · rw [if_pos h2, andP_yes h2, a3, b3, c3 h2]
      · rw [if_neg h2, andP_no h2]
    · have hb : (rowR names l (rowR names l p bMem 6 false).1 bStack 12 true).1.e ≠ 0 := by rw [b2]; exact h1
      rw [andP_no h1, rowR_bad hb, if_neg hb, b1, b2]
  · have hb : (rowR names l p bMem 6 false).1.e ≠ 0 := by rw [a2]; exact h0
    rw [andP_no h0, rowR_bad hb, rowR_bad hb, if_neg hb, a1, a2]
theorem fromR_fromS (names : List ByteArray) (k : Nat) (l : List Tk) (i : Nat) : fromR names k l i = fromS names k l i := by
  unfold fromR fromS
  obtain ⟨a1, a2⟩ := mustR_W (l := l) (p := ⟨i, ⟨0, 0⟩, 0⟩) rfl bPc
  generalize mustR l ⟨i, ⟨0, 0⟩, 0⟩ 1 bPc = p1 at *
  dsimp only at a1 a2
  generalize wordE l bPc i = r1 at *
  by_cases h1 : r1.2.2 = 0
  · rw [h1] at a2
    rw [andP_yes h1, ← a1]
    obtain ⟨b1, b2, b3⟩ := atomR_atomP (names := names) (l := l) a2
    generalize atomR names l p1 = p2 at *
    generalize atomP names l p1.i = r2 at *
    by_cases h2 : r2.2.2 = 0
    · rw [h2] at b2
      rw [andP_yes h2, ← b1, ← b3 h2]
      obtain ⟨c1, c2, -⟩ := mustR_M (l := l) b2 Cd.bSemi
      generalize mustR l p2 3 Cd.bSemi = p3 at *
      generalize markE l Cd.bSemi p2.i = r3 at *
      by_cases h3 : r3.2.2 = 0
      · rw [h3] at c2
        rw [andP_yes h3, ← c1]
        obtain ⟨d1, d2⟩ := mustR_W (l := l) c2 bCode
        generalize mustR l p3 1 bCode = p4 at *
        generalize wordE l bCode p3.i = r4 at *
        by_cases h4 : r4.2.2 = 0
        · rw [h4] at d2
          rw [andP_yes h4, ← d1, if_pos d2, if_pos d2]
          generalize Cd.fromP names k l 13 [] p4.i = r5 at *
          by_cases h5 : r5.2.2 = 0
          · rw [andP_yes h5, tailR_rows h5]
          · rw [tailR_bad h5]
            rw [andP_no h5]
        · have hb : p4.e ≠ 0 := by rw [d2]; exact h4
          rw [if_neg hb, if_neg hb, tailR_bad hb, d1, d2]
          rw [andP_no h4]
      · have hb : p3.e ≠ 0 := by rw [c2]; exact h3
        rw [mustR_bad hb, if_neg hb, if_neg hb, tailR_bad hb, c1, c2]
        rw [andP_no h3]
    · have hb : p2.e ≠ 0 := by rw [b2]; exact h2
      rw [mustR_bad hb, mustR_bad hb, if_neg hb, if_neg hb, tailR_bad hb, b1, b2]
      rw [andP_no h2]
  · have hb : p1.e ≠ 0 := by rw [a2]; exact h1
    have hc := atomR_bad (names := names) (l := l) hb
    have hb2 : (atomR names l p1).e ≠ 0 := by rw [hc.2]; exact hb
    rw [mustR_bad hb2, mustR_bad hb2, if_neg hb2, if_neg hb2, tailR_bad hb2, hc.1, hc.2, a1, a2]
    rw [andP_no h1]
end St
end Go.Proofs.YtipbilmnknmhmaaGreatDoor

/- Rows of atoms and slots in memory; a state as a value; what a reading keeps of them. -/
namespace Go.Proofs.YtipbilmnknmhmaaGreatDoor
set_option maxRecDepth 100000
open Go.RowKit Go.Shelf
attribute [local go_sem] Oper.semAt_some

def avs (x : St.Atom) : List Value := [.int .i64 x.v, .int .i64 x.l]
def svs (x : St.Slot) : List Value := [.bool x.ret, .int .i64 x.v, .int .i64 x.l]
theorem avs_len (x : St.Atom) : (avs x).length = 2 := rfl
theorem svs_len (x : St.Slot) : (svs x).length = 3 := rfl
def atv (x : St.Atom) : Value := .agg #[.int .i64 x.v, .int .i64 x.l]
def slv (x : St.Slot) : Value := .agg #[.bool x.ret, .int .i64 x.v, .int .i64 x.l]
theorem arow_at {w : World} {B : Nat} {A : Option Addr} {l : List St.Atom} {k : Nat} (h : Row w B A (fcells avs l)) (hk : k < l.length) : ∃ ad t, A = some ad ∧ ad.block < B ∧ l[k]? = some t ∧ w.cell? (ad.add (k * 2)) = some (.int .i64 t.v) ∧
    w.cell? ⟨(ad.add (k * 2)).block, (ad.add (k * 2)).off + 1, none⟩ = some (.int .i64 t.l) := by
  have hlen := fcells_length avs_len l
  obtain ⟨ad, e, hb, hc⟩ := h (by intro e; rw [e] at hlen; simp at hlen; omega)
  have h0 := fcells_at avs_len l k l[k] (List.getElem?_eq_getElem hk) 0 (by decide)
  have h1 := fcells_at avs_len l k l[k] (List.getElem?_eq_getElem hk) 1 (by decide)
  exact ⟨ad, l[k], e, hb, List.getElem?_eq_getElem hk, hc _ _ h0, by rw [← addr_next _ _ _ (by decide)]; exact hc _ _ h1⟩
theorem srow_at {w : World} {B : Nat} {A : Option Addr} {l : List St.Slot} {k : Nat} (h : Row w B A (fcells svs l)) (hk : k < l.length) : ∃ ad t, A = some ad ∧ ad.block < B ∧ l[k]? = some t ∧ w.cell? (ad.add (k * 3)) = some (.bool t.ret) ∧
    w.cell? ⟨(ad.add (k * 3)).block, (ad.add (k * 3)).off + 1, none⟩ = some (.int .i64 t.v) ∧ w.cell? ⟨(ad.add (k * 3)).block, (ad.add (k * 3)).off + 2, none⟩ = some (.int .i64 t.l) := by
  have hlen := fcells_length svs_len l
  obtain ⟨ad, e, hb, hc⟩ := h (by intro e; rw [e] at hlen; simp at hlen; omega)
  have h0 := fcells_at svs_len l k l[k] (List.getElem?_eq_getElem hk) 0 (by decide)
  have h1 := fcells_at svs_len l k l[k] (List.getElem?_eq_getElem hk) 1 (by decide)
  have h2 := fcells_at svs_len l k l[k] (List.getElem?_eq_getElem hk) 2 (by decide)
  exact ⟨ad, l[k], e, hb, List.getElem?_eq_getElem hk, hc _ _ h0, by rw [← addr_next _ _ _ (by decide)]; exact hc _ _ h1, by rw [← addr_next _ _ _ (by decide)]; exact hc _ _ h2⟩
/-- A slice of such things, below B. -/
def IsL {α : Type} (f : α → List Value) (w : World) (B : Nat) (v : Value) (l : List α) : Prop := ∃ A c, v = .slice A l.length c ∧ Row w B A (fcells f l) ∧ l.length ≤ c
section
variable {α : Type} {f : α → List Value} {w w' : World} {B B' R : Nat} {v : Value} {l : List α}
theorem IsL.below (h : IsL f w B v l) (hb : Below B w w') : IsL f w' B v l := by
  obtain ⟨A, c, e, hr, hc⟩ := h
  exact ⟨A, c, e, hr.below hb, hc⟩
theorem IsL.more (h : IsL f w B v l) (hB : B ≤ B') : IsL f w B' v l := by
  obtain ⟨A, c, e, hr, hc⟩ := h
  exact ⟨A, c, e, hr.more hB, hc⟩
theorem IsL.nil (f : α → List Value) (w : World) (B : Nat) : IsL f w B (.slice none 0 0) [] := ⟨none, 0, rfl, Row.nil, Nat.le_refl _⟩
theorem KN.isL (h : KN f B w v l) : IsL f w w.heap.size v l := h.row
end
theorem KN.ins {w : World} {B : Nat} {v : Value} {l : List Cd.In} (h : KN ivs B w v l) : IsIns w w.heap.size v l := h.row
/-- A state as a value. -/
def stv (s : St.State) (cv mv sv ov : Value) : Value := .agg #[.int .i64 s.pc.v, .int .i64 s.pc.l, cv, mv, sv, ov]
/-- A state, below B. -/
def IsSt (w : World) (B : Nat) (v : Value) (s : St.State) : Prop := ∃ cv mv sv ov, v = stv s cv mv sv ov ∧ IsIns w B cv s.code ∧ IsL avs w B mv s.mem ∧ IsL svs w B sv s.stack ∧ IsL avs w B ov s.out
theorem IsSt.below {w w' : World} {B : Nat} {v : Value} {s : St.State} (h : IsSt w B v s) (hb : Below B w w') : IsSt w' B v s := by
  obtain ⟨cv, mv, sv, ov, e, h1, h2, h3, h4⟩ := h
  exact ⟨cv, mv, sv, ov, e, h1.below hb, h2.below hb, h3.below hb, h4.below hb⟩
theorem IsSt.more {w : World} {B B' : Nat} {v : Value} {s : St.State} (h : IsSt w B v s) (hB : B ≤ B') : IsSt w B' v s := by
  obtain ⟨cv, mv, sv, ov, e, h1, h2, h3, h4⟩ := h
  exact ⟨cv, mv, sv, ov, e, h1.more hB, h2.more hB, h3.more hB, h4.more hB⟩
def zstv : Value := .agg #[.int .i64 0, .int .i64 0, .slice none 0 0, .slice none 0 0, .slice none 0 0, .slice none 0 0]
theorem IsSt.zero (w : World) (B : Nat) : IsSt w B zstv St.zero := ⟨_, _, _, _, rfl, IsIns.nil _ _, IsL.nil _ _ _, IsL.nil _ _ _, IsL.nil _ _ _⟩

/-! A result that lies in a cell, while a reading goes on. -/
structure RLoc (R : Nat) (w W : World) (b : Nat) (t : TypeId) (cs : Array Value) : Prop where
  new : w.heap.size ≤ b
  res : Blk W b t cs
  kept : Kept R R w W
section
variable {R b b' : Nat} {w W W' : World} {t t' : TypeId} {cs cs' : Array Value}
theorem RLoc.keep (h : RLoc R w W b t cs) (hR : R < w.heap.size) (hk : Kept R R W W') : RLoc R w W' b t cs :=
  ⟨h.new, (hk.block b h.res.lt (by have := h.new; omega) (by have := h.new; omega)).trans h.res, h.kept.trans hk⟩
theorem RLoc.below (h : RLoc R w W b t cs) (hb : Below W.heap.size W W') : RLoc R w W' b t cs := ⟨h.new, h.res.below hb h.res.lt, h.kept.trans (.of hb)⟩
theorem RLoc.set_ (h : RLoc R w W b t cs) (i : Nat) (u : Value) : RLoc R w (W.setCell ⟨b, i, none⟩ u) b t (cs.setIfInBounds i u) := ⟨h.new, h.res.set_ i u, h.kept.setNew h.new _⟩
theorem RLoc.other (h : RLoc R w W b t cs) {p : Addr} (hp : p.block ≠ b) (hn : w.heap.size ≤ p.block) (u : Value) : RLoc R w (W.setCell p u) b t cs := ⟨h.new, h.res.other hp u, h.kept.setNew hn u⟩
theorem RLoc.start (w : World) (R : Nat) (t : TypeId) (cs : Array Value) : RLoc R w (w.alloc (.cells cs t)) w.heap.size t cs :=
  ⟨Nat.le_refl _, Blk.new _ _ _, .of ((Below.refl _ w).alloc (Nat.le_refl _) _)⟩
theorem RLoc.drew (h : RLoc R w W b t cs) : RLoc R w W.drew b t cs := ⟨h.new, h.res, h.kept.os, h.kept.tape, h.kept.output, h.kept.size, h.kept.block⟩
end
section
variable {R c1 c2 ct p q : Nat} {N U A : Option Addr} {names : List ByteArray} {up : List Nat} {l : List Lx.Tk} {w w' W : World}
theorem NRd.setX (h : NRd R N U A c1 c2 ct names up l p W) {x : Addr} (hx : R < x.block) (u : Value) : NRd R N U A c1 c2 ct names up l p (W.setCell x u) :=
  ⟨h.blk.other (by omega) u, h.old.below ((Below.refl R W).setCell (Nat.le_of_lt hx) u), h.pos⟩
theorem NRd.drew (h : NRd R N U A c1 c2 ct names up l p W) : NRd R N U A c1 c2 ct names up l p W.drew := h.keep ⟨rfl, rfl, rfl, Nat.le_refl _, fun _ _ => rfl⟩
end
/-- What a part of the reading answers. -/
def STold {α : Type} (val : α → Value) (R : Nat) (N U A : Option Addr) (c1 c2 ct : Nat) (names : List ByteArray) (up : List Nat) (l : List Lx.Tk) (w : World) (r : α × Nat × Nat) (e : Ending) (w' : World) : Prop :=
  ∃ x, e = .returned (.tuple #[val x, .int .i64 (r.2.2 : Nat)]) ∧ (r.2.2 = 0 → x = r.1) ∧ NRd R N U A c1 c2 ct names up l r.2.1 w' ∧ Kept R R w w'
end Go.Proofs.YtipbilmnknmhmaaGreatDoor

/- The reference's here, must, atom (by gen_stmp.py). -/
namespace Go.Proofs.YtipbilmnknmhmaaGreatDoor
set_option maxRecDepth 100000
open Go.RowKit Go.Shelf Go.Sort
attribute [local go_sem] Oper.semAt_some
def rp9 (p : St.Rp) : Value := .agg #[.int .i64 (p.i : Int), .int .i64 p.a.v, .int .i64 p.a.l, .int .i64 (p.e : Int)]
/-- Such a state is answered. -/
def Told9 (w : World) (p : St.Rp) (e : Ending) (w' : World) : Prop := e = .returned (rp9 p) ∧ Below w.heap.size w w'
theorem hereR_next {l : List Lx.Tk} (hf : Tb.Fine l) {p : St.Rp} (h : p.i < l.length) {kd : Int} (hk : kd ≠ 0) {t : ByteArray} (hh : St.hereR l p kd t = true) : p.i + 1 < l.length := by
  unfold St.hereR at hh
  rw [Bool.and_eq_true] at hh
  have := (of_decide_eq_true hh.2).1
  exact Cd.kind_next hf h (by rw [this]; exact hk)
theorem mustR_i {l : List Lx.Tk} (hf : Tb.Fine l) {p : St.Rp} (h : p.i < l.length) {kd : Int} (hk : kd ≠ 0) (t : ByteArray) : (St.mustR l p kd t).i < l.length := by
  unfold St.mustR
  split
  · split
    · exact hereR_next hf h hk (by assumption)
    · exact h
  · exact h
theorem intR_i {l : List Lx.Tk} (hf : Tb.Fine l) {p : St.Rp} (h : p.i < l.length) : (St.intR l p).i < l.length := rInt_i l hf _ h
theorem atomR_i {names : List ByteArray} {l : List Lx.Tk} (hf : Tb.Fine l) {p : St.Rp} (h : p.i < l.length) : (St.atomR names l p).i < l.length := rLab_i names l hf _ (intR_i hf h)
section
variable {W X w : World} {g a B : Nat} {t : TypeId} {cs : Array Value}
theorem bk1 (h : Hid (Blk W g t cs)) (hb : Below W.heap.size W X) : Hid (Blk X g t cs) := Lib.hid (h.out.below hb h.out.lt)
theorem bk2 (h : Hid (Blk W g t cs)) (hk : Kept a a W X) (hn : g ≠ a) : Hid (Blk X g t cs) := Lib.hid ((hk.block g h.out.lt hn hn).trans h.out)
theorem bka (e : W.alloc (.cells cs t) = X) : Hid (Blk X W.heap.size t cs) := Lib.hid (e ▸ Blk.new W t cs)
theorem alw {o : Obj} (e : W.alloc o = X) : Below W.heap.size W X := e ▸ (Below.refl _ W).alloc (Nat.le_refl _) _
theorem bw1 (h : Hid (Below w.heap.size w W)) (hb : Below W.heap.size W X) : Hid (Below w.heap.size w X) := Lib.hid (h.out.trans (hb.mono h.out.size))
theorem bw2 (h : Hid (Below w.heap.size w W)) (hk : Kept a a W X) (ha : w.heap.size ≤ a) : Hid (Below w.heap.size w X) := Lib.hid (h.out.trans (hk.below h.out.size ha ha))
theorem kn1 {α : Type} {f : α → List Value} {v : Value} {l : List α} (h : Hid (KN f B W v l)) (hb : Below W.heap.size W X) : Hid (KN f B X v l) := Lib.hid (h.out.below hb)
theorem kn2 {α : Type} {f : α → List Value} {v : Value} {l : List α} (h : Hid (KN f B W v l)) (hk : Kept a a W X) (ha : a < B) : Hid (KN f B X v l) := Lib.hid (h.out.kept ha hk)
theorem ow1 {e : TypeId} {sz n : Nat} {v : Value} {xs : List Value} (h : Hid (W.ownsRow B e sz v n xs)) (hb : Below W.heap.size W X) : Hid (X.ownsRow B e sz v n xs) := Lib.hid (own_of h.out fun k hk => hb.block k (h.out.lt k hk).2)
theorem ow2 {e : TypeId} {sz n : Nat} {v : Value} {xs : List Value} (h : Hid (W.ownsRow B e sz v n xs)) (hk : Kept a a W X) (ha : a < B) : Hid (X.ownsRow B e sz v n xs) := Lib.hid (own_of h.out fun k hj => by
  have := h.out.lt k hj
  exact hk.block k this.2 (by omega) (by omega))
theorem tk1 {A : Option Addr} {xs : List Value} (h : Hid (Row W W.heap.size A xs)) (hb : Below W.heap.size W X) : Hid (Row X X.heap.size A xs) := Lib.hid ((h.out.below hb).more hb.size)
theorem kpq {V : World} (h : Kept a a W V) (i : Nat) (u : Value) : Kept a a W (V.setCell ⟨a, i, none⟩ u) := h.set_ (.inl rfl) u
theorem kp1 {i : Nat} {x0 : Value} (e : (W.setCell ⟨g, i, none⟩ x0) = X) : Kept g g W X := e ▸ kpq (Kept.refl g g W) i _
theorem kp4 {x0 x1 x2 x3 : Value} (e : ((((W.setCell ⟨g, 0, none⟩ x0).setCell ⟨g, 1, none⟩ x1).setCell ⟨g, 2, none⟩ x2).setCell ⟨g, 3, none⟩ x3) = X) : Kept g g W X := e ▸ kpq (kpq (kpq (kpq (Kept.refl g g W) 0 _) 1 _) 2 _) 3 _
theorem kp5 {x0 x1 x2 x3 x4 : Value} (e : (((((W.setCell ⟨g, 0, none⟩ x0).setCell ⟨g, 1, none⟩ x1).setCell ⟨g, 2, none⟩ x2).setCell ⟨g, 3, none⟩ x3).setCell ⟨g, 4, none⟩ x4) = X) : Kept g g W X := e ▸ kpq (kpq (kpq (kpq (kpq (Kept.refl g g W) 0 _) 1 _) 2 _) 3 _) 4 _
theorem kp6 {x0 x1 x2 x3 x4 x5 : Value} (e : ((((((W.setCell ⟨g, 0, none⟩ x0).setCell ⟨g, 1, none⟩ x1).setCell ⟨g, 2, none⟩ x2).setCell ⟨g, 3, none⟩ x3).setCell ⟨g, 4, none⟩ x4).setCell ⟨g, 5, none⟩ x5) = X) : Kept g g W X := e ▸ kpq (kpq (kpq (kpq (kpq (kpq (Kept.refl g g W) 0 _) 1 _) 2 _) 3 _) 4 _) 5 _
theorem put4_4 {x0 x1 x2 x3 y0 y1 y2 y3 : Value} (h : Hid (Blk W g t #[y0, y1, y2, y3])) (e : ((((W.setCell ⟨g, 0, none⟩ x0).setCell ⟨g, 1, none⟩ x1).setCell ⟨g, 2, none⟩ x2).setCell ⟨g, 3, none⟩ x3) = X) : Hid (Blk X g t #[x0, x1, x2, x3]) := Lib.hid (e ▸ ((((h.out.set_ 0 _).set_ 1 _).set_ 2 _).set_ 3 _))
theorem put4_5 {x0 x1 x2 x3 y0 y1 y2 y3 y4 : Value} (h : Hid (Blk W g t #[y0, y1, y2, y3, y4])) (e : ((((W.setCell ⟨g, 0, none⟩ x0).setCell ⟨g, 1, none⟩ x1).setCell ⟨g, 2, none⟩ x2).setCell ⟨g, 3, none⟩ x3) = X) : Hid (Blk X g t #[x0, x1, x2, x3, y4]) := Lib.hid (e ▸ ((((h.out.set_ 0 _).set_ 1 _).set_ 2 _).set_ 3 _))
theorem put5_5 {x0 x1 x2 x3 x4 y0 y1 y2 y3 y4 : Value} (h : Hid (Blk W g t #[y0, y1, y2, y3, y4])) (e : (((((W.setCell ⟨g, 0, none⟩ x0).setCell ⟨g, 1, none⟩ x1).setCell ⟨g, 2, none⟩ x2).setCell ⟨g, 3, none⟩ x3).setCell ⟨g, 4, none⟩ x4) = X) : Hid (Blk X g t #[x0, x1, x2, x3, x4]) := Lib.hid (e ▸ (((((h.out.set_ 0 _).set_ 1 _).set_ 2 _).set_ 3 _).set_ 4 _))
theorem put6_6 {x0 x1 x2 x3 x4 x5 y0 y1 y2 y3 y4 y5 : Value} (h : Hid (Blk W g t #[y0, y1, y2, y3, y4, y5])) (e : ((((((W.setCell ⟨g, 0, none⟩ x0).setCell ⟨g, 1, none⟩ x1).setCell ⟨g, 2, none⟩ x2).setCell ⟨g, 3, none⟩ x3).setCell ⟨g, 4, none⟩ x4).setCell ⟨g, 5, none⟩ x5) = X) : Hid (Blk X g t #[x0, x1, x2, x3, x4, x5]) := Lib.hid (e ▸ ((((((h.out.set_ 0 _).set_ 1 _).set_ 2 _).set_ 3 _).set_ 4 _).set_ 5 _))
theorem cel2 {y0 y1 : Value} (h : Hid (Blk W g t #[y0, y1])) : W.cell? ⟨g, 0, none⟩ = some y0 ∧ W.cell? ⟨g, 1, none⟩ = some y1 := ⟨h.out.cell 0, h.out.cell 1⟩
theorem cel3 {y0 y1 y2 : Value} (h : Hid (Blk W g t #[y0, y1, y2])) : W.cell? ⟨g, 0, none⟩ = some y0 ∧ W.cell? ⟨g, 1, none⟩ = some y1 ∧ W.cell? ⟨g, 2, none⟩ = some y2 := ⟨h.out.cell 0, h.out.cell 1, h.out.cell 2⟩
theorem cel4 {y0 y1 y2 y3 : Value} (h : Hid (Blk W g t #[y0, y1, y2, y3])) : W.cell? ⟨g, 0, none⟩ = some y0 ∧ W.cell? ⟨g, 1, none⟩ = some y1 ∧ W.cell? ⟨g, 2, none⟩ = some y2 ∧ W.cell? ⟨g, 3, none⟩ = some y3 := ⟨h.out.cell 0, h.out.cell 1, h.out.cell 2, h.out.cell 3⟩
theorem fro4 {y0 y1 y2 y3 : Value} (h : Hid (Blk W g t #[y0, y1, y2, y3])) : W.frozen? ⟨g, 0, none⟩ = false ∧ W.frozen? ⟨g, 1, none⟩ = false ∧ W.frozen? ⟨g, 2, none⟩ = false ∧ W.frozen? ⟨g, 3, none⟩ = false := ⟨h.out.frozen 0, h.out.frozen 1, h.out.frozen 2, h.out.frozen 3⟩
theorem p4_0 {y0 y1 y2 y3 u : Value} (h : Hid (Blk W g t #[y0, y1, y2, y3])) (e : W.setCell ⟨g, 0, none⟩ u = X) : Hid (Blk X g t #[u, y1, y2, y3]) := Lib.hid (e ▸ h.out.set_ 0 _)
theorem c4_0 {y0 y1 y2 y3 : Value} (h : Hid (Blk W g t #[y0, y1, y2, y3])) : W.cell? ⟨g, 0, none⟩ = some y0 := h.out.cell 0
theorem f4_0 {y0 y1 y2 y3 : Value} (h : Hid (Blk W g t #[y0, y1, y2, y3])) : W.frozen? ⟨g, 0, none⟩ = false := h.out.frozen 0
theorem p4_3 {y0 y1 y2 y3 u : Value} (h : Hid (Blk W g t #[y0, y1, y2, y3])) (e : W.setCell ⟨g, 3, none⟩ u = X) : Hid (Blk X g t #[y0, y1, y2, u]) := Lib.hid (e ▸ h.out.set_ 3 _)
theorem c4_3 {y0 y1 y2 y3 : Value} (h : Hid (Blk W g t #[y0, y1, y2, y3])) : W.cell? ⟨g, 3, none⟩ = some y3 := h.out.cell 3
theorem f4_3 {y0 y1 y2 y3 : Value} (h : Hid (Blk W g t #[y0, y1, y2, y3])) : W.frozen? ⟨g, 3, none⟩ = false := h.out.frozen 3
theorem cel5 {y0 y1 y2 y3 y4 : Value} (h : Hid (Blk W g t #[y0, y1, y2, y3, y4])) : W.cell? ⟨g, 0, none⟩ = some y0 ∧ W.cell? ⟨g, 1, none⟩ = some y1 ∧ W.cell? ⟨g, 2, none⟩ = some y2 ∧ W.cell? ⟨g, 3, none⟩ = some y3 ∧ W.cell? ⟨g, 4, none⟩ = some y4 := ⟨h.out.cell 0, h.out.cell 1, h.out.cell 2, h.out.cell 3, h.out.cell 4⟩
theorem p5_0 {y0 y1 y2 y3 y4 u : Value} (h : Hid (Blk W g t #[y0, y1, y2, y3, y4])) (e : W.setCell ⟨g, 0, none⟩ u = X) : Hid (Blk X g t #[u, y1, y2, y3, y4]) := Lib.hid (e ▸ h.out.set_ 0 _)
theorem c5_0 {y0 y1 y2 y3 y4 : Value} (h : Hid (Blk W g t #[y0, y1, y2, y3, y4])) : W.cell? ⟨g, 0, none⟩ = some y0 := h.out.cell 0
theorem f5_0 {y0 y1 y2 y3 y4 : Value} (h : Hid (Blk W g t #[y0, y1, y2, y3, y4])) : W.frozen? ⟨g, 0, none⟩ = false := h.out.frozen 0
theorem c5_1 {y0 y1 y2 y3 y4 : Value} (h : Hid (Blk W g t #[y0, y1, y2, y3, y4])) : W.cell? ⟨g, 1, none⟩ = some y1 := h.out.cell 1
theorem f5_1 {y0 y1 y2 y3 y4 : Value} (h : Hid (Blk W g t #[y0, y1, y2, y3, y4])) : W.frozen? ⟨g, 1, none⟩ = false := h.out.frozen 1
theorem c5_2 {y0 y1 y2 y3 y4 : Value} (h : Hid (Blk W g t #[y0, y1, y2, y3, y4])) : W.cell? ⟨g, 2, none⟩ = some y2 := h.out.cell 2
theorem f5_2 {y0 y1 y2 y3 y4 : Value} (h : Hid (Blk W g t #[y0, y1, y2, y3, y4])) : W.frozen? ⟨g, 2, none⟩ = false := h.out.frozen 2
theorem p5_3 {y0 y1 y2 y3 y4 u : Value} (h : Hid (Blk W g t #[y0, y1, y2, y3, y4])) (e : W.setCell ⟨g, 3, none⟩ u = X) : Hid (Blk X g t #[y0, y1, y2, u, y4]) := Lib.hid (e ▸ h.out.set_ 3 _)
theorem c5_3 {y0 y1 y2 y3 y4 : Value} (h : Hid (Blk W g t #[y0, y1, y2, y3, y4])) : W.cell? ⟨g, 3, none⟩ = some y3 := h.out.cell 3
theorem f5_3 {y0 y1 y2 y3 y4 : Value} (h : Hid (Blk W g t #[y0, y1, y2, y3, y4])) : W.frozen? ⟨g, 3, none⟩ = false := h.out.frozen 3
theorem p5_4 {y0 y1 y2 y3 y4 u : Value} (h : Hid (Blk W g t #[y0, y1, y2, y3, y4])) (e : W.setCell ⟨g, 4, none⟩ u = X) : Hid (Blk X g t #[y0, y1, y2, y3, u]) := Lib.hid (e ▸ h.out.set_ 4 _)
theorem c5_4 {y0 y1 y2 y3 y4 : Value} (h : Hid (Blk W g t #[y0, y1, y2, y3, y4])) : W.cell? ⟨g, 4, none⟩ = some y4 := h.out.cell 4
theorem f5_4 {y0 y1 y2 y3 y4 : Value} (h : Hid (Blk W g t #[y0, y1, y2, y3, y4])) : W.frozen? ⟨g, 4, none⟩ = false := h.out.frozen 4
theorem cel6 {y0 y1 y2 y3 y4 y5 : Value} (h : Hid (Blk W g t #[y0, y1, y2, y3, y4, y5])) : W.cell? ⟨g, 0, none⟩ = some y0 ∧ W.cell? ⟨g, 1, none⟩ = some y1 ∧ W.cell? ⟨g, 2, none⟩ = some y2 ∧ W.cell? ⟨g, 3, none⟩ = some y3 ∧ W.cell? ⟨g, 4, none⟩ = some y4 ∧ W.cell? ⟨g, 5, none⟩ = some y5 := ⟨h.out.cell 0, h.out.cell 1, h.out.cell 2, h.out.cell 3, h.out.cell 4, h.out.cell 5⟩
theorem fro6 {y0 y1 y2 y3 y4 y5 : Value} (h : Hid (Blk W g t #[y0, y1, y2, y3, y4, y5])) : W.frozen? ⟨g, 0, none⟩ = false ∧ W.frozen? ⟨g, 1, none⟩ = false ∧ W.frozen? ⟨g, 2, none⟩ = false ∧ W.frozen? ⟨g, 3, none⟩ = false ∧ W.frozen? ⟨g, 4, none⟩ = false ∧ W.frozen? ⟨g, 5, none⟩ = false := ⟨h.out.frozen 0, h.out.frozen 1, h.out.frozen 2, h.out.frozen 3, h.out.frozen 4, h.out.frozen 5⟩
theorem p6_2 {y0 y1 y2 y3 y4 y5 u : Value} (h : Hid (Blk W g t #[y0, y1, y2, y3, y4, y5])) (e : W.setCell ⟨g, 2, none⟩ u = X) : Hid (Blk X g t #[y0, y1, u, y3, y4, y5]) := Lib.hid (e ▸ h.out.set_ 2 _)
theorem c6_2 {y0 y1 y2 y3 y4 y5 : Value} (h : Hid (Blk W g t #[y0, y1, y2, y3, y4, y5])) : W.cell? ⟨g, 2, none⟩ = some y2 := h.out.cell 2
theorem f6_2 {y0 y1 y2 y3 y4 y5 : Value} (h : Hid (Blk W g t #[y0, y1, y2, y3, y4, y5])) : W.frozen? ⟨g, 2, none⟩ = false := h.out.frozen 2
theorem p6_3 {y0 y1 y2 y3 y4 y5 u : Value} (h : Hid (Blk W g t #[y0, y1, y2, y3, y4, y5])) (e : W.setCell ⟨g, 3, none⟩ u = X) : Hid (Blk X g t #[y0, y1, y2, u, y4, y5]) := Lib.hid (e ▸ h.out.set_ 3 _)
theorem c6_3 {y0 y1 y2 y3 y4 y5 : Value} (h : Hid (Blk W g t #[y0, y1, y2, y3, y4, y5])) : W.cell? ⟨g, 3, none⟩ = some y3 := h.out.cell 3
theorem f6_3 {y0 y1 y2 y3 y4 y5 : Value} (h : Hid (Blk W g t #[y0, y1, y2, y3, y4, y5])) : W.frozen? ⟨g, 3, none⟩ = false := h.out.frozen 3
theorem p6_4 {y0 y1 y2 y3 y4 y5 u : Value} (h : Hid (Blk W g t #[y0, y1, y2, y3, y4, y5])) (e : W.setCell ⟨g, 4, none⟩ u = X) : Hid (Blk X g t #[y0, y1, y2, y3, u, y5]) := Lib.hid (e ▸ h.out.set_ 4 _)
theorem c6_4 {y0 y1 y2 y3 y4 y5 : Value} (h : Hid (Blk W g t #[y0, y1, y2, y3, y4, y5])) : W.cell? ⟨g, 4, none⟩ = some y4 := h.out.cell 4
theorem f6_4 {y0 y1 y2 y3 y4 y5 : Value} (h : Hid (Blk W g t #[y0, y1, y2, y3, y4, y5])) : W.frozen? ⟨g, 4, none⟩ = false := h.out.frozen 4
theorem p6_5 {y0 y1 y2 y3 y4 y5 u : Value} (h : Hid (Blk W g t #[y0, y1, y2, y3, y4, y5])) (e : W.setCell ⟨g, 5, none⟩ u = X) : Hid (Blk X g t #[y0, y1, y2, y3, y4, u]) := Lib.hid (e ▸ h.out.set_ 5 _)
theorem c6_5 {y0 y1 y2 y3 y4 y5 : Value} (h : Hid (Blk W g t #[y0, y1, y2, y3, y4, y5])) : W.cell? ⟨g, 5, none⟩ = some y5 := h.out.cell 5
theorem f6_5 {y0 y1 y2 y3 y4 y5 : Value} (h : Hid (Blk W g t #[y0, y1, y2, y3, y4, y5])) : W.frozen? ⟨g, 5, none⟩ = false := h.out.frozen 5
theorem cel8 {y0 y1 y2 y3 y4 y5 y6 y7 : Value} (h : Hid (Blk W g t #[y0, y1, y2, y3, y4, y5, y6, y7])) : W.cell? ⟨g, 0, none⟩ = some y0 ∧ W.cell? ⟨g, 1, none⟩ = some y1 ∧ W.cell? ⟨g, 2, none⟩ = some y2 ∧ W.cell? ⟨g, 3, none⟩ = some y3 ∧ W.cell? ⟨g, 4, none⟩ = some y4 ∧ W.cell? ⟨g, 5, none⟩ = some y5 ∧ W.cell? ⟨g, 6, none⟩ = some y6 ∧ W.cell? ⟨g, 7, none⟩ = some y7 := ⟨h.out.cell 0, h.out.cell 1, h.out.cell 2, h.out.cell 3, h.out.cell 4, h.out.cell 5, h.out.cell 6, h.out.cell 7⟩
theorem p8_0 {y0 y1 y2 y3 y4 y5 y6 y7 u : Value} (h : Hid (Blk W g t #[y0, y1, y2, y3, y4, y5, y6, y7])) (e : W.setCell ⟨g, 0, none⟩ u = X) : Hid (Blk X g t #[u, y1, y2, y3, y4, y5, y6, y7]) := Lib.hid (e ▸ h.out.set_ 0 _)
theorem c8_0 {y0 y1 y2 y3 y4 y5 y6 y7 : Value} (h : Hid (Blk W g t #[y0, y1, y2, y3, y4, y5, y6, y7])) : W.cell? ⟨g, 0, none⟩ = some y0 := h.out.cell 0
theorem f8_0 {y0 y1 y2 y3 y4 y5 y6 y7 : Value} (h : Hid (Blk W g t #[y0, y1, y2, y3, y4, y5, y6, y7])) : W.frozen? ⟨g, 0, none⟩ = false := h.out.frozen 0
theorem p8_1 {y0 y1 y2 y3 y4 y5 y6 y7 u : Value} (h : Hid (Blk W g t #[y0, y1, y2, y3, y4, y5, y6, y7])) (e : W.setCell ⟨g, 1, none⟩ u = X) : Hid (Blk X g t #[y0, u, y2, y3, y4, y5, y6, y7]) := Lib.hid (e ▸ h.out.set_ 1 _)
theorem c8_1 {y0 y1 y2 y3 y4 y5 y6 y7 : Value} (h : Hid (Blk W g t #[y0, y1, y2, y3, y4, y5, y6, y7])) : W.cell? ⟨g, 1, none⟩ = some y1 := h.out.cell 1
theorem f8_1 {y0 y1 y2 y3 y4 y5 y6 y7 : Value} (h : Hid (Blk W g t #[y0, y1, y2, y3, y4, y5, y6, y7])) : W.frozen? ⟨g, 1, none⟩ = false := h.out.frozen 1
theorem p8_2 {y0 y1 y2 y3 y4 y5 y6 y7 u : Value} (h : Hid (Blk W g t #[y0, y1, y2, y3, y4, y5, y6, y7])) (e : W.setCell ⟨g, 2, none⟩ u = X) : Hid (Blk X g t #[y0, y1, u, y3, y4, y5, y6, y7]) := Lib.hid (e ▸ h.out.set_ 2 _)
theorem c8_2 {y0 y1 y2 y3 y4 y5 y6 y7 : Value} (h : Hid (Blk W g t #[y0, y1, y2, y3, y4, y5, y6, y7])) : W.cell? ⟨g, 2, none⟩ = some y2 := h.out.cell 2
theorem f8_2 {y0 y1 y2 y3 y4 y5 y6 y7 : Value} (h : Hid (Blk W g t #[y0, y1, y2, y3, y4, y5, y6, y7])) : W.frozen? ⟨g, 2, none⟩ = false := h.out.frozen 2
theorem p8_3 {y0 y1 y2 y3 y4 y5 y6 y7 u : Value} (h : Hid (Blk W g t #[y0, y1, y2, y3, y4, y5, y6, y7])) (e : W.setCell ⟨g, 3, none⟩ u = X) : Hid (Blk X g t #[y0, y1, y2, u, y4, y5, y6, y7]) := Lib.hid (e ▸ h.out.set_ 3 _)
theorem c8_3 {y0 y1 y2 y3 y4 y5 y6 y7 : Value} (h : Hid (Blk W g t #[y0, y1, y2, y3, y4, y5, y6, y7])) : W.cell? ⟨g, 3, none⟩ = some y3 := h.out.cell 3
theorem f8_3 {y0 y1 y2 y3 y4 y5 y6 y7 : Value} (h : Hid (Blk W g t #[y0, y1, y2, y3, y4, y5, y6, y7])) : W.frozen? ⟨g, 3, none⟩ = false := h.out.frozen 3
theorem p8_4 {y0 y1 y2 y3 y4 y5 y6 y7 u : Value} (h : Hid (Blk W g t #[y0, y1, y2, y3, y4, y5, y6, y7])) (e : W.setCell ⟨g, 4, none⟩ u = X) : Hid (Blk X g t #[y0, y1, y2, y3, u, y5, y6, y7]) := Lib.hid (e ▸ h.out.set_ 4 _)
theorem c8_4 {y0 y1 y2 y3 y4 y5 y6 y7 : Value} (h : Hid (Blk W g t #[y0, y1, y2, y3, y4, y5, y6, y7])) : W.cell? ⟨g, 4, none⟩ = some y4 := h.out.cell 4
theorem f8_4 {y0 y1 y2 y3 y4 y5 y6 y7 : Value} (h : Hid (Blk W g t #[y0, y1, y2, y3, y4, y5, y6, y7])) : W.frozen? ⟨g, 4, none⟩ = false := h.out.frozen 4
theorem p8_5 {y0 y1 y2 y3 y4 y5 y6 y7 u : Value} (h : Hid (Blk W g t #[y0, y1, y2, y3, y4, y5, y6, y7])) (e : W.setCell ⟨g, 5, none⟩ u = X) : Hid (Blk X g t #[y0, y1, y2, y3, y4, u, y6, y7]) := Lib.hid (e ▸ h.out.set_ 5 _)
theorem c8_5 {y0 y1 y2 y3 y4 y5 y6 y7 : Value} (h : Hid (Blk W g t #[y0, y1, y2, y3, y4, y5, y6, y7])) : W.cell? ⟨g, 5, none⟩ = some y5 := h.out.cell 5
theorem f8_5 {y0 y1 y2 y3 y4 y5 y6 y7 : Value} (h : Hid (Blk W g t #[y0, y1, y2, y3, y4, y5, y6, y7])) : W.frozen? ⟨g, 5, none⟩ = false := h.out.frozen 5
theorem p8_6 {y0 y1 y2 y3 y4 y5 y6 y7 u : Value} (h : Hid (Blk W g t #[y0, y1, y2, y3, y4, y5, y6, y7])) (e : W.setCell ⟨g, 6, none⟩ u = X) : Hid (Blk X g t #[y0, y1, y2, y3, y4, y5, u, y7]) := Lib.hid (e ▸ h.out.set_ 6 _)
theorem c8_6 {y0 y1 y2 y3 y4 y5 y6 y7 : Value} (h : Hid (Blk W g t #[y0, y1, y2, y3, y4, y5, y6, y7])) : W.cell? ⟨g, 6, none⟩ = some y6 := h.out.cell 6
theorem f8_6 {y0 y1 y2 y3 y4 y5 y6 y7 : Value} (h : Hid (Blk W g t #[y0, y1, y2, y3, y4, y5, y6, y7])) : W.frozen? ⟨g, 6, none⟩ = false := h.out.frozen 6
theorem p8_7 {y0 y1 y2 y3 y4 y5 y6 y7 u : Value} (h : Hid (Blk W g t #[y0, y1, y2, y3, y4, y5, y6, y7])) (e : W.setCell ⟨g, 7, none⟩ u = X) : Hid (Blk X g t #[y0, y1, y2, y3, y4, y5, y6, u]) := Lib.hid (e ▸ h.out.set_ 7 _)
theorem c8_7 {y0 y1 y2 y3 y4 y5 y6 y7 : Value} (h : Hid (Blk W g t #[y0, y1, y2, y3, y4, y5, y6, y7])) : W.cell? ⟨g, 7, none⟩ = some y7 := h.out.cell 7
theorem f8_7 {y0 y1 y2 y3 y4 y5 y6 y7 : Value} (h : Hid (Blk W g t #[y0, y1, y2, y3, y4, y5, y6, y7])) : W.frozen? ⟨g, 7, none⟩ = false := h.out.frozen 7
end
set_option maxHeartbeats 4000000 in
theorem rHere_any {A : Option Addr} {l : List Lx.Tk} (c : Nat) (kd0 : Int) (t : ByteArray) (p : St.Rp) (w : World) (h : Row w w.heap.size A (tcells l)) (hp : p.i < l.length) :
    Calls Tryz.prog 116 #[.slice A l.length c, rp9 p, .int .i64 kd0, .string t] w (Tells w (St.hereR l p kd0 t)) := by
  obtain ⟨ad, tk, rfl, hb, ht, t0, t1, t2⟩ := trow_at h hp
  have e2 := Tb.tok_some hp
  rw [ht] at e2
  injection e2 with e2
  have hblk : (ad.add (p.i * 3)).block < w.heap.size := by rw [add_block]; exact hb
  obtain ⟨i, ⟨av, al⟩, e⟩ := p
  dsimp only at hp e2 t0 t1 t2 hblk
  unfold St.hereR
  dsimp only
  rw [← e2]
  obtain ⟨kd, tx, ps⟩ := tk
  dsimp only at t0 t1 t2 ⊢
  clear e2 h ht hb t2
  unfold rp9
  dsimp only
  have HB := Lib.hid ((Below.refl _ w).alloc (Nat.le_refl _) (.cells #[.int .i64 (i : Int), .int .i64 av, .int .i64 al, .int .i64 (e : Int)] 130))
  by_cases he : e = 0
  · subst he
    rw [decide_eq_true rfl, Bool.true_and]
    by_cases hk : kd = kd0
    · subst hk
      by_cases hx : tx = t
      · subst hx
        have hbe : (tx.toList == tx.toList) = true := by simp
        rw [decide_eq_true ⟨rfl, rfl⟩]
        go_enter Tryz.func116, Tryz.ntmps116
        go_wp2
        go_ret
        exact ⟨rfl, HB.out⟩
      · have hbe : (tx.toList == t.toList) = false := by rw [str_beq, decide_eq_false hx]
        rw [decide_eq_false fun h => hx h.2]
        clear hx
        go_enter Tryz.func116, Tryz.ntmps116
        go_wp2
        go_ret
        exact ⟨rfl, HB.out⟩
    · have hkb : (kd == kd0) = false := by rw [beq_eq_false_iff_ne]; exact hk
      rw [decide_eq_false fun h => hk h.1]
      clear hk
      go_enter Tryz.func116, Tryz.ntmps116
      go_wp2
      go_ret
      exact ⟨rfl, HB.out⟩
  · have hz1 : ((e : Int) == 0) = false := by rw [beq_eq_false_iff_ne]; omega
    rw [decide_eq_false he, Bool.false_and]
    clear he
    go_enter Tryz.func116, Tryz.ntmps116
    go_wp2
    go_ret
    exact ⟨rfl, HB.out⟩
set_option maxHeartbeats 8000000 in
theorem rMust_any {A : Option Addr} {l : List Lx.Tk} (c : Nat) (kd0 : Int) (t : ByteArray) (p : St.Rp) (w : World) (h : Row w w.heap.size A (tcells l)) (hp : p.i < l.length) (hl : l.length ≤ 100000) :
    Calls Tryz.prog 88 #[.slice A l.length c, rp9 p, .int .i64 kd0, .string t] w (Told9 w (St.mustR l p kd0 t)) := by
  obtain ⟨res, hres⟩ : ∃ res, St.mustR l p kd0 t = res := ⟨_, rfl⟩
  rw [hres]
  unfold St.mustR at hres
  have hcall := fun W (hb : Below w.heap.size w W) => rHere_any c kd0 t p W ((h.below hb).more hb.size) hp
  obtain ⟨bh, hbh⟩ : ∃ b, St.hereR l p kd0 t = b := ⟨_, rfl⟩
  rw [hbh] at hcall hres
  obtain ⟨i, ⟨av, al⟩, e⟩ := p
  dsimp only at hp hres
  have hib : i < 100000 := by omega
  have HRES := Lib.hid hres
  unfold rp9 at hcall ⊢
  dsimp only at hcall ⊢
  have HC := Lib.hid hcall
  obtain ⟨ln, hln⟩ : ∃ ln, l.length = ln := ⟨_, rfl⟩
  rw [hln] at HC ⊢
  obtain ⟨W0, hW0⟩ : ∃ W0, (w.alloc (.cells #[.int .i64 (i : Int), .int .i64 av, .int .i64 al, .int .i64 (e : Int)] 130)).alloc (.cells #[.int .i64 0, .int .i64 0, .int .i64 0, .int .i64 0] 130) = W0 := ⟨_, rfl⟩
  have hp0 : Blk W0 (w.heap.size) 130 #[.int .i64 (i : Int), .int .i64 av, .int .i64 al, .int .i64 (e : Int)] := hW0 ▸ (Blk.new _ _ _).alloc _
  have hr0 : Blk W0 (w.heap.size + 1) 130 #[.int .i64 0, .int .i64 0, .int .i64 0, .int .i64 0] := by
    have h1 := Blk.new (w.alloc (.cells #[.int .i64 (i : Int), .int .i64 av, .int .i64 al, .int .i64 (e : Int)] 130)) 130 #[.int .i64 0, .int .i64 0, .int .i64 0, .int .i64 0]
    simp only [World.size_alloc] at h1
    rw [← hW0]; exact h1
  have HBW := Lib.hid (hW0 ▸ two_new w _ _ : Below w.heap.size w W0)
  have Hp := Lib.hid hp0
  have Hr := Lib.hid hr0
  clear hres hcall h hp hl hln hbh hp0 hr0
  by_cases he : e = 0
  · subst he
    have hW0 : (w.alloc (.cells #[.int .i64 (i : Int), .int .i64 av, .int .i64 al, .int .i64 0] 130)).alloc (.cells #[.int .i64 0, .int .i64 0, .int .i64 0, .int .i64 0] 130) = W0 := hW0
    have HC : Hid (∀ W, Below w.heap.size w W → Calls Tryz.prog 116 #[.slice A ln c, .agg #[.int .i64 (i : Int), .int .i64 av, .int .i64 al, .int .i64 0], .int .i64 kd0, .string t] W (Tells W bh)) := HC
    have Hp : Hid (Blk W0 (w.heap.size) 130 #[.int .i64 (i : Int), .int .i64 av, .int .i64 al, .int .i64 0]) := Hp
    cases bh with
    | true =>
      obtain ⟨u1_0, u1_1, u1_2, u1_3⟩ := cel4 Hp
      go_enter Tryz.func88, Tryz.ntmps88
      go_wp2_with (fail)
      refine (HC.out W0 HBW.out).mono ?_
      rintro e' w1 ⟨rfl, hb⟩
      replace Hp := bk1 Hp hb
      replace Hr := bk1 Hr hb
      replace HBW := bw1 HBW hb
      clear hb
      clear u1_0 u1_1 u1_2 u1_3
      obtain ⟨u2_0, u2_1, u2_2, u2_3⟩ := cel4 Hp
      have hrs : res = ⟨i + 1, ⟨av, al⟩, 0⟩ := by rw [← HRES.out]; rfl
      have HRS := Lib.hid hrs
      clear hrs
      obtain ⟨X3, hX3⟩ : ∃ X3, (w1.setCell ⟨w.heap.size, 0, none⟩ (.int .i64 ((i : Int) + 1))) = X3 := ⟨_, rfl⟩
      have hs_ := kp1 hX3
      have o3_0 := c4_0 Hp
      have r3_0 := f4_0 Hp
      replace Hp := p4_0 Hp hX3
      replace Hr := bk2 Hr hs_ (by omega)
      replace HBW := bw2 HBW hs_ (by omega)
      clear hs_
      obtain ⟨u4_0, u4_1, u4_2, u4_3⟩ := cel4 Hp
      obtain ⟨X5, hX5⟩ : ∃ X5, ((((X3.setCell ⟨w.heap.size + 1, 0, none⟩ (.int .i64 ((i : Int) + 1))).setCell ⟨w.heap.size + 1, 1, none⟩ (.int .i64 av)).setCell ⟨w.heap.size + 1, 2, none⟩ (.int .i64 al)).setCell ⟨w.heap.size + 1, 3, none⟩ (.int .i64 0)) = X5 := ⟨_, rfl⟩
      have hs_ := kp4 hX5
      obtain ⟨o5_0, o5_1, o5_2, o5_3⟩ := cel4 Hr
      obtain ⟨r5_0, r5_1, r5_2, r5_3⟩ := fro4 Hr
      replace Hr := put4_4 Hr hX5
      clear Hp
      replace HBW := bw2 HBW hs_ (by omega)
      clear hs_
      obtain ⟨q0, q1, q2, q3⟩ := cel4 Hr
      go_wp2_with (exact bodyPost_ret (v := rp9 ⟨i + 1, ⟨av, al⟩, 0⟩) (by simp [results, Tryz.results88, go_sem, q0, q1, q2, q3, rp9]) rfl ⟨by rw [HRS.out]; try rfl, HBW.out⟩)
    | false =>
      obtain ⟨u1_0, u1_1, u1_2, u1_3⟩ := cel4 Hp
      go_enter Tryz.func88, Tryz.ntmps88
      go_wp2_with (fail)
      refine (HC.out W0 HBW.out).mono ?_
      rintro e' w1 ⟨rfl, hb⟩
      replace Hp := bk1 Hp hb
      replace Hr := bk1 Hr hb
      replace HBW := bw1 HBW hb
      clear hb
      clear u1_0 u1_1 u1_2 u1_3
      obtain ⟨u2_0, u2_1, u2_2, u2_3⟩ := cel4 Hp
      have hrs : res = ⟨i, ⟨av, al⟩, 4⟩ := by rw [← HRES.out]; rfl
      have HRS := Lib.hid hrs
      clear hrs
      obtain ⟨X3, hX3⟩ : ∃ X3, (w1.setCell ⟨w.heap.size, 3, none⟩ (.int .i64 4)) = X3 := ⟨_, rfl⟩
      have hs_ := kp1 hX3
      have o3_3 := c4_3 Hp
      have r3_3 := f4_3 Hp
      replace Hp := p4_3 Hp hX3
      replace Hr := bk2 Hr hs_ (by omega)
      replace HBW := bw2 HBW hs_ (by omega)
      clear hs_
      obtain ⟨u4_0, u4_1, u4_2, u4_3⟩ := cel4 Hp
      obtain ⟨X5, hX5⟩ : ∃ X5, ((((X3.setCell ⟨w.heap.size + 1, 0, none⟩ (.int .i64 (i : Int))).setCell ⟨w.heap.size + 1, 1, none⟩ (.int .i64 av)).setCell ⟨w.heap.size + 1, 2, none⟩ (.int .i64 al)).setCell ⟨w.heap.size + 1, 3, none⟩ (.int .i64 4)) = X5 := ⟨_, rfl⟩
      have hs_ := kp4 hX5
      obtain ⟨o5_0, o5_1, o5_2, o5_3⟩ := cel4 Hr
      obtain ⟨r5_0, r5_1, r5_2, r5_3⟩ := fro4 Hr
      replace Hr := put4_4 Hr hX5
      clear Hp
      replace HBW := bw2 HBW hs_ (by omega)
      clear hs_
      obtain ⟨q0, q1, q2, q3⟩ := cel4 Hr
      go_wp2_with (exact bodyPost_ret (v := rp9 ⟨i, ⟨av, al⟩, 4⟩) (by simp [results, Tryz.results88, go_sem, q0, q1, q2, q3, rp9]) rfl ⟨by rw [HRS.out]; try rfl, HBW.out⟩)
  · have hz1 : ((e : Int) != 0) = true := by rw [bne_iff_ne]; omega
    have hrs : res = ⟨i, ⟨av, al⟩, e⟩ := by rw [← HRES.out, if_neg he]
    have HRS := Lib.hid hrs
    clear hrs he
    obtain ⟨u1_0, u1_1, u1_2, u1_3⟩ := cel4 Hp
    go_enter Tryz.func88, Tryz.ntmps88
    obtain ⟨X2, hX2⟩ : ∃ X2, ((((W0.setCell ⟨w.heap.size + 1, 0, none⟩ (.int .i64 (i : Int))).setCell ⟨w.heap.size + 1, 1, none⟩ (.int .i64 av)).setCell ⟨w.heap.size + 1, 2, none⟩ (.int .i64 al)).setCell ⟨w.heap.size + 1, 3, none⟩ (.int .i64 (e : Int))) = X2 := ⟨_, rfl⟩
    have hs_ := kp4 hX2
    obtain ⟨o2_0, o2_1, o2_2, o2_3⟩ := cel4 Hr
    obtain ⟨r2_0, r2_1, r2_2, r2_3⟩ := fro4 Hr
    replace Hr := put4_4 Hr hX2
    clear Hp
    replace HBW := bw2 HBW hs_ (by omega)
    clear hs_
    obtain ⟨q0, q1, q2, q3⟩ := cel4 Hr
    go_wp2_with (exact bodyPost_ret (v := rp9 ⟨i, ⟨av, al⟩, e⟩) (by simp [results, Tryz.results88, go_sem, q0, q1, q2, q3, rp9]) rfl ⟨by rw [HRS.out], HBW.out⟩)
set_option maxHeartbeats 8000000 in
theorem rAtom_any {v : Value} {names : List ByteArray} {up : List Nat} {A : Option Addr} {l : List Lx.Tk} (c : Nat) (p : St.Rp) (w : World) (hla : IsLat w w.heap.size v names up) (h : Row w w.heap.size A (tcells l)) (hf : Tb.Fine l) (hp : p.i < l.length) (hl : l.length ≤ 100000) :
    Calls Tryz.prog 89 #[v, .slice A l.length c, rp9 p] w (Told9 w (St.atomR names l p)) := by
  obtain ⟨⟨N, U, c1, c2, rfl, hN, hU⟩, hsh, hfew, hcaps⟩ := id hla
  obtain ⟨res, hres⟩ : ∃ res, St.atomR names l p = res := ⟨_, rfl⟩
  rw [hres]
  unfold St.atomR St.labR at hres
  have hint := fun W (hb : Below w.heap.size w W) => rInt_any c ⟨p.i, 0, ⟨0, 0, 0⟩, p.e⟩ W ((h.below hb).more hb.size) hf hp hl
  have hqi := intR_i hf hp
  unfold St.intR at hres hqi
  generalize rInt l ⟨p.i, 0, ⟨0, 0, 0⟩, p.e⟩ = q at *
  have hlab := fun W (hb : Below w.heap.size w W) => rLab_any c q W ((hla.below hb).more hb.size) ((h.below hb).more hb.size) hf hqi hl
  generalize rLab names l q = r at *
  obtain ⟨i, ⟨av, al⟩, e⟩ := p
  obtain ⟨qi, qn, ⟨qo, qxn, qxl⟩, qe⟩ := q
  obtain ⟨ri, rn, ⟨ro, rxn, rxl⟩, re⟩ := r
  unfold TellsP rpv at hint hlab
  unfold rp9
  dsimp only at hres hint hlab ⊢
  obtain ⟨ln, hln⟩ : ∃ ln, l.length = ln := ⟨_, rfl⟩
  rw [hln] at hint hlab ⊢
  have HRES := Lib.hid hres
  have HIN := Lib.hid hint
  have HLB := Lib.hid hlab
  obtain ⟨W0, hW0⟩ : ∃ W0, ((w.alloc (.cells #[.slice N names.length c1, .slice U up.length c2] 25)).alloc (.cells #[.int .i64 (i : Int), .int .i64 av, .int .i64 al, .int .i64 (e : Int)] 130)).alloc (.cells #[.int .i64 0, .int .i64 0, .int .i64 0, .int .i64 0] 130) = W0 := ⟨_, rfl⟩
  have hl0 : Blk W0 (w.heap.size) 25 #[.slice N names.length c1, .slice U up.length c2] := hW0 ▸ ((Blk.new _ _ _).alloc _).alloc _
  have hp0 : Blk W0 (w.heap.size + 1) 130 #[.int .i64 (i : Int), .int .i64 av, .int .i64 al, .int .i64 (e : Int)] := by
    have h1 := Blk.new (w.alloc (.cells #[.slice N names.length c1, .slice U up.length c2] 25)) 130 #[.int .i64 (i : Int), .int .i64 av, .int .i64 al, .int .i64 (e : Int)]
    simp only [World.size_alloc] at h1
    rw [← hW0]; exact h1.alloc _
  have hr0 : Blk W0 (w.heap.size + 1 + 1) 130 #[.int .i64 0, .int .i64 0, .int .i64 0, .int .i64 0] := by
    have h1 := Blk.new ((w.alloc (.cells #[.slice N names.length c1, .slice U up.length c2] 25)).alloc (.cells #[.int .i64 (i : Int), .int .i64 av, .int .i64 al, .int .i64 (e : Int)] 130)) 130 #[.int .i64 0, .int .i64 0, .int .i64 0, .int .i64 0]
    simp only [World.size_alloc] at h1
    rw [← hW0]; exact h1
  have HBW := Lib.hid (hW0 ▸ three_new w _ _ _ : Below w.heap.size w W0)
  have Hl := Lib.hid hl0
  have Hp := Lib.hid hp0
  have Hr := Lib.hid hr0
  clear hres hint hlab h hla hf hp hl hln hqi hl0 hp0 hr0 hN hU hsh hfew hcaps
  obtain ⟨u1_0, u1_1, u1_2, u1_3⟩ := cel4 Hp
  go_enter Tryz.func89, Tryz.ntmps89
  go_wp2_with (fail)
  refine (HIN.out W0 HBW.out).mono ?_
  rintro e' w1 ⟨rfl, hb⟩
  replace Hl := bk1 Hl hb
  replace Hp := bk1 Hp hb
  replace Hr := bk1 Hr hb
  replace HBW := bw1 HBW hb
  clear hb
  clear u1_0 u1_1 u1_2 u1_3
  dsimp only
  obtain ⟨X2, hX2⟩ : ∃ X2, w1.alloc (.cells #[.int .i64 (qi : Int), .int .i64 qn, .int .i64 qo, .int .i64 qxn, .int .i64 qxl, .int .i64 (qe : Int)] 169) = X2 := ⟨_, rfl⟩
  have hal := alw hX2
  have hz2_l := Hl.out.lt
  have hz2_p := Hp.out.lt
  have hz2_r := Hr.out.lt
  have hzb2 := HBW.out.size
  replace Hl := bk1 Hl hal
  replace Hp := bk1 Hp hal
  replace Hr := bk1 Hr hal
  replace HBW := bw1 HBW hal
  have Hq := bka hX2
  clear hal
  obtain ⟨u3_0, u3_1⟩ := cel2 Hl
  obtain ⟨u4_0, u4_1, u4_2, u4_3, u4_4, u4_5⟩ := cel6 Hq
  go_wp2_with (fail)
  refine (HLB.out X2 HBW.out).mono ?_
  rintro e' w2 ⟨rfl, hb⟩
  replace Hl := bk1 Hl hb
  replace Hp := bk1 Hp hb
  replace Hr := bk1 Hr hb
  replace Hq := bk1 Hq hb
  replace HBW := bw1 HBW hb
  clear hb
  clear u3_0 u3_1 u4_0 u4_1 u4_2 u4_3 u4_4 u4_5
  dsimp only
  obtain ⟨X5, hX5⟩ : ∃ X5, ((((((w2.setCell ⟨w1.heap.size, 0, none⟩ (.int .i64 (ri : Int))).setCell ⟨w1.heap.size, 1, none⟩ (.int .i64 rn)).setCell ⟨w1.heap.size, 2, none⟩ (.int .i64 ro)).setCell ⟨w1.heap.size, 3, none⟩ (.int .i64 rxn)).setCell ⟨w1.heap.size, 4, none⟩ (.int .i64 rxl)).setCell ⟨w1.heap.size, 5, none⟩ (.int .i64 (re : Int))) = X5 := ⟨_, rfl⟩
  have hs_ := kp6 hX5
  obtain ⟨o5_0, o5_1, o5_2, o5_3, o5_4, o5_5⟩ := cel6 Hq
  obtain ⟨r5_0, r5_1, r5_2, r5_3, r5_4, r5_5⟩ := fro6 Hq
  replace Hq := put6_6 Hq hX5
  replace Hl := bk2 Hl hs_ (by omega)
  replace Hp := bk2 Hp hs_ (by omega)
  replace Hr := bk2 Hr hs_ (by omega)
  replace HBW := bw2 HBW hs_ (by omega)
  clear hs_
  obtain ⟨u6_0, u6_1, u6_2, u6_3, u6_4, u6_5⟩ := cel6 Hq
  obtain ⟨X7, hX7⟩ : ∃ X7, ((((X5.setCell ⟨w.heap.size + 1 + 1, 0, none⟩ (.int .i64 (ri : Int))).setCell ⟨w.heap.size + 1 + 1, 1, none⟩ (.int .i64 qn)).setCell ⟨w.heap.size + 1 + 1, 2, none⟩ (.int .i64 rn)).setCell ⟨w.heap.size + 1 + 1, 3, none⟩ (.int .i64 (re : Int))) = X7 := ⟨_, rfl⟩
  have hs_ := kp4 hX7
  obtain ⟨o7_0, o7_1, o7_2, o7_3⟩ := cel4 Hr
  obtain ⟨r7_0, r7_1, r7_2, r7_3⟩ := fro4 Hr
  replace Hr := put4_4 Hr hX7
  clear Hl Hp Hq
  replace HBW := bw2 HBW hs_ (by omega)
  clear hs_
  obtain ⟨q0, q1, q2, q3⟩ := cel4 Hr
  go_wp2_with (exact bodyPost_ret (v := rp9 ⟨ri, ⟨qn, rn⟩, re⟩) (by simp [results, Tryz.results89, go_sem, q0, q1, q2, q3, rp9]) rfl ⟨by rw [← HRES.out]; try rfl, HBW.out⟩)
end Go.Proofs.YtipbilmnknmhmaaGreatDoor

/- Walks of state's atom, slot, pc, program (by gen_stmb.py). -/
namespace Go.Proofs.YtipbilmnknmhmaaGreatDoor
set_option maxRecDepth 100000
open Go.RowKit Go.Shelf Go.Sort
attribute [local go_sem] Oper.semAt_some
section
variable {R c1 c2 ct p q : Nat} {N U A : Option Addr} {names : List ByteArray} {up : List Nat} {l : List Lx.Tk} {w w' : World}
set_option maxHeartbeats 4000000 in
theorem satom_any (hf : Tb.Fine l) (hz : checkN names up = 0) (w : World) (h : NRd R N U A c1 c2 ct names up l p w) : Calls Tryz.prog 110 #[.pointer (some ⟨R, 0, none⟩)] w (STold atv R N U A c1 c2 ct names up l w (St.atomP names l p)) := by
  have hR := h.lt
  have hst := h.keep ((Below.refl _ w).alloc (Nat.le_refl _) (.cells #[.int .i64 0, .int .i64 0] 38))
  have hlc := RLoc.start w R 38 #[.int .i64 0, .int .i64 0]
  have HNUM := Lib.hid (nnum_any hf _ hst)
  have HLAB := Lib.hid (fun q W (h : NRd R N U A c1 c2 ct names up l q W) => nlabel_any hf hz W h)
  have HLC := Lib.hid hlc
  unfold St.atomP
  obtain ⟨⟨v, q, er⟩, hint⟩ : ∃ r, Cd.intP l p = r := ⟨_, rfl⟩
  rw [hint] at HNUM ⊢
  clear h hst hlc hint
  by_cases her : er = 0
  · subst her
    rw [St.andP_do]
    obtain ⟨⟨a, q2, er2⟩, hlab⟩ : ∃ r, Cd.labP names l q = r := ⟨_, rfl⟩
    have HLB := Lib.hid (fun W (h : NRd R N U A c1 c2 ct names up l q W) => HLAB.out q W h)
    rw [hlab] at HLB ⊢
    clear hlab HLAB
    obtain ⟨res, hres⟩ : ∃ res, St.andP (a, q2, er2) (⟨0, 0⟩ : St.Atom) (fun a j => (⟨v, a⟩, j, 0)) = res := ⟨_, rfl⟩
    have HR1 := Lib.hid (show res.2.1 = q2 ∧ res.2.2 = er2 ∧ (er2 = 0 → (⟨v, a⟩ : St.Atom) = res.1) by
      rw [← hres]
      unfold St.andP
      by_cases h0 : er2 = 0
      · rw [if_pos h0]; exact ⟨rfl, h0.symm, fun _ => rfl⟩
      · rw [if_neg h0]; exact ⟨rfl, rfl, fun h => absurd h h0⟩)
    rw [hres]
    clear hres
    go_enter Tryz.func110, Tryz.ntmps110
    go_wp2_with (fail)
    refine HNUM.out.mono ?_
    rintro e w1 ⟨rfl, h1, hk1⟩
    have hc := HLB.out w1 h1
    have HC := Lib.hid hc
    have HL1 := Lib.hid (HLC.out.keep hR hk1)
    clear h1 hk1 hc HNUM HLB HLC
    go_wp2_with (fail)
    refine HC.out.mono ?_
    rintro e w2 ⟨rfl, hn, hk2⟩
    have hl := HL1.out.keep hR hk2
    have f0 := hl.res.frozen 0
    have f1 := hl.res.frozen 1
    have r0 := hl.res.cell 0
    have r1 := hl.res.cell 1
    have hl2 := (hl.set_ 0 (.int .i64 v)).set_ 1 (.int .i64 a)
    have hn2 := (hn.setX (x := ⟨w.heap.size, 0, none⟩) hR (.int .i64 v)).setX (x := ⟨w.heap.size, 1, none⟩) hR (.int .i64 a)
    have v0 := hl2.res.cell 0
    have v1 := hl2.res.cell 1
    have HL2 := Lib.hid hl2
    have HN2 := Lib.hid hn2
    clear hl hn hl2 hn2
    clear hk2
    go_wp2
    refine bodyPost_ret (v := .tuple #[atv ⟨v, a⟩, .int .i64 (er2 : Nat)]) (by simp [results, Tryz.results110, go_sem, v0, v1, atv]) rfl ⟨⟨v, a⟩, by rw [HR1.out.2.1], fun h => HR1.out.2.2 (by rw [← HR1.out.2.1]; exact h), by rw [HR1.out.1]; exact HN2.out, HL2.out.kept⟩
  · rw [St.andP_no her]
    have hz1 : ((er : Int) != 0) = true := by rw [bne_iff_ne]; omega
    have HER := Lib.hid her
    clear her HLAB
    go_enter Tryz.func110, Tryz.ntmps110
    go_wp2_with (fail)
    refine HNUM.out.mono ?_
    rintro e w1 ⟨rfl, hn, hk1⟩
    have hl := HLC.out.keep hR hk1
    have f0 := hl.res.frozen 0
    have f1 := hl.res.frozen 1
    have r0 := hl.res.cell 0
    have r1 := hl.res.cell 1
    have hl2 := (hl.set_ 0 (.int .i64 0)).set_ 1 (.int .i64 0)
    have hn2 := (hn.setX (x := ⟨w.heap.size, 0, none⟩) hR (.int .i64 0)).setX (x := ⟨w.heap.size, 1, none⟩) hR (.int .i64 0)
    have v0 := hl2.res.cell 0
    have v1 := hl2.res.cell 1
    have HL2 := Lib.hid hl2
    have HN2 := Lib.hid hn2
    clear hl hn hl2 hn2
    clear hk1
    go_wp2
    refine bodyPost_ret (v := .tuple #[atv ⟨0, 0⟩, .int .i64 (er : Nat)]) (by simp [results, Tryz.results110, go_sem, v0, v1, atv]) rfl ⟨⟨0, 0⟩, rfl, fun h => absurd h HER.out, HN2.out, HL2.out.kept⟩
theorem isK_word (l : List Lx.Tk) (t : ByteArray) (i : Nat) : isK l 1 t i = St.isW l t i := rfl
theorem retP_yes (l : List Lx.Tk) (i : Nat) : St.retP true l i = St.isW l St.bRet i := rfl
set_option maxHeartbeats 4000000 in
theorem sslot_any (hf : Tb.Fine l) (hz : checkN names up = 0) (w : World) (h : NRd R N U A c1 c2 ct names up l p w) : Calls Tryz.prog 112 #[.pointer (some ⟨R, 0, none⟩)] w (STold slv R N U A c1 c2 ct names up l w (St.slotP names true l p)) := by
  have hR := h.lt
  have hst := h.keep ((Below.refl _ w).alloc (Nat.le_refl _) (.cells #[.bool false, .int .i64 0, .int .i64 0] 73))
  have hlc := RLoc.start w R 73 #[.bool false, .int .i64 0, .int .i64 0]
  have hw := ntword_any hf St.bRet _ hst
  rw [isK_word, ← retP_yes] at hw
  have HAT := Lib.hid (fun q W (h : NRd R N U A c1 c2 ct names up l q W) => satom_any hf hz W h)
  have HLC := Lib.hid hlc
  unfold St.slotP
  unfold NTook nxt at hw
  generalize St.retP true l p = b at *
  generalize (if b = true then p + 1 else p) = j at *
  obtain ⟨⟨⟨v, a⟩, q, er⟩, hat⟩ : ∃ r, St.atomP names l j = r := ⟨_, rfl⟩
  have HA := Lib.hid (fun W (h : NRd R N U A c1 c2 ct names up l j W) => HAT.out j W h)
  rw [hat] at HA ⊢
  obtain ⟨res, hres⟩ : ∃ res, St.andP ((⟨v, a⟩ : St.Atom), q, er) (⟨false, 0, 0⟩ : St.Slot) (fun a j => (⟨b, a.v, a.l⟩, j, 0)) = res := ⟨_, rfl⟩
  have HR1 := Lib.hid (show res.2.1 = q ∧ res.2.2 = er ∧ (er = 0 → (⟨b, v, a⟩ : St.Slot) = res.1) by
    rw [← hres]
    unfold St.andP
    by_cases h0 : er = 0
    · rw [if_pos h0]; exact ⟨rfl, h0.symm, fun _ => rfl⟩
    · rw [if_neg h0]; exact ⟨rfl, rfl, fun h => absurd h h0⟩)
  rw [hres]
  have HW := Lib.hid hw
  clear h hst hlc hw hat HAT hres
  go_enter Tryz.func112, Tryz.ntmps112
  go_wp2_with (fail)
  refine HW.out.mono ?_
  rintro e w1 ⟨rfl, h1, hk1⟩
  have HC := Lib.hid (HA.out w1 h1)
  have HL1 := Lib.hid (HLC.out.keep hR hk1)
  clear h1 hk1 HW HA HLC
  go_wp2_with (fail)
  refine HC.out.mono ?_
  rintro e w2 ⟨⟨x, y⟩, rfl, hx, hn0, hk2⟩
  have HX : Hid (er = 0 → (⟨x, y⟩ : St.Atom) = ⟨v, a⟩) := Lib.hid hx
  have hal := (Below.refl _ w2).alloc (Nat.le_refl _) (.cells #[.int .i64 x, .int .i64 y] 38)
  have hl := (HL1.out.keep hR hk2).below hal
  have hn := hn0.keep hal
  have hbx := Blk.new w2 38 #[.int .i64 x, .int .i64 y]
  obtain ⟨W3, hW3⟩ : ∃ W3, w2.alloc (.cells #[.int .i64 x, .int .i64 y] 38) = W3 := ⟨_, rfl⟩
  rw [hW3] at hl hn hbx
  have x0 : W3.cell? ⟨w2.heap.size, 0, none⟩ = some (.int .i64 x) := hbx.cell 0
  have x1 : W3.cell? ⟨w2.heap.size, 1, none⟩ = some (.int .i64 y) := hbx.cell 1
  have f0 := hl.res.frozen 0
  have f1 := hl.res.frozen 1
  have f2 := hl.res.frozen 2
  have r0 := hl.res.cell 0
  have r1 := hl.res.cell 1
  have r2 := hl.res.cell 2
  have hl2 := ((hl.set_ 0 (.bool b)).set_ 1 (.int .i64 x)).set_ 2 (.int .i64 y)
  have hn2 := ((hn.setX (x := ⟨w.heap.size, 0, none⟩) hR (.bool b)).setX (x := ⟨w.heap.size, 1, none⟩) hR (.int .i64 x)).setX (x := ⟨w.heap.size, 2, none⟩) hR (.int .i64 y)
  have v0 := hl2.res.cell 0
  have v1 := hl2.res.cell 1
  have v2 := hl2.res.cell 2
  have HL2 := Lib.hid hl2
  have HN2 := Lib.hid hn2
  clear hl hn hl2 hn2
  clear hk2 hal hn0 hx hbx HL1 HC
  unfold atv
  go_wp2
  refine bodyPost_ret (v := .tuple #[slv ⟨b, x, y⟩, .int .i64 (er : Nat)]) (by simp [results, Tryz.results112, go_sem, v0, v1, v2, slv]) rfl ⟨⟨b, x, y⟩, by rw [HR1.out.2.1], fun h => ?_, by rw [HR1.out.1]; exact HN2.out, HL2.out.kept⟩
  have h0 : er = 0 := by rw [← HR1.out.2.1]; exact h
  have := HX.out h0
  injection this with e1 e2
  rw [← HR1.out.2.2 h0, e1, e2]
/-- pc, the word, the atom and the mark. -/
def pcP (names : List ByteArray) (l : List Lx.Tk) (i : Nat) : St.Atom × Nat × Nat :=
  St.andP (St.wordE l St.bPc i) ⟨0, 0⟩ fun _ j => St.andP (St.atomP names l j) ⟨0, 0⟩ fun pc j => St.andP (St.markE l Cd.bSemi j) ⟨0, 0⟩ fun _ j => (pc, j, 0)
theorem wordE_nxt (l : List Lx.Tk) (t : ByteArray) (i : Nat) : St.wordE l t i = ((), nxt (isK l 1 t i) i, errB (isK l 1 t i)) := by
  unfold St.wordE nxt errB
  rw [isK_word]
  cases St.isW l t i <;> rfl
theorem markE_nxt (l : List Lx.Tk) (t : ByteArray) (i : Nat) : St.markE l t i = ((), nxt (isK l 3 t i) i, errB (isK l 3 t i)) := by
  unfold St.markE nxt errB
  rw [isK_mark]
  cases Cd.isM l t i <;> rfl
set_option maxHeartbeats 8000000 in
theorem spc_any (hf : Tb.Fine l) (hz : checkN names up = 0) (w : World) (h : NRd R N U A c1 c2 ct names up l p w) : Calls Tryz.prog 107 #[.pointer (some ⟨R, 0, none⟩)] w (STold atv R N U A c1 c2 ct names up l w (pcP names l p)) := by
  have hR := h.lt
  have hst := h.keep ((Below.refl _ w).alloc (Nat.le_refl _) (.cells #[.int .i64 0, .int .i64 0] 38))
  have hlc := RLoc.start w R 38 #[.int .i64 0, .int .i64 0]
  have hw := nword_any hf St.bPc _ hst
  have HAT := Lib.hid (fun q W (h : NRd R N U A c1 c2 ct names up l q W) => satom_any hf hz W h)
  have HMK := Lib.hid (fun q W (h : NRd R N U A c1 c2 ct names up l q W) => nmark_any hf Cd.bSemi W h)
  have HLC := Lib.hid hlc
  unfold pcP
  rw [wordE_nxt]
  clear h hst hlc
  generalize isK l 1 St.bPc p = b at *
  have HW := Lib.hid hw
  clear hw
  cases b with
  | false =>
    rw [St.andP_no (show (4 : Nat) ≠ 0 by decide)]
    clear HAT HMK
    go_enter Tryz.func107, Tryz.ntmps107
    go_wp2_with (fail)
    refine HW.out.mono ?_
    rintro e w1 ⟨rfl, hn, hk1⟩
    have hl := HLC.out.keep hR hk1
    have f0 := hl.res.frozen 0
    have f1 := hl.res.frozen 1
    have r0 := hl.res.cell 0
    have r1 := hl.res.cell 1
    have hl2 := (hl.set_ 0 (.int .i64 0)).set_ 1 (.int .i64 0)
    have hn2 := (hn.setX (x := ⟨w.heap.size, 0, none⟩) hR (.int .i64 0)).setX (x := ⟨w.heap.size, 1, none⟩) hR (.int .i64 0)
    have v0 := hl2.res.cell 0
    have v1 := hl2.res.cell 1
    have HL2 := Lib.hid hl2
    have HN2 := Lib.hid hn2
    clear hl hn hl2 hn2
    clear hk1 HW HLC
    unfold errB
    dsimp only
    go_wp2
    refine bodyPost_ret (v := .tuple #[atv ⟨0, 0⟩, .int .i64 (4 : Nat)]) (by simp [results, Tryz.results107, go_sem, v0, v1, atv]) rfl ⟨⟨0, 0⟩, rfl, fun h => absurd h (show ¬ (4 : Nat) = 0 by decide), HN2.out, HL2.out.kept⟩
  | true =>
    rw [show (((), nxt true p, errB true) : Unit × Nat × Nat) = ((), p + 1, 0) from rfl, St.andP_do]
    obtain ⟨⟨⟨v, a⟩, q, er⟩, hat⟩ : ∃ r, St.atomP names l (p + 1) = r := ⟨_, rfl⟩
    have HA := Lib.hid (fun W (h : NRd R N U A c1 c2 ct names up l (p + 1) W) => HAT.out (p + 1) W h)
    rw [hat] at HA ⊢
    clear hat HAT
    by_cases her : er = 0
    · subst her
      rw [St.andP_do]
      rw [markE_nxt]
      have HM := Lib.hid (fun W (h : NRd R N U A c1 c2 ct names up l q W) => HMK.out q W h)
      clear HMK
      generalize isK l 3 Cd.bSemi q = b at *
      obtain ⟨res, hres⟩ : ∃ res, St.andP ((), nxt b q, errB b) (⟨0, 0⟩ : St.Atom) (fun _ j => ((⟨v, a⟩ : St.Atom), j, 0)) = res := ⟨_, rfl⟩
      have HR1 := Lib.hid (show res.2.1 = nxt b q ∧ res.2.2 = errB b ∧ (errB b = 0 → (⟨v, a⟩ : St.Atom) = res.1) by
        rw [← hres]
        unfold St.andP
        by_cases h0 : errB b = 0
        · rw [if_pos h0]; exact ⟨rfl, h0.symm, fun _ => rfl⟩
        · rw [if_neg h0]; exact ⟨rfl, rfl, fun h => absurd h h0⟩)
      rw [hres]
      clear hres
      go_enter Tryz.func107, Tryz.ntmps107
      go_wp2_with (fail)
      refine HW.out.mono ?_
      rintro e w1 ⟨rfl, h1, hk1⟩
      have HC := Lib.hid (HA.out w1 h1)
      have HL1 := Lib.hid (HLC.out.keep hR hk1)
      clear h1 hk1 HW HA HLC
      unfold errB
      rw [if_pos rfl]
      go_wp2_with (fail)
      refine HC.out.mono ?_
      rintro e w2 ⟨⟨x, y⟩, rfl, hx, hn0, hk2⟩
      obtain ⟨rfl, rfl⟩ : x = v ∧ y = a := by
        have := hx rfl
        injection this with e1 e2
        exact ⟨e1, e2⟩
      have hal := (Below.refl _ w2).alloc (Nat.le_refl _) (.cells #[.int .i64 x, .int .i64 y] 38)
      have hl := (HL1.out.keep hR hk2).below hal
      have hn := hn0.keep hal
      have hzz := HL1.out.kept.size
      have hz2 := hk2.size
      have hbx := Blk.new w2 38 #[.int .i64 x, .int .i64 y]
      obtain ⟨W3, hW3⟩ : ∃ W3, w2.alloc (.cells #[.int .i64 x, .int .i64 y] 38) = W3 := ⟨_, rfl⟩
      rw [hW3] at hl hn hbx
      have hlt := hl.res.lt
      have hltx := hbx.lt
      clear hk2 hal hn0 hx HL1 HC
      have hld := hl.drew
      have hnd := hn.drew
      have hls := (hld.set_ 0 (.int .i64 x)).set_ 1 (.int .i64 y)
      have hns := (hnd.setX (x := ⟨w.heap.size, 0, none⟩) hR (.int .i64 x)).setX (x := ⟨w.heap.size, 1, none⟩) hR (.int .i64 y)
      have x0 : W3.cell? ⟨w2.heap.size, 0, none⟩ = some (.int .i64 x) := hbx.cell 0
      have x1 : W3.cell? ⟨w2.heap.size, 1, none⟩ = some (.int .i64 y) := hbx.cell 1
      have f0 := hld.res.frozen 0
      have f1 := hld.res.frozen 1
      have r0 := hld.res.cell 0
      have r1 := hld.res.cell 1
      have HBX : Hid (∀ W4, Kept R R W3.drew W4 → Blk W4 w2.heap.size 38 #[.int .i64 x, .int .i64 y]) := Lib.hid fun W4 hk => (hk.block _ hltx (by have := hnd.lt; omega) (by have := hnd.lt; omega)).trans hbx
      have HLD := Lib.hid hld
      have HLS := Lib.hid hls
      have HND := Lib.hid hnd
      have HNS := Lib.hid hns
      clear hl hn hld hnd hls hns hbx
      unfold atv
      go_wp2
      go_region_with (go_at_call 134; refine (HM.out _ ?_).mono ?_; (first | exact HND.out | exact HNS.out); rintro e w4 ⟨rfl, hs2, hk4⟩; obtain ⟨u0, u1, hl4⟩ : ∃ u0 u1, RLoc R w w4 w.heap.size 38 #[u0, u1] := ⟨_, _, HLD.out.keep hR hk4⟩; have hbx4 := HBX.out _ hk4; have z0 := hbx4.cell 0; have z1 := hbx4.cell 1; have s0 := hl4.res.cell 0; have s1 := hl4.res.cell 1; have g0 := hl4.res.frozen 0; have g1 := hl4.res.frozen 1)
      all_goals go_wp2
      all_goals
        have hl5 := (hl4.set_ 0 (.int .i64 x)).set_ 1 (.int .i64 y)
        have hn5 := (hs2.setX (x := ⟨w.heap.size, 0, none⟩) hR (.int .i64 x)).setX (x := ⟨w.heap.size, 1, none⟩) hR (.int .i64 y)
        have v0 := hl5.res.cell 0
        have v1 := hl5.res.cell 1
        have HK5 := Lib.hid hl5.kept
        have HN5 := Lib.hid hn5
        clear hl5 hn5
        refine bodyPost_ret (v := .tuple #[atv ⟨x, y⟩, .int .i64 (errB b : Nat)]) (by simp [results, Tryz.results107, go_sem, v0, v1, atv]) rfl ⟨⟨x, y⟩, by rw [HR1.out.2.1], fun h => HR1.out.2.2 (by rw [← HR1.out.2.1]; exact h), by rw [HR1.out.1]; exact HN5.out, HK5.out⟩
    · rw [St.andP_no her]
      have hz1 : ((er : Int) != 0) = true := by rw [bne_iff_ne]; omega
      have HER := Lib.hid her
      clear her HMK
      go_enter Tryz.func107, Tryz.ntmps107
      go_wp2_with (fail)
      refine HW.out.mono ?_
      rintro e w1 ⟨rfl, h1, hk1⟩
      have HC := Lib.hid (HA.out w1 h1)
      have HL1 := Lib.hid (HLC.out.keep hR hk1)
      clear h1 hk1 HW HA HLC
      unfold errB
      rw [if_pos rfl]
      go_wp2_with (fail)
      refine HC.out.mono ?_
      rintro e w2 ⟨⟨x, y⟩, rfl, hx, hn0, hk2⟩
      have hal := (Below.refl _ w2).alloc (Nat.le_refl _) (.cells #[.int .i64 x, .int .i64 y] 38)
      have hl := (HL1.out.keep hR hk2).below hal
      have hn := hn0.keep hal
      have hbx := Blk.new w2 38 #[.int .i64 x, .int .i64 y]
      obtain ⟨W3, hW3⟩ : ∃ W3, w2.alloc (.cells #[.int .i64 x, .int .i64 y] 38) = W3 := ⟨_, rfl⟩
      rw [hW3] at hl hn hbx
      have x0 : W3.cell? ⟨w2.heap.size, 0, none⟩ = some (.int .i64 x) := hbx.cell 0
      have x1 : W3.cell? ⟨w2.heap.size, 1, none⟩ = some (.int .i64 y) := hbx.cell 1
      have f0 := hl.res.frozen 0
      have f1 := hl.res.frozen 1
      have r0 := hl.res.cell 0
      have r1 := hl.res.cell 1
      have hl2 := (hl.set_ 0 (.int .i64 x)).set_ 1 (.int .i64 y)
      have hn2 := (hn.setX (x := ⟨w.heap.size, 0, none⟩) hR (.int .i64 x)).setX (x := ⟨w.heap.size, 1, none⟩) hR (.int .i64 y)
      have v0 := hl2.res.cell 0
      have v1 := hl2.res.cell 1
      have HL2 := Lib.hid hl2
      have HN2 := Lib.hid hn2
      clear hl hn hl2 hn2
      clear hk2 hal hn0 hx hbx HL1 HC
      unfold atv
      go_wp2
      refine bodyPost_ret (v := .tuple #[atv ⟨x, y⟩, .int .i64 (er : Nat)]) (by simp [results, Tryz.results107, go_sem, v0, v1, atv]) rfl ⟨⟨x, y⟩, rfl, fun h => absurd h HER.out, HN2.out, HL2.out.kept⟩
end
end Go.Proofs.YtipbilmnknmhmaaGreatDoor

/- Walk of state's program. -/
namespace Go.Proofs.YtipbilmnknmhmaaGreatDoor
set_option maxRecDepth 100000
open Go.RowKit Go.Shelf Go.Sort
attribute [local go_sem] Oper.semAt_some
def progP (names : List ByteArray) (k : Nat) (l : List Lx.Tk) (i : Nat) : List Cd.In × Nat × Nat := St.andP (St.wordE l St.bCode i) [] fun _ j => Cd.fromP names k l 13 [] j
/-- What a row's reading answers. -/
def SRow9 {α : Type} (f : α → List Value) (R : Nat) (N U A : Option Addr) (c1 c2 ct : Nat) (names : List ByteArray) (up : List Nat) (l : List Lx.Tk) (w : World) (r : List α × Nat × Nat) (e : Ending) (w' : World) : Prop :=
  ∃ A' n' c', e = .returned (.tuple #[.slice A' n' c', .int .i64 (r.2.2 : Nat)]) ∧ (r.2.2 = 0 → KN f w.heap.size w' (.slice A' n' c') r.1) ∧ NRd R N U A c1 c2 ct names up l r.2.1 w' ∧ Kept R R w w'
section
variable {R c1 c2 ct p q : Nat} {N U A : Option Addr} {names : List ByteArray} {up : List Nat} {l : List Lx.Tk} {w w' : World}
set_option maxHeartbeats 8000000 in
theorem sprogram_any (hf : Tb.Fine l) (hz : checkN names up = 0) (w : World) (h : NRd R N U A c1 c2 ct names up l p w) (hi : Ins w) (hg : 0 < R) :
    Calls Tryz.prog 108 #[.pointer (some ⟨R, 0, none⟩)] w (SRow9 ivs R N U A c1 c2 ct names up l w (progP names up.length l p)) := by
  have hw := nword_any hf St.bCode w h
  have hmany := h.old.many
  have hR0 := h.lt
  unfold progP
  rw [wordE_nxt]
  cases hb : isK l 1 St.bCode p with
  | false =>
    rw [hb] at hw
    rw [St.andP_no (show (errB false) ≠ 0 by decide)]
    have HW := Lib.hid hw
    clear h hw hi hb
    go_enter Tryz.func108, Tryz.ntmps108
    go_wp2_with (fail)
    refine HW.out.mono ?_
    rintro e w1 ⟨rfl, hn, hk1⟩
    have HN := Lib.hid hn
    have HK := Lib.hid hk1
    clear hn hk1 HW
    unfold errB
    dsimp only
    go_wp2
    go_ret2
    exact ⟨_, _, _, rfl, fun h => absurd h (show ¬ (4 : Nat) = 0 by decide), HN.out, HK.out⟩
  | true =>
    have hp1 : p + 1 < l.length := by
      have := isK_next hf h.pos (show (1 : Int) ≠ 0 by decide) (t := St.bCode)
      rw [hb] at this
      exact this
    rw [hb] at hw
    rw [show (((), nxt true p, errB true) : Unit × Nat × Nat) = ((), p + 1, 0) from rfl, St.andP_do]
    obtain ⟨⟨o, q, er⟩, hfr⟩ : ∃ r, Cd.fromP names up.length l 13 [] (p + 1) = r := ⟨_, rfl⟩
    have hq := Cd.fromP_lt hf names up.length 13 [] _ hp1
    rw [hfr] at hq ⊢
    dsimp only at hq
    have HFR := Lib.hid (fun W (h : NRd R N U A c1 c2 ct names up l (p + 1) W) (hi : Ins W) => cfrom_new ct hf hp1 hmany hz W (h.old.lat.more (Nat.le_of_lt h.lt)) (h.old.toks.more (Nat.le_of_lt h.lt)) hi)
    rw [hfr] at HFR
    have HW := Lib.hid hw
    have HI := Lib.hid hi
    have HQ := Lib.hid hq
    clear h hw hi hb hfr hq
    go_enter Tryz.func108, Tryz.ntmps108
    go_wp2_with (fail)
    refine HW.out.mono ?_
    rintro e w1 ⟨rfl, h1, hk1⟩
    unfold errB
    rw [if_pos rfl]
    have h1 : NRd R N U A c1 c2 ct names up l (p + 1) w1 := h1
    have c0 := h1.c0
    have c1' := h1.c1_
    have c2' := h1.c2_
    have c3 := h1.c3
    have hR := h1.lt
    have hc := HFR.out w1.drew h1.drew (HI.out.below ((hk1.belowR (Nat.le_of_lt hR0)).trans (Below.mono (B := w1.heap.size) ⟨rfl, rfl, rfl, Nat.le_refl _, fun _ _ => rfl⟩ (Nat.le_of_lt hR))) hg)
    have hk1s := Lib.hid hk1.size
    have HC := Lib.hid hc
    have H1 := Lib.hid h1
    have HK1 := Lib.hid hk1
    clear h1 hk1 HW HFR hc
    go_wp2_with (fail)
    refine Free.region_seq [12] [3, 7, 11] 12 (fun W' => W'.cell? ⟨R, 0, none⟩ = some (.slice N names.length c1) ∧ W'.cell? ⟨R, 1, none⟩ = some (.slice U up.length c2) ∧ W'.cell? ⟨R, 2, none⟩ = some (.slice A l.length ct) ∧ W'.cell? ⟨R, 3, none⟩ = some (.int .i64 ((p + 1 : Nat) : Int))) (by kernel_rfl) (by kernel_rfl) (by kernel_rfl) (by kernel_rfl) (⟨c0, c1', c2', c3⟩) (fun ops hops => ?_)
    clear hops
    iterate 12
      refine Free.Seq.quiet (v := ?_) (a' := ?_) rfl rfl (fun W' hW' => ?_) ?_ ?_
      rotate_left 2
      · first | obtain ⟨s0, s1, s2, s3⟩ := hW' rfl | skip
        go_simp
        try with_reducible rfl
      · simp only [Act.put, List.setIfInBounds_toArray, List.set_cons_zero, List.set_cons_succ]
        try with_reducible rfl
    refine Free.Seq.loud_ rfl (.inl rfl) (fun K hK => ?_)
    go_simp
    refine HC.out.mono ?_
    rintro e' w3 ⟨v, rfl, hv, hb3⟩
    obtain ⟨A9, c9, rfl, -⟩ := id hv
    have h3 := H1.out.drew.keep hb3
    have hk3 : Kept R R w w3 := HK1.out.trans ((Kept.of (Below.refl _ w1).drew).trans (.of hb3))
    have hkl : KN ivs w.heap.size w3 _ o := hv.less hk1s.out
    have hf3 := h3.blk.frozen 3
    have c3' := h3.c3
    have hR3 := h3.lt
    have hg4 := h3.go HQ.out
    have hk4 := (Kept.refl R R w3).set_ (p := ⟨R, 3, none⟩) (.inl rfl) (.int .i64 (q : Int))
    have HKL := Lib.hid (hkl.kept hR0 hk4)
    have HG := Lib.hid hg4
    have HK := Lib.hid (hk3.trans hk4)
    clear h3 hk3 hkl hg4 hk4 hb3 hv
    refine hK.out _ _ rfl (fun h => absurd h (by decide)) ?_
    clear hK K
    iterate 7
      refine Free.Seq.quiet (v := ?_) (a' := ?_) rfl rfl (fun W' hW' => ?_) ?_ ?_
      rotate_left 2
      · skip
        go_simp
        try with_reducible rfl
      · simp only [Act.put, List.setIfInBounds_toArray, List.set_cons_zero, List.set_cons_succ]
        try with_reducible rfl
    refine Free.Seq.nil_ ?_
    clear c0 c1' c2' c3
    go_wp2
    go_ret2
    exact ⟨_, _, _, rfl, fun _ => HKL.out, HG.out, HK.out⟩
end
end Go.Proofs.YtipbilmnknmhmaaGreatDoor

/- Walks of state's row, of atoms and of slots (by gen_stmd.py). -/
namespace Go.Proofs.YtipbilmnknmhmaaGreatDoor
set_option maxRecDepth 100000
open Go.RowKit Go.Shelf Go.Sort
attribute [local go_sem] Oper.semAt_some
/-! The rows, plain, from a loop's head. -/
def tailQ (names : List ByteArray) (l : List Lx.Tk) (most : Nat) (rets : Bool) (n : Nat) (out : List St.Slot) (j : Nat) : List St.Slot × Nat × Nat :=
  if Cd.isM l St.bComma j = true then St.rowP names l most rets n out (j + 1) else if Cd.isM l Cd.bSemi j = true then (out, j + 1, 0) else ([], j, 4)
def headQ (names : List ByteArray) (l : List Lx.Tk) (most : Nat) (rets : Bool) (out : List St.Slot) (p : Nat) : List St.Slot × Nat × Nat :=
  if out = [] then St.rowP names l most rets (most + 1) [] p else tailQ names l most rets (most + 1 - out.length) out p
theorem rowP_step {names : List ByteArray} {l : List Lx.Tk} {most : Nat} {rets : Bool} {out : List St.Slot} {p : Nat} (h : out.length < most) (h0 : (St.slotP names rets l p).2.2 = 0) :
    St.rowP names l most rets (most + 1 - out.length) out p = headQ names l most rets (out ++ [(St.slotP names rets l p).1]) (St.slotP names rets l p).2.1 := by
  rw [show most + 1 - out.length = (most - out.length) + 1 by omega]
  unfold St.rowP headQ
  rw [if_neg (by omega), if_neg (by simp), St.andP_yes h0, show most + 1 - (out ++ [(St.slotP names rets l p).1]).length = most - out.length by simp]
  rfl
theorem rowP_bad {names : List ByteArray} {l : List Lx.Tk} {most : Nat} {rets : Bool} {out : List St.Slot} {p : Nat} (h : out.length < most) (h0 : (St.slotP names rets l p).2.2 ≠ 0) :
    St.rowP names l most rets (most + 1 - out.length) out p = ([], (St.slotP names rets l p).2.1, (St.slotP names rets l p).2.2) := by
  rw [show most + 1 - out.length = (most - out.length) + 1 by omega]
  unfold St.rowP
  rw [if_neg (by omega), St.andP_no h0]
theorem rowP_many {names : List ByteArray} {l : List Lx.Tk} {most : Nat} {rets : Bool} {out : List St.Slot} {p : Nat} (h : out.length = most) : St.rowP names l most rets (most + 1 - out.length) out p = ([], p, 8) := by
  rw [show most + 1 - out.length = 0 + 1 by omega]
  unfold St.rowP
  rw [if_pos h]
theorem headQ_nil {names : List ByteArray} {l : List Lx.Tk} {most : Nat} {rets : Bool} {p : Nat} : headQ names l most rets [] p = St.rowP names l most rets (most + 1 - ([] : List St.Slot).length) [] p := by
  unfold headQ
  rw [if_pos rfl]
  rfl
theorem headQ_more {names : List ByteArray} {l : List Lx.Tk} {most : Nat} {rets : Bool} {out : List St.Slot} {p : Nat} (h : out ≠ []) (hc : Cd.isM l St.bComma p = true) : headQ names l most rets out p = St.rowP names l most rets (most + 1 - out.length) out (p + 1) := by
  unfold headQ tailQ
  rw [if_neg h, if_pos hc]
theorem headQ_end {names : List ByteArray} {l : List Lx.Tk} {most : Nat} {rets : Bool} {out : List St.Slot} {p : Nat} (h : out ≠ []) (hc : Cd.isM l St.bComma p = false) :
    headQ names l most rets out p = if Cd.isM l Cd.bSemi p = true then (out, p + 1, 0) else ([], p, 4) := by
  unfold headQ tailQ
  rw [if_neg h, hc, if_neg (by decide)]
theorem wordQ {names : List ByteArray} {l : List Lx.Tk} {word : ByteArray} {most : Nat} {rets : Bool} {i : Nat} : St.wordP names l word most rets i =
    if isK l 1 word i = true then (if Cd.isM l Cd.bSemi (i + 1) = true then ([], i + 1 + 1, 0) else headQ names l most rets [] (i + 1)) else ([], i, 4) := by
  unfold St.wordP
  rw [wordE_nxt]
  cases isK l 1 word i with
  | true => rw [show (((), nxt true i, errB true) : Unit × Nat × Nat) = ((), i + 1, 0) from rfl, St.andP_do, if_pos rfl, headQ_nil]; rfl
  | false => rw [St.andP_no (show errB false ≠ 0 by decide), if_neg (by decide)]; rfl
def lenV (v : Value) : Nat := match v with
  | .slice _ n _ => n
  | _ => 0
theorem Kept.more {R : Nat} {a w w' : World} (h : Kept R R a w) (hb : Below a.heap.size w w') : Kept R R a w' :=
  ⟨hb.os.trans h.os, hb.tape.trans h.tape, hb.output.trans h.output, Nat.le_trans h.size hb.size, fun k hk h1 h2 => (hb.block k hk).trans (h.block k hk h1 h2)⟩
theorem Tryz.infoAtom : (Tryz.prog.info? 38).map (fun i => (i.zero, i.size, i.bytes)) = some (some (.agg #[.int .i64 0, .int .i64 0]), 2, 16) := by kernel_rfl
theorem Tryz.infoSlot : (Tryz.prog.info? 73).map (fun i => (i.zero, i.size, i.bytes)) = some (some (.agg #[.bool false, .int .i64 0, .int .i64 0]), 3, 24) := by kernel_rfl
def aTs (x : St.Slot) : List Value := avs (St.toAtom x)
theorem aTs_map (l : List St.Slot) : fcells aTs l = fcells avs (l.map St.toAtom) := by
  unfold fcells
  rw [List.flatMap_map]
  rfl
theorem KN.atoms {B : Nat} {w : World} {v : Value} {l : List St.Slot} (h : KN aTs B w v l) : KN avs B w v (l.map St.toAtom) := by
  obtain ⟨A, c, e, hr, hc⟩ := h
  exact ⟨A, c, by rw [List.length_map]; exact e, by rw [← aTs_map]; exact hr, by rw [List.length_map]; exact hc⟩
section
variable {R c1 c2 ct p q : Nat} {N U A : Option Addr} {names : List ByteArray} {up : List Nat} {l : List Lx.Tk} {w w' : World}
theorem NRd.belowB (h : NRd R N U A c1 c2 ct names up l p w) {B : Nat} (hb : Below B w w') (hR : R < B) : NRd R N U A c1 c2 ct names up l p w' :=
  ⟨h.blk.below hb hR, h.old.below (hb.mono (Nat.le_of_lt hR)), h.pos⟩
/-- A row of the call's own while the tokens' reader goes on. -/
theorem ownR {W W' : World} {base sz n : Nat} {e : TypeId} {rv : Value} {xs : List Value} (h : W.ownsRow base e sz rv n xs) (hR : R < base) (hk : Kept R R W W') : W'.ownsRow base e sz rv n xs :=
  own_of h fun g hg => by
    have := h.lt g hg
    exact hk.block g this.2 (by omega) (by omega)
/-- An atom as a slot's value. -/
def aSv (x : St.Slot) : Value := .agg #[.int .i64 x.v, .int .i64 x.l]
theorem sone_atom (hf : Tb.Fine l) (hz : checkN names up = 0) (w : World) (h : NRd R N U A c1 c2 ct names up l p w) : Calls Tryz.prog 110 #[.pointer (some ⟨R, 0, none⟩)] w (STold aSv R N U A c1 c2 ct names up l w (St.slotP names false l p)) := by
  refine (satom_any hf hz w h).mono ?_
  rintro e w' ⟨⟨v, a⟩, rfl, hx, hn, hk⟩
  have hsp : St.slotP names false l p = St.andP (St.atomP names l p) ⟨false, 0, 0⟩ fun a j => (⟨false, a.v, a.l⟩, j, 0) := rfl
  rw [hsp]
  by_cases h0 : (St.atomP names l p).2.2 = 0
  · rw [St.andP_yes h0]
    have := hx h0
    rw [h0]
    exact ⟨⟨false, v, a⟩, rfl, fun _ => by rw [← this], hn, hk⟩
  · rw [St.andP_no h0]
    exact ⟨⟨false, v, a⟩, rfl, fun h => absurd h h0, hn, hk⟩
set_option maxHeartbeats 16000000 in
theorem arow_any (hf : Tb.Fine l) (hz : checkN names up = 0) (word : ByteArray) (most : Nat) (hm0 : 0 < most) (hm1 : most ≤ 100) (w : World) (h : NRd R N U A c1 c2 ct names up l p w) :
    Calls Tryz.prog 109 #[.pointer (some ⟨R, 0, none⟩), .string word, .int .i64 (most : Int), .func (.func 110) #[] #[]] w (SRow9 aTs R N U A c1 c2 ct names up l w (St.wordP names l word most false p)) := by
  obtain ⟨i0, hi, hz0, hz1, hz2⟩ := info_parts Tryz.infoAtom
  have hcf := Tryz.call110
  have HW := Lib.hid (nword_any hf word w h)
  have HONE := Lib.hid (fun q W (h : NRd R N U A c1 c2 ct names up l q W) => sone_atom hf hz W h)
  have HTS := Lib.hid (fun q W (h : NRd R N U A c1 c2 ct names up l q W) => ntmark_any hf Cd.bSemi W h)
  have HTC := Lib.hid (fun q W (h : NRd R N U A c1 c2 ct names up l q W) => ntmark_any hf St.bComma W h)
  have HMK := Lib.hid (fun q W (h : NRd R N U A c1 c2 ct names up l q W) => nmark_any hf Cd.bSemi W h)
  have HRw := Lib.hid h.lt
  rw [wordQ]
  clear h
  cases hb : isK l 1 word p with
  | false =>
    rw [if_neg (by decide)]
    rw [hb] at HW
    clear hb HONE HTS HTC HMK
    go_enter Tryz.func109, Tryz.ntmps109
    go_wp2_with (fail)
    refine HW.out.mono ?_
    rintro e w1 ⟨rfl, h1, hk1⟩
    have HN1 := Lib.hid h1
    have HK1 := Lib.hid hk1
    clear h1 hk1 HW
    unfold errB
    dsimp only
    go_wp2
    go_ret2
    exact ⟨_, _, _, rfl, fun h => absurd h (show ¬ (4 : Nat) = 0 by decide), HN1.out, HK1.out⟩
  | true =>
    rw [if_pos rfl]
    rw [hb] at HW
    clear hb
    have HTS1 := Lib.hid (fun W h => HTS.out (p + 1) W h)
    rw [isK_mark] at HTS1
    cases hs : Cd.isM l Cd.bSemi (p + 1) with
    | true =>
      rw [if_pos rfl]
      rw [hs] at HTS1
      clear hs HONE HTS HTC HMK
      go_enter Tryz.func109, Tryz.ntmps109
      go_wp2_with (fail)
      refine HW.out.mono ?_
      rintro e w1 ⟨rfl, h1, hk1⟩
      have HC := Lib.hid (HTS1.out w1 h1)
      have HK1 := Lib.hid hk1
      clear h1 hk1 HW HTS1
      unfold errB
      rw [if_pos rfl]
      go_wp2_with (fail)
      refine HC.out.mono ?_
      rintro e w2 ⟨rfl, h2, hk2⟩
      have HN2 := Lib.hid h2
      have HK2 := Lib.hid (HK1.out.trans hk2)
      clear h2 hk2 HC
      go_wp2
      go_ret2
      exact ⟨_, _, _, rfl, fun _ => KN.nil _ _ _, HN2.out, HK2.out⟩
    | false =>
      rw [if_neg (by decide)]
      rw [hs] at HTS1
      obtain ⟨res, hres⟩ : ∃ res, headQ names l most false [] (p + 1) = res := ⟨_, rfl⟩
      rw [hres]
      have HRES := Lib.hid hres
      clear hs hres HTS
      go_enter Tryz.func109, Tryz.ntmps109
      go_wp2_with (fail)
      refine HW.out.mono ?_
      rintro e w1 ⟨rfl, h1, hk1⟩
      have HC := Lib.hid (HTS1.out w1 h1)
      have HK1 := Lib.hid hk1
      clear h1 hk1 HW HTS1
      unfold errB
      rw [if_pos rfl]
      go_wp2_with (fail)
      refine HC.out.mono ?_
      rintro e w2 ⟨rfl, h2, hk2⟩
      have HN2 : Hid (NRd R N U A c1 c2 ct names up l (p + 1) w2) := Lib.hid h2
      have HK2 := Lib.hid (HK1.out.trans hk2)
      clear h2 hk2 HC HK1
      go_wp2
      go_loopw [11] (fun v wr => ∃ (out : List St.Slot) (p : Nat), out.length ≤ most ∧ Hid (wr.ownsRow w.heap.size 38 2 v out.length (fcells aTs out)) ∧ Hid (NRd R N U A c1 c2 ct names up l p wr) ∧ Hid (Kept R R w wr) ∧ Hid (headQ names l most false out p = res)) (fun v _ => most - lenV v)
      case atStart => exact ⟨[], p + 1, Nat.zero_le _, Lib.hid (World.ownsRow_nil _ _ _ _), HN2, HK2, HRES⟩
      case round =>
        clear HN2 HK2 HRES
        obtain ⟨out, p, hle, HOWN, HN, HK, HH0⟩ := hrel
        obtain ⟨A1, cap, hrv⟩ := ownT_slice HOWN.out
        subst hrv
        by_cases hnil : out = []
        · have hl0 : ((out.length : Int) == 0) = true := by rw [hnil]; rfl
          have HQ : Hid (St.rowP names l most false (most + 1 - out.length) out p = res) := Lib.hid (by rw [← HH0.out, hnil, headQ_nil])
          have HL0 := Lib.hid (show out.length = 0 by rw [hnil]; rfl)
          have HN1 := HN
          have HK1 := HK
          have HOWN1 := HOWN
          clear hnil HN HK HOWN HH0 HTC HMK
          by_cases hm : out.length = most
          · exact absurd hm (by have := HL0.out; omega)
          · have hme : ((out.length : Int) == (most : Int)) = false := by rw [beq_eq_false_iff_ne]; omega
            have hs := rowP_step (names := names) (l := l) (rets := false) (p := p) (show out.length < most by omega)
            have hbd := rowP_bad (names := names) (l := l) (rets := false) (p := p) (show out.length < most by omega)
            have hcall := HONE.out (p) wr HN1.out
            obtain ⟨⟨⟨sr, sv, sl⟩, q, er⟩, hsl⟩ : ∃ r, St.slotP names false l (p) = r := ⟨_, rfl⟩
            rw [hsl] at hcall hs hbd
            dsimp only at hs hbd
            have HS : Hid (er = 0 → headQ names l most false (out ++ [⟨sr, sv, sl⟩]) q = res) := Lib.hid fun h => by rw [← HQ.out, hs h]
            have HBD : Hid (er ≠ 0 → ([], q, er) = res) := Lib.hid fun h => by rw [← HQ.out, hbd h]
            have HC := Lib.hid hcall
            clear hcall hs hbd hsl HQ
            go_wp2_with (fail)
            refine HC.out.mono ?_
            rintro e w3 ⟨⟨xr, xv, xl⟩, rfl, hx, hn3, hk3⟩
            have hal := (Below.refl _ w3).alloc (Nat.le_refl _) (.cells #[.int .i64 xv, .int .i64 xl] 38)
            have hown4 := ownR HOWN1.out HRw.out (hk3.trans (.of hal))
            have hbx := Blk.new w3 38 #[.int .i64 xv, .int .i64 xl]
            have hn4 := hn3.keep hal
            have hk4 := HK1.out.trans (hk3.trans (.of hal))
            obtain ⟨W4, hW4⟩ : ∃ W4, w3.alloc (.cells #[.int .i64 xv, .int .i64 xl] 38) = W4 := ⟨_, rfl⟩
            rw [hW4] at hown4 hbx hn4 hk4
            have HN4 := Lib.hid hn4
            have HK4 := Lib.hid hk4
            have x0 := hbx.cell 0
            have x1 := hbx.cell 1
            skip
            have hbl := hbx.lt
            have hsz4 := hk4.size
            clear hn3 hk3 hal hn4 hk4 hbx HN1 HK1 HOWN1
            by_cases her : er = 0
            · have HX : Hid ((⟨xr, xv, xl⟩ : St.Slot) = ⟨sr, sv, sl⟩ ∨ sr = false ∧ sv = xv ∧ sl = xl) := Lib.hid (.inl (hx her))
              have HH := Lib.hid (HS.out her)
              subst her
              clear hx HS HBD
              have hown := hown4
              clear hown4
              unfold aSv
              go_wp2_with (at_builtin; refine wpList_append_own _ rfl _ _ 39 rfl w.heap.size 38 i0 (.agg #[.int .i64 0, .int .i64 0]) 2 16 Tryz.underlying39 hi hz0 hz1 hz2 rfl (by decide) _ _ _ rfl (hown.alloc _) ⟨W4.heap.size, 0, none⟩ 1 1 [.int .i64 xv, .int .i64 xl] rfl rfl ?c1 ?c2 ?c3 ?c4 ?c5 ?_)
              case c1 => exact cells_new _ _ _
              case c2 => simp [Value.oneCell']
              case c3 => unfold maxLen; omega
              case c4 => omega
              case c5 => simp; omega
              intro v' w' hown' hgrow _
              have hbg : Below w.heap.size W4 w' := ((Below.refl w.heap.size W4).alloc hsz4 _).grown hgrow (by simp; omega) (fun k he => (hown.lt k he).1)
              have HO9 : Hid (w'.ownsRow w.heap.size 38 2 v' (out ++ [(⟨sr, sv, sl⟩ : St.Slot)]).length (fcells aTs (out ++ [(⟨sr, sv, sl⟩ : St.Slot)]))) := Lib.hid (by
                rw [fcells_snoc, List.length_append]
                rcases HX.out with h | h
                · injection h with e1 e2 e3
                  subst e1 e2 e3
                  exact hown'
                · obtain ⟨e1, e2, e3⟩ := h
                  subst e1 e2 e3
                  exact hown')
              have HN9 := Lib.hid (HN4.out.belowB hbg HRw.out)
              have HK9 := Lib.hid (HK4.out.more hbg)
              obtain ⟨g', cap', rfl⟩ := ownsRow_succ hown'
              clear hown hown' hgrow hbg
              go_wp2
              go_roundw
              case rel => exact ⟨out ++ [(⟨sr, sv, sl⟩ : St.Slot)], q, by simp; omega, HO9, HN9, HK9, HH⟩
              case measure => simp [lenV]; omega
            · have hz1 : ((er : Int) != 0) = true := by rw [bne_iff_ne]; omega
              have HF := Lib.hid (HBD.out her)
              have HER := Lib.hid her
              clear hx HS HBD her hown4
              unfold aSv
              go_wp2
              go_ret2
              rw [← HF.out]
              exact ⟨_, _, _, rfl, fun h => absurd h HER.out, HN4.out, HK4.out⟩
        · have hl0 : ((out.length : Int) == 0) = false := by
            have := List.length_pos_iff.2 hnil
            rw [beq_eq_false_iff_ne]; omega
          have HCM := Lib.hid (HTC.out p wr HN.out)
          rw [isK_mark] at HCM
          cases hcm : Cd.isM l St.bComma p with
          | true =>
            rw [hcm] at HCM
            have HQ : Hid (St.rowP names l most false (most + 1 - out.length) out (p + 1) = res) := Lib.hid (by rw [← HH0.out, headQ_more hnil hcm])
            clear hcm hnil HH0 HTC HMK
            go_wp2_with (fail)
            refine HCM.out.mono ?_
            rintro e w2 ⟨rfl, h2, hk2⟩
            have HOWN1 := Lib.hid (ownR HOWN.out HRw.out hk2)
            have HN1 : Hid (NRd R N U A c1 c2 ct names up l (p + 1) w2) := Lib.hid h2
            have HK1 := Lib.hid (HK.out.trans hk2)
            clear h2 hk2 HCM HOWN HN HK
            by_cases hm : out.length = most
            · have HF := Lib.hid (show ([], p + 1, 8) = res by rw [← HQ.out, rowP_many hm])
              have hme : ((out.length : Int) == (most : Int)) = true := by rw [beq_iff_eq]; omega
              go_wp2
              go_ret2
              rw [← HF.out]
              exact ⟨_, _, _, rfl, fun h => absurd h (show ¬ (8 : Nat) = 0 by decide), HN1.out, HK1.out⟩
            · have hme : ((out.length : Int) == (most : Int)) = false := by rw [beq_eq_false_iff_ne]; omega
              have hs := rowP_step (names := names) (l := l) (rets := false) (p := p + 1) (show out.length < most by omega)
              have hbd := rowP_bad (names := names) (l := l) (rets := false) (p := p + 1) (show out.length < most by omega)
              have hcall := HONE.out (p + 1) w2 HN1.out
              obtain ⟨⟨⟨sr, sv, sl⟩, q, er⟩, hsl⟩ : ∃ r, St.slotP names false l (p + 1) = r := ⟨_, rfl⟩
              rw [hsl] at hcall hs hbd
              dsimp only at hs hbd
              have HS : Hid (er = 0 → headQ names l most false (out ++ [⟨sr, sv, sl⟩]) q = res) := Lib.hid fun h => by rw [← HQ.out, hs h]
              have HBD : Hid (er ≠ 0 → ([], q, er) = res) := Lib.hid fun h => by rw [← HQ.out, hbd h]
              have HC := Lib.hid hcall
              clear hcall hs hbd hsl HQ
              go_wp2_with (fail)
              refine HC.out.mono ?_
              rintro e w3 ⟨⟨xr, xv, xl⟩, rfl, hx, hn3, hk3⟩
              have hal := (Below.refl _ w3).alloc (Nat.le_refl _) (.cells #[.int .i64 xv, .int .i64 xl] 38)
              have hown4 := ownR HOWN1.out HRw.out (hk3.trans (.of hal))
              have hbx := Blk.new w3 38 #[.int .i64 xv, .int .i64 xl]
              have hn4 := hn3.keep hal
              have hk4 := HK1.out.trans (hk3.trans (.of hal))
              obtain ⟨W4, hW4⟩ : ∃ W4, w3.alloc (.cells #[.int .i64 xv, .int .i64 xl] 38) = W4 := ⟨_, rfl⟩
              rw [hW4] at hown4 hbx hn4 hk4
              have HN4 := Lib.hid hn4
              have HK4 := Lib.hid hk4
              have x0 := hbx.cell 0
              have x1 := hbx.cell 1
              skip
              have hbl := hbx.lt
              have hsz4 := hk4.size
              clear hn3 hk3 hal hn4 hk4 hbx HN1 HK1 HOWN1
              by_cases her : er = 0
              · have HX : Hid ((⟨xr, xv, xl⟩ : St.Slot) = ⟨sr, sv, sl⟩ ∨ sr = false ∧ sv = xv ∧ sl = xl) := Lib.hid (.inl (hx her))
                have HH := Lib.hid (HS.out her)
                subst her
                clear hx HS HBD
                have hown := hown4
                clear hown4
                unfold aSv
                go_wp2_with (at_builtin; refine wpList_append_own _ rfl _ _ 39 rfl w.heap.size 38 i0 (.agg #[.int .i64 0, .int .i64 0]) 2 16 Tryz.underlying39 hi hz0 hz1 hz2 rfl (by decide) _ _ _ rfl (hown.alloc _) ⟨W4.heap.size, 0, none⟩ 1 1 [.int .i64 xv, .int .i64 xl] rfl rfl ?c1 ?c2 ?c3 ?c4 ?c5 ?_)
                case c1 => exact cells_new _ _ _
                case c2 => simp [Value.oneCell']
                case c3 => unfold maxLen; omega
                case c4 => omega
                case c5 => simp; omega
                intro v' w' hown' hgrow _
                have hbg : Below w.heap.size W4 w' := ((Below.refl w.heap.size W4).alloc hsz4 _).grown hgrow (by simp; omega) (fun k he => (hown.lt k he).1)
                have HO9 : Hid (w'.ownsRow w.heap.size 38 2 v' (out ++ [(⟨sr, sv, sl⟩ : St.Slot)]).length (fcells aTs (out ++ [(⟨sr, sv, sl⟩ : St.Slot)]))) := Lib.hid (by
                  rw [fcells_snoc, List.length_append]
                  rcases HX.out with h | h
                  · injection h with e1 e2 e3
                    subst e1 e2 e3
                    exact hown'
                  · obtain ⟨e1, e2, e3⟩ := h
                    subst e1 e2 e3
                    exact hown')
                have HN9 := Lib.hid (HN4.out.belowB hbg HRw.out)
                have HK9 := Lib.hid (HK4.out.more hbg)
                obtain ⟨g', cap', rfl⟩ := ownsRow_succ hown'
                clear hown hown' hgrow hbg
                go_wp2
                go_roundw
                case rel => exact ⟨out ++ [(⟨sr, sv, sl⟩ : St.Slot)], q, by simp; omega, HO9, HN9, HK9, HH⟩
                case measure => simp [lenV]; omega
              · have hz1 : ((er : Int) != 0) = true := by rw [bne_iff_ne]; omega
                have HF := Lib.hid (HBD.out her)
                have HER := Lib.hid her
                clear hx HS HBD her hown4
                unfold aSv
                go_wp2
                go_ret2
                rw [← HF.out]
                exact ⟨_, _, _, rfl, fun h => absurd h HER.out, HN4.out, HK4.out⟩
          | false =>
            rw [hcm] at HCM
            have hend := headQ_end (names := names) (most := most) (rets := false) hnil hcm
            rw [HH0.out] at hend
            have HMM := Lib.hid (fun W h => HMK.out p W h)
            rw [isK_mark] at HMM
            clear hcm hnil HH0 HTC HMK HONE
            go_wp2_with (fail)
            refine HCM.out.mono ?_
            rintro e w2 ⟨rfl, h2, hk2⟩
            have HOWN1 := Lib.hid (ownR HOWN.out HRw.out hk2)
            have h2 : NRd R N U A c1 c2 ct names up l p w2 := h2
            have HM2 := Lib.hid (HMM.out w2 h2)
            have HK1 := Lib.hid (HK.out.trans hk2)
            clear h2 hk2 HCM HOWN HN HK HMM
            cases hsm : Cd.isM l Cd.bSemi p with
            | true =>
              rw [hsm] at HM2
              rw [hsm, if_pos rfl] at hend
              have HF := Lib.hid hend
              clear hsm hend
              go_wp2_with (fail)
              refine HM2.out.mono ?_
              rintro e w3 ⟨rfl, h3, hk3⟩
              have HO3 := Lib.hid (KN.own (ownR HOWN1.out HRw.out hk3))
              have HN3 := Lib.hid h3
              have HK3 := Lib.hid (HK1.out.trans hk3)
              clear h3 hk3 HM2 HOWN1 HK1
              unfold errB
              dsimp only
              go_wp2
              go_ret2
              rw [HF.out]
              exact ⟨_, _, _, rfl, fun _ => HO3.out, HN3.out, HK3.out⟩
            | false =>
              rw [hsm] at HM2
              rw [hsm, if_neg (by decide)] at hend
              have HF := Lib.hid hend
              clear hsm hend
              go_wp2_with (fail)
              refine HM2.out.mono ?_
              rintro e w3 ⟨rfl, h3, hk3⟩
              have HN3 := Lib.hid h3
              have HK3 := Lib.hid (HK1.out.trans hk3)
              clear h3 hk3 HM2 HOWN1 HK1
              unfold errB
              dsimp only
              go_wp2
              go_ret2
              rw [HF.out]
              exact ⟨_, _, _, rfl, fun h => absurd h (show ¬ (4 : Nat) = 0 by decide), HN3.out, HK3.out⟩
set_option maxHeartbeats 16000000 in
theorem srow_any (hf : Tb.Fine l) (hz : checkN names up = 0) (word : ByteArray) (most : Nat) (hm0 : 0 < most) (hm1 : most ≤ 100) (w : World) (h : NRd R N U A c1 c2 ct names up l p w) :
    Calls Tryz.prog 111 #[.pointer (some ⟨R, 0, none⟩), .string word, .int .i64 (most : Int), .func (.func 112) #[] #[]] w (SRow9 svs R N U A c1 c2 ct names up l w (St.wordP names l word most true p)) := by
  obtain ⟨i0, hi, hz0, hz1, hz2⟩ := info_parts Tryz.infoSlot
  have hcf := Tryz.call112
  have HW := Lib.hid (nword_any hf word w h)
  have HONE := Lib.hid (fun q W (h : NRd R N U A c1 c2 ct names up l q W) => sslot_any hf hz W h)
  have HTS := Lib.hid (fun q W (h : NRd R N U A c1 c2 ct names up l q W) => ntmark_any hf Cd.bSemi W h)
  have HTC := Lib.hid (fun q W (h : NRd R N U A c1 c2 ct names up l q W) => ntmark_any hf St.bComma W h)
  have HMK := Lib.hid (fun q W (h : NRd R N U A c1 c2 ct names up l q W) => nmark_any hf Cd.bSemi W h)
  have HRw := Lib.hid h.lt
  rw [wordQ]
  clear h
  cases hb : isK l 1 word p with
  | false =>
    rw [if_neg (by decide)]
    rw [hb] at HW
    clear hb HONE HTS HTC HMK
    go_enter Tryz.func111, Tryz.ntmps111
    go_wp2_with (fail)
    refine HW.out.mono ?_
    rintro e w1 ⟨rfl, h1, hk1⟩
    have HN1 := Lib.hid h1
    have HK1 := Lib.hid hk1
    clear h1 hk1 HW
    unfold errB
    dsimp only
    go_wp2
    go_ret2
    exact ⟨_, _, _, rfl, fun h => absurd h (show ¬ (4 : Nat) = 0 by decide), HN1.out, HK1.out⟩
  | true =>
    rw [if_pos rfl]
    rw [hb] at HW
    clear hb
    have HTS1 := Lib.hid (fun W h => HTS.out (p + 1) W h)
    rw [isK_mark] at HTS1
    cases hs : Cd.isM l Cd.bSemi (p + 1) with
    | true =>
      rw [if_pos rfl]
      rw [hs] at HTS1
      clear hs HONE HTS HTC HMK
      go_enter Tryz.func111, Tryz.ntmps111
      go_wp2_with (fail)
      refine HW.out.mono ?_
      rintro e w1 ⟨rfl, h1, hk1⟩
      have HC := Lib.hid (HTS1.out w1 h1)
      have HK1 := Lib.hid hk1
      clear h1 hk1 HW HTS1
      unfold errB
      rw [if_pos rfl]
      go_wp2_with (fail)
      refine HC.out.mono ?_
      rintro e w2 ⟨rfl, h2, hk2⟩
      have HN2 := Lib.hid h2
      have HK2 := Lib.hid (HK1.out.trans hk2)
      clear h2 hk2 HC
      go_wp2
      go_ret2
      exact ⟨_, _, _, rfl, fun _ => KN.nil _ _ _, HN2.out, HK2.out⟩
    | false =>
      rw [if_neg (by decide)]
      rw [hs] at HTS1
      obtain ⟨res, hres⟩ : ∃ res, headQ names l most true [] (p + 1) = res := ⟨_, rfl⟩
      rw [hres]
      have HRES := Lib.hid hres
      clear hs hres HTS
      go_enter Tryz.func111, Tryz.ntmps111
      go_wp2_with (fail)
      refine HW.out.mono ?_
      rintro e w1 ⟨rfl, h1, hk1⟩
      have HC := Lib.hid (HTS1.out w1 h1)
      have HK1 := Lib.hid hk1
      clear h1 hk1 HW HTS1
      unfold errB
      rw [if_pos rfl]
      go_wp2_with (fail)
      refine HC.out.mono ?_
      rintro e w2 ⟨rfl, h2, hk2⟩
      have HN2 : Hid (NRd R N U A c1 c2 ct names up l (p + 1) w2) := Lib.hid h2
      have HK2 := Lib.hid (HK1.out.trans hk2)
      clear h2 hk2 HC HK1
      go_wp2
      go_loopw [11] (fun v wr => ∃ (out : List St.Slot) (p : Nat), out.length ≤ most ∧ Hid (wr.ownsRow w.heap.size 73 3 v out.length (fcells svs out)) ∧ Hid (NRd R N U A c1 c2 ct names up l p wr) ∧ Hid (Kept R R w wr) ∧ Hid (headQ names l most true out p = res)) (fun v _ => most - lenV v)
      case atStart => exact ⟨[], p + 1, Nat.zero_le _, Lib.hid (World.ownsRow_nil _ _ _ _), HN2, HK2, HRES⟩
      case round =>
        clear HN2 HK2 HRES
        obtain ⟨out, p, hle, HOWN, HN, HK, HH0⟩ := hrel
        obtain ⟨A1, cap, hrv⟩ := ownT_slice HOWN.out
        subst hrv
        by_cases hnil : out = []
        · have hl0 : ((out.length : Int) == 0) = true := by rw [hnil]; rfl
          have HQ : Hid (St.rowP names l most true (most + 1 - out.length) out p = res) := Lib.hid (by rw [← HH0.out, hnil, headQ_nil])
          have HL0 := Lib.hid (show out.length = 0 by rw [hnil]; rfl)
          have HN1 := HN
          have HK1 := HK
          have HOWN1 := HOWN
          clear hnil HN HK HOWN HH0 HTC HMK
          by_cases hm : out.length = most
          · exact absurd hm (by have := HL0.out; omega)
          · have hme : ((out.length : Int) == (most : Int)) = false := by rw [beq_eq_false_iff_ne]; omega
            have hs := rowP_step (names := names) (l := l) (rets := true) (p := p) (show out.length < most by omega)
            have hbd := rowP_bad (names := names) (l := l) (rets := true) (p := p) (show out.length < most by omega)
            have hcall := HONE.out (p) wr HN1.out
            obtain ⟨⟨⟨sr, sv, sl⟩, q, er⟩, hsl⟩ : ∃ r, St.slotP names true l (p) = r := ⟨_, rfl⟩
            rw [hsl] at hcall hs hbd
            dsimp only at hs hbd
            have HS : Hid (er = 0 → headQ names l most true (out ++ [⟨sr, sv, sl⟩]) q = res) := Lib.hid fun h => by rw [← HQ.out, hs h]
            have HBD : Hid (er ≠ 0 → ([], q, er) = res) := Lib.hid fun h => by rw [← HQ.out, hbd h]
            have HC := Lib.hid hcall
            clear hcall hs hbd hsl HQ
            go_wp2_with (fail)
            refine HC.out.mono ?_
            rintro e w3 ⟨⟨xr, xv, xl⟩, rfl, hx, hn3, hk3⟩
            have hal := (Below.refl _ w3).alloc (Nat.le_refl _) (.cells #[.bool xr, .int .i64 xv, .int .i64 xl] 73)
            have hown4 := ownR HOWN1.out HRw.out (hk3.trans (.of hal))
            have hbx := Blk.new w3 73 #[.bool xr, .int .i64 xv, .int .i64 xl]
            have hn4 := hn3.keep hal
            have hk4 := HK1.out.trans (hk3.trans (.of hal))
            obtain ⟨W4, hW4⟩ : ∃ W4, w3.alloc (.cells #[.bool xr, .int .i64 xv, .int .i64 xl] 73) = W4 := ⟨_, rfl⟩
            rw [hW4] at hown4 hbx hn4 hk4
            have HN4 := Lib.hid hn4
            have HK4 := Lib.hid hk4
            have x0 := hbx.cell 0
            have x1 := hbx.cell 1
            have x2 := hbx.cell 2
            have hbl := hbx.lt
            have hsz4 := hk4.size
            clear hn3 hk3 hal hn4 hk4 hbx HN1 HK1 HOWN1
            by_cases her : er = 0
            · have HX : Hid ((⟨xr, xv, xl⟩ : St.Slot) = ⟨sr, sv, sl⟩) := Lib.hid (hx her)
              have HH := Lib.hid (HS.out her)
              subst her
              clear hx HS HBD
              have hown := hown4
              clear hown4
              unfold slv
              go_wp2_with (at_builtin; refine wpList_append_own _ rfl _ _ 40 rfl w.heap.size 73 i0 (.agg #[.bool false, .int .i64 0, .int .i64 0]) 3 24 Tryz.underlying40 hi hz0 hz1 hz2 rfl (by decide) _ _ _ rfl (hown.alloc _) ⟨W4.heap.size, 0, none⟩ 1 1 [.bool xr, .int .i64 xv, .int .i64 xl] rfl rfl ?c1 ?c2 ?c3 ?c4 ?c5 ?_)
              case c1 => exact cells_new _ _ _
              case c2 => simp [Value.oneCell']
              case c3 => unfold maxLen; omega
              case c4 => omega
              case c5 => simp; omega
              intro v' w' hown' hgrow _
              have hbg : Below w.heap.size W4 w' := ((Below.refl w.heap.size W4).alloc hsz4 _).grown hgrow (by simp; omega) (fun k he => (hown.lt k he).1)
              have HO9 : Hid (w'.ownsRow w.heap.size 73 3 v' (out ++ [(⟨sr, sv, sl⟩ : St.Slot)]).length (fcells svs (out ++ [(⟨sr, sv, sl⟩ : St.Slot)]))) := Lib.hid (by
                rw [fcells_snoc, List.length_append]
                injection HX.out with e1 e2 e3
                subst e1 e2 e3
                exact hown')
              have HN9 := Lib.hid (HN4.out.belowB hbg HRw.out)
              have HK9 := Lib.hid (HK4.out.more hbg)
              obtain ⟨g', cap', rfl⟩ := ownsRow_succ hown'
              clear hown hown' hgrow hbg
              go_wp2
              go_roundw
              case rel => exact ⟨out ++ [(⟨sr, sv, sl⟩ : St.Slot)], q, by simp; omega, HO9, HN9, HK9, HH⟩
              case measure => simp [lenV]; omega
            · have hz1 : ((er : Int) != 0) = true := by rw [bne_iff_ne]; omega
              have HF := Lib.hid (HBD.out her)
              have HER := Lib.hid her
              clear hx HS HBD her hown4
              unfold slv
              go_wp2
              go_ret2
              rw [← HF.out]
              exact ⟨_, _, _, rfl, fun h => absurd h HER.out, HN4.out, HK4.out⟩
        · have hl0 : ((out.length : Int) == 0) = false := by
            have := List.length_pos_iff.2 hnil
            rw [beq_eq_false_iff_ne]; omega
          have HCM := Lib.hid (HTC.out p wr HN.out)
          rw [isK_mark] at HCM
          cases hcm : Cd.isM l St.bComma p with
          | true =>
            rw [hcm] at HCM
            have HQ : Hid (St.rowP names l most true (most + 1 - out.length) out (p + 1) = res) := Lib.hid (by rw [← HH0.out, headQ_more hnil hcm])
            clear hcm hnil HH0 HTC HMK
            go_wp2_with (fail)
            refine HCM.out.mono ?_
            rintro e w2 ⟨rfl, h2, hk2⟩
            have HOWN1 := Lib.hid (ownR HOWN.out HRw.out hk2)
            have HN1 : Hid (NRd R N U A c1 c2 ct names up l (p + 1) w2) := Lib.hid h2
            have HK1 := Lib.hid (HK.out.trans hk2)
            clear h2 hk2 HCM HOWN HN HK
            by_cases hm : out.length = most
            · have HF := Lib.hid (show ([], p + 1, 8) = res by rw [← HQ.out, rowP_many hm])
              have hme : ((out.length : Int) == (most : Int)) = true := by rw [beq_iff_eq]; omega
              go_wp2
              go_ret2
              rw [← HF.out]
              exact ⟨_, _, _, rfl, fun h => absurd h (show ¬ (8 : Nat) = 0 by decide), HN1.out, HK1.out⟩
            · have hme : ((out.length : Int) == (most : Int)) = false := by rw [beq_eq_false_iff_ne]; omega
              have hs := rowP_step (names := names) (l := l) (rets := true) (p := p + 1) (show out.length < most by omega)
              have hbd := rowP_bad (names := names) (l := l) (rets := true) (p := p + 1) (show out.length < most by omega)
              have hcall := HONE.out (p + 1) w2 HN1.out
              obtain ⟨⟨⟨sr, sv, sl⟩, q, er⟩, hsl⟩ : ∃ r, St.slotP names true l (p + 1) = r := ⟨_, rfl⟩
              rw [hsl] at hcall hs hbd
              dsimp only at hs hbd
              have HS : Hid (er = 0 → headQ names l most true (out ++ [⟨sr, sv, sl⟩]) q = res) := Lib.hid fun h => by rw [← HQ.out, hs h]
              have HBD : Hid (er ≠ 0 → ([], q, er) = res) := Lib.hid fun h => by rw [← HQ.out, hbd h]
              have HC := Lib.hid hcall
              clear hcall hs hbd hsl HQ
              go_wp2_with (fail)
              refine HC.out.mono ?_
              rintro e w3 ⟨⟨xr, xv, xl⟩, rfl, hx, hn3, hk3⟩
              have hal := (Below.refl _ w3).alloc (Nat.le_refl _) (.cells #[.bool xr, .int .i64 xv, .int .i64 xl] 73)
              have hown4 := ownR HOWN1.out HRw.out (hk3.trans (.of hal))
              have hbx := Blk.new w3 73 #[.bool xr, .int .i64 xv, .int .i64 xl]
              have hn4 := hn3.keep hal
              have hk4 := HK1.out.trans (hk3.trans (.of hal))
              obtain ⟨W4, hW4⟩ : ∃ W4, w3.alloc (.cells #[.bool xr, .int .i64 xv, .int .i64 xl] 73) = W4 := ⟨_, rfl⟩
              rw [hW4] at hown4 hbx hn4 hk4
              have HN4 := Lib.hid hn4
              have HK4 := Lib.hid hk4
              have x0 := hbx.cell 0
              have x1 := hbx.cell 1
              have x2 := hbx.cell 2
              have hbl := hbx.lt
              have hsz4 := hk4.size
              clear hn3 hk3 hal hn4 hk4 hbx HN1 HK1 HOWN1
              by_cases her : er = 0
              · have HX : Hid ((⟨xr, xv, xl⟩ : St.Slot) = ⟨sr, sv, sl⟩) := Lib.hid (hx her)
                have HH := Lib.hid (HS.out her)
                subst her
                clear hx HS HBD
                have hown := hown4
                clear hown4
                unfold slv
                go_wp2_with (at_builtin; refine wpList_append_own _ rfl _ _ 40 rfl w.heap.size 73 i0 (.agg #[.bool false, .int .i64 0, .int .i64 0]) 3 24 Tryz.underlying40 hi hz0 hz1 hz2 rfl (by decide) _ _ _ rfl (hown.alloc _) ⟨W4.heap.size, 0, none⟩ 1 1 [.bool xr, .int .i64 xv, .int .i64 xl] rfl rfl ?c1 ?c2 ?c3 ?c4 ?c5 ?_)
                case c1 => exact cells_new _ _ _
                case c2 => simp [Value.oneCell']
                case c3 => unfold maxLen; omega
                case c4 => omega
                case c5 => simp; omega
                intro v' w' hown' hgrow _
                have hbg : Below w.heap.size W4 w' := ((Below.refl w.heap.size W4).alloc hsz4 _).grown hgrow (by simp; omega) (fun k he => (hown.lt k he).1)
                have HO9 : Hid (w'.ownsRow w.heap.size 73 3 v' (out ++ [(⟨sr, sv, sl⟩ : St.Slot)]).length (fcells svs (out ++ [(⟨sr, sv, sl⟩ : St.Slot)]))) := Lib.hid (by
                  rw [fcells_snoc, List.length_append]
                  injection HX.out with e1 e2 e3
                  subst e1 e2 e3
                  exact hown')
                have HN9 := Lib.hid (HN4.out.belowB hbg HRw.out)
                have HK9 := Lib.hid (HK4.out.more hbg)
                obtain ⟨g', cap', rfl⟩ := ownsRow_succ hown'
                clear hown hown' hgrow hbg
                go_wp2
                go_roundw
                case rel => exact ⟨out ++ [(⟨sr, sv, sl⟩ : St.Slot)], q, by simp; omega, HO9, HN9, HK9, HH⟩
                case measure => simp [lenV]; omega
              · have hz1 : ((er : Int) != 0) = true := by rw [bne_iff_ne]; omega
                have HF := Lib.hid (HBD.out her)
                have HER := Lib.hid her
                clear hx HS HBD her hown4
                unfold slv
                go_wp2
                go_ret2
                rw [← HF.out]
                exact ⟨_, _, _, rfl, fun h => absurd h HER.out, HN4.out, HK4.out⟩
          | false =>
            rw [hcm] at HCM
            have hend := headQ_end (names := names) (most := most) (rets := true) hnil hcm
            rw [HH0.out] at hend
            have HMM := Lib.hid (fun W h => HMK.out p W h)
            rw [isK_mark] at HMM
            clear hcm hnil HH0 HTC HMK HONE
            go_wp2_with (fail)
            refine HCM.out.mono ?_
            rintro e w2 ⟨rfl, h2, hk2⟩
            have HOWN1 := Lib.hid (ownR HOWN.out HRw.out hk2)
            have h2 : NRd R N U A c1 c2 ct names up l p w2 := h2
            have HM2 := Lib.hid (HMM.out w2 h2)
            have HK1 := Lib.hid (HK.out.trans hk2)
            clear h2 hk2 HCM HOWN HN HK HMM
            cases hsm : Cd.isM l Cd.bSemi p with
            | true =>
              rw [hsm] at HM2
              rw [hsm, if_pos rfl] at hend
              have HF := Lib.hid hend
              clear hsm hend
              go_wp2_with (fail)
              refine HM2.out.mono ?_
              rintro e w3 ⟨rfl, h3, hk3⟩
              have HO3 := Lib.hid (KN.own (ownR HOWN1.out HRw.out hk3))
              have HN3 := Lib.hid h3
              have HK3 := Lib.hid (HK1.out.trans hk3)
              clear h3 hk3 HM2 HOWN1 HK1
              unfold errB
              dsimp only
              go_wp2
              go_ret2
              rw [HF.out]
              exact ⟨_, _, _, rfl, fun _ => HO3.out, HN3.out, HK3.out⟩
            | false =>
              rw [hsm] at HM2
              rw [hsm, if_neg (by decide)] at hend
              have HF := Lib.hid hend
              clear hsm hend
              go_wp2_with (fail)
              refine HM2.out.mono ?_
              rintro e w3 ⟨rfl, h3, hk3⟩
              have HN3 := Lib.hid h3
              have HK3 := Lib.hid (HK1.out.trans hk3)
              clear h3 hk3 HM2 HOWN1 HK1
              unfold errB
              dsimp only
              go_wp2
              go_ret2
              rw [HF.out]
              exact ⟨_, _, _, rfl, fun h => absurd h (show ¬ (4 : Nat) = 0 by decide), HN3.out, HK3.out⟩
end
end Go.Proofs.YtipbilmnknmhmaaGreatDoor

/- The reference's row, atoms (by gen_stmq.py). -/
namespace Go.Proofs.YtipbilmnknmhmaaGreatDoor
set_option maxRecDepth 100000
open Go.RowKit Go.Shelf Go.Sort
attribute [local go_sem] Oper.semAt_some
/-- A row is answered, in new blocks. -/
def RowRes (w : World) (r : St.Rp × List St.Slot) (e : Ending) (w' : World) : Prop :=
  ∃ x, e = .returned (.agg #[.int .i64 (r.1.i : Int), .int .i64 r.1.a.v, .int .i64 r.1.a.l, .int .i64 (r.1.e : Int), x]) ∧ KN svs w.heap.size w' x r.2 ∧ Below w.heap.size w w'
/-- The row's length, read in the block. -/
def slen (g : Nat) (W : World) : Nat := match W.cell? ⟨g, 4, none⟩ with
  | some (.slice _ n _) => n
  | _ => 0
theorem slen_of {g : Nat} {W : World} {A : Option Addr} {n c : Nat} (h : W.cell? ⟨g, 4, none⟩ = some (.slice A n c)) : slen g W = n := by unfold slen; rw [h]
/-- At the head of a round of row. -/
structure RwIn (w : World) (lv : Array Value) (g : Nat) (p : St.Rp) (s : List St.Slot) (v : Value) (W : World) : Prop where
  below : Below w.heap.size w W
  lat : Blk W (w.heap.size) 25 lv
  res : Blk W (w.heap.size + 1 + 1) 137 #[.int .i64 0, .int .i64 0, .int .i64 0, .int .i64 0, .slice none 0 0]
  st : Blk W g 137 #[.int .i64 (p.i : Int), .int .i64 p.a.v, .int .i64 p.a.l, .int .i64 (p.e : Int), v]
  own : W.ownsRow (g + 1) 73 3 v s.length (fcells svs s)
theorem rowR_i {names : List ByteArray} {l : List Lx.Tk} (hf : Tb.Fine l) {most : Nat} {rets : Bool} : ∀ (n : Nat) (p : St.Rp) (s : List St.Slot), p.i < l.length → (St.loopR names l most rets n p s).1.i < l.length
  | 0, p, s, h => h
  | n + 1, p, s, h => by
    unfold St.loopR
    split
    · split
      · exact h
      · have h1 : (St.nextR names rets l p).i < l.length := by
          unfold St.nextR
          refine atomR_i hf ?_
          split
          · next hs =>
            unfold St.stepR8 at hs
            rw [Bool.and_eq_true] at hs
            exact hereR_next hf h (by decide) hs.2
          · exact h
        split
        · next hc => exact rowR_i hf n _ _ (hereR_next hf h1 (by decide) hc)
        · exact mustR_i hf h1 (by decide) _
    · exact h
theorem rowR_lt {names : List ByteArray} {l : List Lx.Tk} (hf : Tb.Fine l) {p : St.Rp} {word : ByteArray} {most : Nat} {rets : Bool} (h : p.i < l.length) : (St.rowR names l p word most rets).1.i < l.length := by
  unfold St.rowR
  have h1 := mustR_i hf h (show (1 : Int) ≠ 0 by decide) word
  split
  · next hs => exact hereR_next hf h1 (by decide) hs
  · exact rowR_i hf _ _ _ h1
theorem loopR_len {names : List ByteArray} {l : List Lx.Tk} {most : Nat} {rets : Bool} : ∀ (n : Nat) (p : St.Rp) (s : List St.Slot), s.length ≤ most → (St.loopR names l most rets n p s).2.length ≤ most
  | 0, p, s, h => h
  | n + 1, p, s, h => by
    unfold St.loopR
    split
    · split
      · exact h
      · next hm =>
        have h1 : (s ++ [St.slotR names rets l p]).length ≤ most := by simp; omega
        split
        · exact loopR_len n _ _ h1
        · exact h1
    · exact h
theorem rowR_len {names : List ByteArray} {l : List Lx.Tk} {p : St.Rp} {word : ByteArray} {most : Nat} {rets : Bool} : (St.rowR names l p word most rets).2.length ≤ most := by
  unfold St.rowR
  split
  · exact Nat.zero_le _
  · exact loopR_len _ _ _ (Nat.zero_le _)
set_option maxHeartbeats 16000000 in
theorem rRow9_any {v : Value} {names : List ByteArray} {up : List Nat} {A : Option Addr} {l : List Lx.Tk} (c : Nat) (p : St.Rp) (word : ByteArray) (most : Nat) (rets : Bool) (hmost : most ≤ 100) (w : World) (hla : IsLat w w.heap.size v names up) (h : Row w w.heap.size A (tcells l)) (hf : Tb.Fine l) (hp : p.i < l.length) (hl : l.length ≤ 100000) :
    Calls Tryz.prog 91 #[v, .slice A l.length c, rp9 p, .string word, .int .i64 (most : Int), .bool rets] w (RowRes w (St.rowR names l p word most rets)) := by
  obtain ⟨⟨N, U, c1, c2, rfl, hN, hU⟩, hsh, hfew, hcaps⟩ := id hla
  obtain ⟨i0, hi, hz0, hz1, hz2⟩ := info_parts Tryz.infoSlot
  obtain ⟨R, hR⟩ : ∃ R, St.rowR names l p word most rets = R := ⟨_, rfl⟩
  rw [hR]
  unfold St.rowR at hR
  have HLA := Lib.hid hla
  have H := Lib.hid h
  have HF := Lib.hid hf
  have HLN : Hid (l.length ≤ 100000) := Lib.hid hl
  have hmu := fun W (hb : Below w.heap.size w W) => rMust_any c 1 word p W ((h.below hb).more hb.size) hp hl
  have hqi := mustR_i hf hp (show (1 : Int) ≠ 0 by decide) word
  generalize St.mustR l p 1 word = q at *
  obtain ⟨i, ⟨av, al⟩, e⟩ := p
  obtain ⟨qi, ⟨qv, ql⟩, qe⟩ := q
  have HPI := Lib.hid hqi
  obtain ⟨ln, hln⟩ : ∃ ln, l.length = ln := ⟨_, rfl⟩
  have HLE := Lib.hid hln
  unfold Told9 rp9 at hmu
  rw [hln] at hmu ⊢
  unfold rp9
  dsimp only at hmu hqi ⊢
  have HMU := Lib.hid hmu
  have HRR := Lib.hid hR
  obtain ⟨W0, hW0⟩ : ∃ W0, ((w.alloc (.cells #[.slice N names.length c1, .slice U up.length c2] 25)).alloc (.cells #[.int .i64 (i : Int), .int .i64 av, .int .i64 al, .int .i64 (e : Int)] 130)).alloc (.cells #[.int .i64 0, .int .i64 0, .int .i64 0, .int .i64 0, .slice none 0 0] 137) = W0 := ⟨_, rfl⟩
  have hl0 : Blk W0 (w.heap.size) 25 #[.slice N names.length c1, .slice U up.length c2] := hW0 ▸ ((Blk.new _ _ _).alloc _).alloc _
  have hp0 : Blk W0 (w.heap.size + 1) 130 #[.int .i64 (i : Int), .int .i64 av, .int .i64 al, .int .i64 (e : Int)] := by
    have h1 := Blk.new (w.alloc (.cells #[.slice N names.length c1, .slice U up.length c2] 25)) 130 #[.int .i64 (i : Int), .int .i64 av, .int .i64 al, .int .i64 (e : Int)]
    simp only [World.size_alloc] at h1
    rw [← hW0]; exact h1.alloc _
  have hr0 : Blk W0 (w.heap.size + 1 + 1) 137 #[.int .i64 0, .int .i64 0, .int .i64 0, .int .i64 0, .slice none 0 0] := by
    have h1 := Blk.new ((w.alloc (.cells #[.slice N names.length c1, .slice U up.length c2] 25)).alloc (.cells #[.int .i64 (i : Int), .int .i64 av, .int .i64 al, .int .i64 (e : Int)] 130)) 137 #[.int .i64 0, .int .i64 0, .int .i64 0, .int .i64 0, .slice none 0 0]
    simp only [World.size_alloc] at h1
    rw [← hW0]; exact h1
  have HBW := Lib.hid (hW0 ▸ three_new w _ _ _ : Below w.heap.size w W0)
  have Hl := Lib.hid hl0
  have Hp := Lib.hid hp0
  have Hr := Lib.hid hr0
  have hib : qi < 100000 := by omega
  clear hR hmu h hla hf hp hl hln hqi hl0 hp0 hr0 hN hU hsh hfew hcaps
  have HSE : Hid (∀ W, Below w.heap.size w W → Calls Tryz.prog 116 #[.slice A ln c, .agg #[.int .i64 (qi : Int), .int .i64 qv, .int .i64 ql, .int .i64 (qe : Int)], .int .i64 3, .string { data := #[59] }] W (Tells W (St.hereR l ⟨qi, ⟨qv, ql⟩, qe⟩ 3 Cd.bSemi))) := Lib.hid fun W hb => by
    have h := rHere_any c 3 Cd.bSemi ⟨qi, ⟨qv, ql⟩, qe⟩ W ((H.out.below hb).more hb.size) HPI.out
    rw [HLE.out] at h
    exact h
  cases hse : St.hereR l ⟨qi, ⟨qv, ql⟩, qe⟩ 3 Cd.bSemi with
  | true =>
    rw [hse] at HSE
    have hrr := HRR.out
    rw [hse, if_pos rfl] at hrr
    clear HRR
    have HRR := Lib.hid hrr
    clear hse hrr
    obtain ⟨u1_0, u1_1, u1_2, u1_3⟩ := cel4 Hp
    go_enter Tryz.func91, Tryz.ntmps91
    go_wp2_with (fail)
    refine (HMU.out W0 HBW.out).mono ?_
    rintro e' w1 ⟨rfl, hb⟩
    replace Hl := bk1 Hl hb
    replace Hp := bk1 Hp hb
    replace Hr := bk1 Hr hb
    replace HBW := bw1 HBW hb
    clear hb
    clear u1_0 u1_1 u1_2 u1_3
    dsimp only
    obtain ⟨X2, hX2⟩ : ∃ X2, w1.alloc (.cells #[.int .i64 (qi : Int), .int .i64 qv, .int .i64 ql, .int .i64 (qe : Int), .slice none 0 0] 137) = X2 := ⟨_, rfl⟩
    have hal := alw hX2
    have hz2_l := Hl.out.lt
    have hz2_p := Hp.out.lt
    have hz2_r := Hr.out.lt
    have hzb2 := HBW.out.size
    replace Hl := bk1 Hl hal
    replace Hp := bk1 Hp hal
    replace Hr := bk1 Hr hal
    replace HBW := bw1 HBW hal
    have Hs := bka hX2
    clear hal
    have HEX2 := Lib.hid hX2
    clear hX2
    go_wp2_with (fail)
    rw [HEX2.out]
    refine (HSE.out X2 HBW.out).mono ?_
    rintro e' w2 ⟨rfl, hb⟩
    replace Hl := bk1 Hl hb
    replace Hp := bk1 Hp hb
    replace Hr := bk1 Hr hb
    replace Hs := bk1 Hs hb
    replace HBW := bw1 HBW hb
    clear hb
    obtain ⟨u3_0, u3_1, u3_2, u3_3, u3_4⟩ := cel5 Hs
    obtain ⟨X4, hX4⟩ : ∃ X4, (w2.setCell ⟨w1.heap.size, 0, none⟩ (.int .i64 ((qi : Int) + 1))) = X4 := ⟨_, rfl⟩
    have hs_ := kp1 hX4
    have o4_0 := c5_0 Hs
    have r4_0 := f5_0 Hs
    replace Hs := p5_0 Hs hX4
    replace Hl := bk2 Hl hs_ (by omega)
    replace Hp := bk2 Hp hs_ (by omega)
    replace Hr := bk2 Hr hs_ (by omega)
    replace HBW := bw2 HBW hs_ (by omega)
    clear hs_
    obtain ⟨u5_0, u5_1, u5_2, u5_3, u5_4⟩ := cel5 Hs
    obtain ⟨X6, hX6⟩ : ∃ X6, (((((X4.setCell ⟨w.heap.size + 1 + 1, 0, none⟩ (.int .i64 ((qi : Int) + 1))).setCell ⟨w.heap.size + 1 + 1, 1, none⟩ (.int .i64 qv)).setCell ⟨w.heap.size + 1 + 1, 2, none⟩ (.int .i64 ql)).setCell ⟨w.heap.size + 1 + 1, 3, none⟩ (.int .i64 (qe : Int))).setCell ⟨w.heap.size + 1 + 1, 4, none⟩ (.slice none 0 0)) = X6 := ⟨_, rfl⟩
    have hs_ := kp5 hX6
    have o6_0 := c5_0 Hr
    have r6_0 := f5_0 Hr
    have o6_1 := c5_1 Hr
    have r6_1 := f5_1 Hr
    have o6_2 := c5_2 Hr
    have r6_2 := f5_2 Hr
    have o6_3 := c5_3 Hr
    have r6_3 := f5_3 Hr
    have o6_4 := c5_4 Hr
    have r6_4 := f5_4 Hr
    replace Hr := put5_5 Hr hX6
    clear Hl Hp Hs
    replace HBW := bw2 HBW hs_ (by omega)
    clear hs_
    obtain ⟨q0, q1, q2, q3, q4⟩ := cel5 Hr
    go_wp2_with (exact bodyPost_ret (v := .agg #[.int .i64 ((qi : Int) + 1), .int .i64 qv, .int .i64 ql, .int .i64 (qe : Int), .slice none 0 0]) (by simp [results, Tryz.results91, go_sem, q0, q1, q2, q3, q4]) rfl ⟨_, by rw [← HRR.out]; try rfl, by rw [← HRR.out]; exact KN.nil _ _ _, HBW.out⟩)
  | false =>
    rw [hse] at HSE
    have hrr := HRR.out
    rw [hse, if_neg (by decide)] at hrr
    clear HRR
    have HRR := Lib.hid hrr
    clear hse hrr
    obtain ⟨u1_0, u1_1, u1_2, u1_3⟩ := cel4 Hp
    go_enter Tryz.func91, Tryz.ntmps91
    go_wp2_with (fail)
    refine (HMU.out W0 HBW.out).mono ?_
    rintro e' w1 ⟨rfl, hb⟩
    replace Hl := bk1 Hl hb
    replace Hp := bk1 Hp hb
    replace Hr := bk1 Hr hb
    replace HBW := bw1 HBW hb
    clear hb
    clear u1_0 u1_1 u1_2 u1_3
    dsimp only
    obtain ⟨X2, hX2⟩ : ∃ X2, w1.alloc (.cells #[.int .i64 (qi : Int), .int .i64 qv, .int .i64 ql, .int .i64 (qe : Int), .slice none 0 0] 137) = X2 := ⟨_, rfl⟩
    have hal := alw hX2
    have hz2_l := Hl.out.lt
    have hz2_p := Hp.out.lt
    have hz2_r := Hr.out.lt
    have hzb2 := HBW.out.size
    replace Hl := bk1 Hl hal
    replace Hp := bk1 Hp hal
    replace Hr := bk1 Hr hal
    replace HBW := bw1 HBW hal
    have Hs := bka hX2
    clear hal
    have HEX2 := Lib.hid hX2
    clear hX2
    go_wp2_with (fail)
    rw [HEX2.out]
    refine (HSE.out X2 HBW.out).mono ?_
    rintro e' w2 ⟨rfl, hb⟩
    replace Hl := bk1 Hl hb
    replace Hp := bk1 Hp hb
    replace Hr := bk1 Hr hb
    replace Hs := bk1 Hs hb
    replace HBW := bw1 HBW hb
    clear hb
    obtain ⟨u3_0, u3_1, u3_2, u3_3, u3_4⟩ := cel5 Hs
    clear HMU HSE Hp
    go_wp2
    go_loopw [14] (fun _ wr => ∃ (p : St.Rp) (s : List St.Slot) (v : Value) (n : Nat), Hid (RwIn w #[.slice N names.length c1, .slice U up.length c2] (w1.heap.size) p s v wr ∧ p.i < l.length ∧ n + s.length = most + 1 ∧ s.length ≤ most ∧ St.loopR names l most rets n p s = R)) (fun _ wr => most + 1 - slen (w1.heap.size) wr)
    case atStart => exact ⟨⟨qi, ⟨qv, ql⟩, qe⟩, [], .slice none 0 0, most + 1, Lib.hid ⟨⟨HBW.out, Hl.out, Hr.out, Hs.out, World.ownsRow_nil _ _ _ _⟩, HPI.out, rfl, Nat.zero_le _, HRR.out⟩⟩
    case round =>
      clear HBW Hl Hr Hs HRR HPI u3_0 u3_1 u3_2 u3_3 u3_4
      obtain ⟨⟨i, ⟨av, al⟩, e⟩, s, v, n, HI⟩ := hrel
      obtain ⟨hrw, hpi, hns, hsl, hrr⟩ := HI.out
      obtain ⟨A1, cap, rfl⟩ := ownT_slice hrw.own
      have HBW := Lib.hid hrw.below
      have Hl := Lib.hid hrw.lat
      have Hr := Lib.hid hrw.res
      have Hs := Lib.hid hrw.st
      have HO := Lib.hid hrw.own
      have HM1 := Lib.hid (slen_of (hrw.st.cell 4))
      have HPI := Lib.hid hpi
      have HRR := Lib.hid hrr
      have HNS := Lib.hid hns
      have hib : i < 100000 := by have := HLN.out; dsimp only at hpi; omega
      dsimp only at Hs HM1 HPI
      clear HI hrw hpi hrr hns
      by_cases he : e = 0
      · subst he
        have hs_ : Blk wr (w1.heap.size) 137 #[.int .i64 (i : Int), .int .i64 av, .int .i64 al, .int .i64 0, .slice A1 s.length cap] := Hs.out
        clear Hs
        have Hs := Lib.hid hs_
        clear hs_
        obtain ⟨n', rfl⟩ : ∃ n', n = n' + 1 := ⟨n - 1, by have := HNS.out; omega⟩
        have hrr := HRR.out
        unfold St.loopR at hrr
        rw [if_pos rfl] at hrr
        by_cases hm : s.length = most
        · rw [if_pos hm] at hrr
          have HRZ := Lib.hid hrr.symm
          have hme : ((s.length : Int) == (most : Int)) = true := by rw [beq_iff_eq]; omega
          clear hrr hm
          obtain ⟨u51_0, u51_1, u51_2, u51_3, u51_4⟩ := cel5 Hs
          obtain ⟨X52, hX52⟩ : ∃ X52, (wr.setCell ⟨w1.heap.size, 3, none⟩ (.int .i64 8)) = X52 := ⟨_, rfl⟩
          have hs_ := kp1 hX52
          have o52_3 := c5_3 Hs
          have r52_3 := f5_3 Hs
          replace Hs := p5_3 Hs hX52
          replace Hl := bk2 Hl hs_ (by omega)
          replace Hr := bk2 Hr hs_ (by omega)
          replace HO := ow2 HO hs_ (by omega)
          replace HBW := bw2 HBW hs_ (by omega)
          clear hs_
          obtain ⟨u53_0, u53_1, u53_2, u53_3, u53_4⟩ := cel5 Hs
          obtain ⟨X54, hX54⟩ : ∃ X54, (((((X52.setCell ⟨w.heap.size + 1 + 1, 0, none⟩ (.int .i64 (i : Int))).setCell ⟨w.heap.size + 1 + 1, 1, none⟩ (.int .i64 av)).setCell ⟨w.heap.size + 1 + 1, 2, none⟩ (.int .i64 al)).setCell ⟨w.heap.size + 1 + 1, 3, none⟩ (.int .i64 8)).setCell ⟨w.heap.size + 1 + 1, 4, none⟩ (.slice A1 s.length cap)) = X54 := ⟨_, rfl⟩
          have hs_ := kp5 hX54
          have o54_0 := c5_0 Hr
          have r54_0 := f5_0 Hr
          have o54_1 := c5_1 Hr
          have r54_1 := f5_1 Hr
          have o54_2 := c5_2 Hr
          have r54_2 := f5_2 Hr
          have o54_3 := c5_3 Hr
          have r54_3 := f5_3 Hr
          have o54_4 := c5_4 Hr
          have r54_4 := f5_4 Hr
          replace Hr := put5_5 Hr hX54
          clear Hl Hs
          replace HO := ow2 HO hs_ (by omega)
          replace HBW := bw2 HBW hs_ (by omega)
          clear hs_
          obtain ⟨q0, q1, q2, q3, q4⟩ := cel5 Hr
          go_wp2_with (exact bodyPost_ret (v := .agg #[.int .i64 (i : Int), .int .i64 av, .int .i64 al, .int .i64 8, .slice A1 s.length cap]) (by simp [results, Tryz.results91, go_sem, q0, q1, q2, q3, q4]) rfl ⟨_, by rw [HRZ.out]; try rfl, by rw [HRZ.out]; exact KN.less (KN.own HO.out) (by omega), HBW.out⟩)
        · rw [if_neg hm] at hrr
          have hme : ((s.length : Int) == (most : Int)) = false := by rw [beq_eq_false_iff_ne]; omega
          have hsm : s.length < most := by omega
          have HPS : Hid (St.stepR8 rets l ⟨i, ⟨av, al⟩, 0⟩ = true → i + 1 < l.length) := Lib.hid fun hs => by
            unfold St.stepR8 at hs
            rw [Bool.and_eq_true] at hs
            exact hereR_next HF.out HPI.out (by decide) hs.2
          have HPQ : Hid ((St.nextR names rets l ⟨i, ⟨av, al⟩, 0⟩).i < l.length) := Lib.hid (by
            unfold St.nextR
            refine atomR_i HF.out ?_
            split
            · next hs => exact HPS.out hs
            · exact HPI.out)
          have HSR : Hid (St.slotR names rets l ⟨i, ⟨av, al⟩, 0⟩ = ⟨St.stepR8 rets l ⟨i, ⟨av, al⟩, 0⟩, (St.nextR names rets l ⟨i, ⟨av, al⟩, 0⟩).a.v, (St.nextR names rets l ⟨i, ⟨av, al⟩, 0⟩).a.l⟩) := Lib.hid rfl
          rw [HSR.out] at hrr
          have HNX : Hid (St.nextR names rets l ⟨i, ⟨av, al⟩, 0⟩ = St.atomR names l (if St.stepR8 rets l ⟨i, ⟨av, al⟩, 0⟩ = true then ⟨i + 1, ⟨av, al⟩, 0⟩ else ⟨i, ⟨av, al⟩, 0⟩)) := Lib.hid rfl
          have HST : Hid (St.stepR8 rets l ⟨i, ⟨av, al⟩, 0⟩ = (rets && St.hereR l ⟨i, ⟨av, al⟩, 0⟩ 1 St.bRet)) := Lib.hid rfl
          generalize St.nextR names rets l ⟨i, ⟨av, al⟩, 0⟩ = q2 at *
          generalize St.stepR8 rets l ⟨i, ⟨av, al⟩, 0⟩ = b1 at *
          obtain ⟨ti, ⟨tv, tl⟩, te⟩ := q2
          clear HSR hm
          have HRT : Hid (∀ W, Below w.heap.size w W → Calls Tryz.prog 116 #[.slice A ln c, .agg #[.int .i64 (i : Int), .int .i64 av, .int .i64 al, .int .i64 0], .int .i64 1, .string { data := #[114, 101, 116] }] W (Tells W (St.hereR l ⟨i, ⟨av, al⟩, 0⟩ 1 St.bRet))) := Lib.hid fun W hb => by
            have h := rHere_any c 1 St.bRet ⟨i, ⟨av, al⟩, 0⟩ W ((H.out.below hb).more hb.size) HPI.out
            rw [HLE.out] at h
            exact h
          generalize St.hereR l ⟨i, ⟨av, al⟩, 0⟩ 1 St.bRet = b0 at *
          dsimp only at hrr HPQ
          clear HRR
          have HRR := Lib.hid hrr
          clear hrr
          cases rets with
          | false =>
            obtain rfl : b1 = false := by rw [HST.out]; rfl
            clear HST
            have hnx : ({ i := ti, a := { v := tv, l := tl }, e := te } : St.Rp) = St.atomR names l ⟨i, ⟨av, al⟩, 0⟩ := by rw [HNX.out]; rfl
            clear HNX
            have HNX := Lib.hid hnx
            clear hnx
            have HAT : Hid (∀ W, Below w.heap.size w W → Calls Tryz.prog 89 #[.agg #[.slice N names.length c1, .slice U up.length c2], .slice A ln c, .agg #[.int .i64 (i : Int), .int .i64 av, .int .i64 al, .int .i64 0]] W (fun e w' => e = .returned (.agg #[.int .i64 (ti : Int), .int .i64 tv, .int .i64 tl, .int .i64 (te : Int)]) ∧ Below W.heap.size W w')) := Lib.hid fun W hb => by
              have h := rAtom_any c ⟨i, ⟨av, al⟩, 0⟩ W ((HLA.out.below hb).more hb.size) ((H.out.below hb).more hb.size) HF.out HPI.out HLN.out
              rw [HLE.out, ← HNX.out] at h
              exact h
            have HCM : Hid (∀ W, Below w.heap.size w W → Calls Tryz.prog 116 #[.slice A ln c, .agg #[.int .i64 (ti : Int), .int .i64 tv, .int .i64 tl, .int .i64 (te : Int)], .int .i64 3, .string { data := #[44] }] W (Tells W (St.hereR l ⟨ti, ⟨tv, tl⟩, te⟩ 3 St.bComma))) := Lib.hid fun W hb => by
              have h := rHere_any c 3 St.bComma ⟨ti, ⟨tv, tl⟩, te⟩ W ((H.out.below hb).more hb.size) HPQ.out
              rw [HLE.out] at h
              exact h
            have HMS : Hid (∀ W, Below w.heap.size w W → Calls Tryz.prog 88 #[.slice A ln c, .agg #[.int .i64 (ti : Int), .int .i64 tv, .int .i64 tl, .int .i64 (te : Int)], .int .i64 3, .string { data := #[59] }] W (Told9 W (St.mustR l ⟨ti, ⟨tv, tl⟩, te⟩ 3 Cd.bSemi))) := Lib.hid fun W hb => by
              have h := rMust_any c 3 Cd.bSemi ⟨ti, ⟨tv, tl⟩, te⟩ W ((H.out.below hb).more hb.size) HPQ.out HLN.out
              rw [HLE.out] at h
              exact h
            generalize St.mustR l ⟨ti, ⟨tv, tl⟩, te⟩ 3 Cd.bSemi = q3 at *
            obtain ⟨mi, ⟨mv, ml⟩, me⟩ := q3
            have HMS : Hid (∀ W, Below w.heap.size w W → Calls Tryz.prog 88 #[.slice A ln c, .agg #[.int .i64 (ti : Int), .int .i64 tv, .int .i64 tl, .int .i64 (te : Int)], .int .i64 3, .string { data := #[59] }] W (fun e w' => e = .returned (.agg #[.int .i64 (mi : Int), .int .i64 mv, .int .i64 ml, .int .i64 (me : Int)]) ∧ Below W.heap.size W w')) := Lib.hid HMS.out
            have hcn : St.hereR l ⟨ti, ⟨tv, tl⟩, te⟩ 3 St.bComma = true → ti + 1 < l.length := fun hh => hereR_next HF.out HPQ.out (show (3 : Int) ≠ 0 by decide) hh
            have HCN := Lib.hid hcn
            clear hcn
            generalize St.hereR l ⟨ti, ⟨tv, tl⟩, te⟩ 3 St.bComma = bc at *
            have htb : ti < 100000 := by have := HPQ.out; have := HLN.out; omega
            obtain ⟨u51_0, u51_1⟩ := cel2 Hl
            obtain ⟨u52_0, u52_1, u52_2, u52_3, u52_4⟩ := cel5 Hs
            go_wp2_with (fail)
            refine (HAT.out wr HBW.out).mono ?_
            rintro e' w5 ⟨rfl, hb⟩
            replace Hl := bk1 Hl hb
            replace Hr := bk1 Hr hb
            replace Hs := bk1 Hs hb
            replace HO := ow1 HO hb
            replace HBW := bw1 HBW hb
            clear hb
            clear u51_0 u51_1 u52_0 u52_1 u52_2 u52_3 u52_4
            dsimp only
            obtain ⟨X53, hX53⟩ : ∃ X53, ((((w5.setCell ⟨w1.heap.size, 0, none⟩ (.int .i64 (ti : Int))).setCell ⟨w1.heap.size, 1, none⟩ (.int .i64 tv)).setCell ⟨w1.heap.size, 2, none⟩ (.int .i64 tl)).setCell ⟨w1.heap.size, 3, none⟩ (.int .i64 (te : Int))) = X53 := ⟨_, rfl⟩
            have hs_ := kp4 hX53
            have o53_0 := c5_0 Hs
            have r53_0 := f5_0 Hs
            have o53_1 := c5_1 Hs
            have r53_1 := f5_1 Hs
            have o53_2 := c5_2 Hs
            have r53_2 := f5_2 Hs
            have o53_3 := c5_3 Hs
            have r53_3 := f5_3 Hs
            replace Hs := put4_5 Hs hX53
            replace Hl := bk2 Hl hs_ (by omega)
            replace Hr := bk2 Hr hs_ (by omega)
            replace HO := ow2 HO hs_ (by omega)
            replace HBW := bw2 HBW hs_ (by omega)
            clear hs_
            obtain ⟨u54_0, u54_1, u54_2, u54_3, u54_4⟩ := cel5 Hs
            have hown := HO.out
            have hsz9 : w1.heap.size + 1 ≤ X53.heap.size := Hs.out.lt
            go_wp2_with (at_builtin; refine wpList_append_own _ rfl _ _ 40 rfl (w1.heap.size + 1) 73 i0 (.agg #[.bool false, .int .i64 0, .int .i64 0]) 3 24 Tryz.underlying40 hi hz0 hz1 hz2 rfl (by decide) _ _ _ rfl (hown.alloc _) ⟨X53.heap.size, 0, none⟩ 1 1 [.bool false, .int .i64 tv, .int .i64 tl] rfl rfl ?c1 ?c2 ?c3 ?c4 ?c5 ?_)
            case c1 => exact cells_new _ _ _
            case c2 => simp [Value.oneCell']
            case c3 => unfold maxLen; omega
            case c4 => omega
            case c5 => simp; omega
            intro v' w6 hown' hgrow _
            have hbg : Below (w1.heap.size + 1) X53 w6 := ((Below.refl (w1.heap.size + 1) X53).alloc hsz9 _).grown hgrow (by simp; omega) (fun k he => (hown.lt k he).1)
            have ho_ : w6.ownsRow (w1.heap.size + 1) 73 3 v' (s.length + 1) (fcells svs (s ++ [(⟨false, tv, tl⟩ : St.Slot)])) := by
              rw [fcells_snoc]
              exact hown'
            have hl_ := Hl.out.below hbg (by omega)
            have hr_ := Hr.out.below hbg (by omega)
            have hs_ := Hs.out.below hbg (by omega)
            have hb_ := HBW.out.trans (hbg.mono (show w.heap.size ≤ w1.heap.size + 1 by omega))
            obtain ⟨A2, cap2, rfl⟩ := ownT_slice ho_
            clear o53_0 r53_0 o53_1 r53_1 o53_2 r53_2 o53_3 r53_3 u54_0 u54_1 u54_2 u54_3 u54_4
            clear HO Hl Hr Hs HBW hown hown' hgrow hbg hsz9
            have HO := Lib.hid ho_
            have Hl := Lib.hid hl_
            have Hr := Lib.hid hr_
            have Hs := Lib.hid hs_
            have HBW := Lib.hid hb_
            clear ho_ hl_ hr_ hs_ hb_
            obtain ⟨X55, hX55⟩ : ∃ X55, (w6.setCell ⟨w1.heap.size, 4, none⟩ (.slice A2 (s.length + 1) cap2)) = X55 := ⟨_, rfl⟩
            have hs_ := kp1 hX55
            have o55_4 := c5_4 Hs
            have r55_4 := f5_4 Hs
            replace Hs := p5_4 Hs hX55
            replace Hl := bk2 Hl hs_ (by omega)
            replace Hr := bk2 Hr hs_ (by omega)
            replace HO := ow2 HO hs_ (by omega)
            replace HBW := bw2 HBW hs_ (by omega)
            clear hs_
            obtain ⟨u56_0, u56_1, u56_2, u56_3, u56_4⟩ := cel5 Hs
            go_wp2_with (fail)
            refine (HCM.out X55 HBW.out).mono ?_
            rintro e' w7 ⟨rfl, hb⟩
            replace Hl := bk1 Hl hb
            replace Hr := bk1 Hr hb
            replace Hs := bk1 Hs hb
            replace HO := ow1 HO hb
            replace HBW := bw1 HBW hb
            clear hb
            clear o55_4 r55_4 u56_0 u56_1 u56_2 u56_3 u56_4
            cases bc with
            | true =>
              have hrz := HRR.out
              rw [if_pos rfl] at hrz
              clear HRR
              have HRR := Lib.hid hrz
              have hcn := HCN.out rfl
              clear HCN
              have HCN := Lib.hid hcn
              clear hrz hcn
              obtain ⟨u57_0, u57_1, u57_2, u57_3, u57_4⟩ := cel5 Hs
              obtain ⟨X58, hX58⟩ : ∃ X58, (w7.setCell ⟨w1.heap.size, 0, none⟩ (.int .i64 ((ti : Int) + 1))) = X58 := ⟨_, rfl⟩
              have hs_ := kp1 hX58
              have o58_0 := c5_0 Hs
              have r58_0 := f5_0 Hs
              replace Hs := p5_0 Hs hX58
              replace Hl := bk2 Hl hs_ (by omega)
              replace Hr := bk2 Hr hs_ (by omega)
              replace HO := ow2 HO hs_ (by omega)
              replace HBW := bw2 HBW hs_ (by omega)
              clear hs_
              have HM2 := Lib.hid (slen_of (Hs.out.cell 4))
              go_wp2
              go_roundw
              case rel => exact ⟨⟨ti + 1, ⟨tv, tl⟩, te⟩, s ++ [⟨false, tv, tl⟩], _, n', Lib.hid ⟨⟨HBW.out, Hl.out, Hr.out, Hs.out, by rw [List.length_append]; exact HO.out⟩, HCN.out, by have := HNS.out; simp only [List.length_append, List.length_cons, List.length_nil]; omega, by simp only [List.length_append, List.length_cons, List.length_nil]; omega, HRR.out⟩⟩
              case measure => rw [HM1.out, HM2.out]; omega
            | false =>
              have hrz := HRR.out
              rw [if_neg (by decide)] at hrz
              have HRZ := Lib.hid hrz.symm
              clear hrz HRR
              obtain ⟨u57_0, u57_1, u57_2, u57_3, u57_4⟩ := cel5 Hs
              go_wp2_with (fail)
              refine (HMS.out w7 HBW.out).mono ?_
              rintro e' w8 ⟨rfl, hb⟩
              replace Hl := bk1 Hl hb
              replace Hr := bk1 Hr hb
              replace Hs := bk1 Hs hb
              replace HO := ow1 HO hb
              replace HBW := bw1 HBW hb
              clear hb
              clear u57_0 u57_1 u57_2 u57_3 u57_4
              dsimp only
              obtain ⟨X58, hX58⟩ : ∃ X58, ((((w8.setCell ⟨w1.heap.size, 0, none⟩ (.int .i64 (mi : Int))).setCell ⟨w1.heap.size, 1, none⟩ (.int .i64 mv)).setCell ⟨w1.heap.size, 2, none⟩ (.int .i64 ml)).setCell ⟨w1.heap.size, 3, none⟩ (.int .i64 (me : Int))) = X58 := ⟨_, rfl⟩
              have hs_ := kp4 hX58
              have o58_0 := c5_0 Hs
              have r58_0 := f5_0 Hs
              have o58_1 := c5_1 Hs
              have r58_1 := f5_1 Hs
              have o58_2 := c5_2 Hs
              have r58_2 := f5_2 Hs
              have o58_3 := c5_3 Hs
              have r58_3 := f5_3 Hs
              replace Hs := put4_5 Hs hX58
              replace Hl := bk2 Hl hs_ (by omega)
              replace Hr := bk2 Hr hs_ (by omega)
              replace HO := ow2 HO hs_ (by omega)
              replace HBW := bw2 HBW hs_ (by omega)
              clear hs_
              obtain ⟨u59_0, u59_1, u59_2, u59_3, u59_4⟩ := cel5 Hs
              obtain ⟨X60, hX60⟩ : ∃ X60, (((((X58.setCell ⟨w.heap.size + 1 + 1, 0, none⟩ (.int .i64 (mi : Int))).setCell ⟨w.heap.size + 1 + 1, 1, none⟩ (.int .i64 mv)).setCell ⟨w.heap.size + 1 + 1, 2, none⟩ (.int .i64 ml)).setCell ⟨w.heap.size + 1 + 1, 3, none⟩ (.int .i64 (me : Int))).setCell ⟨w.heap.size + 1 + 1, 4, none⟩ (.slice A2 (s.length + 1) cap2)) = X60 := ⟨_, rfl⟩
              have hs_ := kp5 hX60
              have o60_0 := c5_0 Hr
              have r60_0 := f5_0 Hr
              have o60_1 := c5_1 Hr
              have r60_1 := f5_1 Hr
              have o60_2 := c5_2 Hr
              have r60_2 := f5_2 Hr
              have o60_3 := c5_3 Hr
              have r60_3 := f5_3 Hr
              have o60_4 := c5_4 Hr
              have r60_4 := f5_4 Hr
              replace Hr := put5_5 Hr hX60
              clear Hl Hs
              replace HO := ow2 HO hs_ (by omega)
              replace HBW := bw2 HBW hs_ (by omega)
              clear hs_
              obtain ⟨q0, q1, q2, q3, q4⟩ := cel5 Hr
              go_wp2_with (exact bodyPost_ret (v := .agg #[.int .i64 (mi : Int), .int .i64 mv, .int .i64 ml, .int .i64 (me : Int), .slice A2 (s.length + 1) cap2]) (by simp [results, Tryz.results91, go_sem, q0, q1, q2, q3, q4]) rfl ⟨_, by rw [HRZ.out]; try rfl, by rw [HRZ.out]; exact KN.less (KN.own (base := w1.heap.size + 1) (e := 73) (sz := 3) (by rw [List.length_append]; exact HO.out)) (show w.heap.size ≤ w1.heap.size + 1 by omega), HBW.out⟩)
          | true =>
            cases b0 with
            | false =>
              obtain rfl : b1 = false := by rw [HST.out]; rfl
              clear HST
              have hnx : ({ i := ti, a := { v := tv, l := tl }, e := te } : St.Rp) = St.atomR names l ⟨i, ⟨av, al⟩, 0⟩ := by rw [HNX.out]; rfl
              clear HNX
              have HNX := Lib.hid hnx
              clear hnx
              have HAT : Hid (∀ W, Below w.heap.size w W → Calls Tryz.prog 89 #[.agg #[.slice N names.length c1, .slice U up.length c2], .slice A ln c, .agg #[.int .i64 (i : Int), .int .i64 av, .int .i64 al, .int .i64 0]] W (fun e w' => e = .returned (.agg #[.int .i64 (ti : Int), .int .i64 tv, .int .i64 tl, .int .i64 (te : Int)]) ∧ Below W.heap.size W w')) := Lib.hid fun W hb => by
                have h := rAtom_any c ⟨i, ⟨av, al⟩, 0⟩ W ((HLA.out.below hb).more hb.size) ((H.out.below hb).more hb.size) HF.out HPI.out HLN.out
                rw [HLE.out, ← HNX.out] at h
                exact h
              have HCM : Hid (∀ W, Below w.heap.size w W → Calls Tryz.prog 116 #[.slice A ln c, .agg #[.int .i64 (ti : Int), .int .i64 tv, .int .i64 tl, .int .i64 (te : Int)], .int .i64 3, .string { data := #[44] }] W (Tells W (St.hereR l ⟨ti, ⟨tv, tl⟩, te⟩ 3 St.bComma))) := Lib.hid fun W hb => by
                have h := rHere_any c 3 St.bComma ⟨ti, ⟨tv, tl⟩, te⟩ W ((H.out.below hb).more hb.size) HPQ.out
                rw [HLE.out] at h
                exact h
              have HMS : Hid (∀ W, Below w.heap.size w W → Calls Tryz.prog 88 #[.slice A ln c, .agg #[.int .i64 (ti : Int), .int .i64 tv, .int .i64 tl, .int .i64 (te : Int)], .int .i64 3, .string { data := #[59] }] W (Told9 W (St.mustR l ⟨ti, ⟨tv, tl⟩, te⟩ 3 Cd.bSemi))) := Lib.hid fun W hb => by
                have h := rMust_any c 3 Cd.bSemi ⟨ti, ⟨tv, tl⟩, te⟩ W ((H.out.below hb).more hb.size) HPQ.out HLN.out
                rw [HLE.out] at h
                exact h
              generalize St.mustR l ⟨ti, ⟨tv, tl⟩, te⟩ 3 Cd.bSemi = q3 at *
              obtain ⟨mi, ⟨mv, ml⟩, me⟩ := q3
              have HMS : Hid (∀ W, Below w.heap.size w W → Calls Tryz.prog 88 #[.slice A ln c, .agg #[.int .i64 (ti : Int), .int .i64 tv, .int .i64 tl, .int .i64 (te : Int)], .int .i64 3, .string { data := #[59] }] W (fun e w' => e = .returned (.agg #[.int .i64 (mi : Int), .int .i64 mv, .int .i64 ml, .int .i64 (me : Int)]) ∧ Below W.heap.size W w')) := Lib.hid HMS.out
              have hcn : St.hereR l ⟨ti, ⟨tv, tl⟩, te⟩ 3 St.bComma = true → ti + 1 < l.length := fun hh => hereR_next HF.out HPQ.out (show (3 : Int) ≠ 0 by decide) hh
              have HCN := Lib.hid hcn
              clear hcn
              generalize St.hereR l ⟨ti, ⟨tv, tl⟩, te⟩ 3 St.bComma = bc at *
              have htb : ti < 100000 := by have := HPQ.out; have := HLN.out; omega
              obtain ⟨u51_0, u51_1, u51_2, u51_3, u51_4⟩ := cel5 Hs
              go_wp2_with (fail)
              refine (HRT.out wr HBW.out).mono ?_
              rintro e' w4 ⟨rfl, hb⟩
              replace Hl := bk1 Hl hb
              replace Hr := bk1 Hr hb
              replace Hs := bk1 Hs hb
              replace HO := ow1 HO hb
              replace HBW := bw1 HBW hb
              clear hb
              clear u51_0 u51_1 u51_2 u51_3 u51_4
              obtain ⟨u52_0, u52_1⟩ := cel2 Hl
              obtain ⟨u53_0, u53_1, u53_2, u53_3, u53_4⟩ := cel5 Hs
              go_wp2_with (fail)
              refine (HAT.out w4 HBW.out).mono ?_
              rintro e' w5 ⟨rfl, hb⟩
              replace Hl := bk1 Hl hb
              replace Hr := bk1 Hr hb
              replace Hs := bk1 Hs hb
              replace HO := ow1 HO hb
              replace HBW := bw1 HBW hb
              clear hb
              clear u52_0 u52_1 u53_0 u53_1 u53_2 u53_3 u53_4
              dsimp only
              obtain ⟨X54, hX54⟩ : ∃ X54, ((((w5.setCell ⟨w1.heap.size, 0, none⟩ (.int .i64 (ti : Int))).setCell ⟨w1.heap.size, 1, none⟩ (.int .i64 tv)).setCell ⟨w1.heap.size, 2, none⟩ (.int .i64 tl)).setCell ⟨w1.heap.size, 3, none⟩ (.int .i64 (te : Int))) = X54 := ⟨_, rfl⟩
              have hs_ := kp4 hX54
              have o54_0 := c5_0 Hs
              have r54_0 := f5_0 Hs
              have o54_1 := c5_1 Hs
              have r54_1 := f5_1 Hs
              have o54_2 := c5_2 Hs
              have r54_2 := f5_2 Hs
              have o54_3 := c5_3 Hs
              have r54_3 := f5_3 Hs
              replace Hs := put4_5 Hs hX54
              replace Hl := bk2 Hl hs_ (by omega)
              replace Hr := bk2 Hr hs_ (by omega)
              replace HO := ow2 HO hs_ (by omega)
              replace HBW := bw2 HBW hs_ (by omega)
              clear hs_
              obtain ⟨u55_0, u55_1, u55_2, u55_3, u55_4⟩ := cel5 Hs
              have hown := HO.out
              have hsz9 : w1.heap.size + 1 ≤ X54.heap.size := Hs.out.lt
              go_wp2_with (at_builtin; refine wpList_append_own _ rfl _ _ 40 rfl (w1.heap.size + 1) 73 i0 (.agg #[.bool false, .int .i64 0, .int .i64 0]) 3 24 Tryz.underlying40 hi hz0 hz1 hz2 rfl (by decide) _ _ _ rfl (hown.alloc _) ⟨X54.heap.size, 0, none⟩ 1 1 [.bool false, .int .i64 tv, .int .i64 tl] rfl rfl ?c1 ?c2 ?c3 ?c4 ?c5 ?_)
              case c1 => exact cells_new _ _ _
              case c2 => simp [Value.oneCell']
              case c3 => unfold maxLen; omega
              case c4 => omega
              case c5 => simp; omega
              intro v' w6 hown' hgrow _
              have hbg : Below (w1.heap.size + 1) X54 w6 := ((Below.refl (w1.heap.size + 1) X54).alloc hsz9 _).grown hgrow (by simp; omega) (fun k he => (hown.lt k he).1)
              have ho_ : w6.ownsRow (w1.heap.size + 1) 73 3 v' (s.length + 1) (fcells svs (s ++ [(⟨false, tv, tl⟩ : St.Slot)])) := by
                rw [fcells_snoc]
                exact hown'
              have hl_ := Hl.out.below hbg (by omega)
              have hr_ := Hr.out.below hbg (by omega)
              have hs_ := Hs.out.below hbg (by omega)
              have hb_ := HBW.out.trans (hbg.mono (show w.heap.size ≤ w1.heap.size + 1 by omega))
              obtain ⟨A2, cap2, rfl⟩ := ownT_slice ho_
              clear o54_0 r54_0 o54_1 r54_1 o54_2 r54_2 o54_3 r54_3 u55_0 u55_1 u55_2 u55_3 u55_4
              clear HO Hl Hr Hs HBW hown hown' hgrow hbg hsz9
              have HO := Lib.hid ho_
              have Hl := Lib.hid hl_
              have Hr := Lib.hid hr_
              have Hs := Lib.hid hs_
              have HBW := Lib.hid hb_
              clear ho_ hl_ hr_ hs_ hb_
              obtain ⟨X56, hX56⟩ : ∃ X56, (w6.setCell ⟨w1.heap.size, 4, none⟩ (.slice A2 (s.length + 1) cap2)) = X56 := ⟨_, rfl⟩
              have hs_ := kp1 hX56
              have o56_4 := c5_4 Hs
              have r56_4 := f5_4 Hs
              replace Hs := p5_4 Hs hX56
              replace Hl := bk2 Hl hs_ (by omega)
              replace Hr := bk2 Hr hs_ (by omega)
              replace HO := ow2 HO hs_ (by omega)
              replace HBW := bw2 HBW hs_ (by omega)
              clear hs_
              obtain ⟨u57_0, u57_1, u57_2, u57_3, u57_4⟩ := cel5 Hs
              go_wp2_with (fail)
              refine (HCM.out X56 HBW.out).mono ?_
              rintro e' w7 ⟨rfl, hb⟩
              replace Hl := bk1 Hl hb
              replace Hr := bk1 Hr hb
              replace Hs := bk1 Hs hb
              replace HO := ow1 HO hb
              replace HBW := bw1 HBW hb
              clear hb
              clear o56_4 r56_4 u57_0 u57_1 u57_2 u57_3 u57_4
              cases bc with
              | true =>
                have hrz := HRR.out
                rw [if_pos rfl] at hrz
                clear HRR
                have HRR := Lib.hid hrz
                have hcn := HCN.out rfl
                clear HCN
                have HCN := Lib.hid hcn
                clear hrz hcn
                obtain ⟨u58_0, u58_1, u58_2, u58_3, u58_4⟩ := cel5 Hs
                obtain ⟨X59, hX59⟩ : ∃ X59, (w7.setCell ⟨w1.heap.size, 0, none⟩ (.int .i64 ((ti : Int) + 1))) = X59 := ⟨_, rfl⟩
                have hs_ := kp1 hX59
                have o59_0 := c5_0 Hs
                have r59_0 := f5_0 Hs
                replace Hs := p5_0 Hs hX59
                replace Hl := bk2 Hl hs_ (by omega)
                replace Hr := bk2 Hr hs_ (by omega)
                replace HO := ow2 HO hs_ (by omega)
                replace HBW := bw2 HBW hs_ (by omega)
                clear hs_
                have HM2 := Lib.hid (slen_of (Hs.out.cell 4))
                go_wp2
                go_roundw
                case rel => exact ⟨⟨ti + 1, ⟨tv, tl⟩, te⟩, s ++ [⟨false, tv, tl⟩], _, n', Lib.hid ⟨⟨HBW.out, Hl.out, Hr.out, Hs.out, by rw [List.length_append]; exact HO.out⟩, HCN.out, by have := HNS.out; simp only [List.length_append, List.length_cons, List.length_nil]; omega, by simp only [List.length_append, List.length_cons, List.length_nil]; omega, HRR.out⟩⟩
                case measure => rw [HM1.out, HM2.out]; omega
              | false =>
                have hrz := HRR.out
                rw [if_neg (by decide)] at hrz
                have HRZ := Lib.hid hrz.symm
                clear hrz HRR
                obtain ⟨u58_0, u58_1, u58_2, u58_3, u58_4⟩ := cel5 Hs
                go_wp2_with (fail)
                refine (HMS.out w7 HBW.out).mono ?_
                rintro e' w8 ⟨rfl, hb⟩
                replace Hl := bk1 Hl hb
                replace Hr := bk1 Hr hb
                replace Hs := bk1 Hs hb
                replace HO := ow1 HO hb
                replace HBW := bw1 HBW hb
                clear hb
                clear u58_0 u58_1 u58_2 u58_3 u58_4
                dsimp only
                obtain ⟨X59, hX59⟩ : ∃ X59, ((((w8.setCell ⟨w1.heap.size, 0, none⟩ (.int .i64 (mi : Int))).setCell ⟨w1.heap.size, 1, none⟩ (.int .i64 mv)).setCell ⟨w1.heap.size, 2, none⟩ (.int .i64 ml)).setCell ⟨w1.heap.size, 3, none⟩ (.int .i64 (me : Int))) = X59 := ⟨_, rfl⟩
                have hs_ := kp4 hX59
                have o59_0 := c5_0 Hs
                have r59_0 := f5_0 Hs
                have o59_1 := c5_1 Hs
                have r59_1 := f5_1 Hs
                have o59_2 := c5_2 Hs
                have r59_2 := f5_2 Hs
                have o59_3 := c5_3 Hs
                have r59_3 := f5_3 Hs
                replace Hs := put4_5 Hs hX59
                replace Hl := bk2 Hl hs_ (by omega)
                replace Hr := bk2 Hr hs_ (by omega)
                replace HO := ow2 HO hs_ (by omega)
                replace HBW := bw2 HBW hs_ (by omega)
                clear hs_
                obtain ⟨u60_0, u60_1, u60_2, u60_3, u60_4⟩ := cel5 Hs
                obtain ⟨X61, hX61⟩ : ∃ X61, (((((X59.setCell ⟨w.heap.size + 1 + 1, 0, none⟩ (.int .i64 (mi : Int))).setCell ⟨w.heap.size + 1 + 1, 1, none⟩ (.int .i64 mv)).setCell ⟨w.heap.size + 1 + 1, 2, none⟩ (.int .i64 ml)).setCell ⟨w.heap.size + 1 + 1, 3, none⟩ (.int .i64 (me : Int))).setCell ⟨w.heap.size + 1 + 1, 4, none⟩ (.slice A2 (s.length + 1) cap2)) = X61 := ⟨_, rfl⟩
                have hs_ := kp5 hX61
                have o61_0 := c5_0 Hr
                have r61_0 := f5_0 Hr
                have o61_1 := c5_1 Hr
                have r61_1 := f5_1 Hr
                have o61_2 := c5_2 Hr
                have r61_2 := f5_2 Hr
                have o61_3 := c5_3 Hr
                have r61_3 := f5_3 Hr
                have o61_4 := c5_4 Hr
                have r61_4 := f5_4 Hr
                replace Hr := put5_5 Hr hX61
                clear Hl Hs
                replace HO := ow2 HO hs_ (by omega)
                replace HBW := bw2 HBW hs_ (by omega)
                clear hs_
                obtain ⟨q0, q1, q2, q3, q4⟩ := cel5 Hr
                go_wp2_with (exact bodyPost_ret (v := .agg #[.int .i64 (mi : Int), .int .i64 mv, .int .i64 ml, .int .i64 (me : Int), .slice A2 (s.length + 1) cap2]) (by simp [results, Tryz.results91, go_sem, q0, q1, q2, q3, q4]) rfl ⟨_, by rw [HRZ.out]; try rfl, by rw [HRZ.out]; exact KN.less (KN.own (base := w1.heap.size + 1) (e := 73) (sz := 3) (by rw [List.length_append]; exact HO.out)) (show w.heap.size ≤ w1.heap.size + 1 by omega), HBW.out⟩)
            | true =>
              obtain rfl : b1 = true := by rw [HST.out]; rfl
              clear HST
              have hnx : ({ i := ti, a := { v := tv, l := tl }, e := te } : St.Rp) = St.atomR names l ⟨i + 1, ⟨av, al⟩, 0⟩ := by rw [HNX.out]; rfl
              clear HNX
              have HNX := Lib.hid hnx
              clear hnx
              have HAT : Hid (∀ W, Below w.heap.size w W → Calls Tryz.prog 89 #[.agg #[.slice N names.length c1, .slice U up.length c2], .slice A ln c, .agg #[.int .i64 ((i : Int) + 1), .int .i64 av, .int .i64 al, .int .i64 0]] W (fun e w' => e = .returned (.agg #[.int .i64 (ti : Int), .int .i64 tv, .int .i64 tl, .int .i64 (te : Int)]) ∧ Below W.heap.size W w')) := Lib.hid fun W hb => by
                have h := rAtom_any c ⟨i + 1, ⟨av, al⟩, 0⟩ W ((HLA.out.below hb).more hb.size) ((H.out.below hb).more hb.size) HF.out (HPS.out rfl) HLN.out
                rw [HLE.out, ← HNX.out] at h
                exact h
              have HCM : Hid (∀ W, Below w.heap.size w W → Calls Tryz.prog 116 #[.slice A ln c, .agg #[.int .i64 (ti : Int), .int .i64 tv, .int .i64 tl, .int .i64 (te : Int)], .int .i64 3, .string { data := #[44] }] W (Tells W (St.hereR l ⟨ti, ⟨tv, tl⟩, te⟩ 3 St.bComma))) := Lib.hid fun W hb => by
                have h := rHere_any c 3 St.bComma ⟨ti, ⟨tv, tl⟩, te⟩ W ((H.out.below hb).more hb.size) HPQ.out
                rw [HLE.out] at h
                exact h
              have HMS : Hid (∀ W, Below w.heap.size w W → Calls Tryz.prog 88 #[.slice A ln c, .agg #[.int .i64 (ti : Int), .int .i64 tv, .int .i64 tl, .int .i64 (te : Int)], .int .i64 3, .string { data := #[59] }] W (Told9 W (St.mustR l ⟨ti, ⟨tv, tl⟩, te⟩ 3 Cd.bSemi))) := Lib.hid fun W hb => by
                have h := rMust_any c 3 Cd.bSemi ⟨ti, ⟨tv, tl⟩, te⟩ W ((H.out.below hb).more hb.size) HPQ.out HLN.out
                rw [HLE.out] at h
                exact h
              generalize St.mustR l ⟨ti, ⟨tv, tl⟩, te⟩ 3 Cd.bSemi = q3 at *
              obtain ⟨mi, ⟨mv, ml⟩, me⟩ := q3
              have HMS : Hid (∀ W, Below w.heap.size w W → Calls Tryz.prog 88 #[.slice A ln c, .agg #[.int .i64 (ti : Int), .int .i64 tv, .int .i64 tl, .int .i64 (te : Int)], .int .i64 3, .string { data := #[59] }] W (fun e w' => e = .returned (.agg #[.int .i64 (mi : Int), .int .i64 mv, .int .i64 ml, .int .i64 (me : Int)]) ∧ Below W.heap.size W w')) := Lib.hid HMS.out
              have hcn : St.hereR l ⟨ti, ⟨tv, tl⟩, te⟩ 3 St.bComma = true → ti + 1 < l.length := fun hh => hereR_next HF.out HPQ.out (show (3 : Int) ≠ 0 by decide) hh
              have HCN := Lib.hid hcn
              clear hcn
              generalize St.hereR l ⟨ti, ⟨tv, tl⟩, te⟩ 3 St.bComma = bc at *
              have htb : ti < 100000 := by have := HPQ.out; have := HLN.out; omega
              obtain ⟨u51_0, u51_1, u51_2, u51_3, u51_4⟩ := cel5 Hs
              go_wp2_with (fail)
              refine (HRT.out wr HBW.out).mono ?_
              rintro e' w4 ⟨rfl, hb⟩
              replace Hl := bk1 Hl hb
              replace Hr := bk1 Hr hb
              replace Hs := bk1 Hs hb
              replace HO := ow1 HO hb
              replace HBW := bw1 HBW hb
              clear hb
              clear u51_0 u51_1 u51_2 u51_3 u51_4
              obtain ⟨u52_0, u52_1, u52_2, u52_3, u52_4⟩ := cel5 Hs
              obtain ⟨X53, hX53⟩ : ∃ X53, (w4.setCell ⟨w1.heap.size, 0, none⟩ (.int .i64 ((i : Int) + 1))) = X53 := ⟨_, rfl⟩
              have hs_ := kp1 hX53
              have o53_0 := c5_0 Hs
              have r53_0 := f5_0 Hs
              replace Hs := p5_0 Hs hX53
              replace Hl := bk2 Hl hs_ (by omega)
              replace Hr := bk2 Hr hs_ (by omega)
              replace HO := ow2 HO hs_ (by omega)
              replace HBW := bw2 HBW hs_ (by omega)
              clear hs_
              obtain ⟨u54_0, u54_1⟩ := cel2 Hl
              obtain ⟨u55_0, u55_1, u55_2, u55_3, u55_4⟩ := cel5 Hs
              go_wp2_with (fail)
              refine (HAT.out X53 HBW.out).mono ?_
              rintro e' w5 ⟨rfl, hb⟩
              replace Hl := bk1 Hl hb
              replace Hr := bk1 Hr hb
              replace Hs := bk1 Hs hb
              replace HO := ow1 HO hb
              replace HBW := bw1 HBW hb
              clear hb
              clear u52_0 u52_1 u52_2 u52_3 u52_4 o53_0 r53_0 u54_0 u54_1 u55_0 u55_1 u55_2 u55_3 u55_4
              dsimp only
              obtain ⟨X56, hX56⟩ : ∃ X56, ((((w5.setCell ⟨w1.heap.size, 0, none⟩ (.int .i64 (ti : Int))).setCell ⟨w1.heap.size, 1, none⟩ (.int .i64 tv)).setCell ⟨w1.heap.size, 2, none⟩ (.int .i64 tl)).setCell ⟨w1.heap.size, 3, none⟩ (.int .i64 (te : Int))) = X56 := ⟨_, rfl⟩
              have hs_ := kp4 hX56
              have o56_0 := c5_0 Hs
              have r56_0 := f5_0 Hs
              have o56_1 := c5_1 Hs
              have r56_1 := f5_1 Hs
              have o56_2 := c5_2 Hs
              have r56_2 := f5_2 Hs
              have o56_3 := c5_3 Hs
              have r56_3 := f5_3 Hs
              replace Hs := put4_5 Hs hX56
              replace Hl := bk2 Hl hs_ (by omega)
              replace Hr := bk2 Hr hs_ (by omega)
              replace HO := ow2 HO hs_ (by omega)
              replace HBW := bw2 HBW hs_ (by omega)
              clear hs_
              obtain ⟨u57_0, u57_1, u57_2, u57_3, u57_4⟩ := cel5 Hs
              have hown := HO.out
              have hsz9 : w1.heap.size + 1 ≤ X56.heap.size := Hs.out.lt
              go_wp2_with (at_builtin; refine wpList_append_own _ rfl _ _ 40 rfl (w1.heap.size + 1) 73 i0 (.agg #[.bool false, .int .i64 0, .int .i64 0]) 3 24 Tryz.underlying40 hi hz0 hz1 hz2 rfl (by decide) _ _ _ rfl (hown.alloc _) ⟨X56.heap.size, 0, none⟩ 1 1 [.bool true, .int .i64 tv, .int .i64 tl] rfl rfl ?c1 ?c2 ?c3 ?c4 ?c5 ?_)
              case c1 => exact cells_new _ _ _
              case c2 => simp [Value.oneCell']
              case c3 => unfold maxLen; omega
              case c4 => omega
              case c5 => simp; omega
              intro v' w6 hown' hgrow _
              have hbg : Below (w1.heap.size + 1) X56 w6 := ((Below.refl (w1.heap.size + 1) X56).alloc hsz9 _).grown hgrow (by simp; omega) (fun k he => (hown.lt k he).1)
              have ho_ : w6.ownsRow (w1.heap.size + 1) 73 3 v' (s.length + 1) (fcells svs (s ++ [(⟨true, tv, tl⟩ : St.Slot)])) := by
                rw [fcells_snoc]
                exact hown'
              have hl_ := Hl.out.below hbg (by omega)
              have hr_ := Hr.out.below hbg (by omega)
              have hs_ := Hs.out.below hbg (by omega)
              have hb_ := HBW.out.trans (hbg.mono (show w.heap.size ≤ w1.heap.size + 1 by omega))
              obtain ⟨A2, cap2, rfl⟩ := ownT_slice ho_
              clear o56_0 r56_0 o56_1 r56_1 o56_2 r56_2 o56_3 r56_3 u57_0 u57_1 u57_2 u57_3 u57_4
              clear HO Hl Hr Hs HBW hown hown' hgrow hbg hsz9
              have HO := Lib.hid ho_
              have Hl := Lib.hid hl_
              have Hr := Lib.hid hr_
              have Hs := Lib.hid hs_
              have HBW := Lib.hid hb_
              clear ho_ hl_ hr_ hs_ hb_
              obtain ⟨X58, hX58⟩ : ∃ X58, (w6.setCell ⟨w1.heap.size, 4, none⟩ (.slice A2 (s.length + 1) cap2)) = X58 := ⟨_, rfl⟩
              have hs_ := kp1 hX58
              have o58_4 := c5_4 Hs
              have r58_4 := f5_4 Hs
              replace Hs := p5_4 Hs hX58
              replace Hl := bk2 Hl hs_ (by omega)
              replace Hr := bk2 Hr hs_ (by omega)
              replace HO := ow2 HO hs_ (by omega)
              replace HBW := bw2 HBW hs_ (by omega)
              clear hs_
              obtain ⟨u59_0, u59_1, u59_2, u59_3, u59_4⟩ := cel5 Hs
              go_wp2_with (fail)
              refine (HCM.out X58 HBW.out).mono ?_
              rintro e' w7 ⟨rfl, hb⟩
              replace Hl := bk1 Hl hb
              replace Hr := bk1 Hr hb
              replace Hs := bk1 Hs hb
              replace HO := ow1 HO hb
              replace HBW := bw1 HBW hb
              clear hb
              clear o58_4 r58_4 u59_0 u59_1 u59_2 u59_3 u59_4
              cases bc with
              | true =>
                have hrz := HRR.out
                rw [if_pos rfl] at hrz
                clear HRR
                have HRR := Lib.hid hrz
                have hcn := HCN.out rfl
                clear HCN
                have HCN := Lib.hid hcn
                clear hrz hcn
                obtain ⟨u60_0, u60_1, u60_2, u60_3, u60_4⟩ := cel5 Hs
                obtain ⟨X61, hX61⟩ : ∃ X61, (w7.setCell ⟨w1.heap.size, 0, none⟩ (.int .i64 ((ti : Int) + 1))) = X61 := ⟨_, rfl⟩
                have hs_ := kp1 hX61
                have o61_0 := c5_0 Hs
                have r61_0 := f5_0 Hs
                replace Hs := p5_0 Hs hX61
                replace Hl := bk2 Hl hs_ (by omega)
                replace Hr := bk2 Hr hs_ (by omega)
                replace HO := ow2 HO hs_ (by omega)
                replace HBW := bw2 HBW hs_ (by omega)
                clear hs_
                have HM2 := Lib.hid (slen_of (Hs.out.cell 4))
                go_wp2
                go_roundw
                case rel => exact ⟨⟨ti + 1, ⟨tv, tl⟩, te⟩, s ++ [⟨true, tv, tl⟩], _, n', Lib.hid ⟨⟨HBW.out, Hl.out, Hr.out, Hs.out, by rw [List.length_append]; exact HO.out⟩, HCN.out, by have := HNS.out; simp only [List.length_append, List.length_cons, List.length_nil]; omega, by simp only [List.length_append, List.length_cons, List.length_nil]; omega, HRR.out⟩⟩
                case measure => rw [HM1.out, HM2.out]; omega
              | false =>
                have hrz := HRR.out
                rw [if_neg (by decide)] at hrz
                have HRZ := Lib.hid hrz.symm
                clear hrz HRR
                obtain ⟨u60_0, u60_1, u60_2, u60_3, u60_4⟩ := cel5 Hs
                go_wp2_with (fail)
                refine (HMS.out w7 HBW.out).mono ?_
                rintro e' w8 ⟨rfl, hb⟩
                replace Hl := bk1 Hl hb
                replace Hr := bk1 Hr hb
                replace Hs := bk1 Hs hb
                replace HO := ow1 HO hb
                replace HBW := bw1 HBW hb
                clear hb
                clear u60_0 u60_1 u60_2 u60_3 u60_4
                dsimp only
                obtain ⟨X61, hX61⟩ : ∃ X61, ((((w8.setCell ⟨w1.heap.size, 0, none⟩ (.int .i64 (mi : Int))).setCell ⟨w1.heap.size, 1, none⟩ (.int .i64 mv)).setCell ⟨w1.heap.size, 2, none⟩ (.int .i64 ml)).setCell ⟨w1.heap.size, 3, none⟩ (.int .i64 (me : Int))) = X61 := ⟨_, rfl⟩
                have hs_ := kp4 hX61
                have o61_0 := c5_0 Hs
                have r61_0 := f5_0 Hs
                have o61_1 := c5_1 Hs
                have r61_1 := f5_1 Hs
                have o61_2 := c5_2 Hs
                have r61_2 := f5_2 Hs
                have o61_3 := c5_3 Hs
                have r61_3 := f5_3 Hs
                replace Hs := put4_5 Hs hX61
                replace Hl := bk2 Hl hs_ (by omega)
                replace Hr := bk2 Hr hs_ (by omega)
                replace HO := ow2 HO hs_ (by omega)
                replace HBW := bw2 HBW hs_ (by omega)
                clear hs_
                obtain ⟨u62_0, u62_1, u62_2, u62_3, u62_4⟩ := cel5 Hs
                obtain ⟨X63, hX63⟩ : ∃ X63, (((((X61.setCell ⟨w.heap.size + 1 + 1, 0, none⟩ (.int .i64 (mi : Int))).setCell ⟨w.heap.size + 1 + 1, 1, none⟩ (.int .i64 mv)).setCell ⟨w.heap.size + 1 + 1, 2, none⟩ (.int .i64 ml)).setCell ⟨w.heap.size + 1 + 1, 3, none⟩ (.int .i64 (me : Int))).setCell ⟨w.heap.size + 1 + 1, 4, none⟩ (.slice A2 (s.length + 1) cap2)) = X63 := ⟨_, rfl⟩
                have hs_ := kp5 hX63
                have o63_0 := c5_0 Hr
                have r63_0 := f5_0 Hr
                have o63_1 := c5_1 Hr
                have r63_1 := f5_1 Hr
                have o63_2 := c5_2 Hr
                have r63_2 := f5_2 Hr
                have o63_3 := c5_3 Hr
                have r63_3 := f5_3 Hr
                have o63_4 := c5_4 Hr
                have r63_4 := f5_4 Hr
                replace Hr := put5_5 Hr hX63
                clear Hl Hs
                replace HO := ow2 HO hs_ (by omega)
                replace HBW := bw2 HBW hs_ (by omega)
                clear hs_
                obtain ⟨q0, q1, q2, q3, q4⟩ := cel5 Hr
                go_wp2_with (exact bodyPost_ret (v := .agg #[.int .i64 (mi : Int), .int .i64 mv, .int .i64 ml, .int .i64 (me : Int), .slice A2 (s.length + 1) cap2]) (by simp [results, Tryz.results91, go_sem, q0, q1, q2, q3, q4]) rfl ⟨_, by rw [HRZ.out]; try rfl, by rw [HRZ.out]; exact KN.less (KN.own (base := w1.heap.size + 1) (e := 73) (sz := 3) (by rw [List.length_append]; exact HO.out)) (show w.heap.size ≤ w1.heap.size + 1 by omega), HBW.out⟩)
      · have hrz := HRR.out
        rw [St.loopR_bad he] at hrz
        have HRZ := Lib.hid hrz.symm
        have hz9 : ((e : Int) == 0) = false := by rw [beq_eq_false_iff_ne]; omega
        clear hrz he
        obtain ⟨u51_0, u51_1, u51_2, u51_3, u51_4⟩ := cel5 Hs
        obtain ⟨X52, hX52⟩ : ∃ X52, (((((wr.setCell ⟨w.heap.size + 1 + 1, 0, none⟩ (.int .i64 (i : Int))).setCell ⟨w.heap.size + 1 + 1, 1, none⟩ (.int .i64 av)).setCell ⟨w.heap.size + 1 + 1, 2, none⟩ (.int .i64 al)).setCell ⟨w.heap.size + 1 + 1, 3, none⟩ (.int .i64 (e : Int))).setCell ⟨w.heap.size + 1 + 1, 4, none⟩ (.slice A1 s.length cap)) = X52 := ⟨_, rfl⟩
        have hs_ := kp5 hX52
        have o52_0 := c5_0 Hr
        have r52_0 := f5_0 Hr
        have o52_1 := c5_1 Hr
        have r52_1 := f5_1 Hr
        have o52_2 := c5_2 Hr
        have r52_2 := f5_2 Hr
        have o52_3 := c5_3 Hr
        have r52_3 := f5_3 Hr
        have o52_4 := c5_4 Hr
        have r52_4 := f5_4 Hr
        replace Hr := put5_5 Hr hX52
        clear Hl Hs
        replace HO := ow2 HO hs_ (by omega)
        replace HBW := bw2 HBW hs_ (by omega)
        clear hs_
        obtain ⟨q0, q1, q2, q3, q4⟩ := cel5 Hr
        go_wp2_with (exact bodyPost_ret (v := .agg #[.int .i64 (i : Int), .int .i64 av, .int .i64 al, .int .i64 (e : Int), .slice A1 s.length cap]) (by simp [results, Tryz.results91, go_sem, q0, q1, q2, q3, q4]) rfl ⟨_, by rw [HRZ.out]; try rfl, by rw [HRZ.out]; exact KN.less (KN.own HO.out) (by omega), HBW.out⟩)
end Go.Proofs.YtipbilmnknmhmaaGreatDoor

/- The reference's atoms (by gen_stmx.py). -/
namespace Go.Proofs.YtipbilmnknmhmaaGreatDoor
set_option maxRecDepth 100000
open Go.RowKit Go.Shelf Go.Sort
attribute [local go_sem] Oper.semAt_some
theorem takeA_next {α β : Type} (f : α → β) {l : List α} {k : Nat} {x : α} (h : l[k]? = some x) : (l.map f).take (k + 1) = (l.map f).take k ++ [f x] := by
  obtain ⟨hk, rfl⟩ := List.getElem?_eq_some_iff.1 h
  rw [List.take_succ_eq_append_getElem (by simpa using hk), List.getElem_map]
set_option maxHeartbeats 8000000 in
theorem rAtoms9_any {A : Option Addr} {l : List St.Slot} (c : Nat) (w : World) (hr : Row w w.heap.size A (fcells svs l)) (hl : l.length ≤ 1000) :
    Calls Tryz.prog 92 #[.slice A l.length c] w fun e w' => ∃ x, e = .returned x ∧ KN avs w.heap.size w' x (l.map St.toAtom) ∧ Below w.heap.size w w' := by
  obtain ⟨i0, hi, hz0, hz1, hz2⟩ := info_parts Tryz.infoAtom
  have H := Lib.hid hr
  obtain ⟨n, hn⟩ : ∃ n, l.length = n := ⟨_, rfl⟩
  have HN := Lib.hid hn
  have hb0 : Below w.heap.size w (w.alloc (.cells #[] 38)) := (Below.refl _ w).alloc (Nat.le_refl _) _
  have ho0 := World.ownsRow_made (e := 38) (size := 2) (base := w.heap.size) w #[] 0 (by simp) (by decide) rfl
  have HB0 := Lib.hid hb0
  have HO0 := Lib.hid ho0
  rw [hn] at hl ⊢
  clear hr hn hb0 ho0
  go_enter Tryz.func92, Tryz.ntmps92
  go_wp2
  go_loopw [3, 9] (fun v i wr => ∃ k : Nat, k ≤ n ∧ i = .int .i64 k ∧ Hid (Below w.heap.size w wr) ∧ Hid (wr.ownsRow w.heap.size 38 2 v k (fcells avs ((l.map St.toAtom).take k)))) (fun _ i _ => n - (intOf i).toNat)
  case atStart => exact ⟨0, Nat.zero_le _, rfl, HB0, HO0⟩
  case round =>
    clear HB0 HO0
    obtain ⟨k, hk, rfl, HBW, HO⟩ := hrel
    obtain ⟨A1, cap, rfl⟩ := ownT_slice HO.out
    by_cases hlt : k < n
    · obtain ⟨ad, x, rfl, hxb, hx, t0, t1, t2⟩ := srow_at (H.out.below HBW.out) (show k < l.length by rw [HN.out]; exact hlt)
      have hz := HBW.out.size
      have hxb2 : (ad.add (k * 3)).block < wr.heap.size := by rw [add_block]; omega
      have hnx := takeA_next St.toAtom hx
      obtain ⟨xr, xv, xl⟩ := x
      have HNX := Lib.hid hnx
      dsimp only at t0 t1 t2
      have hal := (Below.refl wr.heap.size wr).alloc (Nat.le_refl _) (.cells #[.bool xr, .int .i64 xv, .int .i64 xl] 73)
      have hbw1 := HBW.out.trans (hal.mono HBW.out.size)
      have hbx := Blk.new wr 73 #[.bool xr, .int .i64 xv, .int .i64 xl]
      have hown := HO.out.alloc (.cells #[.bool xr, .int .i64 xv, .int .i64 xl] 73)
      obtain ⟨W1, hW1⟩ : ∃ W1, wr.alloc (.cells #[.bool xr, .int .i64 xv, .int .i64 xl] 73) = W1 := ⟨_, rfl⟩
      rw [hW1] at hbw1 hbx hown
      have s0 := hbx.cell 0
      have s1 := hbx.cell 1
      have s2 := hbx.cell 2
      have hbl := hbx.lt
      have hsz := hbw1.size
      have HB1 := Lib.hid hbw1
      clear hx hnx hal hbw1 hbx HO HBW hz hxb
      go_wp2_with (at_builtin; refine wpList_append_own _ rfl _ _ 39 rfl w.heap.size 38 i0 (.agg #[.int .i64 0, .int .i64 0]) 2 16 Tryz.underlying39 hi hz0 hz1 hz2 rfl (by decide) _ _ _ rfl (hown.alloc _) ⟨W1.heap.size, 0, none⟩ 1 1 [.int .i64 xv, .int .i64 xl] rfl rfl ?c1 ?c2 ?c3 ?c4 ?c5 ?_)
      case c1 => exact cells_new _ _ _
      case c2 => simp [Value.oneCell']
      case c3 => unfold maxLen; omega
      case c4 => omega
      case c5 => simp; omega
      intro v' w' hown' hgrow _
      have hbg : Below w.heap.size W1 w' := ((Below.refl w.heap.size W1).alloc hsz _).grown hgrow (by simp; omega) (fun k he => (hown.lt k he).1)
      have HB9 := Lib.hid (HB1.out.trans hbg)
      have HO9 : Hid (w'.ownsRow w.heap.size 38 2 v' (k + 1) (fcells avs ((l.map St.toAtom).take (k + 1)))) := Lib.hid (by rw [HNX.out, fcells_snoc]; exact hown')
      clear hown hown' hgrow hbg
      go_wp2
      go_roundw
      case rel => exact ⟨k + 1, by omega, by go_num, HB9, HO9⟩
      case measure => simp [intOf]; omega
    · obtain rfl : k = n := by omega
      have ho := HO.out
      rw [List.take_of_length_le (by rw [List.length_map, HN.out]; exact Nat.le_refl _)] at ho
      have HK : Hid (KN avs w.heap.size wr (.slice A1 k cap) (l.map St.toAtom)) := Lib.hid (KN.own (base := w.heap.size) (e := 38) (sz := 2) (by rw [List.length_map, HN.out]; exact ho))
      clear ho HO
      go_wp2
      go_ret
      exact ⟨_, rfl, HK.out, HBW.out⟩
end Go.Proofs.YtipbilmnknmhmaaGreatDoor

/- Which states may be (by gen_stmg.py): walks of isLabel, isAtom, isPlace, atomOf, isSlot, allRight, Right. -/
namespace Go.Proofs.YtipbilmnknmhmaaGreatDoor
set_option maxRecDepth 100000
open Go.RowKit Go.Shelf Go.Sort
attribute [local go_sem] Oper.semAt_some
section
variable {v : Value} {names : List ByteArray} {up : List Nat}
set_option maxHeartbeats 2000000 in
theorem sisLabel_any (a : Int) (w : World) (h : IsLat w w.heap.size v names up) : Calls Tryz.prog 82 #[v, .int .i64 a] w (Tells w (St.labB up.length a)) := by
  obtain ⟨⟨N, U, c1, c2, rfl, hN, hU⟩, hsh, hfew, hcaps⟩ := h
  clear hN hU
  have HB0 := Lib.hid ((Below.refl _ w).alloc (Nat.le_refl _) (.cells #[.slice N names.length c1, .slice U up.length c2] 25))
  by_cases h0 : 0 ≤ a
  · have hr : St.labB up.length a = decide (a < (up.length : Int)) := by unfold St.labB; exact decide_eq_decide.2 ⟨fun h => h.2, fun h => ⟨h0, h⟩⟩
    rw [hr]
    clear hr
    go_enter Tryz.func82, Tryz.ntmps82
    go_wp2
    go_ret
    exact ⟨rfl, HB0.out⟩
  · have hr : St.labB up.length a = false := by unfold St.labB; exact decide_eq_false fun h => h0 h.1
    rw [hr]
    clear hr
    go_enter Tryz.func82, Tryz.ntmps82
    go_wp2
    go_ret
    exact ⟨rfl, HB0.out⟩
set_option maxHeartbeats 2000000 in
theorem sisPlace_any (x : St.Atom) (w : World) (h : IsLat w w.heap.size v names up) : Calls Tryz.prog 49 #[v, .agg #[.int .i64 x.v, .int .i64 x.l]] w (Tells w (St.pcB x.v && St.labB up.length x.l)) := by
  obtain ⟨⟨N, U, c1, c2, rfl, hN, hU⟩, hsh, hfew, hcaps⟩ := id h
  obtain ⟨a, l⟩ := x
  dsimp only
  have hb0 := (((Below.refl _ w).alloc (Nat.le_refl _) (.cells #[.slice N names.length c1, .slice U up.length c2] 25)).alloc (by simp) (.cells #[.int .i64 a, .int .i64 l] 38))
  have HL := Lib.hid (sisLabel_any l _ ((h.below hb0).more hb0.size))
  have HB0 := Lib.hid hb0
  clear h hN hU hb0
  by_cases h0 : 0 ≤ a
  · by_cases h1 : a ≤ 12
    · have hr : St.pcB a = true := by unfold St.pcB; exact decide_eq_true ⟨h0, h1⟩
      rw [hr, Bool.true_and]
      generalize St.labB up.length l = b at *
      clear hr
      go_enter Tryz.func49, Tryz.ntmps49
      go_wp2_with (fail)
      refine HL.out.mono ?_
      rintro e w1 ⟨rfl, hb1⟩
      have HB1 := Lib.hid (HB0.out.trans (hb1.mono HB0.out.size))
      clear hb1 HL
      go_wp2
      go_ret
      exact ⟨rfl, HB1.out⟩
    · have hr : St.pcB a = false := by unfold St.pcB; exact decide_eq_false fun h => h1 h.2
      rw [hr, Bool.false_and]
      clear hr HL
      go_enter Tryz.func49, Tryz.ntmps49
      go_wp2
      go_ret
      exact ⟨rfl, HB0.out⟩
  · have hr : St.pcB a = false := by unfold St.pcB; exact decide_eq_false fun h => h0 h.1
    rw [hr, Bool.false_and]
    clear hr HL
    go_enter Tryz.func49, Tryz.ntmps49
    go_wp2
    go_ret
    exact ⟨rfl, HB0.out⟩
set_option maxHeartbeats 2000000 in
theorem sisAtom_any (x : St.Atom) (w : World) (h : IsLat w w.heap.size v names up) : Calls Tryz.prog 51 #[v, .agg #[.int .i64 x.v, .int .i64 x.l]] w (Tells w (St.valB x.v && St.labB up.length x.l)) := by
  obtain ⟨⟨N, U, c1, c2, rfl, hN, hU⟩, hsh, hfew, hcaps⟩ := id h
  obtain ⟨a, l⟩ := x
  dsimp only
  have hb0 := (((Below.refl _ w).alloc (Nat.le_refl _) (.cells #[.slice N names.length c1, .slice U up.length c2] 25)).alloc (by simp) (.cells #[.int .i64 a, .int .i64 l] 38))
  have HL := Lib.hid (sisLabel_any l _ ((h.below hb0).more hb0.size))
  have HB0 := Lib.hid hb0
  clear h hN hU hb0
  by_cases h0 : -20 ≤ a
  · by_cases h1 : a ≤ 20
    · have hr : St.valB a = true := by unfold St.valB; exact decide_eq_true ⟨h0, h1⟩
      rw [hr, Bool.true_and]
      generalize St.labB up.length l = b at *
      clear hr
      go_enter Tryz.func51, Tryz.ntmps51
      go_wp2_with (fail)
      refine HL.out.mono ?_
      rintro e w1 ⟨rfl, hb1⟩
      have HB1 := Lib.hid (HB0.out.trans (hb1.mono HB0.out.size))
      clear hb1 HL
      go_wp2
      go_ret
      exact ⟨rfl, HB1.out⟩
    · have hr : St.valB a = false := by unfold St.valB; exact decide_eq_false fun h => h1 h.2
      rw [hr, Bool.false_and]
      clear hr HL
      go_enter Tryz.func51, Tryz.ntmps51
      go_wp2
      go_ret
      exact ⟨rfl, HB0.out⟩
  · have hr : St.valB a = false := by unfold St.valB; exact decide_eq_false fun h => h0 h.1
    rw [hr, Bool.false_and]
    clear hr HL
    go_enter Tryz.func51, Tryz.ntmps51
    go_wp2
    go_ret
    exact ⟨rfl, HB0.out⟩
theorem satomOf_any (x : St.Slot) (w : World) : Calls Tryz.prog 81 #[.agg #[.bool x.ret, .int .i64 x.v, .int .i64 x.l]] w fun e w' => e = .returned (.agg #[.int .i64 x.v, .int .i64 x.l]) ∧ Below w.heap.size w w' := by
  obtain ⟨r, a, l⟩ := x
  dsimp only
  go_enter Tryz.func81, Tryz.ntmps81
  go_wp2
  go_returns
  exact ⟨rfl, ((Below.refl _ w).alloc (Nat.le_refl _) _).alloc (by simp) _⟩
theorem slotB_eq (k : Nat) (x : St.Slot) : St.slotB k x = if x.ret = true then St.pcB x.v && St.labB k x.l else St.valB x.v && St.labB k x.l := by
  unfold St.slotB
  cases x.ret with
  | false => simp
  | true =>
    simp only [Bool.not_true, Bool.false_or, if_true]
    cases hp : St.pcB x.v with
    | false => simp
    | true =>
      have hv : St.valB x.v = true := by
        unfold St.pcB at hp
        unfold St.valB
        have := of_decide_eq_true hp
        exact decide_eq_true (by omega)
      rw [hv]
      simp
set_option maxHeartbeats 4000000 in
theorem sisSlot_any (x : St.Slot) (w : World) (h : IsLat w w.heap.size v names up) : Calls Tryz.prog 53 #[v, .agg #[.bool x.ret, .int .i64 x.v, .int .i64 x.l]] w (Tells w (St.slotB up.length x)) := by
  obtain ⟨⟨N, U, c1, c2, rfl, hN, hU⟩, hsh, hfew, hcaps⟩ := id h
  rw [slotB_eq]
  have HPL := Lib.hid (fun W (h : IsLat W W.heap.size (.agg #[.slice N names.length c1, .slice U up.length c2]) names up) => sisPlace_any ⟨x.v, x.l⟩ W h)
  have HAT := Lib.hid (fun W (h : IsLat W W.heap.size (.agg #[.slice N names.length c1, .slice U up.length c2]) names up) => sisAtom_any ⟨x.v, x.l⟩ W h)
  have HOF := Lib.hid (fun W => satomOf_any x W)
  obtain ⟨r, a, l⟩ := x
  dsimp only at HPL HAT HOF ⊢
  have hb0 := (((Below.refl _ w).alloc (Nat.le_refl _) (.cells #[.slice N names.length c1, .slice U up.length c2] 25)).alloc (by simp) (.cells #[.bool r, .int .i64 a, .int .i64 l] 73))
  obtain ⟨W0, hW0⟩ : ∃ W0, (w.alloc (.cells #[.slice N names.length c1, .slice U up.length c2] 25)).alloc (.cells #[.bool r, .int .i64 a, .int .i64 l] 73) = W0 := ⟨_, rfl⟩
  have hp0 : Blk W0 w.heap.size 25 #[.slice N names.length c1, .slice U up.length c2] := hW0 ▸ (Blk.new _ _ _).alloc _
  have hp1 : Blk W0 (w.heap.size + 1) 73 #[.bool r, .int .i64 a, .int .i64 l] := by
    have h1 := Blk.new (w.alloc (.cells #[.slice N names.length c1, .slice U up.length c2] 25)) 73 #[.bool r, .int .i64 a, .int .i64 l]
    rw [show (w.alloc (.cells #[.slice N names.length c1, .slice U up.length c2] 25)).heap.size = w.heap.size + 1 by simp] at h1
    rw [← hW0]; exact h1
  rw [hW0] at hb0
  have HB0 := Lib.hid hb0
  have H := Lib.hid ((h.below hb0).more hb0.size)
  have a0 : W0.cell? ⟨w.heap.size, 0, none⟩ = some (.slice N names.length c1) := hp0.cell 0
  have a1 : W0.cell? ⟨w.heap.size, 1, none⟩ = some (.slice U up.length c2) := hp0.cell 1
  have s0 : W0.cell? ⟨w.heap.size + 1, 0, none⟩ = some (.bool r) := hp1.cell 0
  have s1 : W0.cell? ⟨w.heap.size + 1, 1, none⟩ = some (.int .i64 a) := hp1.cell 1
  have s2 : W0.cell? ⟨w.heap.size + 1, 2, none⟩ = some (.int .i64 l) := hp1.cell 2
  have g0 := fun d os => cell_regrown a0 d os
  have g1 := fun d os => cell_regrown a1 d os
  have g2 := fun d os => cell_regrown s0 d os
  have g3 := fun d os => cell_regrown s1 d os
  have g4 := fun d os => cell_regrown s2 d os
  clear h hN hU hb0 hp0 hp1
  cases r with
  | true =>
    rw [if_pos rfl]
    generalize (St.pcB a && St.labB up.length l) = b at *
    go_enter Tryz.func53, Tryz.ntmps53
    go_wp2
    refine wp_region_quiet_below (by kernel_rfl) (by kernel_rfl) ?_
    repeat (quiet_step (first | (go_at_call 81; exact Calls.regrown_of (HOF.out _)) | (go_at_call 49; exact Calls.regrown_of (HPL.out _ ((H.out.below (below_regrown _ _ _)).more (below_regrown _ _ _).size)))))
    refine wpQuiet_nil ?_
    rintro _ ⟨⟨d, os⟩, rfl⟩
    have HB5 := Lib.hid (HB0.out.trans ((below_regrown W0 d os).mono HB0.out.size))
    clear g0 g1 g2 g3 g4
    generalize grow (redrawn W0 d) os = w5 at *
    go_wp2
    go_ret
    exact ⟨rfl, HB5.out⟩
  | false =>
    rw [if_neg (by decide)]
    generalize (St.valB a && St.labB up.length l) = b at *
    go_enter Tryz.func53, Tryz.ntmps53
    go_wp2
    refine wp_region_quiet_below (by kernel_rfl) (by kernel_rfl) ?_
    repeat (quiet_step (first | (go_at_call 81; exact Calls.regrown_of (HOF.out _)) | (go_at_call 51; exact Calls.regrown_of (HAT.out _ ((H.out.below (below_regrown _ _ _)).more (below_regrown _ _ _).size)))))
    refine wpQuiet_nil ?_
    rintro _ ⟨⟨d, os⟩, rfl⟩
    have HB5 := Lib.hid (HB0.out.trans ((below_regrown W0 d os).mono HB0.out.size))
    clear g0 g1 g2 g3 g4
    generalize grow (redrawn W0 d) os = w5 at *
    go_wp2
    go_ret
    exact ⟨rfl, HB5.out⟩
theorem all_no {α : Type} {f : α → Bool} {l : List α} {j m : Nat} {x : α} (h : l[j]? = some x) (hx : f x = false) : (decide (l.length ≤ m) && l.all f) = false := by
  rw [Bool.and_eq_false_iff]
  refine .inr ?_
  rw [List.all_eq_false]
  exact ⟨x, List.mem_of_getElem? h, by rw [hx]; decide⟩
theorem all_yes {α : Type} {f : α → Bool} {l : List α} {m : Nat} (hl : l.length ≤ m) (h : ∀ (j : Nat) x, l[j]? = some x → f x = true) : (decide (l.length ≤ m) && l.all f) = true := by
  rw [Bool.and_eq_true]
  refine ⟨decide_eq_true hl, List.all_eq_true.2 fun x hx => ?_⟩
  obtain ⟨j, hj, rfl⟩ := List.getElem_of_mem hx
  exact h j _ (List.getElem?_eq_getElem hj)
set_option maxHeartbeats 4000000 in
theorem allA_any {A : Option Addr} {l : List St.Atom} (c m : Nat) (hm : m ≤ 100) (w : World) (h : IsLat w w.heap.size v names up) (hr : Row w w.heap.size A (fcells avs l)) (hl : l.length ≤ 1000) :
    Calls Tryz.prog 50 #[v, .slice A l.length c, .int .i64 (m : Int), .func (.func 51) #[] #[]] w (Tells w (decide (l.length ≤ m) && l.all (St.atomB up.length))) := by
  obtain ⟨⟨N, U, c1, c2, rfl, hN, hU⟩, hsh, hfew, hcaps⟩ := id h
  obtain ⟨res, hres⟩ : ∃ res, (decide (l.length ≤ m) && l.all (St.atomB up.length)) = res := ⟨_, rfl⟩
  rw [hres]
  have HRES := Lib.hid hres
  clear hres
  have hb0 : Below w.heap.size w (w.alloc (.cells #[.slice N names.length c1, .slice U up.length c2] 25)) := (Below.refl _ w).alloc (Nat.le_refl _) _
  have p0 := Blk.new w 25 #[.slice N names.length c1, .slice U up.length c2]
  have HB0 := Lib.hid hb0
  have hcf := Tryz.call51
  by_cases h12 : m < l.length
  · have HR2 := Lib.hid (show false = res by rw [← HRES.out, decide_eq_false (by omega)]; rfl)
    clear h hN hU hr hb0 p0
    go_enter Tryz.func50, Tryz.ntmps50
    go_wp2
    go_ret
    exact ⟨retb HR2.out, HB0.out⟩
  · have HONE := Lib.hid (fun (x : St.Atom) W (hb : Below w.heap.size w W) => sisAtom_any (v := .agg #[.slice N names.length c1, .slice U up.length c2]) x W ((h.below hb).more hb.size))
    have H := Lib.hid hr
    have P0 := Lib.hid p0
    clear h hN hU hr hb0 p0
    go_enter Tryz.func50, Tryz.ntmps50
    go_wp2
    go_loopw [17] (fun i wr => ∃ k : Nat, k ≤ l.length ∧ i = .int .i64 k ∧ Hid (∀ (j : Nat) (x : St.Atom), j < k → l[j]? = some x → St.atomB up.length x = true) ∧ Hid (Below w.heap.size w wr) ∧ Hid (Blk wr w.heap.size 25 #[.slice N names.length c1, .slice U up.length c2])) (fun i _ => l.length - (intOf i).toNat)
    case atStart => exact ⟨0, Nat.zero_le _, rfl, Lib.hid fun j x hj => absurd hj (Nat.not_lt_zero _), HB0, P0⟩
    case round =>
      clear HB0 P0
      obtain ⟨k, hk, rfl, HS, HBW, P0⟩ := hrel
      by_cases hlt : k < l.length
      · obtain ⟨ad, x, rfl, hxb, hx, x0, x1⟩ := arow_at (H.out.below HBW.out) hlt
        have hz := HBW.out.size
        have hxb2 : (ad.add (k * 2)).block < wr.heap.size := by rw [add_block]; omega
        have HX := Lib.hid hx
        have hal := (Below.refl wr.heap.size wr).alloc (Nat.le_refl _) (.cells #[.int .i64 x.v, .int .i64 x.l] 38)
        have hbw1 := HBW.out.trans (hal.mono HBW.out.size)
        have hp1 := P0.out.below hal P0.out.lt
        have hbx := Blk.new wr 38 #[.int .i64 x.v, .int .i64 x.l]
        have hc := HONE.out x _ hbw1
        obtain ⟨W1, hW1⟩ : ∃ W1, wr.alloc (.cells #[.int .i64 x.v, .int .i64 x.l] 38) = W1 := ⟨_, rfl⟩
        rw [hW1] at hbw1 hp1 hbx hc
        have a0 : W1.cell? ⟨w.heap.size, 0, none⟩ = some (.slice N names.length c1) := hp1.cell 0
        have a1 : W1.cell? ⟨w.heap.size, 1, none⟩ = some (.slice U up.length c2) := hp1.cell 1
        have s0 := hbx.cell 0
        have s1 := hbx.cell 1
        skip
        have HB1 := Lib.hid hbw1
        have HP1 := Lib.hid hp1
        have hz1 := hbw1.size
        clear hx hal hbw1 hp1 hbx P0
        cases hi : St.atomB up.length x with
        | true =>
          have HC := Lib.hid (show Calls _ _ _ _ (Tells W1 true) by rw [← hi]; exact hc)
          have HI := Lib.hid hi
          clear hi hc
          go_wp2_with (fail)
          refine HC.out.mono ?_
          rintro e w2 ⟨rfl, hb2⟩
          have HB2 := Lib.hid (HB1.out.trans (hb2.mono HB1.out.size))
          have HP2 := Lib.hid (HP1.out.below hb2 HP1.out.lt)
          clear hb2 a0 a1 s0 s1 
          go_wp2
          go_roundw
          case rel => exact ⟨k + 1, by omega, by go_num, Lib.hid fun j u hj hu => by
            rcases Nat.lt_or_eq_of_le (Nat.le_of_lt_succ hj) with h | rfl
            · exact HS.out j u h hu
            · rw [HX.out] at hu
              injection hu with hu
              rw [← hu]; exact HI.out, HB2, HP2⟩
          case measure => simp [intOf]; omega
        | false =>
          have HC := Lib.hid (show Calls _ _ _ _ (Tells W1 false) by rw [← hi]; exact hc)
          have HR2 := Lib.hid (show false = res by rw [← HRES.out]; exact (all_no HX.out hi).symm)
          clear hi hc
          go_wp2_with (fail)
          refine HC.out.mono ?_
          rintro e w2 ⟨rfl, hb2⟩
          have HB2 := Lib.hid (HB1.out.trans (hb2.mono HB1.out.size))
          clear hb2
          go_wp2
          go_ret
          exact ⟨retb HR2.out, HB2.out⟩
      · obtain rfl : k = l.length := by omega
        have HR2 := Lib.hid (show true = res by rw [← HRES.out]; exact (all_yes (by omega) fun j x hx => HS.out j x (List.getElem?_eq_some_iff.1 hx).1 hx).symm)
        go_wp2
        go_ret
        exact ⟨retb HR2.out, HBW.out⟩
set_option maxHeartbeats 4000000 in
theorem allS_any {A : Option Addr} {l : List St.Slot} (c m : Nat) (hm : m ≤ 100) (w : World) (h : IsLat w w.heap.size v names up) (hr : Row w w.heap.size A (fcells svs l)) (hl : l.length ≤ 1000) :
    Calls Tryz.prog 52 #[v, .slice A l.length c, .int .i64 (m : Int), .func (.func 53) #[] #[]] w (Tells w (decide (l.length ≤ m) && l.all (St.slotB up.length))) := by
  obtain ⟨⟨N, U, c1, c2, rfl, hN, hU⟩, hsh, hfew, hcaps⟩ := id h
  obtain ⟨res, hres⟩ : ∃ res, (decide (l.length ≤ m) && l.all (St.slotB up.length)) = res := ⟨_, rfl⟩
  rw [hres]
  have HRES := Lib.hid hres
  clear hres
  have hb0 : Below w.heap.size w (w.alloc (.cells #[.slice N names.length c1, .slice U up.length c2] 25)) := (Below.refl _ w).alloc (Nat.le_refl _) _
  have p0 := Blk.new w 25 #[.slice N names.length c1, .slice U up.length c2]
  have HB0 := Lib.hid hb0
  have hcf := Tryz.call53
  by_cases h12 : m < l.length
  · have HR2 := Lib.hid (show false = res by rw [← HRES.out, decide_eq_false (by omega)]; rfl)
    clear h hN hU hr hb0 p0
    go_enter Tryz.func52, Tryz.ntmps52
    go_wp2
    go_ret
    exact ⟨retb HR2.out, HB0.out⟩
  · have HONE := Lib.hid (fun (x : St.Slot) W (hb : Below w.heap.size w W) => sisSlot_any (v := .agg #[.slice N names.length c1, .slice U up.length c2]) x W ((h.below hb).more hb.size))
    have H := Lib.hid hr
    have P0 := Lib.hid p0
    clear h hN hU hr hb0 p0
    go_enter Tryz.func52, Tryz.ntmps52
    go_wp2
    go_loopw [17] (fun i wr => ∃ k : Nat, k ≤ l.length ∧ i = .int .i64 k ∧ Hid (∀ (j : Nat) (x : St.Slot), j < k → l[j]? = some x → St.slotB up.length x = true) ∧ Hid (Below w.heap.size w wr) ∧ Hid (Blk wr w.heap.size 25 #[.slice N names.length c1, .slice U up.length c2])) (fun i _ => l.length - (intOf i).toNat)
    case atStart => exact ⟨0, Nat.zero_le _, rfl, Lib.hid fun j x hj => absurd hj (Nat.not_lt_zero _), HB0, P0⟩
    case round =>
      clear HB0 P0
      obtain ⟨k, hk, rfl, HS, HBW, P0⟩ := hrel
      by_cases hlt : k < l.length
      · obtain ⟨ad, x, rfl, hxb, hx, x0, x1, x2⟩ := srow_at (H.out.below HBW.out) hlt
        have hz := HBW.out.size
        have hxb2 : (ad.add (k * 3)).block < wr.heap.size := by rw [add_block]; omega
        have HX := Lib.hid hx
        have hal := (Below.refl wr.heap.size wr).alloc (Nat.le_refl _) (.cells #[.bool x.ret, .int .i64 x.v, .int .i64 x.l] 73)
        have hbw1 := HBW.out.trans (hal.mono HBW.out.size)
        have hp1 := P0.out.below hal P0.out.lt
        have hbx := Blk.new wr 73 #[.bool x.ret, .int .i64 x.v, .int .i64 x.l]
        have hc := HONE.out x _ hbw1
        obtain ⟨W1, hW1⟩ : ∃ W1, wr.alloc (.cells #[.bool x.ret, .int .i64 x.v, .int .i64 x.l] 73) = W1 := ⟨_, rfl⟩
        rw [hW1] at hbw1 hp1 hbx hc
        have a0 : W1.cell? ⟨w.heap.size, 0, none⟩ = some (.slice N names.length c1) := hp1.cell 0
        have a1 : W1.cell? ⟨w.heap.size, 1, none⟩ = some (.slice U up.length c2) := hp1.cell 1
        have s0 := hbx.cell 0
        have s1 := hbx.cell 1
        have s2 := hbx.cell 2
        have HB1 := Lib.hid hbw1
        have HP1 := Lib.hid hp1
        have hz1 := hbw1.size
        clear hx hal hbw1 hp1 hbx P0
        cases hi : St.slotB up.length x with
        | true =>
          have HC := Lib.hid (show Calls _ _ _ _ (Tells W1 true) by rw [← hi]; exact hc)
          have HI := Lib.hid hi
          clear hi hc
          go_wp2_with (fail)
          refine HC.out.mono ?_
          rintro e w2 ⟨rfl, hb2⟩
          have HB2 := Lib.hid (HB1.out.trans (hb2.mono HB1.out.size))
          have HP2 := Lib.hid (HP1.out.below hb2 HP1.out.lt)
          clear hb2 a0 a1 s0 s1 s2
          go_wp2
          go_roundw
          case rel => exact ⟨k + 1, by omega, by go_num, Lib.hid fun j u hj hu => by
            rcases Nat.lt_or_eq_of_le (Nat.le_of_lt_succ hj) with h | rfl
            · exact HS.out j u h hu
            · rw [HX.out] at hu
              injection hu with hu
              rw [← hu]; exact HI.out, HB2, HP2⟩
          case measure => simp [intOf]; omega
        | false =>
          have HC := Lib.hid (show Calls _ _ _ _ (Tells W1 false) by rw [← hi]; exact hc)
          have HR2 := Lib.hid (show false = res by rw [← HRES.out]; exact (all_no HX.out hi).symm)
          clear hi hc
          go_wp2_with (fail)
          refine HC.out.mono ?_
          rintro e w2 ⟨rfl, hb2⟩
          have HB2 := Lib.hid (HB1.out.trans (hb2.mono HB1.out.size))
          clear hb2
          go_wp2
          go_ret
          exact ⟨retb HR2.out, HB2.out⟩
      · obtain rfl : k = l.length := by omega
        have HR2 := Lib.hid (show true = res by rw [← HRES.out]; exact (all_yes (by omega) fun j x hx => HS.out j x (List.getElem?_eq_some_iff.1 hx).1 hx).symm)
        go_wp2
        go_ret
        exact ⟨retb HR2.out, HBW.out⟩
end
def pubS (names : List ByteArray) (up : List Nat) (s : St.State) : Bool := decide (checkN names up = 0) && St.rightB up.length s
/-- Few enough of each. -/
structure SmallS (s : St.State) : Prop where
  code : s.code.length ≤ 1000
  mem : s.mem.length ≤ 1000
  stack : s.stack.length ≤ 1000
  out : s.out.length ≤ 1000
theorem pubS_five (names : List ByteArray) (up : List Nat) (s : St.State) : pubS names up s = (Cd.pubB names up s.code && ((St.pcB s.pc.v && St.labB up.length s.pc.l) && ((decide (s.mem.length ≤ 6) && s.mem.all (St.atomB up.length)) && ((decide (s.stack.length ≤ 12) && s.stack.all (St.slotB up.length)) && (decide (s.out.length ≤ 8) && s.out.all (St.atomB up.length)))))) := by
  unfold pubS St.rightB Cd.pubB
  simp only [Bool.and_assoc]
set_option maxHeartbeats 8000000 in
theorem sright_any {v sv : Value} {names : List ByteArray} {up : List Nat} {s : St.State} (w : World) (h : IsLat w w.heap.size v names up) (hs : IsSt w w.heap.size sv s) (hsm : SmallS s) :
    Calls Tryz.prog 20 #[v, sv] w (Tells w (pubS names up s)) := by
  obtain ⟨⟨N, U, c1, c2, rfl, hN, hU⟩, hsh, hfew, hcaps⟩ := id h
  obtain ⟨⟨pv, pl⟩, code, mem, stack, out⟩ := s
  obtain ⟨cv, mv, stv_, ov, rfl, ⟨cA, cc, rfl, hcr, hcc⟩, ⟨mA, mc, rfl, hmr, hmc⟩, ⟨sA, sc, rfl, hsr, hsc⟩, ⟨oA, oc, rfl, hor, hoc⟩⟩ := hs
  obtain ⟨hs1, hs2, hs3, hs4⟩ := hsm
  rw [pubS_five]
  dsimp only at hcr hcc hmr hmc hsr hsc hor hoc hs1 hs2 hs3 hs4 ⊢
  unfold stv
  dsimp only
  have HC1 := Lib.hid (fun W (hb : Below w.heap.size w W) => cRight_any cc W ((h.below hb).more hb.size) ((hcr.below hb).more hb.size) hs1)
  have HC2 := Lib.hid (fun W (hb : Below w.heap.size w W) => sisPlace_any ⟨pv, pl⟩ W ((h.below hb).more hb.size))
  have HC3 := Lib.hid (fun W (hb : Below w.heap.size w W) => allA_any mc 6 (by decide) W ((h.below hb).more hb.size) ((hmr.below hb).more hb.size) hs2)
  have HC4 := Lib.hid (fun W (hb : Below w.heap.size w W) => allS_any sc 12 (by decide) W ((h.below hb).more hb.size) ((hsr.below hb).more hb.size) hs3)
  have HC5 := Lib.hid (fun W (hb : Below w.heap.size w W) => allA_any oc 8 (by decide) W ((h.below hb).more hb.size) ((hor.below hb).more hb.size) hs4)
  have hb := (((Below.refl _ w).alloc (Nat.le_refl _) (.cells #[.slice N names.length c1, .slice U up.length c2] 25)).alloc (by simp) (.cells #[.int .i64 pv, .int .i64 pl, .slice cA code.length cc, .slice mA mem.length mc, .slice sA stack.length sc, .slice oA out.length oc] 42))
  obtain ⟨W0, hW0⟩ : ∃ W0, (w.alloc (.cells #[.slice N names.length c1, .slice U up.length c2] 25)).alloc (.cells #[.int .i64 pv, .int .i64 pl, .slice cA code.length cc, .slice mA mem.length mc, .slice sA stack.length sc, .slice oA out.length oc] 42) = W0 := ⟨_, rfl⟩
  have hp0 : Blk W0 w.heap.size 25 #[.slice N names.length c1, .slice U up.length c2] := hW0 ▸ (Blk.new _ _ _).alloc _
  have hp1 : Blk W0 (w.heap.size + 1) 42 #[.int .i64 pv, .int .i64 pl, .slice cA code.length cc, .slice mA mem.length mc, .slice sA stack.length sc, .slice oA out.length oc] := by
    have h1 := Blk.new (w.alloc (.cells #[.slice N names.length c1, .slice U up.length c2] 25)) 42 #[.int .i64 pv, .int .i64 pl, .slice cA code.length cc, .slice mA mem.length mc, .slice sA stack.length sc, .slice oA out.length oc]
    rw [show (w.alloc (.cells #[.slice N names.length c1, .slice U up.length c2] 25)).heap.size = w.heap.size + 1 by simp] at h1
    rw [← hW0]; exact h1
  rw [hW0] at hb
  clear h hN hU hcr hmr hsr hor
  have a0 : W0.cell? ⟨w.heap.size, 0, none⟩ = some (.slice N names.length c1) := hp0.cell 0
  have a1 : W0.cell? ⟨w.heap.size, 1, none⟩ = some (.slice U up.length c2) := hp0.cell 1
  have s0 : W0.cell? ⟨w.heap.size + 1, 0, none⟩ = some (.int .i64 pv) := hp1.cell 0
  have s1 : W0.cell? ⟨w.heap.size + 1, 1, none⟩ = some (.int .i64 pl) := hp1.cell 1
  have s2 : W0.cell? ⟨w.heap.size + 1, 2, none⟩ = some (.slice cA code.length cc) := hp1.cell 2
  have s3 : W0.cell? ⟨w.heap.size + 1, 3, none⟩ = some (.slice mA mem.length mc) := hp1.cell 3
  have s4 : W0.cell? ⟨w.heap.size + 1, 4, none⟩ = some (.slice sA stack.length sc) := hp1.cell 4
  have s5 : W0.cell? ⟨w.heap.size + 1, 5, none⟩ = some (.slice oA out.length oc) := hp1.cell 5
  have HB := Lib.hid hb
  have HP0 := Lib.hid hp0
  have HP1 := Lib.hid hp1
  clear hb hp0 hp1
  dsimp only at HC2
  generalize Cd.pubB names up code = b1 at *
  generalize (St.pcB pv && St.labB up.length pl) = b2 at *
  generalize (decide (mem.length ≤ 6) && mem.all (St.atomB up.length)) = b3 at *
  generalize (decide (stack.length ≤ 12) && stack.all (St.slotB up.length)) = b4 at *
  generalize (decide (out.length ≤ 8) && out.all (St.atomB up.length)) = b5 at *
  cases b1 with
  | false =>
    rw [Bool.false_and]
    go_enter Tryz.func20, Tryz.ntmps20
    go_wp2_with (fail)
    refine (HC1.out W0 HB.out).mono ?_
    rintro e W1 ⟨rfl, hb9⟩
    have HB9 := Lib.hid (HB.out.trans (hb9.mono HB.out.size))
    clear hb9 a0 a1 s0 s1 s2 s3 s4 s5
    go_wp2
    go_ret
    exact ⟨rfl, HB9.out⟩
  | true =>
    rw [Bool.true_and]
    cases b2 with
    | false =>
      rw [Bool.false_and]
      go_enter Tryz.func20, Tryz.ntmps20
      go_wp2_with (fail)
      refine (HC1.out W0 HB.out).mono ?_
      rintro e W1 ⟨rfl, hb9⟩
      have hp0 := HP0.out.below hb9 HP0.out.lt
      have hp1 := HP1.out.below hb9 HP1.out.lt
      have hb := HB.out.trans (hb9.mono HB.out.size)
      clear hb9 HB HP0 HP1 a0 a1 s0 s1 s2 s3 s4 s5
      have a0 : W1.cell? ⟨w.heap.size, 0, none⟩ = some (.slice N names.length c1) := hp0.cell 0
      have a1 : W1.cell? ⟨w.heap.size, 1, none⟩ = some (.slice U up.length c2) := hp0.cell 1
      have s0 : W1.cell? ⟨w.heap.size + 1, 0, none⟩ = some (.int .i64 pv) := hp1.cell 0
      have s1 : W1.cell? ⟨w.heap.size + 1, 1, none⟩ = some (.int .i64 pl) := hp1.cell 1
      have s2 : W1.cell? ⟨w.heap.size + 1, 2, none⟩ = some (.slice cA code.length cc) := hp1.cell 2
      have s3 : W1.cell? ⟨w.heap.size + 1, 3, none⟩ = some (.slice mA mem.length mc) := hp1.cell 3
      have s4 : W1.cell? ⟨w.heap.size + 1, 4, none⟩ = some (.slice sA stack.length sc) := hp1.cell 4
      have s5 : W1.cell? ⟨w.heap.size + 1, 5, none⟩ = some (.slice oA out.length oc) := hp1.cell 5
      have HB := Lib.hid hb
      have HP0 := Lib.hid hp0
      have HP1 := Lib.hid hp1
      clear hb hp0 hp1
      go_wp2_with (fail)
      refine (HC2.out W1 HB.out).mono ?_
      rintro e W2 ⟨rfl, hb9⟩
      have HB9 := Lib.hid (HB.out.trans (hb9.mono HB.out.size))
      clear hb9 a0 a1 s0 s1 s2 s3 s4 s5
      go_wp2
      go_ret
      exact ⟨rfl, HB9.out⟩
    | true =>
      rw [Bool.true_and]
      cases b3 with
      | false =>
        rw [Bool.false_and]
        go_enter Tryz.func20, Tryz.ntmps20
        go_wp2_with (fail)
        refine (HC1.out W0 HB.out).mono ?_
        rintro e W1 ⟨rfl, hb9⟩
        have hp0 := HP0.out.below hb9 HP0.out.lt
        have hp1 := HP1.out.below hb9 HP1.out.lt
        have hb := HB.out.trans (hb9.mono HB.out.size)
        clear hb9 HB HP0 HP1 a0 a1 s0 s1 s2 s3 s4 s5
        have a0 : W1.cell? ⟨w.heap.size, 0, none⟩ = some (.slice N names.length c1) := hp0.cell 0
        have a1 : W1.cell? ⟨w.heap.size, 1, none⟩ = some (.slice U up.length c2) := hp0.cell 1
        have s0 : W1.cell? ⟨w.heap.size + 1, 0, none⟩ = some (.int .i64 pv) := hp1.cell 0
        have s1 : W1.cell? ⟨w.heap.size + 1, 1, none⟩ = some (.int .i64 pl) := hp1.cell 1
        have s2 : W1.cell? ⟨w.heap.size + 1, 2, none⟩ = some (.slice cA code.length cc) := hp1.cell 2
        have s3 : W1.cell? ⟨w.heap.size + 1, 3, none⟩ = some (.slice mA mem.length mc) := hp1.cell 3
        have s4 : W1.cell? ⟨w.heap.size + 1, 4, none⟩ = some (.slice sA stack.length sc) := hp1.cell 4
        have s5 : W1.cell? ⟨w.heap.size + 1, 5, none⟩ = some (.slice oA out.length oc) := hp1.cell 5
        have HB := Lib.hid hb
        have HP0 := Lib.hid hp0
        have HP1 := Lib.hid hp1
        clear hb hp0 hp1
        go_wp2_with (fail)
        refine (HC2.out W1 HB.out).mono ?_
        rintro e W2 ⟨rfl, hb9⟩
        have hp0 := HP0.out.below hb9 HP0.out.lt
        have hp1 := HP1.out.below hb9 HP1.out.lt
        have hb := HB.out.trans (hb9.mono HB.out.size)
        clear hb9 HB HP0 HP1 a0 a1 s0 s1 s2 s3 s4 s5
        have a0 : W2.cell? ⟨w.heap.size, 0, none⟩ = some (.slice N names.length c1) := hp0.cell 0
        have a1 : W2.cell? ⟨w.heap.size, 1, none⟩ = some (.slice U up.length c2) := hp0.cell 1
        have s0 : W2.cell? ⟨w.heap.size + 1, 0, none⟩ = some (.int .i64 pv) := hp1.cell 0
        have s1 : W2.cell? ⟨w.heap.size + 1, 1, none⟩ = some (.int .i64 pl) := hp1.cell 1
        have s2 : W2.cell? ⟨w.heap.size + 1, 2, none⟩ = some (.slice cA code.length cc) := hp1.cell 2
        have s3 : W2.cell? ⟨w.heap.size + 1, 3, none⟩ = some (.slice mA mem.length mc) := hp1.cell 3
        have s4 : W2.cell? ⟨w.heap.size + 1, 4, none⟩ = some (.slice sA stack.length sc) := hp1.cell 4
        have s5 : W2.cell? ⟨w.heap.size + 1, 5, none⟩ = some (.slice oA out.length oc) := hp1.cell 5
        have HB := Lib.hid hb
        have HP0 := Lib.hid hp0
        have HP1 := Lib.hid hp1
        clear hb hp0 hp1
        go_wp2_with (fail)
        refine (HC3.out W2 HB.out).mono ?_
        rintro e W3 ⟨rfl, hb9⟩
        have HB9 := Lib.hid (HB.out.trans (hb9.mono HB.out.size))
        clear hb9 a0 a1 s0 s1 s2 s3 s4 s5
        go_wp2
        go_ret
        exact ⟨rfl, HB9.out⟩
      | true =>
        rw [Bool.true_and]
        cases b4 with
        | false =>
          rw [Bool.false_and]
          go_enter Tryz.func20, Tryz.ntmps20
          go_wp2_with (fail)
          refine (HC1.out W0 HB.out).mono ?_
          rintro e W1 ⟨rfl, hb9⟩
          have hp0 := HP0.out.below hb9 HP0.out.lt
          have hp1 := HP1.out.below hb9 HP1.out.lt
          have hb := HB.out.trans (hb9.mono HB.out.size)
          clear hb9 HB HP0 HP1 a0 a1 s0 s1 s2 s3 s4 s5
          have a0 : W1.cell? ⟨w.heap.size, 0, none⟩ = some (.slice N names.length c1) := hp0.cell 0
          have a1 : W1.cell? ⟨w.heap.size, 1, none⟩ = some (.slice U up.length c2) := hp0.cell 1
          have s0 : W1.cell? ⟨w.heap.size + 1, 0, none⟩ = some (.int .i64 pv) := hp1.cell 0
          have s1 : W1.cell? ⟨w.heap.size + 1, 1, none⟩ = some (.int .i64 pl) := hp1.cell 1
          have s2 : W1.cell? ⟨w.heap.size + 1, 2, none⟩ = some (.slice cA code.length cc) := hp1.cell 2
          have s3 : W1.cell? ⟨w.heap.size + 1, 3, none⟩ = some (.slice mA mem.length mc) := hp1.cell 3
          have s4 : W1.cell? ⟨w.heap.size + 1, 4, none⟩ = some (.slice sA stack.length sc) := hp1.cell 4
          have s5 : W1.cell? ⟨w.heap.size + 1, 5, none⟩ = some (.slice oA out.length oc) := hp1.cell 5
          have HB := Lib.hid hb
          have HP0 := Lib.hid hp0
          have HP1 := Lib.hid hp1
          clear hb hp0 hp1
          go_wp2_with (fail)
          refine (HC2.out W1 HB.out).mono ?_
          rintro e W2 ⟨rfl, hb9⟩
          have hp0 := HP0.out.below hb9 HP0.out.lt
          have hp1 := HP1.out.below hb9 HP1.out.lt
          have hb := HB.out.trans (hb9.mono HB.out.size)
          clear hb9 HB HP0 HP1 a0 a1 s0 s1 s2 s3 s4 s5
          have a0 : W2.cell? ⟨w.heap.size, 0, none⟩ = some (.slice N names.length c1) := hp0.cell 0
          have a1 : W2.cell? ⟨w.heap.size, 1, none⟩ = some (.slice U up.length c2) := hp0.cell 1
          have s0 : W2.cell? ⟨w.heap.size + 1, 0, none⟩ = some (.int .i64 pv) := hp1.cell 0
          have s1 : W2.cell? ⟨w.heap.size + 1, 1, none⟩ = some (.int .i64 pl) := hp1.cell 1
          have s2 : W2.cell? ⟨w.heap.size + 1, 2, none⟩ = some (.slice cA code.length cc) := hp1.cell 2
          have s3 : W2.cell? ⟨w.heap.size + 1, 3, none⟩ = some (.slice mA mem.length mc) := hp1.cell 3
          have s4 : W2.cell? ⟨w.heap.size + 1, 4, none⟩ = some (.slice sA stack.length sc) := hp1.cell 4
          have s5 : W2.cell? ⟨w.heap.size + 1, 5, none⟩ = some (.slice oA out.length oc) := hp1.cell 5
          have HB := Lib.hid hb
          have HP0 := Lib.hid hp0
          have HP1 := Lib.hid hp1
          clear hb hp0 hp1
          go_wp2_with (fail)
          refine (HC3.out W2 HB.out).mono ?_
          rintro e W3 ⟨rfl, hb9⟩
          have hp0 := HP0.out.below hb9 HP0.out.lt
          have hp1 := HP1.out.below hb9 HP1.out.lt
          have hb := HB.out.trans (hb9.mono HB.out.size)
          clear hb9 HB HP0 HP1 a0 a1 s0 s1 s2 s3 s4 s5
          have a0 : W3.cell? ⟨w.heap.size, 0, none⟩ = some (.slice N names.length c1) := hp0.cell 0
          have a1 : W3.cell? ⟨w.heap.size, 1, none⟩ = some (.slice U up.length c2) := hp0.cell 1
          have s0 : W3.cell? ⟨w.heap.size + 1, 0, none⟩ = some (.int .i64 pv) := hp1.cell 0
          have s1 : W3.cell? ⟨w.heap.size + 1, 1, none⟩ = some (.int .i64 pl) := hp1.cell 1
          have s2 : W3.cell? ⟨w.heap.size + 1, 2, none⟩ = some (.slice cA code.length cc) := hp1.cell 2
          have s3 : W3.cell? ⟨w.heap.size + 1, 3, none⟩ = some (.slice mA mem.length mc) := hp1.cell 3
          have s4 : W3.cell? ⟨w.heap.size + 1, 4, none⟩ = some (.slice sA stack.length sc) := hp1.cell 4
          have s5 : W3.cell? ⟨w.heap.size + 1, 5, none⟩ = some (.slice oA out.length oc) := hp1.cell 5
          have HB := Lib.hid hb
          have HP0 := Lib.hid hp0
          have HP1 := Lib.hid hp1
          clear hb hp0 hp1
          go_wp2_with (fail)
          refine (HC4.out W3 HB.out).mono ?_
          rintro e W4 ⟨rfl, hb9⟩
          have HB9 := Lib.hid (HB.out.trans (hb9.mono HB.out.size))
          clear hb9 a0 a1 s0 s1 s2 s3 s4 s5
          go_wp2
          go_ret
          exact ⟨rfl, HB9.out⟩
        | true =>
          rw [Bool.true_and]
          go_enter Tryz.func20, Tryz.ntmps20
          go_wp2_with (fail)
          refine (HC1.out W0 HB.out).mono ?_
          rintro e W1 ⟨rfl, hb9⟩
          have hp0 := HP0.out.below hb9 HP0.out.lt
          have hp1 := HP1.out.below hb9 HP1.out.lt
          have hb := HB.out.trans (hb9.mono HB.out.size)
          clear hb9 HB HP0 HP1 a0 a1 s0 s1 s2 s3 s4 s5
          have a0 : W1.cell? ⟨w.heap.size, 0, none⟩ = some (.slice N names.length c1) := hp0.cell 0
          have a1 : W1.cell? ⟨w.heap.size, 1, none⟩ = some (.slice U up.length c2) := hp0.cell 1
          have s0 : W1.cell? ⟨w.heap.size + 1, 0, none⟩ = some (.int .i64 pv) := hp1.cell 0
          have s1 : W1.cell? ⟨w.heap.size + 1, 1, none⟩ = some (.int .i64 pl) := hp1.cell 1
          have s2 : W1.cell? ⟨w.heap.size + 1, 2, none⟩ = some (.slice cA code.length cc) := hp1.cell 2
          have s3 : W1.cell? ⟨w.heap.size + 1, 3, none⟩ = some (.slice mA mem.length mc) := hp1.cell 3
          have s4 : W1.cell? ⟨w.heap.size + 1, 4, none⟩ = some (.slice sA stack.length sc) := hp1.cell 4
          have s5 : W1.cell? ⟨w.heap.size + 1, 5, none⟩ = some (.slice oA out.length oc) := hp1.cell 5
          have HB := Lib.hid hb
          have HP0 := Lib.hid hp0
          have HP1 := Lib.hid hp1
          clear hb hp0 hp1
          go_wp2_with (fail)
          refine (HC2.out W1 HB.out).mono ?_
          rintro e W2 ⟨rfl, hb9⟩
          have hp0 := HP0.out.below hb9 HP0.out.lt
          have hp1 := HP1.out.below hb9 HP1.out.lt
          have hb := HB.out.trans (hb9.mono HB.out.size)
          clear hb9 HB HP0 HP1 a0 a1 s0 s1 s2 s3 s4 s5
          have a0 : W2.cell? ⟨w.heap.size, 0, none⟩ = some (.slice N names.length c1) := hp0.cell 0
          have a1 : W2.cell? ⟨w.heap.size, 1, none⟩ = some (.slice U up.length c2) := hp0.cell 1
          have s0 : W2.cell? ⟨w.heap.size + 1, 0, none⟩ = some (.int .i64 pv) := hp1.cell 0
          have s1 : W2.cell? ⟨w.heap.size + 1, 1, none⟩ = some (.int .i64 pl) := hp1.cell 1
          have s2 : W2.cell? ⟨w.heap.size + 1, 2, none⟩ = some (.slice cA code.length cc) := hp1.cell 2
          have s3 : W2.cell? ⟨w.heap.size + 1, 3, none⟩ = some (.slice mA mem.length mc) := hp1.cell 3
          have s4 : W2.cell? ⟨w.heap.size + 1, 4, none⟩ = some (.slice sA stack.length sc) := hp1.cell 4
          have s5 : W2.cell? ⟨w.heap.size + 1, 5, none⟩ = some (.slice oA out.length oc) := hp1.cell 5
          have HB := Lib.hid hb
          have HP0 := Lib.hid hp0
          have HP1 := Lib.hid hp1
          clear hb hp0 hp1
          go_wp2_with (fail)
          refine (HC3.out W2 HB.out).mono ?_
          rintro e W3 ⟨rfl, hb9⟩
          have hp0 := HP0.out.below hb9 HP0.out.lt
          have hp1 := HP1.out.below hb9 HP1.out.lt
          have hb := HB.out.trans (hb9.mono HB.out.size)
          clear hb9 HB HP0 HP1 a0 a1 s0 s1 s2 s3 s4 s5
          have a0 : W3.cell? ⟨w.heap.size, 0, none⟩ = some (.slice N names.length c1) := hp0.cell 0
          have a1 : W3.cell? ⟨w.heap.size, 1, none⟩ = some (.slice U up.length c2) := hp0.cell 1
          have s0 : W3.cell? ⟨w.heap.size + 1, 0, none⟩ = some (.int .i64 pv) := hp1.cell 0
          have s1 : W3.cell? ⟨w.heap.size + 1, 1, none⟩ = some (.int .i64 pl) := hp1.cell 1
          have s2 : W3.cell? ⟨w.heap.size + 1, 2, none⟩ = some (.slice cA code.length cc) := hp1.cell 2
          have s3 : W3.cell? ⟨w.heap.size + 1, 3, none⟩ = some (.slice mA mem.length mc) := hp1.cell 3
          have s4 : W3.cell? ⟨w.heap.size + 1, 4, none⟩ = some (.slice sA stack.length sc) := hp1.cell 4
          have s5 : W3.cell? ⟨w.heap.size + 1, 5, none⟩ = some (.slice oA out.length oc) := hp1.cell 5
          have HB := Lib.hid hb
          have HP0 := Lib.hid hp0
          have HP1 := Lib.hid hp1
          clear hb hp0 hp1
          go_wp2_with (fail)
          refine (HC4.out W3 HB.out).mono ?_
          rintro e W4 ⟨rfl, hb9⟩
          have hp0 := HP0.out.below hb9 HP0.out.lt
          have hp1 := HP1.out.below hb9 HP1.out.lt
          have hb := HB.out.trans (hb9.mono HB.out.size)
          clear hb9 HB HP0 HP1 a0 a1 s0 s1 s2 s3 s4 s5
          have a0 : W4.cell? ⟨w.heap.size, 0, none⟩ = some (.slice N names.length c1) := hp0.cell 0
          have a1 : W4.cell? ⟨w.heap.size, 1, none⟩ = some (.slice U up.length c2) := hp0.cell 1
          have s0 : W4.cell? ⟨w.heap.size + 1, 0, none⟩ = some (.int .i64 pv) := hp1.cell 0
          have s1 : W4.cell? ⟨w.heap.size + 1, 1, none⟩ = some (.int .i64 pl) := hp1.cell 1
          have s2 : W4.cell? ⟨w.heap.size + 1, 2, none⟩ = some (.slice cA code.length cc) := hp1.cell 2
          have s3 : W4.cell? ⟨w.heap.size + 1, 3, none⟩ = some (.slice mA mem.length mc) := hp1.cell 3
          have s4 : W4.cell? ⟨w.heap.size + 1, 4, none⟩ = some (.slice sA stack.length sc) := hp1.cell 4
          have s5 : W4.cell? ⟨w.heap.size + 1, 5, none⟩ = some (.slice oA out.length oc) := hp1.cell 5
          have HB := Lib.hid hb
          have HP0 := Lib.hid hp0
          have HP1 := Lib.hid hp1
          clear hb hp0 hp1
          go_wp2_with (fail)
          refine (HC5.out W4 HB.out).mono ?_
          rintro e W5 ⟨rfl, hb9⟩
          have HB9 := Lib.hid (HB.out.trans (hb9.mono HB.out.size))
          clear hb9 a0 a1 s0 s1 s2 s3 s4 s5
          go_wp2
          go_ret
          exact ⟨rfl, HB9.out⟩
end Go.Proofs.YtipbilmnknmhmaaGreatDoor

/- Walk of state's state (by gen_stme.py). -/
namespace Go.Proofs.YtipbilmnknmhmaaGreatDoor
set_option maxRecDepth 100000
open Go.RowKit Go.Shelf Go.Sort
attribute [local go_sem] Oper.semAt_some
/-! All that tokens tell of a state, plain, in steps. -/
def raw5 (names : List ByteArray) (l : List Lx.Tk) (pc : St.Atom) (code : List Cd.In) (mem stack : List St.Slot) (j : Nat) : St.State × Nat × Nat := St.andP (St.wordP names l St.bOut 8 false j) St.zero fun out j => (⟨pc, code, mem.map St.toAtom, stack, out.map St.toAtom⟩, j, 0)
def raw4 (names : List ByteArray) (l : List Lx.Tk) (pc : St.Atom) (code : List Cd.In) (mem : List St.Slot) (j : Nat) : St.State × Nat × Nat := St.andP (St.wordP names l St.bStack 12 true j) St.zero fun stack j => raw5 names l pc code mem stack j
def raw3 (names : List ByteArray) (l : List Lx.Tk) (pc : St.Atom) (code : List Cd.In) (j : Nat) : St.State × Nat × Nat := St.andP (St.wordP names l St.bMem 6 false j) St.zero fun mem j => raw4 names l pc code mem j
def raw2 (names : List ByteArray) (k : Nat) (l : List Lx.Tk) (pc : St.Atom) (j : Nat) : St.State × Nat × Nat := St.andP (progP names k l j) St.zero fun code j => raw3 names l pc code j
def rawS (names : List ByteArray) (k : Nat) (l : List Lx.Tk) (i : Nat) : St.State × Nat × Nat := St.andP (pcP names l i) St.zero fun pc j => raw2 names k l pc j
theorem andP_andP {α β γ : Type} (r : α × Nat × Nat) (y : β) (z : γ) (f : α → Nat → β × Nat × Nat) (g : β → Nat → γ × Nat × Nat) : St.andP (St.andP r y f) z g = St.andP r z fun a j => St.andP (f a j) z g := by
  by_cases h : r.2.2 = 0
  · rw [St.andP_yes h, St.andP_yes h]
  · rw [St.andP_no h, St.andP_no h]
    exact St.andP_no h
theorem fromS_raw (names : List ByteArray) (k : Nat) (l : List Lx.Tk) (i : Nat) : St.fromS names k l i = St.andP (rawS names k l i) St.zero fun s j => St.endS k i s j := by
  unfold rawS raw2 raw3 raw4 raw5 pcP progP St.fromS
  simp only [andP_andP, St.andP_do]
/-- A state in new blocks. -/
def KSt (B : Nat) (w : World) (v : Value) (s : St.State) : Prop := ∃ cv mv sv ov, v = stv s cv mv sv ov ∧ KN ivs B w cv s.code ∧ KN avs B w mv s.mem ∧ KN svs B w sv s.stack ∧ KN avs B w ov s.out
theorem KSt.isSt {B : Nat} {w : World} {v : Value} {s : St.State} (h : KSt B w v s) : IsSt w w.heap.size v s := by
  obtain ⟨cv, mv, sv, ov, e, h1, h2, h3, h4⟩ := h
  exact ⟨cv, mv, sv, ov, e, h1.ins, h2.isL, h3.isL, h4.isL⟩
theorem KSt.of_block {B : Nat} {w w' : World} {v : Value} {s : St.State} (h : KSt B w v s) (hs : w.heap.size ≤ w'.heap.size) (hb : ∀ k, B ≤ k → k < w.heap.size → w'.heap[k]? = w.heap[k]?) : KSt B w' v s := by
  obtain ⟨cv, mv, sv, ov, e, h1, h2, h3, h4⟩ := h
  exact ⟨cv, mv, sv, ov, e, h1.of_block hs hb, h2.of_block hs hb, h3.of_block hs hb, h4.of_block hs hb⟩
theorem KSt.below {B : Nat} {w w' : World} {v : Value} {s : St.State} (h : KSt B w v s) (hb : Below w.heap.size w w') : KSt B w' v s := h.of_block hb.size fun k _ h2 => hb.block k h2
theorem KSt.kept {B R : Nat} {w w' : World} {v : Value} {s : St.State} (h : KSt B w v s) (hR : R < B) (hk : Kept R R w w') : KSt B w' v s := h.of_block hk.size fun k h1 h2 => hk.block k h2 (by omega) (by omega)
theorem KSt.set_ {B : Nat} {w : World} {v : Value} {s : St.State} (h : KSt B w v s) {p : Addr} (hp : p.block < B) (u : Value) : KSt B (w.setCell p u) v s := h.of_block (by simp [World.setCell]) fun k h1 _ => Below.heap_setCell _ _ _ _ (by omega)
theorem KSt.less {B B' : Nat} {w : World} {v : Value} {s : St.State} (h : KSt B w v s) (hB : B' ≤ B) : KSt B' w v s := by
  obtain ⟨cv, mv, sv, ov, e, h1, h2, h3, h4⟩ := h
  exact ⟨cv, mv, sv, ov, e, h1.less hB, h2.less hB, h3.less hB, h4.less hB⟩
/-- What state answers. -/
def SStold (R : Nat) (N U A : Option Addr) (c1 c2 ct : Nat) (names : List ByteArray) (up : List Nat) (l : List Lx.Tk) (w : World) (r : St.State × Nat × Nat) (e : Ending) (w' : World) : Prop :=
  ∃ (a b : Int) (cA : Option Addr) (cn cc : Nat) (mA : Option Addr) (mn mc : Nat) (sA : Option Addr) (sn sc : Nat) (oA : Option Addr) (on oc : Nat), e = .returned (.tuple #[.agg #[.int .i64 a, .int .i64 b, .slice cA cn cc, .slice mA mn mc, .slice sA sn sc, .slice oA on oc], .int .i64 (r.2.2 : Nat)]) ∧ (r.2.2 = 0 → KSt w.heap.size w' (.agg #[.int .i64 a, .int .i64 b, .slice cA cn cc, .slice mA mn mc, .slice sA sn sc, .slice oA on oc]) r.1) ∧ NRd R N U A c1 c2 ct names up l r.2.1 w' ∧ Kept R R w w'
abbrev zcs : Array Value := #[.int .i64 0, .int .i64 0, .slice none 0 0, .slice none 0 0, .slice none 0 0, .slice none 0 0]
/-- The answer's block, and the state so far. -/
structure SLc (R : Nat) (w W : World) (ys xs : Array Value) : Prop where
  res : Blk W w.heap.size 42 ys
  loc : Blk W (w.heap.size + 1) 42 xs
  kept : Kept R R w W
section
variable {R : Nat} {w W W' : World} {ys xs : Array Value}
theorem SLc.keep (h : SLc R w W ys xs) (hR : R < w.heap.size) (hk : Kept R R W W') : SLc R w W' ys xs :=
  ⟨(hk.block _ h.res.lt (by omega) (by omega)).trans h.res, (hk.block _ h.loc.lt (by omega) (by omega)).trans h.loc, h.kept.trans hk⟩
theorem SLc.setL (h : SLc R w W ys xs) (i : Nat) (u : Value) : SLc R w (W.setCell ⟨w.heap.size + 1, i, none⟩ u) ys (xs.setIfInBounds i u) :=
  ⟨h.res.other (by show w.heap.size + 1 ≠ _; omega) _, h.loc.set_ i _, h.kept.setNew (by show w.heap.size ≤ w.heap.size + 1; omega) _⟩
theorem SLc.setY (h : SLc R w W ys xs) (i : Nat) (u : Value) : SLc R w (W.setCell ⟨w.heap.size, i, none⟩ u) (ys.setIfInBounds i u) xs :=
  ⟨h.res.set_ i _, h.loc.other (by show w.heap.size ≠ _; omega) _, h.kept.setNew (Nat.le_refl _) _⟩
theorem SLc.drew (h : SLc R w W ys xs) : SLc R w W.drew ys xs := ⟨h.res, h.loc, h.kept.os, h.kept.tape, h.kept.output, h.kept.size, h.kept.block⟩
theorem SLc.start : SLc R w ((w.alloc (.cells zcs 42)).alloc (.cells zcs 42)) zcs zcs := by
  have h0 : (w.alloc (.cells zcs 42)).heap.size = w.heap.size + 1 := by simp
  have h1 := Blk.new (w.alloc (.cells zcs 42)) 42 zcs
  rw [h0] at h1
  exact ⟨(Blk.new _ _ _).alloc _, h1, .of (((Below.refl _ w).alloc (Nat.le_refl _) _).alloc (by simp) _)⟩
/-- The answer is stored. -/
def ansS (w W : World) (a b c d e f : Value) : World := (((((W.setCell ⟨w.heap.size, 0, none⟩ a).setCell ⟨w.heap.size, 1, none⟩ b).setCell ⟨w.heap.size, 2, none⟩ c).setCell ⟨w.heap.size, 3, none⟩ d).setCell ⟨w.heap.size, 4, none⟩ e).setCell ⟨w.heap.size, 5, none⟩ f
theorem SLc.ans {a b c d e f : Value} {y0 y1 y2 y3 y4 y5 : Value} (h : SLc R w W #[y0, y1, y2, y3, y4, y5] xs) : SLc R w (ansS w W a b c d e f) #[a, b, c, d, e, f] xs :=
  (((((h.setY 0 a).setY 1 b).setY 2 c).setY 3 d).setY 4 e).setY 5 f
end
section
variable {R c1 c2 ct p q : Nat} {N U A : Option Addr} {names : List ByteArray} {up : List Nat} {l : List Lx.Tk} {w w' W : World}
theorem NRd.ansS (h : NRd R N U A c1 c2 ct names up l p W) (hR : R < w.heap.size) (a b c d e f : Value) : NRd R N U A c1 c2 ct names up l p (ansS w W a b c d e f) :=
  (((((h.setX (x := ⟨w.heap.size, 0, none⟩) hR a).setX (x := ⟨w.heap.size, 1, none⟩) hR b).setX (x := ⟨w.heap.size, 2, none⟩) hR c).setX (x := ⟨w.heap.size, 3, none⟩) hR d).setX (x := ⟨w.heap.size, 4, none⟩) hR e).setX (x := ⟨w.heap.size, 5, none⟩) hR f
theorem KN.ansS {α : Type} {g : α → List Value} {B : Nat} {v : Value} {l : List α} (h : KN g B W v l) (hB : w.heap.size < B) (a b c d e f : Value) : KN g B (ansS w W a b c d e f) v l :=
  (((((h.set_ (p := ⟨w.heap.size, 0, none⟩) hB a).set_ (p := ⟨w.heap.size, 1, none⟩) hB b).set_ (p := ⟨w.heap.size, 2, none⟩) hB c).set_ (p := ⟨w.heap.size, 3, none⟩) hB d).set_ (p := ⟨w.heap.size, 4, none⟩) hB e).set_ (p := ⟨w.heap.size, 5, none⟩) hB f
set_option maxHeartbeats 16000000 in
theorem sstate_any (hf : Tb.Fine l) (hz : checkN names up = 0) (w : World) (h : NRd R N U A c1 c2 ct names up l p w) (hi : Ins w) (hg : 0 < R) :
    Calls Tryz.prog 85 #[.pointer (some ⟨R, 0, none⟩)] w (SStold R N U A c1 c2 ct names up l w (rawS names up.length l p)) := by
  have hR := h.lt
  obtain ⟨W0, hW0⟩ : ∃ W0, (w.alloc (.cells #[.int .i64 0, .int .i64 0, .slice none 0 0, .slice none 0 0, .slice none 0 0, .slice none 0 0] 42)).alloc (.cells #[.int .i64 0, .int .i64 0, .slice none 0 0, .slice none 0 0, .slice none 0 0, .slice none 0 0] 42) = W0 := ⟨_, rfl⟩
  have hsl := SLc.start (R := R) (w := w)
  have hnr := h.keep (((Below.refl _ w).alloc (Nat.le_refl _) (.cells #[.int .i64 0, .int .i64 0, .slice none 0 0, .slice none 0 0, .slice none 0 0, .slice none 0 0] 42)).alloc (by simp) (.cells #[.int .i64 0, .int .i64 0, .slice none 0 0, .slice none 0 0, .slice none 0 0, .slice none 0 0] 42))
  rw [hW0] at hsl hnr
  have HIN := Lib.hid (fun W (hk : Kept R R w W) => hi.below (hk.belowR (Nat.le_of_lt hR)) hg)
  have HSL := Lib.hid hsl
  have HNR := Lib.hid hnr
  have HPC := Lib.hid (fun W (h : NRd R N U A c1 c2 ct names up l p W) => spc_any hf hz W h)
  have HPR0 := Lib.hid (fun q W (h : NRd R N U A c1 c2 ct names up l q W) (hi : Ins W) => sprogram_any hf hz W h hi hg)
  have HME0 := Lib.hid (fun q W (h : NRd R N U A c1 c2 ct names up l q W) => arow_any hf hz St.bMem 6 (by decide) (by decide) W h)
  have HST0 := Lib.hid (fun q W (h : NRd R N U A c1 c2 ct names up l q W) => srow_any hf hz St.bStack 12 (by decide) (by decide) W h)
  have HOU0 := Lib.hid (fun q W (h : NRd R N U A c1 c2 ct names up l q W) => arow_any hf hz St.bOut 8 (by decide) (by decide) W h)
  obtain ⟨res, hres⟩ : ∃ res, rawS names up.length l p = res := ⟨_, rfl⟩
  rw [hres]
  have HRS := Lib.hid hres
  clear h hi hsl hnr hres
  go_enter Tryz.func85, Tryz.ntmps85
  obtain ⟨⟨⟨av, al⟩, j1, e1⟩, hpl⟩ : ∃ r, pcP names l p = r := ⟨_, rfl⟩
  have hc := HPC.out W0 HNR.out
  rw [hpl] at hc
  have HRS0 := HRS
  clear HRS
  by_cases her : e1 = 0
  · subst her
    have HRS : Hid (raw2 names up.length l ⟨av, al⟩ j1 = res) := Lib.hid (by rw [← HRS0.out]; unfold rawS; rw [hpl, St.andP_do])
    have HC := Lib.hid hc
    clear hc hpl HRS0
    go_wp2_with (fail)
    refine HC.out.mono ?_
    rintro e w1 ⟨⟨pv, pl⟩, rfl, hx, hn, hk⟩
    obtain ⟨rfl, rfl⟩ : pv = av ∧ pl = al := by
      have := hx rfl
      exact ⟨congrArg St.Atom.v this, congrArg St.Atom.l this⟩
    clear hx
    unfold atv
    have hs0 := HSL.out.keep hR hk
    have hwsz := HSL.out.kept.size
    have hwnz := HSL.out.loc.lt
    have hkw := hk
    have hs1 := ((hs0).setL 0 (.int .i64 pv)).setL 1 (.int .i64 pl)
    have hn1 := ((hn.setX (x := ⟨w.heap.size + 1, 0, none⟩) (by show R < w.heap.size + 1; omega) (.int .i64 pv)).setX (x := ⟨w.heap.size + 1, 1, none⟩) (by show R < w.heap.size + 1; omega) (.int .i64 pl))
    have g0 := hs0.loc.frozen 0
    have z0 := hs0.loc.cell 0
    have g1 := hs0.loc.frozen 1
    have z1 := hs0.loc.cell 1
    obtain ⟨W1, hW1⟩ : ∃ W1, ((w1.setCell ⟨w.heap.size + 1, 0, none⟩ (.int .i64 pv)).setCell ⟨w.heap.size + 1, 1, none⟩ (.int .i64 pl)) = W1 := ⟨_, rfl⟩
    rw [hW1] at hs1 hn1 
    clear HSL HNR
    have HSL := Lib.hid hs1
    have HNR := Lib.hid hn1
    clear hs0 hs1 hn hn1 hk hkw HC hwsz hwnz
    obtain ⟨⟨code, j2, e2⟩, hpl⟩ : ∃ r, progP names up.length l j1 = r := ⟨_, rfl⟩
    have hc := HPR0.out j1 W1 HNR.out (HIN.out W1 HSL.out.kept)
    rw [hpl] at hc
    have HRS0 := HRS
    clear HRS
    by_cases her : e2 = 0
    · subst her
      have HRS : Hid (raw3 names l ⟨pv, pl⟩ code j2 = res) := Lib.hid (by rw [← HRS0.out]; unfold raw2; rw [hpl, St.andP_do])
      have HC := Lib.hid hc
      clear hc hpl HRS0
      go_wp2_with (fail)
      refine HC.out.mono ?_
      rintro e w2 ⟨cA, cn, cc, rfl, hx, hn, hk⟩
      have hx := hx rfl
      have hs0 := HSL.out.keep hR hk
      have hwsz := HSL.out.kept.size
      have hwnz := HSL.out.loc.lt
      have hkw := hk
      have hs1 := (hs0).setL 2 (.slice cA cn cc)
      have hn1 := (hn.setX (x := ⟨w.heap.size + 1, 2, none⟩) (by show R < w.heap.size + 1; omega) (.slice cA cn cc))
      have g2 := hs0.loc.frozen 2
      have z2 := hs0.loc.cell 2
      have hqcode := (hx.less (show w.heap.size + 2 ≤ W1.heap.size by omega)).set_ (p := ⟨w.heap.size + 1, 2, none⟩) (by show w.heap.size + 1 < w.heap.size + 2; omega) (.slice cA cn cc)
      obtain ⟨W2, hW2⟩ : ∃ W2, (w2.setCell ⟨w.heap.size + 1, 2, none⟩ (.slice cA cn cc)) = W2 := ⟨_, rfl⟩
      rw [hW2] at hs1 hn1 hqcode
      clear HSL HNR
      have HSL := Lib.hid hs1
      have HNR := Lib.hid hn1
      have HKcode := Lib.hid hqcode
      clear hs0 hs1 hn hn1 hk hkw HC hwsz hwnz hqcode hx
      obtain ⟨⟨mem, j3, e3⟩, hpl⟩ : ∃ r, St.wordP names l St.bMem 6 false j2 = r := ⟨_, rfl⟩
      have hc := HME0.out j2 W2 HNR.out
      rw [hpl] at hc
      have HRS0 := HRS
      clear HRS
      by_cases her : e3 = 0
      · subst her
        have HRS : Hid (raw4 names l ⟨pv, pl⟩ code mem j3 = res) := Lib.hid (by rw [← HRS0.out]; unfold raw3; rw [hpl, St.andP_do])
        have HC := Lib.hid hc
        clear hc hpl HRS0
        go_wp2_with (fail)
        refine HC.out.mono ?_
        rintro e w3 ⟨mA, mn, mc, rfl, hx, hn, hk⟩
        have hx := (hx rfl).atoms
        have hs0 := HSL.out.keep hR hk
        have hwsz := HSL.out.kept.size
        have hwnz := HSL.out.loc.lt
        have hkw := hk
        have hkcode := HKcode.out.kept (show R < w.heap.size + 2 by omega) hk
        have hs1 := (hs0).setL 3 (.slice mA mn mc)
        have hn1 := (hn.setX (x := ⟨w.heap.size + 1, 3, none⟩) (by show R < w.heap.size + 1; omega) (.slice mA mn mc))
        have g3 := hs0.loc.frozen 3
        have z3 := hs0.loc.cell 3
        have hqcode := hkcode.set_ (p := ⟨w.heap.size + 1, 3, none⟩) (by show w.heap.size + 1 < w.heap.size + 2; omega) (.slice mA mn mc)
        have hqmem := (hx.less (show w.heap.size + 2 ≤ W2.heap.size by omega)).set_ (p := ⟨w.heap.size + 1, 3, none⟩) (by show w.heap.size + 1 < w.heap.size + 2; omega) (.slice mA mn mc)
        obtain ⟨W3, hW3⟩ : ∃ W3, (w3.setCell ⟨w.heap.size + 1, 3, none⟩ (.slice mA mn mc)) = W3 := ⟨_, rfl⟩
        rw [hW3] at hs1 hn1 hqcode hqmem
        clear HSL HNR HKcode
        have HSL := Lib.hid hs1
        have HNR := Lib.hid hn1
        have HKcode := Lib.hid hqcode
        have HKmem := Lib.hid hqmem
        clear hs0 hs1 hn hn1 hk hkw HC hwsz hwnz hkcode hqcode hqmem hx
        obtain ⟨⟨stack, j4, e4⟩, hpl⟩ : ∃ r, St.wordP names l St.bStack 12 true j3 = r := ⟨_, rfl⟩
        have hc := HST0.out j3 W3 HNR.out
        rw [hpl] at hc
        have HRS0 := HRS
        clear HRS
        by_cases her : e4 = 0
        · subst her
          have HRS : Hid (raw5 names l ⟨pv, pl⟩ code mem stack j4 = res) := Lib.hid (by rw [← HRS0.out]; unfold raw4; rw [hpl, St.andP_do])
          have HC := Lib.hid hc
          clear hc hpl HRS0
          go_wp2_with (fail)
          refine HC.out.mono ?_
          rintro e w4 ⟨sA, sn, sc, rfl, hx, hn, hk⟩
          have hx := hx rfl
          have hs0 := HSL.out.keep hR hk
          have hwsz := HSL.out.kept.size
          have hwnz := HSL.out.loc.lt
          have hkw := hk
          have hkcode := HKcode.out.kept (show R < w.heap.size + 2 by omega) hk
          have hkmem := HKmem.out.kept (show R < w.heap.size + 2 by omega) hk
          have hs1 := (hs0).setL 4 (.slice sA sn sc)
          have hn1 := (hn.setX (x := ⟨w.heap.size + 1, 4, none⟩) (by show R < w.heap.size + 1; omega) (.slice sA sn sc))
          have g4 := hs0.loc.frozen 4
          have z4 := hs0.loc.cell 4
          have hqcode := hkcode.set_ (p := ⟨w.heap.size + 1, 4, none⟩) (by show w.heap.size + 1 < w.heap.size + 2; omega) (.slice sA sn sc)
          have hqmem := hkmem.set_ (p := ⟨w.heap.size + 1, 4, none⟩) (by show w.heap.size + 1 < w.heap.size + 2; omega) (.slice sA sn sc)
          have hqstack := (hx.less (show w.heap.size + 2 ≤ W3.heap.size by omega)).set_ (p := ⟨w.heap.size + 1, 4, none⟩) (by show w.heap.size + 1 < w.heap.size + 2; omega) (.slice sA sn sc)
          obtain ⟨W4, hW4⟩ : ∃ W4, (w4.setCell ⟨w.heap.size + 1, 4, none⟩ (.slice sA sn sc)) = W4 := ⟨_, rfl⟩
          rw [hW4] at hs1 hn1 hqcode hqmem hqstack
          clear HSL HNR HKcode HKmem
          have HSL := Lib.hid hs1
          have HNR := Lib.hid hn1
          have HKcode := Lib.hid hqcode
          have HKmem := Lib.hid hqmem
          have HKstack := Lib.hid hqstack
          clear hs0 hs1 hn hn1 hk hkw HC hwsz hwnz hkcode hkmem hqcode hqmem hqstack hx
          obtain ⟨⟨out, j5, e5⟩, hpl⟩ : ∃ r, St.wordP names l St.bOut 8 false j4 = r := ⟨_, rfl⟩
          have hc := HOU0.out j4 W4 HNR.out
          rw [hpl] at hc
          have HRS0 := HRS
          clear HRS
          by_cases her : e5 = 0
          · subst her
            have HRS : Hid (((⟨⟨pv, pl⟩, code, mem.map St.toAtom, stack, out.map St.toAtom⟩ : St.State), j5, 0) = res) := Lib.hid (by rw [← HRS0.out]; unfold raw5; rw [hpl, St.andP_do])
            have HC := Lib.hid hc
            clear hc hpl HRS0
            go_wp2_with (fail)
            refine HC.out.mono ?_
            rintro e w5 ⟨oA, on, oc, rfl, hx, hn, hk⟩
            have hx := (hx rfl).atoms
            have hs0 := HSL.out.keep hR hk
            have hwsz := HSL.out.kept.size
            have hwnz := HSL.out.loc.lt
            have hkw := hk
            have hkcode := HKcode.out.kept (show R < w.heap.size + 2 by omega) hk
            have hkmem := HKmem.out.kept (show R < w.heap.size + 2 by omega) hk
            have hkstack := HKstack.out.kept (show R < w.heap.size + 2 by omega) hk
            have hs1 := (hs0).setL 5 (.slice oA on oc)
            have hn1 := (hn.setX (x := ⟨w.heap.size + 1, 5, none⟩) (by show R < w.heap.size + 1; omega) (.slice oA on oc))
            have g5 := hs0.loc.frozen 5
            have z5 := hs0.loc.cell 5
            have hqcode := hkcode.set_ (p := ⟨w.heap.size + 1, 5, none⟩) (by show w.heap.size + 1 < w.heap.size + 2; omega) (.slice oA on oc)
            have hqmem := hkmem.set_ (p := ⟨w.heap.size + 1, 5, none⟩) (by show w.heap.size + 1 < w.heap.size + 2; omega) (.slice oA on oc)
            have hqstack := hkstack.set_ (p := ⟨w.heap.size + 1, 5, none⟩) (by show w.heap.size + 1 < w.heap.size + 2; omega) (.slice oA on oc)
            have hqout := (hx.less (show w.heap.size + 2 ≤ W4.heap.size by omega)).set_ (p := ⟨w.heap.size + 1, 5, none⟩) (by show w.heap.size + 1 < w.heap.size + 2; omega) (.slice oA on oc)
            obtain ⟨W5, hW5⟩ : ∃ W5, (w5.setCell ⟨w.heap.size + 1, 5, none⟩ (.slice oA on oc)) = W5 := ⟨_, rfl⟩
            rw [hW5] at hs1 hn1 hqcode hqmem hqstack hqout
            clear HSL HNR HKcode HKmem HKstack
            have HSL := Lib.hid hs1
            have HNR := Lib.hid hn1
            have HKcode := Lib.hid hqcode
            have HKmem := Lib.hid hqmem
            have HKstack := Lib.hid hqstack
            have HKout := Lib.hid hqout
            clear hs0 hs1 hn hn1 hk hkw HC hwsz hwnz hkcode hkmem hkstack hqcode hqmem hqstack hqout hx
            have x0 := HSL.out.loc.cell 0
            have x1 := HSL.out.loc.cell 1
            have x2 := HSL.out.loc.cell 2
            have x3 := HSL.out.loc.cell 3
            have x4 := HSL.out.loc.cell 4
            have x5 := HSL.out.loc.cell 5
            have y0 := HSL.out.res.cell 0
            have y1 := HSL.out.res.cell 1
            have y2 := HSL.out.res.cell 2
            have y3 := HSL.out.res.cell 3
            have y4 := HSL.out.res.cell 4
            have y5 := HSL.out.res.cell 5
            have f0 := HSL.out.res.frozen 0
            have f1 := HSL.out.res.frozen 1
            have f2 := HSL.out.res.frozen 2
            have f3 := HSL.out.res.frozen 3
            have f4 := HSL.out.res.frozen 4
            have f5 := HSL.out.res.frozen 5
            have hsl := HSL.out.ans (a := .int .i64 pv) (b := .int .i64 pl) (c := .slice cA cn cc) (d := .slice mA mn mc) (e := .slice sA sn sc) (f := .slice oA on oc)
            have hnr := HNR.out.ansS (w := w) hR (.int .i64 pv) (.int .i64 pl) (.slice cA cn cc) (.slice mA mn mc) (.slice sA sn sc) (.slice oA on oc)
            have v0 := hsl.res.cell 0
            have v1 := hsl.res.cell 1
            have v2 := hsl.res.cell 2
            have v3 := hsl.res.cell 3
            have v4 := hsl.res.cell 4
            have v5 := hsl.res.cell 5
            have HK := Lib.hid hsl.kept
            have HNZ := Lib.hid hnr
            have HKZ : Hid (KSt w.heap.size (ansS w W5 (.int .i64 pv) (.int .i64 pl) (.slice cA cn cc) (.slice mA mn mc) (.slice sA sn sc) (.slice oA on oc)) (.agg #[.int .i64 pv, .int .i64 pl, .slice cA cn cc, .slice mA mn mc, .slice sA sn sc, .slice oA on oc]) (⟨⟨pv, pl⟩, code, mem.map St.toAtom, stack, out.map St.toAtom⟩ : St.State)) := Lib.hid ⟨_, _, _, _, rfl, (HKcode.out.ansS (by omega) _ _ _ _ _ _).less (by omega), (HKmem.out.ansS (by omega) _ _ _ _ _ _).less (by omega), (HKstack.out.ansS (by omega) _ _ _ _ _ _).less (by omega), (HKout.out.ansS (by omega) _ _ _ _ _ _).less (by omega)⟩
            unfold ansS at v0 v1 v2 v3 v4 v5 HK HNZ HKZ
            clear hsl hnr
            go_wp2
            refine bodyPost_ret (v := .tuple #[.agg #[.int .i64 pv, .int .i64 pl, .slice cA cn cc, .slice mA mn mc, .slice sA sn sc, .slice oA on oc], .int .i64 (0 : Nat)]) (by simp [results, Tryz.results85, go_sem, v0, v1, v2, v3, v4, v5]) rfl ⟨pv, pl, cA, cn, cc, mA, mn, mc, sA, sn, sc, oA, on, oc, by rw [← HRS.out], ?_, ?_, HK.out⟩
            · intro _; rw [← HRS.out]; exact HKZ.out
            · rw [← HRS.out]; exact HNZ.out
          · have hz1 : ((e5 : Int) != 0) = true := by rw [bne_iff_ne]; omega
            have HRS : Hid ((St.zero, j5, e5) = res) := Lib.hid (by rw [← HRS0.out]; unfold raw5; rw [hpl, St.andP_no her])
            have HER := Lib.hid her
            have HC := Lib.hid hc
            clear hc hpl HRS0 her HKcode HKmem HKstack
            go_wp2_with (fail)
            refine HC.out.mono ?_
            rintro e w5 ⟨oA, on, oc, rfl, hx, hn, hk⟩
            have hs0 := HSL.out.keep hR hk
            have hs1 := (hs0).setL 5 (.slice oA on oc)
            have hn1 := (hn.setX (x := ⟨w.heap.size + 1, 5, none⟩) (by show R < w.heap.size + 1; omega) (.slice oA on oc))
            have g5 := hs0.loc.frozen 5
            have z5 := hs0.loc.cell 5
            obtain ⟨W5, hW5⟩ : ∃ W5, (w5.setCell ⟨w.heap.size + 1, 5, none⟩ (.slice oA on oc)) = W5 := ⟨_, rfl⟩
            rw [hW5] at hs1 hn1
            clear HSL HNR
            have HSL := Lib.hid hs1
            have HNR := Lib.hid hn1
            clear hs0 hs1 hn hn1 hk hx HC
            have x0 := HSL.out.loc.cell 0
            have x1 := HSL.out.loc.cell 1
            have x2 := HSL.out.loc.cell 2
            have x3 := HSL.out.loc.cell 3
            have x4 := HSL.out.loc.cell 4
            have x5 := HSL.out.loc.cell 5
            have y0 := HSL.out.res.cell 0
            have y1 := HSL.out.res.cell 1
            have y2 := HSL.out.res.cell 2
            have y3 := HSL.out.res.cell 3
            have y4 := HSL.out.res.cell 4
            have y5 := HSL.out.res.cell 5
            have f0 := HSL.out.res.frozen 0
            have f1 := HSL.out.res.frozen 1
            have f2 := HSL.out.res.frozen 2
            have f3 := HSL.out.res.frozen 3
            have f4 := HSL.out.res.frozen 4
            have f5 := HSL.out.res.frozen 5
            have hsl := HSL.out.ans (a := .int .i64 pv) (b := .int .i64 pl) (c := .slice cA cn cc) (d := .slice mA mn mc) (e := .slice sA sn sc) (f := .slice oA on oc)
            have hnr := HNR.out.ansS (w := w) hR (.int .i64 pv) (.int .i64 pl) (.slice cA cn cc) (.slice mA mn mc) (.slice sA sn sc) (.slice oA on oc)
            have v0 := hsl.res.cell 0
            have v1 := hsl.res.cell 1
            have v2 := hsl.res.cell 2
            have v3 := hsl.res.cell 3
            have v4 := hsl.res.cell 4
            have v5 := hsl.res.cell 5
            have HK := Lib.hid hsl.kept
            have HNZ := Lib.hid hnr
            skip
            unfold ansS at v0 v1 v2 v3 v4 v5 HK HNZ
            clear hsl hnr
            go_wp2
            refine bodyPost_ret (v := .tuple #[.agg #[.int .i64 pv, .int .i64 pl, .slice cA cn cc, .slice mA mn mc, .slice sA sn sc, .slice oA on oc], .int .i64 (e5 : Nat)]) (by simp [results, Tryz.results85, go_sem, v0, v1, v2, v3, v4, v5]) rfl ⟨pv, pl, cA, cn, cc, mA, mn, mc, sA, sn, sc, oA, on, oc, by rw [← HRS.out], ?_, ?_, HK.out⟩
            · intro h; rw [← HRS.out] at h; exact absurd h HER.out
            · rw [← HRS.out]; exact HNZ.out
        · have hz1 : ((e4 : Int) != 0) = true := by rw [bne_iff_ne]; omega
          have HRS : Hid ((St.zero, j4, e4) = res) := Lib.hid (by rw [← HRS0.out]; unfold raw4; rw [hpl, St.andP_no her])
          have HER := Lib.hid her
          have HC := Lib.hid hc
          clear hc hpl HRS0 her HKcode HKmem
          go_wp2_with (fail)
          refine HC.out.mono ?_
          rintro e w4 ⟨sA, sn, sc, rfl, hx, hn, hk⟩
          have hs0 := HSL.out.keep hR hk
          have hs1 := (hs0).setL 4 (.slice sA sn sc)
          have hn1 := (hn.setX (x := ⟨w.heap.size + 1, 4, none⟩) (by show R < w.heap.size + 1; omega) (.slice sA sn sc))
          have g4 := hs0.loc.frozen 4
          have z4 := hs0.loc.cell 4
          obtain ⟨W4, hW4⟩ : ∃ W4, (w4.setCell ⟨w.heap.size + 1, 4, none⟩ (.slice sA sn sc)) = W4 := ⟨_, rfl⟩
          rw [hW4] at hs1 hn1
          clear HSL HNR
          have HSL := Lib.hid hs1
          have HNR := Lib.hid hn1
          clear hs0 hs1 hn hn1 hk hx HC
          have x0 := HSL.out.loc.cell 0
          have x1 := HSL.out.loc.cell 1
          have x2 := HSL.out.loc.cell 2
          have x3 := HSL.out.loc.cell 3
          have x4 := HSL.out.loc.cell 4
          have x5 := HSL.out.loc.cell 5
          have y0 := HSL.out.res.cell 0
          have y1 := HSL.out.res.cell 1
          have y2 := HSL.out.res.cell 2
          have y3 := HSL.out.res.cell 3
          have y4 := HSL.out.res.cell 4
          have y5 := HSL.out.res.cell 5
          have f0 := HSL.out.res.frozen 0
          have f1 := HSL.out.res.frozen 1
          have f2 := HSL.out.res.frozen 2
          have f3 := HSL.out.res.frozen 3
          have f4 := HSL.out.res.frozen 4
          have f5 := HSL.out.res.frozen 5
          have hsl := HSL.out.ans (a := .int .i64 pv) (b := .int .i64 pl) (c := .slice cA cn cc) (d := .slice mA mn mc) (e := .slice sA sn sc) (f := .slice none 0 0)
          have hnr := HNR.out.ansS (w := w) hR (.int .i64 pv) (.int .i64 pl) (.slice cA cn cc) (.slice mA mn mc) (.slice sA sn sc) (.slice none 0 0)
          have v0 := hsl.res.cell 0
          have v1 := hsl.res.cell 1
          have v2 := hsl.res.cell 2
          have v3 := hsl.res.cell 3
          have v4 := hsl.res.cell 4
          have v5 := hsl.res.cell 5
          have HK := Lib.hid hsl.kept
          have HNZ := Lib.hid hnr
          skip
          unfold ansS at v0 v1 v2 v3 v4 v5 HK HNZ
          clear hsl hnr
          go_wp2
          refine bodyPost_ret (v := .tuple #[.agg #[.int .i64 pv, .int .i64 pl, .slice cA cn cc, .slice mA mn mc, .slice sA sn sc, .slice none 0 0], .int .i64 (e4 : Nat)]) (by simp [results, Tryz.results85, go_sem, v0, v1, v2, v3, v4, v5]) rfl ⟨pv, pl, cA, cn, cc, mA, mn, mc, sA, sn, sc, none, 0, 0, by rw [← HRS.out], ?_, ?_, HK.out⟩
          · intro h; rw [← HRS.out] at h; exact absurd h HER.out
          · rw [← HRS.out]; exact HNZ.out
      · have hz1 : ((e3 : Int) != 0) = true := by rw [bne_iff_ne]; omega
        have HRS : Hid ((St.zero, j3, e3) = res) := Lib.hid (by rw [← HRS0.out]; unfold raw3; rw [hpl, St.andP_no her])
        have HER := Lib.hid her
        have HC := Lib.hid hc
        clear hc hpl HRS0 her HKcode
        go_wp2_with (fail)
        refine HC.out.mono ?_
        rintro e w3 ⟨mA, mn, mc, rfl, hx, hn, hk⟩
        have hs0 := HSL.out.keep hR hk
        have hs1 := (hs0).setL 3 (.slice mA mn mc)
        have hn1 := (hn.setX (x := ⟨w.heap.size + 1, 3, none⟩) (by show R < w.heap.size + 1; omega) (.slice mA mn mc))
        have g3 := hs0.loc.frozen 3
        have z3 := hs0.loc.cell 3
        obtain ⟨W3, hW3⟩ : ∃ W3, (w3.setCell ⟨w.heap.size + 1, 3, none⟩ (.slice mA mn mc)) = W3 := ⟨_, rfl⟩
        rw [hW3] at hs1 hn1
        clear HSL HNR
        have HSL := Lib.hid hs1
        have HNR := Lib.hid hn1
        clear hs0 hs1 hn hn1 hk hx HC
        have x0 := HSL.out.loc.cell 0
        have x1 := HSL.out.loc.cell 1
        have x2 := HSL.out.loc.cell 2
        have x3 := HSL.out.loc.cell 3
        have x4 := HSL.out.loc.cell 4
        have x5 := HSL.out.loc.cell 5
        have y0 := HSL.out.res.cell 0
        have y1 := HSL.out.res.cell 1
        have y2 := HSL.out.res.cell 2
        have y3 := HSL.out.res.cell 3
        have y4 := HSL.out.res.cell 4
        have y5 := HSL.out.res.cell 5
        have f0 := HSL.out.res.frozen 0
        have f1 := HSL.out.res.frozen 1
        have f2 := HSL.out.res.frozen 2
        have f3 := HSL.out.res.frozen 3
        have f4 := HSL.out.res.frozen 4
        have f5 := HSL.out.res.frozen 5
        have hsl := HSL.out.ans (a := .int .i64 pv) (b := .int .i64 pl) (c := .slice cA cn cc) (d := .slice mA mn mc) (e := .slice none 0 0) (f := .slice none 0 0)
        have hnr := HNR.out.ansS (w := w) hR (.int .i64 pv) (.int .i64 pl) (.slice cA cn cc) (.slice mA mn mc) (.slice none 0 0) (.slice none 0 0)
        have v0 := hsl.res.cell 0
        have v1 := hsl.res.cell 1
        have v2 := hsl.res.cell 2
        have v3 := hsl.res.cell 3
        have v4 := hsl.res.cell 4
        have v5 := hsl.res.cell 5
        have HK := Lib.hid hsl.kept
        have HNZ := Lib.hid hnr
        skip
        unfold ansS at v0 v1 v2 v3 v4 v5 HK HNZ
        clear hsl hnr
        go_wp2
        refine bodyPost_ret (v := .tuple #[.agg #[.int .i64 pv, .int .i64 pl, .slice cA cn cc, .slice mA mn mc, .slice none 0 0, .slice none 0 0], .int .i64 (e3 : Nat)]) (by simp [results, Tryz.results85, go_sem, v0, v1, v2, v3, v4, v5]) rfl ⟨pv, pl, cA, cn, cc, mA, mn, mc, none, 0, 0, none, 0, 0, by rw [← HRS.out], ?_, ?_, HK.out⟩
        · intro h; rw [← HRS.out] at h; exact absurd h HER.out
        · rw [← HRS.out]; exact HNZ.out
    · have hz1 : ((e2 : Int) != 0) = true := by rw [bne_iff_ne]; omega
      have HRS : Hid ((St.zero, j2, e2) = res) := Lib.hid (by rw [← HRS0.out]; unfold raw2; rw [hpl, St.andP_no her])
      have HER := Lib.hid her
      have HC := Lib.hid hc
      clear hc hpl HRS0 her
      go_wp2_with (fail)
      refine HC.out.mono ?_
      rintro e w2 ⟨cA, cn, cc, rfl, hx, hn, hk⟩
      have hs0 := HSL.out.keep hR hk
      have hs1 := (hs0).setL 2 (.slice cA cn cc)
      have hn1 := (hn.setX (x := ⟨w.heap.size + 1, 2, none⟩) (by show R < w.heap.size + 1; omega) (.slice cA cn cc))
      have g2 := hs0.loc.frozen 2
      have z2 := hs0.loc.cell 2
      obtain ⟨W2, hW2⟩ : ∃ W2, (w2.setCell ⟨w.heap.size + 1, 2, none⟩ (.slice cA cn cc)) = W2 := ⟨_, rfl⟩
      rw [hW2] at hs1 hn1
      clear HSL HNR
      have HSL := Lib.hid hs1
      have HNR := Lib.hid hn1
      clear hs0 hs1 hn hn1 hk hx HC
      have x0 := HSL.out.loc.cell 0
      have x1 := HSL.out.loc.cell 1
      have x2 := HSL.out.loc.cell 2
      have x3 := HSL.out.loc.cell 3
      have x4 := HSL.out.loc.cell 4
      have x5 := HSL.out.loc.cell 5
      have y0 := HSL.out.res.cell 0
      have y1 := HSL.out.res.cell 1
      have y2 := HSL.out.res.cell 2
      have y3 := HSL.out.res.cell 3
      have y4 := HSL.out.res.cell 4
      have y5 := HSL.out.res.cell 5
      have f0 := HSL.out.res.frozen 0
      have f1 := HSL.out.res.frozen 1
      have f2 := HSL.out.res.frozen 2
      have f3 := HSL.out.res.frozen 3
      have f4 := HSL.out.res.frozen 4
      have f5 := HSL.out.res.frozen 5
      have hsl := HSL.out.ans (a := .int .i64 pv) (b := .int .i64 pl) (c := .slice cA cn cc) (d := .slice none 0 0) (e := .slice none 0 0) (f := .slice none 0 0)
      have hnr := HNR.out.ansS (w := w) hR (.int .i64 pv) (.int .i64 pl) (.slice cA cn cc) (.slice none 0 0) (.slice none 0 0) (.slice none 0 0)
      have v0 := hsl.res.cell 0
      have v1 := hsl.res.cell 1
      have v2 := hsl.res.cell 2
      have v3 := hsl.res.cell 3
      have v4 := hsl.res.cell 4
      have v5 := hsl.res.cell 5
      have HK := Lib.hid hsl.kept
      have HNZ := Lib.hid hnr
      skip
      unfold ansS at v0 v1 v2 v3 v4 v5 HK HNZ
      clear hsl hnr
      go_wp2
      refine bodyPost_ret (v := .tuple #[.agg #[.int .i64 pv, .int .i64 pl, .slice cA cn cc, .slice none 0 0, .slice none 0 0, .slice none 0 0], .int .i64 (e2 : Nat)]) (by simp [results, Tryz.results85, go_sem, v0, v1, v2, v3, v4, v5]) rfl ⟨pv, pl, cA, cn, cc, none, 0, 0, none, 0, 0, none, 0, 0, by rw [← HRS.out], ?_, ?_, HK.out⟩
      · intro h; rw [← HRS.out] at h; exact absurd h HER.out
      · rw [← HRS.out]; exact HNZ.out
  · have hz1 : ((e1 : Int) != 0) = true := by rw [bne_iff_ne]; omega
    have HRS : Hid ((St.zero, j1, e1) = res) := Lib.hid (by rw [← HRS0.out]; unfold rawS; rw [hpl, St.andP_no her])
    have HER := Lib.hid her
    have HC := Lib.hid hc
    clear hc hpl HRS0 her
    go_wp2_with (fail)
    refine HC.out.mono ?_
    rintro e w1 ⟨⟨pv, pl⟩, rfl, hx, hn, hk⟩
    unfold atv
    have hs0 := HSL.out.keep hR hk
    have hs1 := ((hs0).setL 0 (.int .i64 pv)).setL 1 (.int .i64 pl)
    have hn1 := ((hn.setX (x := ⟨w.heap.size + 1, 0, none⟩) (by show R < w.heap.size + 1; omega) (.int .i64 pv)).setX (x := ⟨w.heap.size + 1, 1, none⟩) (by show R < w.heap.size + 1; omega) (.int .i64 pl))
    have g0 := hs0.loc.frozen 0
    have z0 := hs0.loc.cell 0
    have g1 := hs0.loc.frozen 1
    have z1 := hs0.loc.cell 1
    obtain ⟨W1, hW1⟩ : ∃ W1, ((w1.setCell ⟨w.heap.size + 1, 0, none⟩ (.int .i64 pv)).setCell ⟨w.heap.size + 1, 1, none⟩ (.int .i64 pl)) = W1 := ⟨_, rfl⟩
    rw [hW1] at hs1 hn1
    clear HSL HNR
    have HSL := Lib.hid hs1
    have HNR := Lib.hid hn1
    clear hs0 hs1 hn hn1 hk hx HC
    have x0 := HSL.out.loc.cell 0
    have x1 := HSL.out.loc.cell 1
    have x2 := HSL.out.loc.cell 2
    have x3 := HSL.out.loc.cell 3
    have x4 := HSL.out.loc.cell 4
    have x5 := HSL.out.loc.cell 5
    have y0 := HSL.out.res.cell 0
    have y1 := HSL.out.res.cell 1
    have y2 := HSL.out.res.cell 2
    have y3 := HSL.out.res.cell 3
    have y4 := HSL.out.res.cell 4
    have y5 := HSL.out.res.cell 5
    have f0 := HSL.out.res.frozen 0
    have f1 := HSL.out.res.frozen 1
    have f2 := HSL.out.res.frozen 2
    have f3 := HSL.out.res.frozen 3
    have f4 := HSL.out.res.frozen 4
    have f5 := HSL.out.res.frozen 5
    have hsl := HSL.out.ans (a := .int .i64 pv) (b := .int .i64 pl) (c := .slice none 0 0) (d := .slice none 0 0) (e := .slice none 0 0) (f := .slice none 0 0)
    have hnr := HNR.out.ansS (w := w) hR (.int .i64 pv) (.int .i64 pl) (.slice none 0 0) (.slice none 0 0) (.slice none 0 0) (.slice none 0 0)
    have v0 := hsl.res.cell 0
    have v1 := hsl.res.cell 1
    have v2 := hsl.res.cell 2
    have v3 := hsl.res.cell 3
    have v4 := hsl.res.cell 4
    have v5 := hsl.res.cell 5
    have HK := Lib.hid hsl.kept
    have HNZ := Lib.hid hnr
    skip
    unfold ansS at v0 v1 v2 v3 v4 v5 HK HNZ
    clear hsl hnr
    go_wp2
    refine bodyPost_ret (v := .tuple #[.agg #[.int .i64 pv, .int .i64 pl, .slice none 0 0, .slice none 0 0, .slice none 0 0, .slice none 0 0], .int .i64 (e1 : Nat)]) (by simp [results, Tryz.results85, go_sem, v0, v1, v2, v3, v4, v5]) rfl ⟨pv, pl, none, 0, 0, none, 0, 0, none, 0, 0, none, 0, 0, by rw [← HRS.out], ?_, ?_, HK.out⟩
    · intro h; rw [← HRS.out] at h; exact absurd h HER.out
    · rw [← HRS.out]; exact HNZ.out
end
end Go.Proofs.YtipbilmnknmhmaaGreatDoor
