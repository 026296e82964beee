/- The reference's one is the plain one; what From holds at the head of a round. -/
import Derived.Test.YtipbilmnknmhmaaDoorGCodC
import Derived.Test.YtipbilmnknmhmaaDoorGCodK
import Derived.Test.YtipbilmnknmhmaaDoorGRefJ
import Derived.Test.YtipbilmnknmhmaaDoorGNotG
namespace Go.Proofs.YtipbilmnknmhmaaDoor
set_option maxRecDepth 100000
open Go.RowKit Go.Shelf Go.Sort

theorem intP_err (l : List Lx.Tk) (i : Nat) (h : (Cd.intP l i).2.2 ≠ 0) : (Cd.intP l i).2.2 = 4 := by
  unfold Cd.intP at h ⊢
  split
  · next hc => rw [if_pos hc] at h; exact absurd rfl h
  · rfl
theorem rOneN_step (l : List Lx.Tk) (op : Int) (i : Nat) : (rOneN l op i).i = (Cd.numStep op l (i + 1)).2.1 ∧ (rOneN l op i).e = (Cd.numStep op l (i + 1)).2.2 ∧ ((Cd.numStep op l (i + 1)).2.2 = 0 → (rOneN l op i).x = ⟨op, (Cd.numStep op l (i + 1)).1, 0⟩) := by
  unfold rOneN Cd.numStep
  by_cases hn : Cd.number op = true
  · rw [if_pos hn, if_pos hn]
    unfold rInt setN8
    dsimp only
    rw [if_pos rfl]
    by_cases h0 : (Cd.intP l (i + 1)).2.2 = 0
    · rw [if_pos h0]
      exact ⟨rfl, h0.symm, fun _ => rfl⟩
    · rw [if_neg h0]
      exact ⟨rfl, (intP_err l _ h0).symm, fun h => absurd h h0⟩
  · rw [if_neg hn, if_neg hn]
    exact ⟨rfl, rfl, fun _ => rfl⟩
theorem rMark_err (l : List Lx.Tk) (t : ByteArray) (p : RP) (h : p.e ≠ 0) : rMark l t p = p := by unfold rMark; rw [if_neg h]
theorem rLab_err (names : List ByteArray) (l : List Lx.Tk) (p : RP) (h : p.e ≠ 0) : rLab names l p = p := by
  unfold rLab
  rw [rMark_err l _ p h, if_neg h]
theorem rLab_labP (names : List ByteArray) (l : List Lx.Tk) (p : RP) (h : p.e = 0) : (rLab names l p).i = (Cd.labP names l p.i).2.1 ∧ (rLab names l p).e = (Cd.labP names l p.i).2.2 ∧ (rLab names l p).x = p.x ∧ ((Cd.labP names l p.i).2.2 = 0 → (rLab names l p).n = (Cd.labP names l p.i).1) := by
  unfold rLab rMark Cd.labP
  rw [if_pos h]
  by_cases hm : Cd.isM l Cd.bAt p.i = true
  · rw [if_pos hm, if_pos hm]
    dsimp only
    rw [if_pos h]
    unfold rName Cd.nameP
    dsimp only
    by_cases hk : (Tb.tok l (p.i + 1)).kind = 1
    · rw [if_pos hk, if_pos hk]
      cases idxN names (Tb.tok l (p.i + 1)).text with
      | none => exact ⟨rfl, rfl, rfl, fun h => absurd (show (6 : Nat) = 0 from h) (by decide)⟩
      | some a => exact ⟨rfl, h, rfl, fun _ => rfl⟩
    · rw [if_neg hk, if_neg hk]
      exact ⟨rfl, rfl, rfl, fun h => absurd (show (4 : Nat) = 0 from h) (by decide)⟩
  · rw [if_neg hm, if_neg hm]
    dsimp only
    rw [if_neg (by decide)]
    exact ⟨rfl, rfl, rfl, fun h => absurd (show (4 : Nat) = 0 from h) (by decide)⟩
theorem rest_rest (names : List ByteArray) (op : Int) (l : List Lx.Tk) (i : Nat) : (rMark l Cd.bSemi (rOneL names l op i)).i = (Cd.restP names op l (i + 1)).2.1 ∧ (rMark l Cd.bSemi (rOneL names l op i)).e = (Cd.restP names op l (i + 1)).2.2 ∧ ((Cd.restP names op l (i + 1)).2.2 = 0 → (rMark l Cd.bSemi (rOneL names l op i)).x = (Cd.restP names op l (i + 1)).1) := by
  obtain ⟨a1, a2, a3⟩ := rOneN_step l op i
  unfold Cd.restP
  by_cases h0 : (Cd.numStep op l (i + 1)).2.2 = 0
  · rw [if_pos h0]
    have a3 := a3 h0
    rw [h0] at a2
    have key : (rOneL names l op i).i = (Cd.labStep names op l (Cd.numStep op l (i + 1)).2.1).2.1 ∧ (rOneL names l op i).e = (Cd.labStep names op l (Cd.numStep op l (i + 1)).2.1).2.2 ∧ ((Cd.labStep names op l (Cd.numStep op l (i + 1)).2.1).2.2 = 0 → (rOneL names l op i).x = ⟨op, (Cd.numStep op l (i + 1)).1, (Cd.labStep names op l (Cd.numStep op l (i + 1)).2.1).1⟩) := by
      unfold rOneL Cd.labStep
      by_cases h1 : op = 1
      · rw [if_pos h1, if_pos h1]
        obtain ⟨b1, b2, b3, b4⟩ := rLab_labP names l (rOneN l op i) a2
        rw [a1] at b1 b2 b4
        unfold setL8
        refine ⟨b1, b2, fun h => ?_⟩
        dsimp only
        rw [b3, b4 h, a3]
      · rw [if_neg h1, if_neg h1]
        exact ⟨a1, a2, fun _ => a3⟩
    obtain ⟨k1, k2, k3⟩ := key
    unfold Cd.endStep
    by_cases h2 : (Cd.labStep names op l (Cd.numStep op l (i + 1)).2.1).2.2 = 0
    · rw [if_pos h2]
      rw [h2] at k2
      have k3 := k3 h2
      unfold rMark Cd.markP
      rw [if_pos k2, k1]
      by_cases hm : Cd.isM l Cd.bSemi (Cd.labStep names op l (Cd.numStep op l (i + 1)).2.1).2.1 = true
      · rw [if_pos hm, if_pos hm]
        exact ⟨rfl, k2, fun _ => k3⟩
      · rw [if_neg hm, if_neg hm]
        exact ⟨rfl, rfl, fun h => absurd (show (4 : Nat) = 0 from h) (by decide)⟩
    · rw [if_neg h2]
      have he : (rOneL names l op i).e ≠ 0 := by rw [k2]; exact h2
      rw [rMark_err l _ _ he]
      exact ⟨k1, k2, fun h => absurd h h2⟩
  · rw [if_neg h0]
    have he : (rOneN l op i).e ≠ 0 := by rw [a2]; exact h0
    have hl : (rOneL names l op i).i = (Cd.numStep op l (i + 1)).2.1 ∧ (rOneL names l op i).e = (Cd.numStep op l (i + 1)).2.2 := by
      unfold rOneL
      by_cases h1 : op = 1
      · rw [if_pos h1, rLab_err names l _ he]
        exact ⟨a1, a2⟩
      · rw [if_neg h1]
        exact ⟨a1, a2⟩
    have he2 : (rOneL names l op i).e ≠ 0 := by rw [hl.2]; exact h0
    rw [rMark_err l _ _ he2]
    exact ⟨hl.1, hl.2, fun h => absurd h h0⟩
theorem rOne_one (names : List ByteArray) (k : Nat) (op : Int) (l : List Lx.Tk) (i : Nat) : (rOne names k op l i).i = (Cd.oneP names k op l i).2.1 ∧ (rOne names k op l i).e = (Cd.oneP names k op l i).2.2 ∧ ((Cd.oneP names k op l i).2.2 = 0 → (rOne names k op l i).x = (Cd.oneP names k op l i).1) := by
  obtain ⟨a1, a2, a3⟩ := rest_rest names op l i
  unfold rOne Cd.oneP
  generalize rMark l Cd.bSemi (rOneL names l op i) = q at *
  generalize Cd.restP names op l (i + 1) = r at *
  unfold rEnd Cd.okP
  by_cases h0 : r.2.2 = 0
  · rw [if_pos h0]
    have a3 := a3 h0
    rw [h0] at a2
    rw [a3]
    by_cases hb : Cd.inB k r.1 = true
    · rw [if_pos hb, if_neg (fun h => by rw [hb] at h; exact absurd h.2 (by decide))]
      exact ⟨a1, by rw [a2, h0], fun _ => a3⟩
    · rw [if_neg hb, if_pos ⟨a2, by simpa using hb⟩]
      exact ⟨rfl, rfl, fun h => absurd (show (1 : Nat) = 0 from h) (by decide)⟩
  · rw [if_neg h0, if_neg (fun h => h0 (by rw [← a2]; exact h.1))]
    exact ⟨a1, a2, fun h => absurd h h0⟩

/-- At the head of a round of From. -/
structure FrIn (w : World) (lv : Array Value) (out : List Cd.In) (v : Value) (W : World) : Prop where
  below : Below w.heap.size w W
  lat : Blk W w.heap.size 25 lv
  res : Blk W (w.heap.size + 1) 32 #[.slice none 0 0, .int .i64 0, .int .i64 0]
  own : W.ownsRow (w.heap.size + 2) 53 3 v out.length (icells out)
theorem FrIn.start (w : World) (lv : Array Value) : FrIn w lv [] (.slice (some ⟨w.heap.size + 1 + 1, 0, none⟩) 0 0) (((w.alloc (.cells lv 25)).alloc (.cells #[.slice none 0 0, .int .i64 0, .int .i64 0] 32)).alloc (.cells #[] 53)) := by
  have h1 := Blk.new (w.alloc (.cells lv 25)) 32 #[.slice none 0 0, .int .i64 0, .int .i64 0]
  have h2 := World.ownsRow_made (e := 53) (size := 3) (base := w.heap.size + 2) ((w.alloc (.cells lv 25)).alloc (.cells #[.slice none 0 0, .int .i64 0, .int .i64 0] 32)) #[] 0 (by simp) (by decide) rfl
  simp only [World.size_alloc] at h1 h2
  exact ⟨three_new w _ _ _, ((Blk.new w _ _).alloc _).alloc _, h1.alloc _, h2⟩
/-- The row is kept where its own block is. -/
theorem own_keep8 {W W' : World} {base sz n B : Nat} {e : TypeId} {rv : Value} {xs : List Value} (h : W.ownsRow base e sz rv n xs) (hB : W.heap.size ≤ B) (hb : Below B W W') : W'.ownsRow base e sz rv n xs :=
  own_of h fun g hg => hb.block g (Nat.lt_of_lt_of_le (h.lt g hg).2 hB)
theorem FrIn.keep {w W W' : World} {lv : Array Value} {out : List Cd.In} {v : Value} (h : FrIn w lv out v W) (hb : Below W.heap.size W W') : FrIn w lv out v W' :=
  ⟨h.below.trans (hb.mono h.below.size), h.lat.below hb h.lat.lt, h.res.below hb h.res.lt, own_keep8 h.own (Nat.le_refl _) hb⟩
end Go.Proofs.YtipbilmnknmhmaaDoor
