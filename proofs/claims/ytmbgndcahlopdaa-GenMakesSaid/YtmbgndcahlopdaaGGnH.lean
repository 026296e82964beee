/- One more thing behind a row that is owned: instructions, atoms, slots (by gen_gnh.py). -/
import Derived.Test.YtmbgndcahlopdaaGStpD
import Derived.Test.YtmbgndcahlopdaaGGnE
import Derived.Test.YtmbgndcahlopdaaGGnA
namespace Go.Proofs.Ytmbgndcahlopdaa
set_option maxRecDepth 100000
open Go.RowKit Go.Shelf

theorem Try.info15I : (Try.prog.info? 66).map (fun i => (i.zero, i.size, i.bytes)) = some (some (.agg #[.int .i64 0, .int .i64 0, .int .i64 0]), 3, 24) := by kernel_rfl
theorem app15I {w : World} {base k : Nat} {v : Value} {cs : List Cd.In} (a b l : Int) (hown : w.ownsRow base 66 3 v k (fcells ivs cs)) (hk : k ≤ 1000) (hbase : base ≤ w.heap.size) :
    ∃ v' W2, (Builtin.append_ #[35, 35] 35 #[v, .slice (some ⟨w.heap.size, 0, none⟩) 1 1]).run Try.prog (w.alloc (.cells #[.int .i64 a, .int .i64 b, .int .i64 l] 66)) = .ok v' W2 ∧ W2.ownsRow base 66 3 v' (k + 1) (fcells ivs (cs ++ [⟨a, b, l⟩])) ∧ Below base (w.alloc (.cells #[.int .i64 a, .int .i64 b, .int .i64 l] 66)) W2 ∧
      (∀ (g : Nat) (t : TypeId) (c : Array Value), 66 ≠ t → Blk (w.alloc (.cells #[.int .i64 a, .int .i64 b, .int .i64 l] 66)) g t c → Blk W2 g t c) := by
  obtain ⟨i0, hi, hz0, hz1, hz2⟩ := info_parts Try.info15I
  have hown' := hown.alloc (.cells #[.int .i64 a, .int .i64 b, .int .i64 l] 66)
  obtain ⟨v', W2, hrun, hown2, hb2, hk2⟩ := append_run10 (P := Try.prog) base 35 35 66 i0 (.agg #[.int .i64 0, .int .i64 0, .int .i64 0]) 3 24 Try.underlying35 hi hz0 hz1 hz2 rfl (by decide)
    _ k _ hown' (some ⟨w.heap.size, 0, none⟩) 1 1 [.int .i64 a, .int .i64 b, .int .i64 l] rfl (((Blk.new w 66 #[.int .i64 a, .int .i64 b, .int .i64 l]).row).more (by simp)) (by intro u hu; simp at hu; rcases hu with rfl | rfl | rfl <;> rfl) (by unfold maxLen; omega) (by omega) (by simp; omega)
  refine ⟨v', W2, hrun, ?_, hb2, fun g t c ht hb => hk2 g t c (fun e => ?_) hb⟩
  · rw [fcells_snoc10]
    exact hown2
  · obtain ⟨cs', hb'⟩ := own_blkD hown' e.symm
    exact hb'.ty_neD hb ht rfl
theorem Try.info15A : (Try.prog.info? 34).map (fun i => (i.zero, i.size, i.bytes)) = some (some (.agg #[.int .i64 0, .int .i64 0]), 2, 16) := by kernel_rfl
theorem app15A {w : World} {base k : Nat} {v : Value} {cs : List St.Atom} (a l : Int) (hown : w.ownsRow base 34 2 v k (fcells avs cs)) (hk : k ≤ 1000) (hbase : base ≤ w.heap.size) :
    ∃ v' W2, (Builtin.append_ #[36, 36] 36 #[v, .slice (some ⟨w.heap.size, 0, none⟩) 1 1]).run Try.prog (w.alloc (.cells #[.int .i64 a, .int .i64 l] 34)) = .ok v' W2 ∧ W2.ownsRow base 34 2 v' (k + 1) (fcells avs (cs ++ [⟨a, l⟩])) ∧ Below base (w.alloc (.cells #[.int .i64 a, .int .i64 l] 34)) W2 ∧
      (∀ (g : Nat) (t : TypeId) (c : Array Value), 34 ≠ t → Blk (w.alloc (.cells #[.int .i64 a, .int .i64 l] 34)) g t c → Blk W2 g t c) := by
  obtain ⟨i0, hi, hz0, hz1, hz2⟩ := info_parts Try.info15A
  have hown' := hown.alloc (.cells #[.int .i64 a, .int .i64 l] 34)
  obtain ⟨v', W2, hrun, hown2, hb2, hk2⟩ := append_run10 (P := Try.prog) base 36 36 34 i0 (.agg #[.int .i64 0, .int .i64 0]) 2 16 Try.underlying36 hi hz0 hz1 hz2 rfl (by decide)
    _ k _ hown' (some ⟨w.heap.size, 0, none⟩) 1 1 [.int .i64 a, .int .i64 l] rfl (((Blk.new w 34 #[.int .i64 a, .int .i64 l]).row).more (by simp)) (by intro u hu; simp at hu; rcases hu with rfl | rfl <;> rfl) (by unfold maxLen; omega) (by omega) (by simp; omega)
  refine ⟨v', W2, hrun, ?_, hb2, fun g t c ht hb => hk2 g t c (fun e => ?_) hb⟩
  · rw [fcells_snoc10]
    exact hown2
  · obtain ⟨cs', hb'⟩ := own_blkD hown' e.symm
    exact hb'.ty_neD hb ht rfl
theorem Try.info15S : (Try.prog.info? 70).map (fun i => (i.zero, i.size, i.bytes)) = some (some (.agg #[.bool false, .int .i64 0, .int .i64 0]), 3, 24) := by kernel_rfl
theorem app15S {w : World} {base k : Nat} {v : Value} {cs : List St.Slot} (r : Bool) (a l : Int) (hown : w.ownsRow base 70 3 v k (fcells svs cs)) (hk : k ≤ 1000) (hbase : base ≤ w.heap.size) :
    ∃ v' W2, (Builtin.append_ #[37, 37] 37 #[v, .slice (some ⟨w.heap.size, 0, none⟩) 1 1]).run Try.prog (w.alloc (.cells #[.bool r, .int .i64 a, .int .i64 l] 70)) = .ok v' W2 ∧ W2.ownsRow base 70 3 v' (k + 1) (fcells svs (cs ++ [⟨r, a, l⟩])) ∧ Below base (w.alloc (.cells #[.bool r, .int .i64 a, .int .i64 l] 70)) W2 ∧
      (∀ (g : Nat) (t : TypeId) (c : Array Value), 70 ≠ t → Blk (w.alloc (.cells #[.bool r, .int .i64 a, .int .i64 l] 70)) g t c → Blk W2 g t c) := by
  obtain ⟨i0, hi, hz0, hz1, hz2⟩ := info_parts Try.info15S
  have hown' := hown.alloc (.cells #[.bool r, .int .i64 a, .int .i64 l] 70)
  obtain ⟨v', W2, hrun, hown2, hb2, hk2⟩ := append_run10 (P := Try.prog) base 37 37 70 i0 (.agg #[.bool false, .int .i64 0, .int .i64 0]) 3 24 Try.underlying37 hi hz0 hz1 hz2 rfl (by decide)
    _ k _ hown' (some ⟨w.heap.size, 0, none⟩) 1 1 [.bool r, .int .i64 a, .int .i64 l] rfl (((Blk.new w 70 #[.bool r, .int .i64 a, .int .i64 l]).row).more (by simp)) (by intro u hu; simp at hu; rcases hu with rfl | rfl | rfl <;> rfl) (by unfold maxLen; omega) (by omega) (by simp; omega)
  refine ⟨v', W2, hrun, ?_, hb2, fun g t c ht hb => hk2 g t c (fun e => ?_) hb⟩
  · rw [fcells_snoc10]
    exact hown2
  · obtain ⟨cs', hb'⟩ := own_blkD hown' e.symm
    exact hb'.ty_neD hb ht rfl
end Go.Proofs.Ytmbgndcahlopdaa

/- The law's weights; rows of atoms as rows of slots. -/
namespace Go.Proofs.Ytmbgndcahlopdaa
set_option maxRecDepth 100000
open Go.RowKit Go.Shelf
attribute [local go_sem] Oper.semAt_some

namespace Gn
theorem rep_atom (list : List Int) (k : Nat) (p : Sp) : ∀ (j : Nat) (d : D), rep (atom list k p) j d = (rep (slotF list k p) j d).map fun q => (q.1.map St.toAtom, q.2)
  | 0, d => rfl
  | j + 1, d => by
    show bnd (rep (atom list k p) j) _ d = (bnd (rep (slotF list k p) j) _ d).map _
    have ih := rep_atom list k p j d
    cases e : rep (slotF list k p) j d with
    | none =>
      rw [e] at ih
      rw [bnd_none (show rep (atom list k p) j d = none from ih), bnd_none e]
      rfl
    | some q =>
      obtain ⟨l, d1⟩ := q
      rw [e] at ih
      rw [bnd_some (show rep (atom list k p) j d = some (l.map St.toAtom, d1) from ih), bnd_some e]
      have h := atom_of list k p d1
      cases e2 : slotF list k p d1 with
      | none =>
        rw [e2] at h
        rw [bnd_none (show atom list k p d1 = none from h), bnd_none e2]
        rfl
      | some q2 =>
        obtain ⟨x, d2⟩ := q2
        rw [e2] at h
        rw [bnd_some (show atom list k p d1 = some (St.toAtom x, d2) from h), bnd_some e2]
        show some (l.map St.toAtom ++ [St.toAtom x], d2) = some ((l ++ [x]).map St.toAtom, d2)
        rw [List.map_append]
        rfl
/-- Behind an error no round tells anything. -/
theorem rep_none {α β : Type} {f : G α} {q : Option (β × D)} {j : Nat} (h : run (rep f j) q = none) : ∀ m, run (rep f (j + m)) q = none
  | 0 => h
  | m + 1 => by
    have ih := rep_none h m
    show run (rep f (j + m + 1)) q = none
    rw [run_more f (j + m) q 0, ih]
    rfl
end Gn
end Go.Proofs.Ytmbgndcahlopdaa
