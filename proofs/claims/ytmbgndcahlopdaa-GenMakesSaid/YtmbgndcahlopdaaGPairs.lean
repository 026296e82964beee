/- The iterator lattice.pairs: its contract. -/
import Derived.RangeFuncNested
import Derived.RangeFuncBound
import Derived.RangeFuncCalls
import Derived.RangeFuncLeaves
import Derived.Shelf.Abstract
import Derived.Shelf.RegionOpen
import Derived.WalkKit
import Derived.OwnWalkIn
import Derived.TacticsInMore
import Derived.LoopNIn
import Derived.LoopIn
import Derived.Test.YtmbgndcahlopdaaChecked
import Derived.Test.YtmbgndcahlopdaaGBase
import Derived.Test.YtmbgndcahlopdaaGLat
namespace Go.Proofs.Ytmbgndcahlopdaa
set_option maxRecDepth 100000
open Go.RowKit Go.Shelf

attribute [local go_sem] Oper.semAt_some

theorem pairs_any (n : Nat) (w : World) :
    Calls Try.prog 93 #[.int .i64 n] w fun e w' => e = .returned (.func (.func 114) #[] #[.pointer (some ⟨w.heap.size, 0, none⟩)]) ∧ w.alloc (.cells #[.int .i64 n] 3) = w' := by
  have hmf : ∀ (fn : Fn) (first cap : Array Value) (w : World), (Instr.makeFunc fn first cap).run Try.prog w = .ok (.func fn first cap) w := fun _ _ _ _ => rfl
  go_enter Try.func93, Try.ntmps93
  go_wp2
  go_ret
  exact ⟨rfl, rfl⟩

/-- Two places below n. -/
abbrev PL (n : Nat) := { p : Nat × Nat // p.1 < n ∧ p.2 < n }
abbrev penc {n : Nat} (p : PL n) : Array Value := #[.int .i64 (p.1.1 : Int), .int .i64 (p.1.2 : Int)]
def vals {n : Nat} (l : List (PL n)) : List (Nat × Nat) := l.map (·.1)
theorem vals_snoc {n : Nat} (l : List (PL n)) (p : PL n) : vals (l ++ [p]) = vals l ++ [p.1] := by simp [vals]
theorem vals_length {n : Nat} (l : List (PL n)) : (vals l).length = l.length := by simp [vals]

/-- A variable in a block of its own. -/
def Box (W : World) (b : Nat) (v : Value) : Prop := W.cell? ⟨b, 0, none⟩ = some v ∧ W.frozen? ⟨b, 0, none⟩ = false
theorem box_of {W : World} {b : Nat} {v : Value} {t : TypeId} (h : W.heap[b]? = some (.cells #[v] t)) : Box W b v := ⟨by simp [World.cell?, h], by simp [World.frozen?, h]⟩
theorem Box.new (W : World) (v : Value) (t : TypeId) : Box (W.alloc (.cells #[v] t)) W.heap.size v := box_of (World.alloc_heap_new W _)
theorem Box.new' (W : World) (v : Value) (t : TypeId) (b : Nat) (h : W.heap.size = b) : Box (W.alloc (.cells #[v] t)) b v := h ▸ Box.new W v t
theorem Box.kept {W W' : World} {b : Nat} {v : Value} {row : Option Nat} (h : Box W b v) (hg : W.grownBy W' row) (hr : ∀ r, row = some r → ∃ o : Obj, W.heap[r]? = some o ∧ o.isCells = false) : Box W' b v :=
  ⟨cell_kept h.1 hg hr, (frozen_kept h.1 hg hr).trans h.2⟩
theorem Box.alloc {W : World} {b : Nat} {v : Value} (h : Box W b v) (o : Obj) : Box (W.alloc o) b v := h.kept (World.grownBy_alloc W o none) (fun r e => by cases e)
theorem Box.below {W W' : World} {b B : Nat} {v : Value} (h : Box W b v) (hb : Below B W W') (hB : b < B) : Box W' b v :=
  ⟨(hb.cell (p := ⟨b, 0, none⟩) hB).trans h.1, (hb.frozen (p := ⟨b, 0, none⟩) hB).trans h.2⟩
theorem Box.drewN {W : World} {b : Nat} {v : Value} (h : Box W b v) (n : Nat) : Box (W.drewN n) b v := h
theorem Box.putObj {W : World} {b l : Nat} {v : Value} {o : Obj} (h : Box W b v) (o' : Obj) (hl : W.heap[l]? = some o) (hc : o.isCells = false) : Box (W.putObj l o') b v :=
  h.kept (grownBy_putObj' W l o') (fun r e => by cases e; exact ⟨o, hl, hc⟩)
theorem Box.set_ {W : World} {b : Nat} {v : Value} (h : Box W b v) (u : Value) : Box (W.setCell ⟨b, 0, none⟩ u) b u :=
  ⟨World.cell?_setCell_same' _ _ _ (by rw [h.1]; rfl), by rw [World.frozen?_setCell]; exact h.2⟩
theorem Box.other {W : World} {b : Nat} {v : Value} (h : Box W b v) {p : Addr} (hp : p.block ≠ b) (u : Value) : Box (W.setCell p u) b v :=
  ⟨(World.cell?_setCell_other W p ⟨b, 0, none⟩ u (fun e => hp (by rw [e]))).trans h.1, by rw [World.frozen?_setCell]; exact h.2⟩
/-- A block that is known whole. -/
def Blk (W : World) (g : Nat) (t : TypeId) (cs : Array Value) : Prop := W.heap[g]? = some (.cells cs t (0, 0))
section
variable {W W' : World} {g : Nat} {t : TypeId} {cs : Array Value}
theorem Blk.cell (h : Blk W g t cs) (i : Nat) : W.cell? ⟨g, i, none⟩ = cs[i]? := cell_of_row W g i cs t (0, 0) h
theorem Blk.frozen (h : Blk W g t cs) (i : Nat) : W.frozen? ⟨g, i, none⟩ = false := by
  unfold Blk at h
  simp [World.frozen?, h]
theorem Blk.new (W : World) (t : TypeId) (cs : Array Value) : Blk (W.alloc (.cells cs t)) W.heap.size t cs := World.alloc_heap_new W _
theorem Blk.kept {row : Option Nat} (h : Blk W g t cs) (hg : W.grownBy W' row) (hr : ∀ r, row = some r → ∃ o : Obj, W.heap[r]? = some o ∧ o.isCells = false) : Blk W' g t cs :=
  (grownBy_keeps_cells hg hr h rfl).trans h
theorem Blk.lt (h : Blk W g t cs) : g < W.heap.size := (Array.getElem?_eq_some_iff.1 h).1
theorem Blk.alloc (h : Blk W g t cs) (o : Obj) : Blk (W.alloc o) g t cs := (Below.heap_alloc W o g h.lt).trans h
theorem Blk.below {B : Nat} (h : Blk W g t cs) (hb : Below B W W') (hg : g < B) : Blk W' g t cs := (hb.block g hg).trans h
theorem Blk.drewN (h : Blk W g t cs) (n : Nat) : Blk (W.drewN n) g t cs := h
theorem Blk.drew (h : Blk W g t cs) : Blk W.drew g t cs := h
theorem Blk.putObj {l : Nat} {o : Obj} (h : Blk W g t cs) (o' : Obj) (hl : W.heap[l]? = some o) (hc : o.isCells = false) : Blk (W.putObj l o') g t cs :=
  h.kept (grownBy_putObj' W l o') (fun r e => by cases e; exact ⟨o, hl, hc⟩)
theorem Blk.set_ (h : Blk W g t cs) (i : Nat) (u : Value) : Blk (W.setCell ⟨g, i, none⟩ u) g t (cs.setIfInBounds i u) := by
  unfold Blk at h ⊢
  simp [World.setCell, Array.getElem?_modify, h]
theorem Blk.other (h : Blk W g t cs) {p : Addr} (hp : p.block ≠ g) (u : Value) : Blk (W.setCell p u) g t cs := (Below.heap_setCell W p u g (fun e => hp e.symm)).trans h
end
theorem Blk.row {W : World} {g : Nat} {t : TypeId} {cs : List Value} (h : Blk W g t cs.toArray) : Row W (g + 1) (some ⟨g, 0, none⟩) cs := fun _ => by
  refine ⟨_, rfl, Nat.lt_succ_self _, fun j u hu => ?_⟩
  have e : (⟨g, 0, none⟩ : Addr).add j = ⟨g, j, none⟩ := by unfold Addr.add; split <;> simp_all
  rw [e, h.cell]
  simpa using hu

/-- What a round must keep: the cell that the iterator reads. -/
def KeepsCell (Bn : Nat) (W W' : World) : Prop := ∀ v, W.cell? ⟨Bn, 0, none⟩ = some v → W'.cell? ⟨Bn, 0, none⟩ = some v
theorem keepsCell_t {Bn : Nat} {A B C : World} (h : KeepsCell Bn A B) (k : KeepsCell Bn B C) : KeepsCell Bn A C := fun v hv => k v (h v hv)
theorem keepsCell_b {Bn : Nat} {w : World} (W : World) (l : Nat) (o o' : Obj) (_ : w.heap.size ≤ l) (h : W.heap[l]? = some o) (hc : o.isCells = false) (_ : o.isWalk = false) : KeepsCell Bn W (W.putObj l o') :=
  fun _ hv => cell_kept hv (grownBy_putObj' W l o') (fun r e => by cases e; exact ⟨o, h, hc⟩)
theorem keepsCell_below {Bn B : Nat} {W W' : World} (h : Below B W W') (hB : Bn < B) : KeepsCell Bn W W' := fun _ hv => (h.cell (p := ⟨Bn, 0, none⟩) hB).trans hv

set_option maxRecDepth 100000 in
set_option maxHeartbeats 2000000 in
theorem pairs_stops (N n Bn : Nat) (hn : n ≤ 1000) (hN : 1 ≤ N) (w : World) (hBn : Bn < w.heap.size) (hc : w.cell? ⟨Bn, 0, none⟩ = some (.int .i64 n)) :
    SeqStopsK Fence.wide N Try.prog 114 #[.pointer (some ⟨Bn, 0, none⟩)] (penc (n := n)) (KeepsCell Bn) (fun xs => vals xs = Lat.pairs n) (fun pre => vals pre <+: Lat.pairs n) (n * n) w := fun l J Jx W hW hJ hJx hY h0 => by
  have hcW : W.cell? ⟨Bn, 0, none⟩ = some (.int .i64 n) := (hW.cell (p := ⟨Bn, 0, none⟩) hBn).trans hc
  refine callsIn_of_wp Try.func114 rfl trivial ?_ rfl
  simp only [Try.ntmps114, List.size_toArray, List.length_cons, List.length_nil, Nat.reduceAdd, Nat.reduceSub, Array.replicate_succ, Array.replicate_zero, List.push_toArray, List.append_toArray, List.nil_append, List.cons_append]
  gi_wp2
  gi_loopw [6] (fun i wr => ∃ (a : Nat) (pre : List (PL n)), a ≤ n ∧ i = .int .i64 a ∧ vals pre = Lat.upto n (a * n) ∧ J pre wr ∧ wr.cell? ⟨Bn, 0, none⟩ = some (.int .i64 n)) (fun i _ => n - (intOf i).toNat)
  case atStart => exact ⟨0, [], Nat.zero_le _, rfl, by simp [Lat.upto, vals], h0, hcW⟩
  case round =>
    obtain ⟨a, pre, ha, rfl, hv, hj, hcr⟩ := hrel
    have HV := Lib.hid hv
    clear hv
    by_cases hlt : a < n
    · clear h0
      obtain ⟨wo, rfl⟩ : ∃ wo : World, wo = wr := ⟨_, rfl⟩
      gi_wp2
      gi_loopw [10] (fun j wr => ∃ (b : Nat) (pre : List (PL n)), b ≤ n ∧ j = .int .i64 b ∧ vals pre = Lat.upto n (a * n + b) ∧ J pre wr ∧ wr.cell? ⟨Bn, 0, none⟩ = some (.int .i64 n)) (fun j _ => n - (intOf j).toNat)
      case atStart => exact ⟨0, pre, Nat.zero_le _, rfl, HV.out, hj, hcr⟩
      case round =>
        obtain ⟨b, pre2, hbn, rfl, hv2, hj2, hb2⟩ := hrel
        have HV2 := Lib.hid hv2
        clear hv2
        by_cases hlt2 : b < n
        · obtain ⟨fn, tmps, assign, body, hy, hR⟩ := hY _ ⟨(a, b), hlt, hlt2⟩ wr hj2 (by rw [← vals_length, HV2.out]; exact Lat.upto_lt ha hlt hlt2)
          dsimp only [penc] at hy
          gi_wp2
          refine hR.mono ?_
          rintro e W3 (⟨rfl, hJ3, hk3⟩ | ⟨rfl, hJx3⟩)
          · gi_wp2
            go_roundw
            case rel => exact ⟨b + 1, _, by omega, by go_num, by rw [← Nat.add_assoc, Lat.upto_succ hlt2, vals_snoc, HV2.out], hJ3, hk3 _ hb2⟩
            case measure => simp [intOf]; omega
          · gi_wp2
            refine bodyPost_ret (results_none rfl _ _ _) rfl ?_
            exact ⟨⟨_, rfl⟩, .inr ⟨_, by rw [vals_snoc, HV2.out]; exact Lat.upto_prefix hlt hlt2, hJx3⟩⟩
        · obtain rfl : b = n := by omega
          gi_wp2
          go_roundw
          case rel => exact ⟨a + 1, pre2, by omega, by go_num, by rw [Nat.succ_mul]; exact HV2.out, hj2, hb2⟩
          case measure => simp [intOf]; omega
    · obtain rfl : a = n := by omega
      gi_wp2
      go_end0
      exact ⟨⟨_, rfl⟩, .inl ⟨_, HV.out, hj⟩⟩
end Go.Proofs.Ytmbgndcahlopdaa
