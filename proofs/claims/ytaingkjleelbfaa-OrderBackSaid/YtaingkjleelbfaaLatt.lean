/- Walk of lattice's isLattice. -/
import Derived.Test.YtaingkjleelbfaaTurn
namespace Go.Proofs.Ytaingkjleelbfaa
open Go.RowKit Go.Shelf

attribute [local go_sem] Oper.semAt_some

theorem blk_ups {W : World} {g : Nat} {t : TypeId} {up : List Nat} (h : Blk W g t (u32s up).toArray) (hl : ∀ k x : Nat, up[k]? = some x → x < 4294967296) : Ups W (g + 1) (some ⟨g, 0, none⟩) up := ⟨h.row, hl⟩
theorem turned_lt {up : List Nat} (hl : up.length ≤ 31) : ∀ k x : Nat, (Lat.turned up)[k]? = some x → x < 4294967296 :=
  Lat.turnTo_lt (n := 32) fun p hp => by have := (Lat.mem_pairs.1 hp).1; omega

set_option maxRecDepth 100000 in
set_option maxHeartbeats 2000000 in
theorem isLattice_any {A : Option Addr} {up : List Nat} (c : Nat) (w : World) (h : Ups w w.heap.size A up) (hl : up.length ≤ 31) :
    Calls Try.prog 45 #[.slice A up.length c] w fun e w' => e = .returned (.bool (Lat.isLattice up)) ∧ Below w.heap.size w w' := by
  have hwf : ∀ f, Fence.wide.fn f := fun _ => trivial
  refine (callsIn_wide (n := 3)).1 ?_
  refine callsIn_of_wp_marks Try.func45 rfl trivial ?_ rfl
  simp only [Try.ntmps45, List.size_toArray, List.length_cons, List.length_nil, Nat.reduceAdd, Nat.reduceSub, Array.replicate_succ, Array.replicate_zero, List.push_toArray, List.append_toArray, List.nil_append, List.cons_append]
  have hB2 : Below w.heap.size w ((w.alloc (.cells #[.slice A up.length c] 23)).alloc (.cells #[.bool false] 4)) := ((Below.refl _ w).alloc (Nat.le_refl _) _).alloc (by simp) _
  have p0 : Box ((w.alloc (.cells #[.slice A up.length c] 23)).alloc (.cells #[.bool false] 4)) w.heap.size (.slice A up.length c) := (Box.new _ _ _).alloc _
  have p1 : Box ((w.alloc (.cells #[.slice A up.length c] 23)).alloc (.cells #[.bool false] 4)) (w.heap.size + 1) (.bool false) := Box.new' _ _ _ _ (by simp)
  have hturn := turned_any c ((w.alloc (.cells #[.slice A up.length c] 23)).alloc (.cells #[.bool false] 4)) ((h.below hB2).more (by simp; omega)) hl
  have HTURN := Lib.hid hturn
  have hW2 : ((w.alloc (.cells #[.slice A up.length c] 23)).alloc (.cells #[.bool false] 4)).heap.size = w.heap.size + 1 + 1 := by simp
  have HW2 := Lib.hid hW2
  clear hturn hW2
  gi_wp2_with (gi_at_call 58; refine (callsIn_wide.2 HTURN.out).mono ?_)
  rintro e w1 ⟨g, rfl, hblk, hb1⟩
  have hs1 : w.heap.size + 1 + 1 ≤ w1.heap.size := by have := hb1.size; rw [HW2.out] at this; exact this
  rw [HW2.out] at hb1
  have q0 := p0.below hb1 (by omega)
  have q1 := p1.below hb1 (by omega)
  have hB1 : Below w.heap.size w w1 := hB2.trans (hb1.mono (by omega))
  have hg := hblk.lt
  have hU1 : Ups w1 w1.heap.size A up := (h.below hB1).more (by omega)
  have hz0 : w.heap.size < w1.heap.size := by omega
  have hz1 : w.heap.size + 1 < w1.heap.size := by omega
  clear p0 p1 hb1 HW2 HTURN hB2
  obtain ⟨hc0, hf0⟩ := id q0
  gi_wp2_with (gi_at_call 56; refine (callsIn_wide.2 (pairs_any up.length _)).mono ?_; rintro e w' ⟨rfl, rfl⟩)
  obtain ⟨W0, hW0⟩ : ∃ W0 : World, ((w1.alloc (.cells #[.slice (some ⟨g, 0, none⟩) up.length up.length] 23)).alloc (.cells #[.int .i64 up.length] 3)) = W0 := ⟨_, rfl⟩
  have hsz : W0.heap.size = w1.heap.size + 1 + 1 := by rw [← hW0]; simp
  have b0 : Box W0 w.heap.size (.slice A up.length c) := by rw [← hW0]; exact (q0.alloc _).alloc _
  have b1 : Box W0 (w.heap.size + 1) (.bool false) := by rw [← hW0]; exact (q1.alloc _).alloc _
  have b2 : Box W0 w1.heap.size (.slice (some ⟨g, 0, none⟩) up.length up.length) := by rw [← hW0]; exact (Box.new _ _ _).alloc _
  have b3 : Box W0 (w1.heap.size + 1) (.int .i64 up.length) := by rw [← hW0]; exact Box.new' _ _ _ _ (by simp)
  have b4 : Blk W0 g 62 (u32s (Lat.turned up)).toArray := by rw [← hW0]; exact (hblk.alloc _).alloc _
  have hB0 : Below w.heap.size w W0 := by rw [← hW0]; exact (hB1.alloc (by omega) _).alloc (by simp; omega) _
  rw [hW0]
  clear hW0 hB1 q0 q1 hblk hU1 hc0 hf0
  refine wpIn_rangeFunc_ownF rfl (by decide) (gf := 63) (lb := #[.pointer (some ⟨w1.heap.size + 1, 0, none⟩)]) rfl trivial (enters_of Try.func63 (by kernel_rfl) rfl)
    (pairs_stops _ up.length (w1.heap.size + 1) (by omega) (by decide) _ (by omega) b3.1) keepsCell_t keepsCell_b (Below.refl _ _) (fun _ => rfl)
    (fun pre W => ((vals pre).all (Lat.latOk up) = true ∧ Box W w.heap.size (.slice A up.length c) ∧ Box W (w.heap.size + 1) (.bool false) ∧ Box W w1.heap.size (.slice (some ⟨g, 0, none⟩) up.length up.length) ∧ Blk W g 62 (u32s (Lat.turned up)).toArray) ∧ Below w.heap.size w W)
    (fun c pre W => (c = .ret ∧ (vals pre).all (Lat.latOk up) = false ∧ Box W (w.heap.size + 1) (.bool false)) ∧ Below w.heap.size w W)
    (OwnFrom.and (Own.from (fun s A B row hs hg hr => ⟨hs.1, hs.2.1.kept hg hr, hs.2.2.1.kept hg hr, hs.2.2.2.1.kept hg hr, hs.2.2.2.2.kept hg hr⟩) _) (ownFrom_below (Nat.le_refl _) (by omega)))
    (fun c => OwnFrom.and (Own.from (fun s A B row hs hg hr => ⟨hs.1, hs.2.1, hs.2.2.kept hg hr⟩) _) (ownFrom_below (Nat.le_refl _) (by omega)))
    ⟨⟨rfl, b0, b1, b2, b4⟩, hB0⟩
    (fun x => { tmps := #[.slice A up.length c, .pointer (some ⟨w.heap.size, 0, none⟩), .pointer (some ⟨w.heap.size + 1, 0, none⟩), .pointer (some ⟨w1.heap.size, 0, none⟩), .int .i64 (x.1.1 : Int), .int .i64 (x.1.2 : Int), undef, undef, undef, undef, .slice A up.length c, .slice (some ⟨g, 0, none⟩) up.length up.length, .slice A up.length c, .int .i64 (up.length : Int), .func (.func 63) #[] #[.pointer (some ⟨w1.heap.size + 1, 0, none⟩)], .int .i64 (x.1.1 : Int), .int .i64 (x.1.2 : Int), undef, undef, undef, undef, undef, undef, undef, undef, undef, undef, undef, undef, undef, undef, undef, undef, undef, undef], defers := [] }) ?assign ?body ?done ?stop
  case assign =>
    intro l x W K hK
    gi_wp2
    exact hK
  case body =>
    rintro l pre ⟨⟨a, b⟩, ha, hb⟩ W ⟨⟨hall, ⟨hcu, hfu⟩, hR, ⟨hcd, hfd⟩, hblk⟩, hB⟩ hlen
    dsimp only at ha hb ⊢
    obtain ⟨hcr, hfr⟩ := id hR
    have hU : Ups W w.heap.size A up := h.below hB
    have hUd : Ups W (g + 1) (some ⟨g, 0, none⟩) (Lat.turned up) := blk_ups hblk (turned_lt hl)
    have hj1 := fun nq => join_any c a b (W.drewN nq) hU hl ha hb
    have hj2 := fun nq => join_any up.length a b (W.drewN nq) hUd (by rw [Lat.turned_length]; exact hl) (by rw [Lat.turned_length]; exact ha) (by rw [Lat.turned_length]; exact hb)
    rw [Lat.turned_length] at hj2
    have hok : Lat.latOk up (a, b) = (Lat.leastB up (Lat.joinS up a b) && Lat.leastB (Lat.turned up) (Lat.joinS (Lat.turned up) a b)) := rfl
    have HOK := Lib.hid hok
    have HALL := Lib.hid hall
    clear hok hall hlen b0 b1 b2 b3 b4
    cases e1 : Lat.leastB up (Lat.joinS up a b)
    · rw [e1] at hj1
      have HJ1 := Lib.hid hj1
      have HE1 := Lib.hid e1
      clear hj1 e1 hj2
      gi_wp2_with (gi_at_call 59; refine (CallsIn.inRound l (callsIn_wide.2 (HJ1.out 0))).mono ?_; rintro e w' ⟨rfl, nq, rfl⟩)
      exact ⟨(keepsOthers_drewN _ nq).trans (KeepsOthers.setCell _ _ _), ⟨rfl, by rw [vals_snoc, Lat.all_snoc, HALL.out, HOK.out, HE1.out]; rfl, (hR.drewN nq).set_ _⟩, (below_drewN_ hB nq).setCell (p := ⟨w.heap.size + 1, 0, none⟩) (by simp) _⟩
    · rw [e1] at hj1
      have HJ1 := Lib.hid hj1
      have HE1 := Lib.hid e1
      clear hj1 e1
      cases e2 : Lat.leastB (Lat.turned up) (Lat.joinS (Lat.turned up) a b)
      · rw [e2] at hj2
        have HJ2 := Lib.hid hj2
        have HE2 := Lib.hid e2
        clear hj2 e2
        gi_wp2_with (fail)
        gi_at_call 59
        refine (CallsIn.inRound l (callsIn_wide.2 (HJ1.out 0))).mono ?_
        rintro e w' ⟨rfl, nq, rfl⟩
        gi_wp2_with (fail)
        gi_at_call 59
        refine (CallsIn.inRound l (callsIn_wide.2 (HJ2.out nq))).mono ?_
        rintro e w' ⟨rfl, nq2, rfl⟩
        gi_wp2
        exact ⟨(keepsOthers_drewN _ _).trans (KeepsOthers.setCell _ _ _), ⟨rfl, by rw [vals_snoc, Lat.all_snoc, HALL.out, HOK.out, HE1.out, HE2.out]; rfl, (hR.drewN _).set_ _⟩, (below_drewN_ hB _).setCell (p := ⟨w.heap.size + 1, 0, none⟩) (by simp) _⟩
      · rw [e2] at hj2
        have HJ2 := Lib.hid hj2
        have HE2 := Lib.hid e2
        clear hj2 e2
        gi_wp2_with (fail)
        gi_at_call 59
        refine (CallsIn.inRound l (callsIn_wide.2 (HJ1.out 0))).mono ?_
        rintro e w' ⟨rfl, nq, rfl⟩
        gi_wp2_with (fail)
        gi_at_call 59
        refine (CallsIn.inRound l (callsIn_wide.2 (HJ2.out nq))).mono ?_
        rintro e w' ⟨rfl, nq2, rfl⟩
        gi_wp2
        exact ⟨keepsOthers_drewN _ _, fun v hv => hv, ⟨by rw [vals_snoc, Lat.all_snoc, HALL.out, HOK.out, HE1.out, HE2.out]; rfl, ⟨hcu, hfu⟩, hR, ⟨hcd, hfd⟩, hblk⟩, below_drewN_ hB _⟩
  case done =>
    rintro D xs W hD hxs ⟨⟨hall, _, hR, _⟩, hB⟩ hK
    have hiso : Lat.isLattice up = true := by unfold Lat.isLattice; rw [← hxs]; exact hall
    obtain ⟨hcr, hfr⟩ := id hR
    clear hall hxs b0 b1 b2 b3 b4
    have HISO := Lib.hid hiso
    clear hiso
    gi_wp2
    have hK' := (KeepsOthers.setCell W ⟨w.heap.size + 1, 0, none⟩ (.bool true)).same D _ hK rfl
    refine ⟨by simp, .inl ⟨_, _, rfl, run_takeDeferred hK', ?_⟩⟩
    have hc5 := ((hR.set_ (.bool true)).putObj (.deferred none) hK' rfl).1
    refine ⟨.bool true, ?_, by rw [HISO.out], (hB.setCell (p := ⟨w.heap.size + 1, 0, none⟩) (by simp) _).trans (belowK_b (w := w) (Nat.le_refl _) _ D _ _ (by omega) hK' rfl rfl)⟩
    simp [results, Try.f45, go_sem, hc5]
  case stop =>
    rintro D c pre W hD hpre ⟨⟨rfl, hno, hR⟩, hB⟩ hK
    have hiso : Lat.isLattice up = false := by unfold Lat.isLattice; exact Lat.all_false hpre hno
    obtain ⟨hcr, hfr⟩ := id hR
    clear hno hpre b0 b1 b2 b3 b4
    have HISO := Lib.hid hiso
    clear hiso
    gi_wp2
    refine ⟨by simp, .inl ⟨_, _, rfl, run_takeDeferred hK, ?_⟩⟩
    have hc5 := (hR.putObj (.deferred none) hK rfl).1
    refine ⟨.bool false, ?_, by rw [HISO.out], hB.trans (belowK_b (w := w) (Nat.le_refl _) W D _ _ (by omega) hK rfl rfl)⟩
    simp [results, Try.f45, go_sem, hc5]
end Go.Proofs.Ytaingkjleelbfaa
