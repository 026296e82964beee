/- Walks of lattice's isOrder, turned, isLattice: ranges over pairs. -/
import Derived.Outline
import Derived.Test.YtipbilmnknmhmaaDoorGPairs
import Derived.Test.YtipbilmnknmhmaaDoorGLeaf
import Derived.Test.YtipbilmnknmhmaaDoorGQuiet
namespace Go.Proofs.YtipbilmnknmhmaaDoor
set_option maxRecDepth 100000
open Go.RowKit Go.Shelf

attribute [local go_sem] Oper.semAt_some

theorem andNot_ne (x y : Nat) (hx : x < 4294967296) (hy : y < 4294967296) : (bits BinOp.andNot IntKind.u32 (x : Int) (y : Int) != 0) = !Lat.sub x y := by
  rw [← andNot_any x y hx hy]; rfl

set_option maxRecDepth 100000 in
set_option maxHeartbeats 2000000 in
theorem isOrder_any {A : Option Addr} {up : List Nat} (c : Nat) (w : World) (h : Ups w w.heap.size A up) (hl : up.length ≤ 31) :
    Calls Tryd.prog 34 #[.slice A up.length c] w fun e w' => e = .returned (.bool (Lat.isOrder up)) ∧ Below w.heap.size w w' := by
  have hwf : ∀ f, Fence.wide.fn f := fun _ => trivial
  refine (callsIn_wide (n := 3)).1 ?_
  refine callsIn_of_wp_marks Tryd.func34 rfl trivial ?_ rfl
  simp only [Tryd.ntmps34, List.size_toArray, List.length_cons, List.length_nil, Nat.reduceAdd, Nat.reduceSub, Array.replicate_succ, Array.replicate_zero, List.push_toArray, List.append_toArray, List.nil_append, List.cons_append]
  gi_wp2_with (gi_at_call 64; refine (callsIn_wide.2 (pairs_any up.length _)).mono ?_; rintro e w' ⟨rfl, rfl⟩)
  have b0 := Box.new w (.slice A up.length c) 23
  have b1 := Box.new (w.alloc (.cells #[.slice A up.length c] 23)) (.bool false) 4
  have b2 := Box.new ((w.alloc (.cells #[.slice A up.length c] 23)).alloc (.cells #[.bool false] 4)) (.int .i64 up.length) 3
  simp only [World.size_alloc] at b1 b2
  have hB0 : Below w.heap.size w (((w.alloc (.cells #[.slice A up.length c] 23)).alloc (.cells #[.bool false] 4)).alloc (.cells #[.int .i64 up.length] 3)) :=
    (((Below.refl _ w).alloc (Nat.le_refl _) _).alloc (by simp) _).alloc (by simp; omega) _
  refine wpIn_rangeFunc_ownF rfl (by decide) (gf := 78) (lb := #[.pointer (some ⟨w.heap.size + 1 + 1, 0, none⟩)]) rfl trivial (enters_of Tryd.func78 (by kernel_rfl) rfl)
    (pairs_stops _ up.length (w.heap.size + 1 + 1) (by omega) (by decide) _ (by simp) b2.1) keepsCell_t keepsCell_b (Below.refl _ _) (fun _ => rfl)
    (fun pre W => ((vals pre).all (Lat.ordOk up) = true ∧ Box W w.heap.size (.slice A up.length c) ∧ Box W (w.heap.size + 1) (.bool false)) ∧ Below w.heap.size w W)
    (fun c pre W => (c = .ret ∧ (vals pre).all (Lat.ordOk up) = false ∧ Box W (w.heap.size + 1) (.bool false)) ∧ Below w.heap.size w W)
    (OwnFrom.and (Own.from (fun s A B row hs hg hr => ⟨hs.1, hs.2.1.kept hg hr, hs.2.2.kept hg hr⟩) _) (ownFrom_below (Nat.le_refl _) (by simp; omega)))
    (fun c => OwnFrom.and (Own.from (fun s A B row hs hg hr => ⟨hs.1, hs.2.1, hs.2.2.kept hg hr⟩) _) (ownFrom_below (Nat.le_refl _) (by simp; omega)))
    ⟨⟨rfl, (b0.alloc _).alloc _, b1.alloc _⟩, hB0⟩
    (fun x => { tmps := #[.slice A up.length c, .pointer (some ⟨w.heap.size, 0, none⟩), .pointer (some ⟨w.heap.size + 1, 0, none⟩), .int .i64 (x.1.1 : Int), .int .i64 (x.1.2 : Int), undef, .slice A up.length c, .int .i64 (up.length : Int), .func (.func 78) #[] #[.pointer (some ⟨w.heap.size + 1 + 1, 0, none⟩)], .int .i64 (x.1.1 : Int), .int .i64 (x.1.2 : Int), undef, undef, undef, undef, undef, undef, undef, undef, undef, undef, undef, undef, undef, undef, undef, undef, undef, undef, undef, undef, undef, undef, undef, undef, undef, undef, undef, undef, undef, undef, undef, undef, undef, undef, undef, undef, undef, undef, undef], defers := [] }) ?assign ?body ?done ?stop
  case assign =>
    intro l x W K hK
    gi_wp2
    exact hK
  case body =>
    rintro l pre ⟨⟨a, b⟩, ha, hb⟩ W ⟨⟨hall, ⟨hcu, hfu⟩, hR⟩, hB⟩ hlen
    dsimp only at ha hb ⊢
    obtain ⟨hcr, hfr⟩ := id hR
    have hU : Ups W w.heap.size A up := h.below hB
    obtain ⟨ad, x, rfl, _, hx, hx32, hcx⟩ := hU.at_ ha
    obtain ⟨ad', y, he, _, hy, hy32, hcy⟩ := hU.at_ hb
    obtain rfl : ad = ad' := by injection he
    clear he
    have HALL := Lib.hid hall
    have hne := andNot_ne y x hy32 hx32
    have hord : Lat.ordOk up (a, b) = if a = b then Lat.fl up a b else !Lat.fl up a b || (!Lat.fl up b a && Lat.sub y x) := by
      unfold Lat.ordOk; simp only [List.getD_eq_getElem?_getD, hx, hy, Option.getD_some]
    have HORD := Lib.hid hord
    have HX := Lib.hid hx
    have HY := Lib.hid hy
    clear hord hx hy hall b0 b1 b2 hlen
    by_cases hab : a = b
    · subst hab
      have hb1 : ((a : Int) == (a : Int)) = true := by simp
      have hb2 : ((a : Int) != (a : Int)) = false := by simp
      obtain rfl : x = y := by have := HX.out.symm.trans HY.out; injection this
      have hs : Lat.sub x x = true := Lat.sub_self x
      rw [hs] at hne
      clear hs
      cases e1 : Lat.fl up a a
      · have HE1 := Lib.hid e1
        gi_wp2_with (gi_at_call 65; refine (CallsIn.inRound l (callsIn_wide.2 (flows_any c _ _ _ hU (by omega) (by omega)))).mono ?_; rintro e w' ⟨rfl, rfl⟩)
        exact ⟨KeepsOthers.setCell _ _ _, ⟨rfl, by rw [vals_snoc, Lat.all_snoc, HALL.out, HORD.out]; simp [HE1.out], hR.set_ _⟩, hB.setCell (p := ⟨w.heap.size + 1, 0, none⟩) (by simp) _⟩
      · have HE1 := Lib.hid e1
        gi_wp2_with (gi_at_call 65; refine (CallsIn.inRound l (callsIn_wide.2 (flows_any c _ _ _ hU (by omega) (by omega)))).mono ?_; rintro e w' ⟨rfl, rfl⟩)
        refine round_region_drew (by kernel_rfl) (by kernel_rfl) (by kernel_rfl) ?_
        repeat (gi_big_quiet_step (fail))
        refine wpQuietIn_nil ?_
        rintro _ ⟨nq, rfl⟩
        gi_wp2
        exact ⟨keepsOthers_drewN _ _, keepsCell_below (below_drewN_ (Below.refl _ _) _) (Nat.lt_succ_self _), ⟨by rw [vals_snoc, Lat.all_snoc, HALL.out, HORD.out]; simp [HE1.out], ⟨hcu, hfu⟩, hR⟩, below_drewN_ hB _⟩
    · have hb1 : ((a : Int) == (b : Int)) = false := by rw [beq_eq_false_iff_ne]; omega
      have hb2 : ((a : Int) != (b : Int)) = true := by rw [bne_iff_ne]; omega
      cases e1 : Lat.fl up a b
      · have HE1 := Lib.hid e1
        gi_wp2_with (gi_at_call 65; refine (CallsIn.inRound l (callsIn_wide.2 (flows_any c _ _ _ hU (by omega) (by omega)))).mono ?_; rintro e w' ⟨rfl, rfl⟩)
        refine round_region_drew (by kernel_rfl) (by kernel_rfl) (by kernel_rfl) ?_
        repeat (gi_big_quiet_step (fail))
        refine wpQuietIn_nil ?_
        rintro _ ⟨nq, rfl⟩
        gi_wp2
        exact ⟨keepsOthers_drewN _ _, keepsCell_below (below_drewN_ (Below.refl _ _) _) (Nat.lt_succ_self _), ⟨by rw [vals_snoc, Lat.all_snoc, HALL.out, HORD.out]; simp [hab, HE1.out], ⟨hcu, hfu⟩, hR⟩, below_drewN_ hB _⟩
      · have HE1 := Lib.hid e1
        cases e2 : Lat.fl up b a
        · have HE2 := Lib.hid e2
          cases e3 : Lat.sub y x
          · rw [e3] at hne
            have HE3 := Lib.hid e3
            clear e3
            gi_wp2_with (gi_at_call 65; refine (CallsIn.inRound l (callsIn_wide.2 (flows_any c _ _ _ hU (by omega) (by omega)))).mono ?_; rintro e w' ⟨rfl, rfl⟩)
            refine round_region_drew (by kernel_rfl) (by kernel_rfl) (by kernel_rfl) ?_
            repeat (gi_big_quiet_step (fail))
            refine wpQuietIn_nil ?_
            rintro _ ⟨nq, rfl⟩
            gi_wp2
            exact ⟨(keepsOthers_drewN _ _).trans (KeepsOthers.setCell _ _ _), ⟨rfl, by rw [vals_snoc, Lat.all_snoc, HALL.out, HORD.out]; simp [hab, HE1.out, HE2.out, HE3.out], (hR.drewN _).set_ _⟩, (below_drewN_ hB _).setCell (p := ⟨w.heap.size + 1, 0, none⟩) (by simp) _⟩
          · rw [e3] at hne
            have HE3 := Lib.hid e3
            clear e3
            gi_wp2_with (gi_at_call 65; refine (CallsIn.inRound l (callsIn_wide.2 (flows_any c _ _ _ hU (by omega) (by omega)))).mono ?_; rintro e w' ⟨rfl, rfl⟩)
            refine round_region_drew (by kernel_rfl) (by kernel_rfl) (by kernel_rfl) ?_
            repeat (gi_big_quiet_step (fail))
            refine wpQuietIn_nil ?_
            rintro _ ⟨nq, rfl⟩
            gi_wp2
            exact ⟨keepsOthers_drewN _ _, keepsCell_below (below_drewN_ (Below.refl _ _) _) (Nat.lt_succ_self _), ⟨by rw [vals_snoc, Lat.all_snoc, HALL.out, HORD.out]; simp [hab, HE1.out, HE2.out, HE3.out], ⟨hcu, hfu⟩, hR⟩, below_drewN_ hB _⟩
        · have HE2 := Lib.hid e2
          gi_wp2_with (gi_at_call 65; refine (CallsIn.inRound l (callsIn_wide.2 (flows_any c _ _ _ hU (by omega) (by omega)))).mono ?_; rintro e w' ⟨rfl, rfl⟩)
          exact ⟨KeepsOthers.setCell _ _ _, ⟨rfl, by rw [vals_snoc, Lat.all_snoc, HALL.out, HORD.out]; simp [hab, HE1.out, HE2.out], hR.set_ _⟩, hB.setCell (p := ⟨w.heap.size + 1, 0, none⟩) (by simp) _⟩
  case done =>
    rintro D xs W hD hxs ⟨⟨hall, _, hR⟩, hB⟩ hK
    have hiso : Lat.isOrder up = true := by unfold Lat.isOrder; rw [← hxs]; exact hall
    obtain ⟨hcr, hfr⟩ := id hR
    clear hall hxs b0 b1 b2
    have HISO := Lib.hid hiso
    clear hiso
    gi_wp2
    have hK' := (KeepsOthers.setCell W ⟨w.heap.size + 1, 0, none⟩ (.bool true)).same D _ hK rfl
    refine ⟨by simp, .inl ⟨_, _, rfl, run_takeDeferred hK', ?_⟩⟩
    have hc5 := ((hR.set_ (.bool true)).putObj (.deferred none) hK' rfl).1
    refine ⟨.bool true, ?_, by rw [HISO.out], (hB.setCell (p := ⟨w.heap.size + 1, 0, none⟩) (by simp) _).trans (belowK_b (w := w) (Nat.le_refl _) _ D _ _ (by simp at hD; omega) hK' rfl rfl)⟩
    simp [results, Tryd.f34, go_sem, hc5]
  case stop =>
    rintro D c pre W hD hpre ⟨⟨rfl, hno, hR⟩, hB⟩ hK
    have hiso : Lat.isOrder up = false := by unfold Lat.isOrder; exact Lat.all_false hpre hno
    obtain ⟨hcr, hfr⟩ := id hR
    clear hno hpre b0 b1 b2
    have HISO := Lib.hid hiso
    clear hiso
    gi_wp2
    refine ⟨by simp, .inl ⟨_, _, rfl, run_takeDeferred hK, ?_⟩⟩
    have hc5 := (hR.putObj (.deferred none) hK rfl).1
    refine ⟨.bool false, ?_, by rw [HISO.out], hB.trans (belowK_b (w := w) (Nat.le_refl _) W D _ _ (by simp at hD; omega) hK rfl rfl)⟩
    simp [results, Tryd.f34, go_sem, hc5]
end Go.Proofs.YtipbilmnknmhmaaDoor
