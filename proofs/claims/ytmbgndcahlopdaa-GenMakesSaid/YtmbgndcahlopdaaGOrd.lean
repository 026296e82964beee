/- Walks of lattice's isOrder, turned, isLattice: ranges over pairs. -/
import Derived.Outline
import Derived.Laws.MakeOwn
import Derived.ArgAppend
import Derived.Test.YtmbgndcahlopdaaGPairs
import Derived.Test.YtmbgndcahlopdaaGLeaf
import Derived.Test.YtmbgndcahlopdaaGQuiet
namespace Go.Proofs.Ytmbgndcahlopdaa
set_option maxRecDepth 100000
open Go.RowKit Go.Shelf

attribute [local go_sem] Oper.semAt_some

theorem andNot_ne (x y : Nat) (hx : x < 4294967296) (hy : y < 4294967296) : (bits BinOp.andNot IntKind.u32 (x : Int) (y : Int) != 0) = !Lat.sub x y := by
  rw [← andNot_any x y hx hy]; rfl

set_option maxRecDepth 100000 in
set_option maxHeartbeats 2000000 in
theorem isOrder_any {A : Option Addr} {up : List Nat} (c : Nat) (w : World) (h : Ups w w.heap.size A up) (hl : up.length ≤ 31) :
    Calls Try.prog 65 #[.slice A up.length c] w fun e w' => e = .returned (.bool (Lat.isOrder up)) ∧ Below w.heap.size w w' := by
  have hwf : ∀ f, Fence.wide.fn f := fun _ => trivial
  refine (callsIn_wide (n := 3)).1 ?_
  refine callsIn_of_wp_marks Try.func65 rfl trivial ?_ rfl
  simp only [Try.ntmps65, List.size_toArray, List.length_cons, List.length_nil, Nat.reduceAdd, Nat.reduceSub, Array.replicate_succ, Array.replicate_zero, List.push_toArray, List.append_toArray, List.nil_append, List.cons_append]
  gi_wp2_with (gi_at_call 93; refine (callsIn_wide.2 (pairs_any up.length _)).mono ?_; rintro e w' ⟨rfl, rfl⟩)
  have b0 := Box.new w (.slice A up.length c) 23
  have b1 := Box.new (w.alloc (.cells #[.slice A up.length c] 23)) (.bool false) 4
  have b2 := Box.new ((w.alloc (.cells #[.slice A up.length c] 23)).alloc (.cells #[.bool false] 4)) (.int .i64 up.length) 3
  simp only [World.size_alloc] at b1 b2
  have hB0 : Below w.heap.size w (((w.alloc (.cells #[.slice A up.length c] 23)).alloc (.cells #[.bool false] 4)).alloc (.cells #[.int .i64 up.length] 3)) :=
    (((Below.refl _ w).alloc (Nat.le_refl _) _).alloc (by simp) _).alloc (by simp; omega) _
  refine wpIn_rangeFunc_ownF rfl (by decide) (gf := 114) (lb := #[.pointer (some ⟨w.heap.size + 1 + 1, 0, none⟩)]) rfl trivial (enters_of Try.func114 (by kernel_rfl) rfl)
    (pairs_stops _ up.length (w.heap.size + 1 + 1) (by omega) (by decide) _ (by simp) b2.1) keepsCell_t keepsCell_b (Below.refl _ _) (fun _ => rfl)
    (fun pre W => ((vals pre).all (Lat.ordOk up) = true ∧ Box W w.heap.size (.slice A up.length c) ∧ Box W (w.heap.size + 1) (.bool false)) ∧ Below w.heap.size w W)
    (fun c pre W => (c = .ret ∧ (vals pre).all (Lat.ordOk up) = false ∧ Box W (w.heap.size + 1) (.bool false)) ∧ Below w.heap.size w W)
    (OwnFrom.and (Own.from (fun s A B row hs hg hr => ⟨hs.1, hs.2.1.kept hg hr, hs.2.2.kept hg hr⟩) _) (ownFrom_below (Nat.le_refl _) (by simp; omega)))
    (fun c => OwnFrom.and (Own.from (fun s A B row hs hg hr => ⟨hs.1, hs.2.1, hs.2.2.kept hg hr⟩) _) (ownFrom_below (Nat.le_refl _) (by simp; omega)))
    ⟨⟨rfl, (b0.alloc _).alloc _, b1.alloc _⟩, hB0⟩
    (fun x => { tmps := #[.slice A up.length c, .pointer (some ⟨w.heap.size, 0, none⟩), .pointer (some ⟨w.heap.size + 1, 0, none⟩), .int .i64 (x.1.1 : Int), .int .i64 (x.1.2 : Int), undef, .slice A up.length c, .int .i64 (up.length : Int), .func (.func 114) #[] #[.pointer (some ⟨w.heap.size + 1 + 1, 0, none⟩)], .int .i64 (x.1.1 : Int), .int .i64 (x.1.2 : Int), undef, undef, undef, undef, undef, undef, undef, undef, undef, undef, undef, undef, undef, undef, undef, undef, undef, undef, undef, undef, undef, undef, undef, undef, undef, undef, undef, undef, undef, undef, undef, undef, undef, undef, undef, undef, undef, undef, undef], defers := [] }) ?assign ?body ?done ?stop
  case assign =>
    intro l x W K hK
    gi_wp2
    exact hK
  case body =>
    rintro l pre ⟨⟨a, b⟩, ha, hb⟩ W ⟨⟨hall, ⟨hcu, hfu⟩, hR⟩, hB⟩ hlen
    dsimp only at ha hb ⊢
    obtain ⟨hcr, hfr⟩ := id hR
    have hU : Ups W w.heap.size A up := h.below hB
    obtain ⟨ad, x, rfl, _, hx, hx32, hcx⟩ := hU.at_ ha
    obtain ⟨ad', y, he, _, hy, hy32, hcy⟩ := hU.at_ hb
    obtain rfl : ad = ad' := by injection he
    clear he
    have HALL := Lib.hid hall
    have hne := andNot_ne y x hy32 hx32
    have hord : Lat.ordOk up (a, b) = if a = b then Lat.fl up a b else !Lat.fl up a b || (!Lat.fl up b a && Lat.sub y x) := by
      unfold Lat.ordOk; simp only [List.getD_eq_getElem?_getD, hx, hy, Option.getD_some]
    have HORD := Lib.hid hord
    have HX := Lib.hid hx
    have HY := Lib.hid hy
    clear hord hx hy hall b0 b1 b2 hlen
    by_cases hab : a = b
    · subst hab
      have hb1 : ((a : Int) == (a : Int)) = true := by simp
      have hb2 : ((a : Int) != (a : Int)) = false := by simp
      obtain rfl : x = y := by have := HX.out.symm.trans HY.out; injection this
      have hs : Lat.sub x x = true := Lat.sub_self x
      rw [hs] at hne
      clear hs
      cases e1 : Lat.fl up a a
      · have HE1 := Lib.hid e1
        gi_wp2_with (gi_at_call 94; refine (CallsIn.inRound l (callsIn_wide.2 (flows_any c _ _ _ hU (by omega) (by omega)))).mono ?_; rintro e w' ⟨rfl, rfl⟩)
        exact ⟨KeepsOthers.setCell _ _ _, ⟨rfl, by rw [vals_snoc, Lat.all_snoc, HALL.out, HORD.out]; simp [HE1.out], hR.set_ _⟩, hB.setCell (p := ⟨w.heap.size + 1, 0, none⟩) (by simp) _⟩
      · have HE1 := Lib.hid e1
        gi_wp2_with (gi_at_call 94; refine (CallsIn.inRound l (callsIn_wide.2 (flows_any c _ _ _ hU (by omega) (by omega)))).mono ?_; rintro e w' ⟨rfl, rfl⟩)
        refine round_region_drew (by kernel_rfl) (by kernel_rfl) (by kernel_rfl) ?_
        repeat (gi_big_quiet_step (fail))
        refine wpQuietIn_nil ?_
        rintro _ ⟨nq, rfl⟩
        gi_wp2
        exact ⟨keepsOthers_drewN _ _, keepsCell_below (below_drewN_ (Below.refl _ _) _) (Nat.lt_succ_self _), ⟨by rw [vals_snoc, Lat.all_snoc, HALL.out, HORD.out]; simp [HE1.out], ⟨hcu, hfu⟩, hR⟩, below_drewN_ hB _⟩
    · have hb1 : ((a : Int) == (b : Int)) = false := by rw [beq_eq_false_iff_ne]; omega
      have hb2 : ((a : Int) != (b : Int)) = true := by rw [bne_iff_ne]; omega
      cases e1 : Lat.fl up a b
      · have HE1 := Lib.hid e1
        gi_wp2_with (gi_at_call 94; refine (CallsIn.inRound l (callsIn_wide.2 (flows_any c _ _ _ hU (by omega) (by omega)))).mono ?_; rintro e w' ⟨rfl, rfl⟩)
        refine round_region_drew (by kernel_rfl) (by kernel_rfl) (by kernel_rfl) ?_
        repeat (gi_big_quiet_step (fail))
        refine wpQuietIn_nil ?_
        rintro _ ⟨nq, rfl⟩
        gi_wp2
        exact ⟨keepsOthers_drewN _ _, keepsCell_below (below_drewN_ (Below.refl _ _) _) (Nat.lt_succ_self _), ⟨by rw [vals_snoc, Lat.all_snoc, HALL.out, HORD.out]; simp [hab, HE1.out], ⟨hcu, hfu⟩, hR⟩, below_drewN_ hB _⟩
      · have HE1 := Lib.hid e1
        cases e2 : Lat.fl up b a
        · have HE2 := Lib.hid e2
          cases e3 : Lat.sub y x
          · rw [e3] at hne
            have HE3 := Lib.hid e3
            clear e3
            gi_wp2_with (gi_at_call 94; refine (CallsIn.inRound l (callsIn_wide.2 (flows_any c _ _ _ hU (by omega) (by omega)))).mono ?_; rintro e w' ⟨rfl, rfl⟩)
            refine round_region_drew (by kernel_rfl) (by kernel_rfl) (by kernel_rfl) ?_
            repeat (gi_big_quiet_step (fail))
            refine wpQuietIn_nil ?_
            rintro _ ⟨nq, rfl⟩
            gi_wp2
            exact ⟨(keepsOthers_drewN _ _).trans (KeepsOthers.setCell _ _ _), ⟨rfl, by rw [vals_snoc, Lat.all_snoc, HALL.out, HORD.out]; simp [hab, HE1.out, HE2.out, HE3.out], (hR.drewN _).set_ _⟩, (below_drewN_ hB _).setCell (p := ⟨w.heap.size + 1, 0, none⟩) (by simp) _⟩
          · rw [e3] at hne
            have HE3 := Lib.hid e3
            clear e3
            gi_wp2_with (gi_at_call 94; refine (CallsIn.inRound l (callsIn_wide.2 (flows_any c _ _ _ hU (by omega) (by omega)))).mono ?_; rintro e w' ⟨rfl, rfl⟩)
            refine round_region_drew (by kernel_rfl) (by kernel_rfl) (by kernel_rfl) ?_
            repeat (gi_big_quiet_step (fail))
            refine wpQuietIn_nil ?_
            rintro _ ⟨nq, rfl⟩
            gi_wp2
            exact ⟨keepsOthers_drewN _ _, keepsCell_below (below_drewN_ (Below.refl _ _) _) (Nat.lt_succ_self _), ⟨by rw [vals_snoc, Lat.all_snoc, HALL.out, HORD.out]; simp [hab, HE1.out, HE2.out, HE3.out], ⟨hcu, hfu⟩, hR⟩, below_drewN_ hB _⟩
        · have HE2 := Lib.hid e2
          gi_wp2_with (gi_at_call 94; refine (CallsIn.inRound l (callsIn_wide.2 (flows_any c _ _ _ hU (by omega) (by omega)))).mono ?_; rintro e w' ⟨rfl, rfl⟩)
          exact ⟨KeepsOthers.setCell _ _ _, ⟨rfl, by rw [vals_snoc, Lat.all_snoc, HALL.out, HORD.out]; simp [hab, HE1.out, HE2.out], hR.set_ _⟩, hB.setCell (p := ⟨w.heap.size + 1, 0, none⟩) (by simp) _⟩
  case done =>
    rintro D xs W hD hxs ⟨⟨hall, _, hR⟩, hB⟩ hK
    have hiso : Lat.isOrder up = true := by unfold Lat.isOrder; rw [← hxs]; exact hall
    obtain ⟨hcr, hfr⟩ := id hR
    clear hall hxs b0 b1 b2
    have HISO := Lib.hid hiso
    clear hiso
    gi_wp2
    have hK' := (KeepsOthers.setCell W ⟨w.heap.size + 1, 0, none⟩ (.bool true)).same D _ hK rfl
    refine ⟨by simp, .inl ⟨_, _, rfl, run_takeDeferred hK', ?_⟩⟩
    have hc5 := ((hR.set_ (.bool true)).putObj (.deferred none) hK' rfl).1
    refine ⟨.bool true, ?_, by rw [HISO.out], (hB.setCell (p := ⟨w.heap.size + 1, 0, none⟩) (by simp) _).trans (belowK_b (w := w) (Nat.le_refl _) _ D _ _ (by simp at hD; omega) hK' rfl rfl)⟩
    simp [results, Try.f65, go_sem, hc5]
  case stop =>
    rintro D c pre W hD hpre ⟨⟨rfl, hno, hR⟩, hB⟩ hK
    have hiso : Lat.isOrder up = false := by unfold Lat.isOrder; exact Lat.all_false hpre hno
    obtain ⟨hcr, hfr⟩ := id hR
    clear hno hpre b0 b1 b2
    have HISO := Lib.hid hiso
    clear hiso
    gi_wp2
    refine ⟨by simp, .inl ⟨_, _, rfl, run_takeDeferred hK, ?_⟩⟩
    have hc5 := (hR.putObj (.deferred none) hK rfl).1
    refine ⟨.bool false, ?_, by rw [HISO.out], hB.trans (belowK_b (w := w) (Nat.le_refl _) W D _ _ (by simp at hD; omega) hK rfl rfl)⟩
    simp [results, Try.f65, go_sem, hc5]
end Go.Proofs.Ytmbgndcahlopdaa

/- Walk of lattice's turned. -/
namespace Go.Proofs.Ytmbgndcahlopdaa
set_option maxRecDepth 100000
open Go.RowKit Go.Shelf

attribute [local go_sem] Oper.semAt_some

theorem run_make_n {P : Program} (t e : TypeId) (i : TypeInfo) (z : Value) (ht : P.underlying t = some (.slice e)) (hi : P.info? e = some i) (hz : i.zero = some z) (hs : i.size = 1) (hzc : z.cells = #[z])
    (n : Nat) (hbytes : i.bytes * n ≤ 281474976710656) (h63 : n ≤ 9223372036854775807) (w : World) :
    (Instr.makeSlice t (.int .i64 (n : Int)) (.int .i64 (n : Int))).run P w = .ok (.slice (some ⟨w.heap.size, 0, none⟩) n n) (w.alloc (.cells (List.replicate n z).toArray e)) := by
  have hb : (i.bytes : Int) * (n : Int) ≤ 281474976710656 := by
    have h : ((i.bytes * n : Nat) : Int) ≤ 281474976710656 := by omega
    rwa [Int.natCast_mul] at h
  have hr := run_make (P := P) w t e i z ht hi hz .i64 .i64 n n (by omega) (by omega) hb (by omega)
  simp only [Int.toNat_natCast] at hr
  rw [hr]
  congr 3
  apply Array.ext_getElem?
  intro k
  simp only [madeCells, hs, hzc, Nat.mul_one, Array.getElem?_map]
  by_cases hk : k < n
  · simp [hk, Nat.mod_one]
  · simp [hk]

theorem Try.infoU32 : (Try.prog.info? 63).map (fun i => (i.zero, i.size, i.bytes)) = some (some (.int .u32 0), 1, 4) := by kernel_rfl

theorem or_num (y a : Nat) (hy : y < 4294967296) (ha : a < 32) : bits BinOp.or IntKind.u32 (y : Int) (IntKind.u32.wrap ((2 : Int) ^ a)) = ((y ||| 2 ^ a : Nat) : Int) := by
  have h1 : 2 ^ a < 2 ^ 32 := Nat.pow_lt_pow_right (by decide) ha
  have e : IntKind.u32.wrap ((2 : Int) ^ a) = ((2 ^ a : Nat) : Int) := by
    have e : (2 : Int) ^ a = ((2 ^ a : Nat) : Int) := by rw [Int.natCast_pow]; rfl
    rw [e]
    generalize 2 ^ a = m at *
    simp [IntKind.wrap, IntKind.bits, IntKind.signed]
    omega
  rw [e, u32_or_nat _ _ hy (by omega)]

set_option maxRecDepth 100000 in
set_option maxHeartbeats 2000000 in
theorem turned_any {A : Option Addr} {up : List Nat} (c : Nat) (w : World) (h : Ups w w.heap.size A up) (hl : up.length ≤ 31) :
    Calls Try.prog 95 #[.slice A up.length c] w fun e w' => ∃ g, e = .returned (.slice (some ⟨g, 0, none⟩) up.length up.length) ∧ Blk w' g 63 (u32s (Lat.turned up)).toArray ∧ Below w.heap.size w w' := by
  obtain ⟨i0, hi, hz0, hz1, hz2⟩ := info_parts Try.infoU32
  have hmk := fun W => run_make_n (P := Try.prog) 23 63 i0 (.int .u32 0) Try.underlying23 hi hz0 hz1 rfl up.length (by rw [hz2]; omega) (by omega) W
  clear hi hz0 hz1 hz2
  have hwf : ∀ f, Fence.wide.fn f := fun _ => trivial
  refine (callsIn_wide (n := 3)).1 ?_
  refine callsIn_of_wp_marks Try.func95 rfl trivial ?_ rfl
  simp only [Try.ntmps95, List.size_toArray, List.length_cons, List.length_nil, Nat.reduceAdd, Nat.reduceSub, Array.replicate_succ, Array.replicate_zero, List.push_toArray, List.append_toArray, List.nil_append, List.cons_append]
  gi_wp2_with (gi_at_call 93; refine (callsIn_wide.2 (pairs_any up.length _)).mono ?_; rintro e w' ⟨rfl, rfl⟩)
  obtain ⟨W0, hW0⟩ : ∃ W0 : World, ((((w.alloc (Obj.cells #[Value.slice A up.length c] 23)).alloc (Obj.cells (Array.replicate up.length (Value.int IntKind.u32 0)) 63)).alloc
      (Obj.cells #[Value.slice (some { block := w.heap.size + 1, off := 0 }) up.length up.length] 23)).alloc (Obj.cells #[Value.int IntKind.i64 ↑up.length] 3)) = W0 := ⟨_, rfl⟩
  have hsz : W0.heap.size = w.heap.size + 1 + 1 + 1 + 1 := by rw [← hW0]; simp
  have b0 : Box W0 w.heap.size (.slice A up.length c) := by rw [← hW0]; exact (((Box.new _ _ _).alloc _).alloc _).alloc _
  have b1 : Blk W0 (w.heap.size + 1) 63 (u32s (Lat.turnTo up [])).toArray := by
    have : (u32s (Lat.turnTo up [])).toArray = Array.replicate up.length (Value.int IntKind.u32 0) := by simp [u32s, Lat.turnTo]
    rw [← hW0, this]
    have := Blk.new (w.alloc (Obj.cells #[Value.slice A up.length c] 23)) 63 (Array.replicate up.length (Value.int IntKind.u32 0))
    rw [World.size_alloc] at this
    exact (this.alloc _).alloc _
  have b2 : Box W0 (w.heap.size + 1 + 1) (.slice (some ⟨w.heap.size + 1, 0, none⟩) up.length up.length) := by
    rw [← hW0]; exact (Box.new' _ _ _ _ (by simp)).alloc _
  have b3 : Box W0 (w.heap.size + 1 + 1 + 1) (.int .i64 up.length) := by rw [← hW0]; exact Box.new' _ _ _ _ (by simp)
  have hB0 : Below w.heap.size w W0 := by rw [← hW0]; exact ((((Below.refl _ w).alloc (Nat.le_refl _) _).alloc (by simp) _).alloc (by simp; omega) _).alloc (by simp; omega) _
  rw [hW0]
  clear hW0 hmk
  refine wpIn_rangeFunc_ownF rfl (by decide) (gf := 114) (lb := #[.pointer (some ⟨w.heap.size + 1 + 1 + 1, 0, none⟩)]) rfl trivial (enters_of Try.func114 (by kernel_rfl) rfl)
    (pairs_stops _ up.length (w.heap.size + 1 + 1 + 1) (by omega) (by decide) _ (by omega) b3.1) keepsCell_t keepsCell_b (Below.refl _ _) (fun _ => rfl)
    (fun pre W => (Box W w.heap.size (.slice A up.length c) ∧ Box W (w.heap.size + 1 + 1) (.slice (some ⟨w.heap.size + 1, 0, none⟩) up.length up.length) ∧ Blk W (w.heap.size + 1) 63 (u32s (Lat.turnTo up (vals pre))).toArray) ∧ Below w.heap.size w W)
    (fun _ _ _ => False)
    (OwnFrom.and (Own.from (fun s A B row hs hg hr => ⟨hs.1.kept hg hr, hs.2.1.kept hg hr, hs.2.2.kept hg hr⟩) _) (ownFrom_below (Nat.le_refl _) (by omega)))
    (fun _ _ _ _ _ hs _ _ => hs)
    ⟨⟨b0, b2, b1⟩, hB0⟩
    (fun x => { tmps := #[.slice A up.length c, .pointer (some ⟨w.heap.size, 0, none⟩), .slice none 0 0, .pointer (some ⟨w.heap.size + 1 + 1, 0, none⟩), .int .i64 (x.1.1 : Int), .int .i64 (x.1.2 : Int), .slice A up.length c, .int .i64 (up.length : Int), .slice (some ⟨w.heap.size + 1, 0, none⟩) up.length up.length, .slice A up.length c, .int .i64 (up.length : Int), .func (.func 114) #[] #[.pointer (some ⟨w.heap.size + 1 + 1 + 1, 0, none⟩)], .int .i64 (x.1.1 : Int), .int .i64 (x.1.2 : Int), undef, undef, undef, undef, undef, undef, undef, undef, undef, undef, undef, undef, undef], defers := [] }) ?assign ?body ?done ?stop
  case assign =>
    intro l x W K hK
    gi_wp2
    exact hK
  case body =>
    rintro l pre ⟨⟨a, b⟩, ha, hb⟩ W ⟨⟨⟨hcu, hfu⟩, hD, hblk⟩, hB⟩ hlen
    dsimp only at ha hb ⊢
    obtain ⟨hcd, hfd⟩ := id hD
    have hU : Ups W w.heap.size A up := h.below hB
    have hmix : Try.prog.follows .mixedOrders = true := by kernel_rfl
    have hlt : ∀ p ∈ vals pre, p.1 < 32 := by
      intro p hp
      obtain ⟨q, _, rfl⟩ := List.mem_map.1 hp
      have := q.2.1
      omega
    obtain ⟨d, hd⟩ : ∃ d, Lat.turnTo up (vals pre) = d := ⟨_, rfl⟩
    have hdl : d.length = up.length := by rw [← hd]; exact Lat.turnTo_length _ _
    have hd32 : ∀ k x : Nat, d[k]? = some x → x < 4294967296 := by rw [← hd]; exact Lat.turnTo_lt hlt
    rw [hd] at hblk
    have hyb : d[b]? = some (d[b]'(by omega)) := List.getElem?_eq_getElem (by omega)
    obtain ⟨y, hy⟩ : ∃ y, d[b]'(by omega) = y := ⟨_, rfl⟩
    rw [hy] at hyb
    have hy32 := hd32 _ _ hyb
    have hcy : W.cell? ⟨w.heap.size + 1, b, none⟩ = some (.int .u32 (y : Int)) := by rw [hblk.cell]; simp [u32s, hyb]
    have hfy : W.frozen? ⟨w.heap.size + 1, b, none⟩ = false := hblk.frozen b
    have HD' := Lib.hid hd
    have HYB := Lib.hid hyb
    have HDL := Lib.hid hdl
    have hor := or_num y a hy32 (by omega)
    clear hd hyb hdl hy hd32 hlt hlen b0 b1 b2 b3
    cases e1 : Lat.fl up a b
    · have HE1 := Lib.hid e1
      gi_wp2_with (gi_at_call 94; refine (CallsIn.inRound l (callsIn_wide.2 (flows_any c _ _ _ hU (by omega) (by omega)))).mono ?_; rintro e w' ⟨rfl, rfl⟩)
      refine ⟨KeepsOthers.refl _, keepsCell_below (Below.refl _ _) (Nat.lt_succ_self _), ⟨⟨hcu, hfu⟩, hD, ?_⟩, hB⟩
      rw [vals_snoc, Lat.turnTo_snoc, HD'.out]
      simpa [Lat.stepT, HE1.out] using hblk
    · have HE1 := Lib.hid e1
      gi_wp2_with (gi_at_call 94; refine (CallsIn.inRound l (callsIn_wide.2 (flows_any c _ _ _ hU (by omega) (by omega)))).mono ?_; rintro e w' ⟨rfl, rfl⟩)
      have hfin : ∀ W' : World, W' = (W.setCell ⟨w.heap.size + 1, b, none⟩ (.int .u32 ((y ||| 2 ^ a : Nat) : Int))).drew → KeepsOthers W W' ∧ KeepsCell (w.heap.size + 1 + 1 + 1) W W' ∧
          (Box W' w.heap.size (.slice A up.length c) ∧ Box W' (w.heap.size + 1 + 1) (.slice (some ⟨w.heap.size + 1, 0, none⟩) up.length up.length) ∧ Blk W' (w.heap.size + 1) 63 (u32s (Lat.turnTo up (vals (pre ++ [⟨(a, b), ha, hb⟩])))).toArray) ∧ Below w.heap.size w W' := by
        rintro W' rfl
        refine ⟨(KeepsOthers.setCell W ⟨w.heap.size + 1, b, none⟩ _).trans (KeepsOthers.drew _), fun v hv => ?_, ⟨?_, ?_, ?_⟩, (hB.setCell (p := ⟨w.heap.size + 1, b, none⟩) (by simp) _).drew⟩
        · exact (World.cell?_setCell_other W ⟨w.heap.size + 1, b, none⟩ ⟨w.heap.size + 1 + 1 + 1, 0, none⟩ _ (by simp)).trans hv
        · exact (Box.other (p := ⟨w.heap.size + 1, b, none⟩) ⟨hcu, hfu⟩ (by simp) _).drewN 1
        · exact (hD.other (p := ⟨w.heap.size + 1, b, none⟩) (by simp) _).drewN 1
        · have := (hblk.set_ b (.int .u32 ((y ||| 2 ^ a : Nat) : Int))).drew
          have e : (u32s (Lat.turnTo up (vals (pre ++ [⟨(a, b), ha, hb⟩])))).toArray = (u32s d).toArray.setIfInBounds b (.int .u32 ((y ||| 2 ^ a : Nat) : Int)) := by
            rw [vals_snoc, Lat.turnTo_snoc, HD'.out]
            unfold Lat.stepT
            simp only [HE1.out, if_true]
            rw [List.getD_eq_getElem?_getD, HYB.out]
            simp [u32s, List.map_set]
          rw [e]
          exact this
      have HFIN := Lib.hid hfin
      clear hfin
      gi_region_with_o (fail)
      all_goals gi_wp2
      all_goals exact HFIN.out _ rfl
  case done =>
    rintro D xs W hD hxs ⟨⟨_, hDn, hblk⟩, hB⟩ hK
    rw [hxs] at hblk
    obtain ⟨hcd, hfd⟩ := id hDn
    clear hxs b0 b1 b2 b3
    gi_wp2
    refine ⟨by simp, .inl ⟨_, _, rfl, run_takeDeferred hK, ?_⟩⟩
    refine ⟨_, results_tmp rfl _ _ _, _, rfl, hblk.putObj (.deferred none) hK rfl, hB.trans (belowK_b (w := w) (Nat.le_refl _) W D _ _ (by omega) hK rfl rfl)⟩
  case stop =>
    rintro D c pre W _ _ h _
    exact h.elim
end Go.Proofs.Ytmbgndcahlopdaa

/- Walk of lattice's isLattice. -/
namespace Go.Proofs.Ytmbgndcahlopdaa
set_option maxRecDepth 100000
open Go.RowKit Go.Shelf

attribute [local go_sem] Oper.semAt_some

theorem blk_ups {W : World} {g : Nat} {t : TypeId} {up : List Nat} (h : Blk W g t (u32s up).toArray) (hl : ∀ k x : Nat, up[k]? = some x → x < 4294967296) : Ups W (g + 1) (some ⟨g, 0, none⟩) up := ⟨h.row, hl⟩
theorem turned_lt {up : List Nat} (hl : up.length ≤ 31) : ∀ k x : Nat, (Lat.turned up)[k]? = some x → x < 4294967296 :=
  Lat.turnTo_lt (n := 32) fun p hp => by have := (Lat.mem_pairs.1 hp).1; omega

set_option maxRecDepth 100000 in
set_option maxHeartbeats 2000000 in
theorem isLattice_any {A : Option Addr} {up : List Nat} (c : Nat) (w : World) (h : Ups w w.heap.size A up) (hl : up.length ≤ 31) :
    Calls Try.prog 66 #[.slice A up.length c] w fun e w' => e = .returned (.bool (Lat.isLattice up)) ∧ Below w.heap.size w w' := by
  have hwf : ∀ f, Fence.wide.fn f := fun _ => trivial
  refine (callsIn_wide (n := 3)).1 ?_
  refine callsIn_of_wp_marks Try.func66 rfl trivial ?_ rfl
  simp only [Try.ntmps66, List.size_toArray, List.length_cons, List.length_nil, Nat.reduceAdd, Nat.reduceSub, Array.replicate_succ, Array.replicate_zero, List.push_toArray, List.append_toArray, List.nil_append, List.cons_append]
  have hB2 : Below w.heap.size w ((w.alloc (.cells #[.slice A up.length c] 23)).alloc (.cells #[.bool false] 4)) := ((Below.refl _ w).alloc (Nat.le_refl _) _).alloc (by simp) _
  have p0 : Box ((w.alloc (.cells #[.slice A up.length c] 23)).alloc (.cells #[.bool false] 4)) w.heap.size (.slice A up.length c) := (Box.new _ _ _).alloc _
  have p1 : Box ((w.alloc (.cells #[.slice A up.length c] 23)).alloc (.cells #[.bool false] 4)) (w.heap.size + 1) (.bool false) := Box.new' _ _ _ _ (by simp)
  have hturn := turned_any c ((w.alloc (.cells #[.slice A up.length c] 23)).alloc (.cells #[.bool false] 4)) ((h.below hB2).more (by simp; omega)) hl
  have HTURN := Lib.hid hturn
  have hW2 : ((w.alloc (.cells #[.slice A up.length c] 23)).alloc (.cells #[.bool false] 4)).heap.size = w.heap.size + 1 + 1 := by simp
  have HW2 := Lib.hid hW2
  clear hturn hW2
  gi_wp2_with (gi_at_call 95; refine (callsIn_wide.2 HTURN.out).mono ?_)
  rintro e w1 ⟨g, rfl, hblk, hb1⟩
  have hs1 : w.heap.size + 1 + 1 ≤ w1.heap.size := by have := hb1.size; rw [HW2.out] at this; exact this
  rw [HW2.out] at hb1
  have q0 := p0.below hb1 (by omega)
  have q1 := p1.below hb1 (by omega)
  have hB1 : Below w.heap.size w w1 := hB2.trans (hb1.mono (by omega))
  have hg := hblk.lt
  have hU1 : Ups w1 w1.heap.size A up := (h.below hB1).more (by omega)
  have hz0 : w.heap.size < w1.heap.size := by omega
  have hz1 : w.heap.size + 1 < w1.heap.size := by omega
  clear p0 p1 hb1 HW2 HTURN hB2
  obtain ⟨hc0, hf0⟩ := id q0
  gi_wp2_with (gi_at_call 93; refine (callsIn_wide.2 (pairs_any up.length _)).mono ?_; rintro e w' ⟨rfl, rfl⟩)
  obtain ⟨W0, hW0⟩ : ∃ W0 : World, ((w1.alloc (.cells #[.slice (some ⟨g, 0, none⟩) up.length up.length] 23)).alloc (.cells #[.int .i64 up.length] 3)) = W0 := ⟨_, rfl⟩
  have hsz : W0.heap.size = w1.heap.size + 1 + 1 := by rw [← hW0]; simp
  have b0 : Box W0 w.heap.size (.slice A up.length c) := by rw [← hW0]; exact (q0.alloc _).alloc _
  have b1 : Box W0 (w.heap.size + 1) (.bool false) := by rw [← hW0]; exact (q1.alloc _).alloc _
  have b2 : Box W0 w1.heap.size (.slice (some ⟨g, 0, none⟩) up.length up.length) := by rw [← hW0]; exact (Box.new _ _ _).alloc _
  have b3 : Box W0 (w1.heap.size + 1) (.int .i64 up.length) := by rw [← hW0]; exact Box.new' _ _ _ _ (by simp)
  have b4 : Blk W0 g 63 (u32s (Lat.turned up)).toArray := by rw [← hW0]; exact (hblk.alloc _).alloc _
  have hB0 : Below w.heap.size w W0 := by rw [← hW0]; exact (hB1.alloc (by omega) _).alloc (by simp; omega) _
  rw [hW0]
  clear hW0 hB1 q0 q1 hblk hU1 hc0 hf0
  refine wpIn_rangeFunc_ownF rfl (by decide) (gf := 114) (lb := #[.pointer (some ⟨w1.heap.size + 1, 0, none⟩)]) rfl trivial (enters_of Try.func114 (by kernel_rfl) rfl)
    (pairs_stops _ up.length (w1.heap.size + 1) (by omega) (by decide) _ (by omega) b3.1) keepsCell_t keepsCell_b (Below.refl _ _) (fun _ => rfl)
    (fun pre W => ((vals pre).all (Lat.latOk up) = true ∧ Box W w.heap.size (.slice A up.length c) ∧ Box W (w.heap.size + 1) (.bool false) ∧ Box W w1.heap.size (.slice (some ⟨g, 0, none⟩) up.length up.length) ∧ Blk W g 63 (u32s (Lat.turned up)).toArray) ∧ Below w.heap.size w W)
    (fun c pre W => (c = .ret ∧ (vals pre).all (Lat.latOk up) = false ∧ Box W (w.heap.size + 1) (.bool false)) ∧ Below w.heap.size w W)
    (OwnFrom.and (Own.from (fun s A B row hs hg hr => ⟨hs.1, hs.2.1.kept hg hr, hs.2.2.1.kept hg hr, hs.2.2.2.1.kept hg hr, hs.2.2.2.2.kept hg hr⟩) _) (ownFrom_below (Nat.le_refl _) (by omega)))
    (fun c => OwnFrom.and (Own.from (fun s A B row hs hg hr => ⟨hs.1, hs.2.1, hs.2.2.kept hg hr⟩) _) (ownFrom_below (Nat.le_refl _) (by omega)))
    ⟨⟨rfl, b0, b1, b2, b4⟩, hB0⟩
    (fun x => { tmps := #[.slice A up.length c, .pointer (some ⟨w.heap.size, 0, none⟩), .pointer (some ⟨w.heap.size + 1, 0, none⟩), .pointer (some ⟨w1.heap.size, 0, none⟩), .int .i64 (x.1.1 : Int), .int .i64 (x.1.2 : Int), undef, undef, undef, undef, .slice A up.length c, .slice (some ⟨g, 0, none⟩) up.length up.length, .slice A up.length c, .int .i64 (up.length : Int), .func (.func 114) #[] #[.pointer (some ⟨w1.heap.size + 1, 0, none⟩)], .int .i64 (x.1.1 : Int), .int .i64 (x.1.2 : Int), undef, undef, undef, undef, undef, undef, undef, undef, undef, undef, undef, undef, undef, undef, undef, undef, undef, undef], defers := [] }) ?assign ?body ?done ?stop
  case assign =>
    intro l x W K hK
    gi_wp2
    exact hK
  case body =>
    rintro l pre ⟨⟨a, b⟩, ha, hb⟩ W ⟨⟨hall, ⟨hcu, hfu⟩, hR, ⟨hcd, hfd⟩, hblk⟩, hB⟩ hlen
    dsimp only at ha hb ⊢
    obtain ⟨hcr, hfr⟩ := id hR
    have hU : Ups W w.heap.size A up := h.below hB
    have hUd : Ups W (g + 1) (some ⟨g, 0, none⟩) (Lat.turned up) := blk_ups hblk (turned_lt hl)
    have hj1 := fun nq => join_any c a b (W.drewN nq) hU hl ha hb
    have hj2 := fun nq => join_any up.length a b (W.drewN nq) hUd (by rw [Lat.turned_length]; exact hl) (by rw [Lat.turned_length]; exact ha) (by rw [Lat.turned_length]; exact hb)
    rw [Lat.turned_length] at hj2
    have hok : Lat.latOk up (a, b) = (Lat.leastB up (Lat.joinS up a b) && Lat.leastB (Lat.turned up) (Lat.joinS (Lat.turned up) a b)) := rfl
    have HOK := Lib.hid hok
    have HALL := Lib.hid hall
    clear hok hall hlen b0 b1 b2 b3 b4
    cases e1 : Lat.leastB up (Lat.joinS up a b)
    · rw [e1] at hj1
      have HJ1 := Lib.hid hj1
      have HE1 := Lib.hid e1
      clear hj1 e1 hj2
      gi_wp2_with (gi_at_call 96; refine (CallsIn.inRound l (callsIn_wide.2 (HJ1.out 0))).mono ?_; rintro e w' ⟨rfl, nq, rfl⟩)
      exact ⟨(keepsOthers_drewN _ nq).trans (KeepsOthers.setCell _ _ _), ⟨rfl, by rw [vals_snoc, Lat.all_snoc, HALL.out, HOK.out, HE1.out]; rfl, (hR.drewN nq).set_ _⟩, (below_drewN_ hB nq).setCell (p := ⟨w.heap.size + 1, 0, none⟩) (by simp) _⟩
    · rw [e1] at hj1
      have HJ1 := Lib.hid hj1
      have HE1 := Lib.hid e1
      clear hj1 e1
      cases e2 : Lat.leastB (Lat.turned up) (Lat.joinS (Lat.turned up) a b)
      · rw [e2] at hj2
        have HJ2 := Lib.hid hj2
        have HE2 := Lib.hid e2
        clear hj2 e2
        gi_wp2_with (fail)
        gi_at_call 96
        refine (CallsIn.inRound l (callsIn_wide.2 (HJ1.out 0))).mono ?_
        rintro e w' ⟨rfl, nq, rfl⟩
        gi_wp2_with (fail)
        gi_at_call 96
        refine (CallsIn.inRound l (callsIn_wide.2 (HJ2.out nq))).mono ?_
        rintro e w' ⟨rfl, nq2, rfl⟩
        gi_wp2
        exact ⟨(keepsOthers_drewN _ _).trans (KeepsOthers.setCell _ _ _), ⟨rfl, by rw [vals_snoc, Lat.all_snoc, HALL.out, HOK.out, HE1.out, HE2.out]; rfl, (hR.drewN _).set_ _⟩, (below_drewN_ hB _).setCell (p := ⟨w.heap.size + 1, 0, none⟩) (by simp) _⟩
      · rw [e2] at hj2
        have HJ2 := Lib.hid hj2
        have HE2 := Lib.hid e2
        clear hj2 e2
        gi_wp2_with (fail)
        gi_at_call 96
        refine (CallsIn.inRound l (callsIn_wide.2 (HJ1.out 0))).mono ?_
        rintro e w' ⟨rfl, nq, rfl⟩
        gi_wp2_with (fail)
        gi_at_call 96
        refine (CallsIn.inRound l (callsIn_wide.2 (HJ2.out nq))).mono ?_
        rintro e w' ⟨rfl, nq2, rfl⟩
        gi_wp2
        exact ⟨keepsOthers_drewN _ _, fun v hv => hv, ⟨by rw [vals_snoc, Lat.all_snoc, HALL.out, HOK.out, HE1.out, HE2.out]; rfl, ⟨hcu, hfu⟩, hR, ⟨hcd, hfd⟩, hblk⟩, below_drewN_ hB _⟩
  case done =>
    rintro D xs W hD hxs ⟨⟨hall, _, hR, _⟩, hB⟩ hK
    have hiso : Lat.isLattice up = true := by unfold Lat.isLattice; rw [← hxs]; exact hall
    obtain ⟨hcr, hfr⟩ := id hR
    clear hall hxs b0 b1 b2 b3 b4
    have HISO := Lib.hid hiso
    clear hiso
    gi_wp2
    have hK' := (KeepsOthers.setCell W ⟨w.heap.size + 1, 0, none⟩ (.bool true)).same D _ hK rfl
    refine ⟨by simp, .inl ⟨_, _, rfl, run_takeDeferred hK', ?_⟩⟩
    have hc5 := ((hR.set_ (.bool true)).putObj (.deferred none) hK' rfl).1
    refine ⟨.bool true, ?_, by rw [HISO.out], (hB.setCell (p := ⟨w.heap.size + 1, 0, none⟩) (by simp) _).trans (belowK_b (w := w) (Nat.le_refl _) _ D _ _ (by omega) hK' rfl rfl)⟩
    simp [results, Try.f66, go_sem, hc5]
  case stop =>
    rintro D c pre W hD hpre ⟨⟨rfl, hno, hR⟩, hB⟩ hK
    have hiso : Lat.isLattice up = false := by unfold Lat.isLattice; exact Lat.all_false hpre hno
    obtain ⟨hcr, hfr⟩ := id hR
    clear hno hpre b0 b1 b2 b3 b4
    have HISO := Lib.hid hiso
    clear hiso
    gi_wp2
    refine ⟨by simp, .inl ⟨_, _, rfl, run_takeDeferred hK, ?_⟩⟩
    have hc5 := (hR.putObj (.deferred none) hK rfl).1
    refine ⟨.bool false, ?_, by rw [HISO.out], hB.trans (belowK_b (w := w) (Nat.le_refl _) W D _ _ (by omega) hK rfl rfl)⟩
    simp [results, Try.f66, go_sem, hc5]
end Go.Proofs.Ytmbgndcahlopdaa

/- Walk of lattice's mayBe. -/
namespace Go.Proofs.Ytmbgndcahlopdaa
set_option maxRecDepth 100000
open Go.RowKit Go.Shelf

attribute [local go_sem] Oper.semAt_some

/-- The lattice value v holds these names and these rows of bits. -/
structure IsLat (w : World) (B : Nat) (v : Value) (names : List ByteArray) (up : List Nat) : Prop where
  form : ∃ (A A' : Option Addr) (c c' : Nat), v = .agg #[.slice A names.length c, .slice A' up.length c'] ∧ Row w B A (strs names) ∧ Ups w B A' up
  short : ∀ s ∈ names, s.size ≤ maxLen
  few : names.length ≤ 1000 ∧ up.length ≤ 1000
  caps : ∀ A n c A' n' c', v = .agg #[.slice A n c, .slice A' n' c'] → n ≤ c ∧ n' ≤ c'
theorem IsLat.below {w w' : World} {B : Nat} {v : Value} {names : List ByteArray} {up : List Nat} (h : IsLat w B v names up) (hb : Below B w w') : IsLat w' B v names up :=
  ⟨by obtain ⟨A, A', c, c', e, h1, h2⟩ := h.form; exact ⟨A, A', c, c', e, h1.below hb, h2.below hb⟩, h.short, h.few, h.caps⟩
theorem IsLat.more {w : World} {B B' : Nat} {v : Value} {names : List ByteArray} {up : List Nat} (h : IsLat w B v names up) (hB : B ≤ B') : IsLat w B' v names up :=
  ⟨by obtain ⟨A, A', c, c', e, h1, h2⟩ := h.form; exact ⟨A, A', c, c', e, h1.more hB, h2.more hB⟩, h.short, h.few, h.caps⟩

theorem strs_at {w : World} {B : Nat} {A : Option Addr} {names : List ByteArray} {k : Nat} (h : Row w B A (strs names)) (hk : k < names.length) : ∃ ad s, A = some ad ∧ ad.block < B ∧ names[k]? = some s ∧ w.cell? (ad.add k) = some (.string s) := by
  obtain ⟨ad, e, hb, hc⟩ := h.at_ (k := k) (by simpa [strs] using hk)
  exact ⟨ad, names[k], e, hb, List.getElem?_eq_getElem hk, by simpa [strs] using hc⟩

/-- Row k and name k are right. -/
def rowOk (names : List ByteArray) (up : List Nat) (k : Nat) : Bool := Lat.sub (up.getD k 0) (Lat.allS up.length) && nameOk (names.getD k ByteArray.empty)
def streq (s t : ByteArray) : Bool := s.toList == t.toList
def twoOk (names : List ByteArray) (p : Nat × Nat) : Bool := !(p.1 != p.2 && streq (names.getD p.1 ByteArray.empty) (names.getD p.2 ByteArray.empty))
def mayB (names : List ByteArray) (up : List Nat) : Bool :=
  (decide (1 ≤ up.length) && decide (up.length ≤ 8) && decide (names.length = up.length)) && ((List.range up.length).all (rowOk names up) && (Lat.pairs up.length).all (twoOk names))

theorem all_range_false {f : Nat → Bool} {n k : Nat} (hk : k < n) (hf : f k = false) : (List.range n).all f = false := by
  rw [List.all_eq_false]
  exact ⟨k, by simpa using hk, by simp [hf]⟩

set_option maxRecDepth 100000 in
set_option maxHeartbeats 2000000 in
theorem mayBe_any {v : Value} {names : List ByteArray} {up : List Nat} (w : World) (h : IsLat w w.heap.size v names up) :
    Calls Try.prog 64 #[v] w fun e w' => e = .returned (.bool (mayB names up)) ∧ Below w.heap.size w w' := by
  obtain ⟨⟨A, A', c, c', rfl, hN, hU⟩, hshort, ⟨hf1, hf2⟩, -⟩ := h
  have hwf : ∀ f, Fence.wide.fn f := fun _ => trivial
  refine (callsIn_wide (n := 3)).1 ?_
  refine callsIn_of_wp_marks Try.func64 rfl trivial ?_ rfl
  simp only [Try.ntmps64, List.size_toArray, List.length_cons, List.length_nil, Nat.reduceAdd, Nat.reduceSub, Array.replicate_succ, Array.replicate_zero, List.push_toArray, List.append_toArray, List.nil_append, List.cons_append]
  have hlen : ∀ b : Bool, mayB names up = b → mayB names up = b := fun _ h => h
  have hB2 : Below w.heap.size w ((w.alloc (.cells #[.slice A names.length c, .slice A' up.length c'] 25)).alloc (.cells #[.bool false] 4)) := ((Below.refl _ w).alloc (Nat.le_refl _) _).alloc (by simp) _
  have p0 : Blk ((w.alloc (.cells #[.slice A names.length c, .slice A' up.length c'] 25)).alloc (.cells #[.bool false] 4)) w.heap.size 25 #[.slice A names.length c, .slice A' up.length c'] := (Blk.new _ _ _).alloc _
  have p1 : Box ((w.alloc (.cells #[.slice A names.length c, .slice A' up.length c'] 25)).alloc (.cells #[.bool false] 4)) (w.heap.size + 1) (.bool false) := Box.new' _ _ _ _ (by simp)
  have HP0 := Lib.hid p0
  have HP1 := Lib.hid p1
  clear p0 p1 hlen
  by_cases z1 : up.length < 1
  · have HM : Hid (mayB names up = false) := by unfold Hid mayB; simp; omega
    gi_wp2
    refine ⟨.bool false, ?_, by rw [HM.out], hB2⟩
    simp [results, Try.f64, go_sem]
  by_cases z2 : 8 < up.length
  · have HM : Hid (mayB names up = false) := by unfold Hid mayB; simp; omega
    gi_wp2
    refine ⟨.bool false, ?_, by rw [HM.out], hB2⟩
    simp [results, Try.f64, go_sem]
  by_cases z3 : ¬ names.length = up.length
  · have HM : Hid (mayB names up = false) := by unfold Hid mayB; simp [z3]
    have z4 : ((names.length : Int) != (up.length : Int)) = true := by rw [bne_iff_ne]; omega
    gi_wp2
    refine ⟨.bool false, ?_, by rw [HM.out], hB2⟩
    simp [results, Try.f64, go_sem]
  have z3 : names.length = up.length := Decidable.not_not.1 z3
  have HM : Hid (mayB names up = ((List.range up.length).all (rowOk names up) && (Lat.pairs up.length).all (twoOk names))) := by unfold Hid mayB; simp [z3]; omega
  have z4 : ((names.length : Int) != (up.length : Int)) = false := by rw [bne_eq_false_iff_eq]; omega
  have Z3 := Lib.hid z3
  clear z3
  gi_wp2_with (fail)
  gi_loopw [24] (fun i wr => ∃ k : Nat, k ≤ up.length ∧ i = .int .i64 k ∧ (List.range k).all (rowOk names up) = true ∧ Blk wr w.heap.size 25 #[.slice A names.length c, .slice A' up.length c'] ∧ Box wr (w.heap.size + 1) (.bool false) ∧ Below w.heap.size w wr) (fun i _ => up.length - (intOf i).toNat)
  case atStart => exact ⟨0, Nat.zero_le _, rfl, rfl, HP0.out, HP1.out, hB2⟩
  case round =>
    obtain ⟨k, hk, rfl, hall, hblk, hR, hB⟩ := hrel
    have HALL := Lib.hid hall
    obtain ⟨hcr, hfr⟩ := id hR
    have hc0 : wr.cell? ⟨w.heap.size, 0, none⟩ = some (.slice A names.length c) := by rw [hblk.cell]; rfl
    have hc1 : wr.cell? ⟨w.heap.size, 1, none⟩ = some (.slice A' up.length c') := by rw [hblk.cell]; rfl
    clear hall hB2
    by_cases hlt : k < up.length
    · obtain ⟨ad, x, rfl, _, hx, hx32, hcx⟩ := (hU.below hB).at_ hlt
      obtain ⟨ad2, s, rfl, _, hs, hcs⟩ := strs_at (hN.below hB) (show k < names.length by rw [Z3.out]; exact hlt)
      have hsl := hshort s (List.mem_of_getElem? hs)
      have hrow : rowOk names up k = (Lat.sub x (Lat.allS up.length) && nameOk s) := by unfold rowOk; simp only [List.getD_eq_getElem?_getD, hx, hs, Option.getD_some]
      have HROW := Lib.hid hrow
      have hall32 : Lat.allS up.length < 4294967296 := by
        unfold Lat.allS
        have : 2 ^ up.length < 2 ^ 32 := Nat.pow_lt_pow_right (by decide) (by omega)
        omega
      have hne := andNot_ne x (Lat.allS up.length) hx32 hall32
      have HX := Lib.hid hx
      have HS := Lib.hid hs
      clear hx hs hrow hall32
      have hnm := fun nq => isName_any s (wr.drewN nq) hsl
      cases e1 : Lat.sub x (Lat.allS up.length)
      · rw [e1] at hne
        have HE1 := Lib.hid e1
        clear e1
        gi_wp2_with (fail)
        refine round_region_drew (by kernel_rfl) (by kernel_rfl) (by kernel_rfl) ?_
        repeat (gi_big_quiet_step ((gi_at_call 91; refine callsIn_quiet_eq (callsIn_wide.2 (all_any _ _ (by omega))))))
        refine wpQuietIn_nil ?_
        rintro _ ⟨nq, rfl⟩
        gi_wp2
        refine ⟨.bool false, ?_, ?_, (below_drewN_ hB nq).setCell (p := ⟨w.heap.size + 1, 0, none⟩) (by simp) _⟩
        · simp [results, Try.f64, go_sem, ((hR.drewN nq).set_ (.bool false)).1]
        · rw [HM.out, all_range_false hlt (by rw [HROW.out, HE1.out]; rfl)]; rfl
      · rw [e1] at hne
        have HE1 := Lib.hid e1
        clear e1
        cases e2 : nameOk s
        · rw [e2] at hnm
          have HNM := Lib.hid hnm
          have HE2 := Lib.hid e2
          clear hnm e2
          gi_wp2_with (fail)
          refine round_region_drew (by kernel_rfl) (by kernel_rfl) (by kernel_rfl) ?_
          repeat (gi_big_quiet_step (first | (gi_at_call 91; refine callsIn_quiet_eq (callsIn_wide.2 (all_any _ _ (by omega)))) | (gi_at_call 92; refine callsIn_quiet_eq (callsIn_wide.2 (HNM.out _)))))
          refine wpQuietIn_nil ?_
          rintro _ ⟨nq, rfl⟩
          gi_wp2
          refine ⟨.bool false, ?_, ?_, (below_drewN_ hB nq).setCell (p := ⟨w.heap.size + 1, 0, none⟩) (by simp) _⟩
          · simp [results, Try.f64, go_sem, ((hR.drewN nq).set_ (.bool false)).1]
          · rw [HM.out, all_range_false hlt (by rw [HROW.out, HE1.out, HE2.out]; rfl)]; rfl
        · rw [e2] at hnm
          have HNM := Lib.hid hnm
          have HE2 := Lib.hid e2
          clear hnm e2
          gi_wp2_with (fail)
          refine round_region_drew (by kernel_rfl) (by kernel_rfl) (by kernel_rfl) ?_
          repeat (gi_big_quiet_step (first | (gi_at_call 91; refine callsIn_quiet_eq (callsIn_wide.2 (all_any _ _ (by omega)))) | (gi_at_call 92; refine callsIn_quiet_eq (callsIn_wide.2 (HNM.out _)))))
          refine wpQuietIn_nil ?_
          rintro _ ⟨nq, rfl⟩
          gi_wp2
          go_roundw
          case rel => exact ⟨k + 1, by omega, by go_num, by rw [List.range_succ, List.all_append, HALL.out]; simp [HROW.out, HE1.out, HE2.out], hblk, hR, below_drewN_ hB nq⟩
          case measure => simp [intOf]; omega
    · obtain rfl : k = up.length := by omega
      gi_wp2_with (gi_at_call 93; refine (callsIn_wide.2 (pairs_any up.length _)).mono ?_; rintro e w' ⟨rfl, rfl⟩)
      have hrows := HALL.out
      have HROWS := Lib.hid hrows
      obtain ⟨W0, hW0⟩ : ∃ W0 : World, wr.alloc (.cells #[.int .i64 up.length] 3) = W0 := ⟨_, rfl⟩
      have hsz : W0.heap.size = wr.heap.size + 1 := by rw [← hW0]; simp
      have hle := hB.size
      have b0 : Blk W0 w.heap.size 25 #[.slice A names.length c, .slice A' up.length c'] := by rw [← hW0]; exact hblk.alloc _
      have b1 : Box W0 (w.heap.size + 1) (.bool false) := by rw [← hW0]; exact hR.alloc _
      have b2 : Box W0 wr.heap.size (.int .i64 up.length) := by rw [← hW0]; exact Box.new _ _ _
      have hB0 : Below w.heap.size w W0 := by rw [← hW0]; exact hB.alloc (by omega) _
      rw [hW0]
      clear hW0 hrows hcr hfr hc0 hc1
      refine wpIn_rangeFunc_ownF rfl (by decide) (gf := 114) (lb := #[.pointer (some ⟨wr.heap.size, 0, none⟩)]) rfl trivial (enters_of Try.func114 (by kernel_rfl) rfl)
        (pairs_stops _ up.length wr.heap.size (by omega) (by decide) _ (by omega) b2.1) keepsCell_t keepsCell_b (Below.refl _ _) (fun _ => rfl)
        (fun pre W => ((vals pre).all (twoOk names) = true ∧ Blk W w.heap.size 25 #[.slice A names.length c, .slice A' up.length c'] ∧ Box W (w.heap.size + 1) (.bool false)) ∧ Below w.heap.size w W)
        (fun c pre W => (c = .ret ∧ (vals pre).all (twoOk names) = false ∧ Box W (w.heap.size + 1) (.bool false)) ∧ Below w.heap.size w W)
        (OwnFrom.and (Own.from (fun s A B row hs hg hr => ⟨hs.1, hs.2.1.kept hg hr, hs.2.2.kept hg hr⟩) _) (ownFrom_below (Nat.le_refl _) (by omega)))
        (fun c => OwnFrom.and (Own.from (fun s A B row hs hg hr => ⟨hs.1, hs.2.1, hs.2.2.kept hg hr⟩) _) (ownFrom_below (Nat.le_refl _) (by omega)))
        ⟨⟨rfl, b0, b1⟩, hB0⟩ ?a1 ?assign ?body ?done ?stop
      case assign =>
        intro l x W K hK
        gi_wp2
        exact hK
      case body =>
        rintro l pre ⟨⟨a, b⟩, ha, hb⟩ W ⟨⟨hall, hblkW, hRW⟩, hBW⟩ hlen
        dsimp only at ha hb ⊢
        obtain ⟨hcr, hfr⟩ := id hRW
        have hc0 : W.cell? ⟨w.heap.size, 0, none⟩ = some (.slice A names.length c) := by rw [hblkW.cell]; rfl
        obtain ⟨ad, s, rfl, _, hs, hcs⟩ := strs_at (hN.below hBW) (show a < names.length by rw [Z3.out]; exact ha)
        obtain ⟨ad', t, he, _, ht, hct⟩ := strs_at (hN.below hBW) (show b < names.length by rw [Z3.out]; exact hb)
        obtain rfl : ad = ad' := by injection he
        have htwo : twoOk names (a, b) = !(a != b && streq s t) := by unfold twoOk; simp only [List.getD_eq_getElem?_getD, hs, ht, Option.getD_some]
        have HTWO := Lib.hid htwo
        have HALLW := Lib.hid hall
        have han : a < names.length := by rw [Z3.out]; exact ha
        have hbn : b < names.length := by rw [Z3.out]; exact hb
        clear he hs ht htwo hall hlen b0 b1 b2 hblk hR
        by_cases hab : a = b
        · subst hab
          have hb2 : ((a : Int) != (a : Int)) = false := by simp
          gi_wp2_with (fail)
          refine round_region_drew (by kernel_rfl) (by kernel_rfl) (by kernel_rfl) ?_
          repeat (gi_big_quiet_step (fail))
          refine wpQuietIn_nil ?_
          rintro _ ⟨nq, rfl⟩
          gi_wp2
          exact ⟨keepsOthers_drewN _ _, keepsCell_below (below_drewN_ (Below.refl _ _) _) (Nat.lt_succ_self _), ⟨by rw [vals_snoc, Lat.all_snoc, HALLW.out, HTWO.out]; simp, hblkW, hRW⟩, below_drewN_ hBW _⟩
        · have hb2 : ((a : Int) != (b : Int)) = true := by rw [bne_iff_ne]; omega
          cases hst : (s.toList == t.toList)
          · have HST : Hid (streq s t = false) := hst
            gi_wp2_with (fail)
            refine round_region_drew (by kernel_rfl) (by kernel_rfl) (by kernel_rfl) ?_
            repeat (gi_big_quiet_step (fail))
            refine wpQuietIn_nil ?_
            rintro _ ⟨nq, rfl⟩
            gi_wp2
            exact ⟨keepsOthers_drewN _ _, keepsCell_below (below_drewN_ (Below.refl _ _) _) (Nat.lt_succ_self _), ⟨by rw [vals_snoc, Lat.all_snoc, HALLW.out, HTWO.out, HST.out]; simp, hblkW, hRW⟩, below_drewN_ hBW _⟩
          · have HST : Hid (streq s t = true) := hst
            gi_wp2_with (fail)
            refine round_region_drew (by kernel_rfl) (by kernel_rfl) (by kernel_rfl) ?_
            repeat (gi_big_quiet_step (fail))
            refine wpQuietIn_nil ?_
            rintro _ ⟨nq, rfl⟩
            gi_wp2
            exact ⟨(keepsOthers_drewN _ _).trans (KeepsOthers.setCell _ _ _), ⟨rfl, by rw [vals_snoc, Lat.all_snoc, HALLW.out, HTWO.out, HST.out]; simp [hab], (hRW.drewN _).set_ _⟩, (below_drewN_ hBW _).setCell (p := ⟨w.heap.size + 1, 0, none⟩) (by simp) _⟩
      case done =>
        rintro D xs W hD hxs ⟨⟨hall, _, hRW⟩, hBW⟩ hK
        have hiso : mayB names up = true := by rw [HM.out, HROWS.out, ← hxs, hall]; rfl
        obtain ⟨hcr, hfr⟩ := id hRW
        clear hall hxs b0 b1 b2 hblk hR
        have HISO := Lib.hid hiso
        clear hiso
        gi_wp2
        have hK' := (KeepsOthers.setCell W ⟨w.heap.size + 1, 0, none⟩ (.bool true)).same D _ hK rfl
        refine ⟨by simp, .inl ⟨_, _, rfl, run_takeDeferred hK', ?_⟩⟩
        have hc5 := ((hRW.set_ (.bool true)).putObj (.deferred none) hK' rfl).1
        refine ⟨.bool true, ?_, by rw [HISO.out], (hBW.setCell (p := ⟨w.heap.size + 1, 0, none⟩) (by simp) _).trans (belowK_b (w := w) (Nat.le_refl _) _ D _ _ (by omega) hK' rfl rfl)⟩
        simp [results, Try.f64, go_sem, hc5]
      case stop =>
        rintro D c pre W hD hpre ⟨⟨rfl, hno, hRW⟩, hBW⟩ hK
        have hiso : mayB names up = false := by rw [HM.out, Lat.all_false hpre hno, Bool.and_false]
        obtain ⟨hcr, hfr⟩ := id hRW
        clear hno hpre b0 b1 b2 hblk hR
        have HISO := Lib.hid hiso
        clear hiso
        gi_wp2
        refine ⟨by simp, .inl ⟨_, _, rfl, run_takeDeferred hK, ?_⟩⟩
        have hc5 := (hRW.putObj (.deferred none) hK rfl).1
        refine ⟨.bool false, ?_, by rw [HISO.out], hBW.trans (belowK_b (w := w) (Nat.le_refl _) W D _ _ (by omega) hK rfl rfl)⟩
        simp [results, Try.f64, go_sem, hc5]
end Go.Proofs.Ytmbgndcahlopdaa

/- Walks of lattice's Check, checkLabels, Flows, Join, Meet, Bottom, Top. -/
namespace Go.Proofs.Ytmbgndcahlopdaa
set_option maxRecDepth 100000
open Go.RowKit

def checkN (names : List ByteArray) (up : List Nat) : Nat := if mayB names up then if Lat.isOrder up then if Lat.isLattice up then 0 else 3 else 2 else 1
theorem mayB_len {names : List ByteArray} {up : List Nat} (h : mayB names up = true) : 1 ≤ up.length ∧ up.length ≤ 8 ∧ names.length = up.length := by
  unfold mayB at h
  simp only [Bool.and_eq_true, decide_eq_true_eq] at h
  exact ⟨h.1.1.1, h.1.1.2, h.1.2⟩
theorem ret_i64 {x y : Int} (h : x = y) : Ending.returned (.int .i64 x) = .returned (.int .i64 y) := by rw [h]

/-- What a lattice's box holds. -/
theorem IsLat.boxed {w : World} {v : Value} {names : List ByteArray} {up : List Nat} (h : IsLat w w.heap.size v names up) (o : Obj) : IsLat (w.alloc o) (w.alloc o).heap.size v names up :=
  (h.below ((Below.refl _ w).alloc (Nat.le_refl _) o)).more (by simp)

set_option maxHeartbeats 1000000 in
theorem check_any {v : Value} {names : List ByteArray} {up : List Nat} (w : World) (h : IsLat w w.heap.size v names up) :
    Calls Try.prog 31 #[v] w fun e w' => e = .returned (.int .i64 (checkN names up : Nat)) ∧ Below w.heap.size w w' := by
  have h' := h
  obtain ⟨⟨A, A', c, c', rfl, hN, hU⟩, hshort, ⟨hf1, hf2⟩, -⟩ := h'
  have hb0 : Below w.heap.size w (w.alloc (.cells #[.slice A names.length c, .slice A' up.length c'] 25)) := (Below.refl _ w).alloc (Nat.le_refl _) _
  have p0 : Blk (w.alloc (.cells #[.slice A names.length c, .slice A' up.length c'] 25)) w.heap.size 25 #[.slice A names.length c, .slice A' up.length c'] := Blk.new _ _ _
  have hmay := Lib.hid (mayBe_any _ (h.boxed (.cells #[.slice A names.length c, .slice A' up.length c'] 25)))
  have HP0 := Lib.hid p0
  have HCH : Hid (checkN names up = if mayB names up then if Lat.isOrder up then if Lat.isLattice up then 0 else 3 else 2 else 1) := rfl
  clear p0 h
  cases e1 : mayB names up
  · have HE1 := Lib.hid e1
    rw [e1] at hmay
    clear e1
    go_enter Try.func31, Try.ntmps31
    go_wp2_with (go_at_call 64; refine hmay.out.mono ?_; rintro e w1 ⟨rfl, hb1⟩)
    go_ret
    exact ⟨ret_i64 (by rw [HCH.out, HE1.out]; rfl), hb0.trans (hb1.mono (by simp))⟩
  · have HE1 := Lib.hid e1
    have hlen := mayB_len e1
    obtain ⟨l1, l2, -⟩ := hlen
    rw [e1] at hmay
    clear e1
    cases e2 : Lat.isOrder up
    · have HE2 := Lib.hid e2
      clear e2
      go_enter Try.func31, Try.ntmps31
      go_wp2_with (go_at_call 64; refine hmay.out.mono ?_)
      rintro e w1 ⟨rfl, hb1⟩
      have hs := hb1.size
      have hp1 := HP0.out.below hb1 (by simp)
      have hc1 : w1.cell? ⟨w.heap.size, 1, none⟩ = some (.slice A' up.length c') := by rw [hp1.cell]; rfl
      have hbw1 : Below w.heap.size w w1 := hb0.trans (hb1.mono (by simp))
      have hio := isOrder_any c' w1 ((hU.below hbw1).more hbw1.size) (by omega)
      rw [HE2.out] at hio
      have HIO := Lib.hid hio
      clear hio hp1 hb1
      go_wp2_with (go_at_call 65; refine HIO.out.mono ?_)
      rintro e w2 ⟨rfl, hb2⟩
      go_wp2
      go_ret
      exact ⟨ret_i64 (by rw [HCH.out, HE1.out, HE2.out]; rfl), hbw1.trans (hb2.mono hbw1.size)⟩
    · have HE2 := Lib.hid e2
      clear e2
      go_enter Try.func31, Try.ntmps31
      go_wp2_with (go_at_call 64; refine hmay.out.mono ?_)
      rintro e w1 ⟨rfl, hb1⟩
      have hs := hb1.size
      have hp1 := HP0.out.below hb1 (by simp)
      have hc1 : w1.cell? ⟨w.heap.size, 1, none⟩ = some (.slice A' up.length c') := by rw [hp1.cell]; rfl
      have hbw1 : Below w.heap.size w w1 := hb0.trans (hb1.mono (by simp))
      have hlt1 := hp1.lt
      have hio := isOrder_any c' w1 ((hU.below hbw1).more hbw1.size) (by omega)
      rw [HE2.out] at hio
      have HIO := Lib.hid hio
      clear hio hb1
      go_wp2_with (go_at_call 65; refine HIO.out.mono ?_)
      rintro e w2 ⟨rfl, hb2⟩
      have hp2 := hp1.below hb2 hlt1
      have hc2 : w2.cell? ⟨w.heap.size, 1, none⟩ = some (.slice A' up.length c') := by rw [hp2.cell]; rfl
      have hbw2 : Below w.heap.size w w2 := hbw1.trans (hb2.mono hbw1.size)
      have hil := isLattice_any c' w2 ((hU.below hbw2).more hbw2.size) (by omega)
      clear hp1 hb2 HIO hc1
      cases e3 : Lat.isLattice up
      all_goals
        have HE3 := Lib.hid e3
        rw [e3] at hil
        have HIL := Lib.hid hil
        clear hil e3
        go_wp2_with (go_at_call 66; refine HIL.out.mono ?_)
        rintro e w3 ⟨rfl, hb3⟩
        go_wp2
        go_ret
        exact ⟨ret_i64 (by rw [HCH.out, HE1.out, HE2.out, HE3.out]; rfl), hbw2.trans (hb3.mono hbw2.size)⟩

end Go.Proofs.Ytmbgndcahlopdaa
