/- Walk of lattice's turned. -/
import Derived.Test.YtaingkjleelbfaaOrd
import Derived.Laws.MakeOwn
import Derived.ArgAppend
namespace Go.Proofs.Ytaingkjleelbfaa
open Go.RowKit Go.Shelf

attribute [local go_sem] Oper.semAt_some

theorem run_make_n {P : Program} (t e : TypeId) (i : TypeInfo) (z : Value) (ht : P.underlying t = some (.slice e)) (hi : P.info? e = some i) (hz : i.zero = some z) (hs : i.size = 1) (hzc : z.cells = #[z])
    (n : Nat) (hbytes : i.bytes * n ≤ 281474976710656) (h63 : n ≤ 9223372036854775807) (w : World) :
    (Instr.makeSlice t (.int .i64 (n : Int)) (.int .i64 (n : Int))).run P w = .ok (.slice (some ⟨w.heap.size, 0, none⟩) n n) (w.alloc (.cells (List.replicate n z).toArray e)) := by
  have hb : (i.bytes : Int) * (n : Int) ≤ 281474976710656 := by
    have h : ((i.bytes * n : Nat) : Int) ≤ 281474976710656 := by omega
    rwa [Int.natCast_mul] at h
  have hr := run_make (P := P) w t e i z ht hi hz .i64 .i64 n n (by omega) (by omega) hb (by omega)
  simp only [Int.toNat_natCast] at hr
  rw [hr]
  congr 3
  apply Array.ext_getElem?
  intro k
  simp only [madeCells, hs, hzc, Nat.mul_one, Array.getElem?_map]
  by_cases hk : k < n
  · simp [hk, Nat.mod_one]
  · simp [hk]

theorem Try.infoU32 : (Try.prog.info? 62).map (fun i => (i.zero, i.size, i.bytes)) = some (some (.int .u32 0), 1, 4) := by kernel_rfl

theorem or_num (y a : Nat) (hy : y < 4294967296) (ha : a < 32) : bits BinOp.or IntKind.u32 (y : Int) (IntKind.u32.wrap ((2 : Int) ^ a)) = ((y ||| 2 ^ a : Nat) : Int) := by
  have h1 : 2 ^ a < 2 ^ 32 := Nat.pow_lt_pow_right (by decide) ha
  have e : IntKind.u32.wrap ((2 : Int) ^ a) = ((2 ^ a : Nat) : Int) := by
    have e : (2 : Int) ^ a = ((2 ^ a : Nat) : Int) := by rw [Int.natCast_pow]; rfl
    rw [e]
    generalize 2 ^ a = m at *
    simp [IntKind.wrap, IntKind.bits, IntKind.signed]
    omega
  rw [e, u32_or_nat _ _ hy (by omega)]

set_option maxRecDepth 100000 in
set_option maxHeartbeats 2000000 in
theorem turned_any {A : Option Addr} {up : List Nat} (c : Nat) (w : World) (h : Ups w w.heap.size A up) (hl : up.length ≤ 31) :
    Calls Try.prog 58 #[.slice A up.length c] w fun e w' => ∃ g, e = .returned (.slice (some ⟨g, 0, none⟩) up.length up.length) ∧ Blk w' g 62 (u32s (Lat.turned up)).toArray ∧ Below w.heap.size w w' := by
  obtain ⟨i0, hi, hz0, hz1, hz2⟩ := info_parts Try.infoU32
  have hmk := fun W => run_make_n (P := Try.prog) 23 62 i0 (.int .u32 0) Try.underlying23 hi hz0 hz1 rfl up.length (by rw [hz2]; omega) (by omega) W
  clear hi hz0 hz1 hz2
  have hwf : ∀ f, Fence.wide.fn f := fun _ => trivial
  refine (callsIn_wide (n := 3)).1 ?_
  refine callsIn_of_wp_marks Try.func58 rfl trivial ?_ rfl
  simp only [Try.ntmps58, List.size_toArray, List.length_cons, List.length_nil, Nat.reduceAdd, Nat.reduceSub, Array.replicate_succ, Array.replicate_zero, List.push_toArray, List.append_toArray, List.nil_append, List.cons_append]
  gi_wp2_with (gi_at_call 56; refine (callsIn_wide.2 (pairs_any up.length _)).mono ?_; rintro e w' ⟨rfl, rfl⟩)
  obtain ⟨W0, hW0⟩ : ∃ W0 : World, ((((w.alloc (Obj.cells #[Value.slice A up.length c] 23)).alloc (Obj.cells (Array.replicate up.length (Value.int IntKind.u32 0)) 62)).alloc
      (Obj.cells #[Value.slice (some { block := w.heap.size + 1, off := 0 }) up.length up.length] 23)).alloc (Obj.cells #[Value.int IntKind.i64 ↑up.length] 3)) = W0 := ⟨_, rfl⟩
  have hsz : W0.heap.size = w.heap.size + 1 + 1 + 1 + 1 := by rw [← hW0]; simp
  have b0 : Box W0 w.heap.size (.slice A up.length c) := by rw [← hW0]; exact (((Box.new _ _ _).alloc _).alloc _).alloc _
  have b1 : Blk W0 (w.heap.size + 1) 62 (u32s (Lat.turnTo up [])).toArray := by
    have : (u32s (Lat.turnTo up [])).toArray = Array.replicate up.length (Value.int IntKind.u32 0) := by simp [u32s, Lat.turnTo]
    rw [← hW0, this]
    have := Blk.new (w.alloc (Obj.cells #[Value.slice A up.length c] 23)) 62 (Array.replicate up.length (Value.int IntKind.u32 0))
    rw [World.size_alloc] at this
    exact (this.alloc _).alloc _
  have b2 : Box W0 (w.heap.size + 1 + 1) (.slice (some ⟨w.heap.size + 1, 0, none⟩) up.length up.length) := by
    rw [← hW0]; exact (Box.new' _ _ _ _ (by simp)).alloc _
  have b3 : Box W0 (w.heap.size + 1 + 1 + 1) (.int .i64 up.length) := by rw [← hW0]; exact Box.new' _ _ _ _ (by simp)
  have hB0 : Below w.heap.size w W0 := by rw [← hW0]; exact ((((Below.refl _ w).alloc (Nat.le_refl _) _).alloc (by simp) _).alloc (by simp; omega) _).alloc (by simp; omega) _
  rw [hW0]
  clear hW0 hmk
  refine wpIn_rangeFunc_ownF rfl (by decide) (gf := 63) (lb := #[.pointer (some ⟨w.heap.size + 1 + 1 + 1, 0, none⟩)]) rfl trivial (enters_of Try.func63 (by kernel_rfl) rfl)
    (pairs_stops _ up.length (w.heap.size + 1 + 1 + 1) (by omega) (by decide) _ (by omega) b3.1) keepsCell_t keepsCell_b (Below.refl _ _) (fun _ => rfl)
    (fun pre W => (Box W w.heap.size (.slice A up.length c) ∧ Box W (w.heap.size + 1 + 1) (.slice (some ⟨w.heap.size + 1, 0, none⟩) up.length up.length) ∧ Blk W (w.heap.size + 1) 62 (u32s (Lat.turnTo up (vals pre))).toArray) ∧ Below w.heap.size w W)
    (fun _ _ _ => False)
    (OwnFrom.and (Own.from (fun s A B row hs hg hr => ⟨hs.1.kept hg hr, hs.2.1.kept hg hr, hs.2.2.kept hg hr⟩) _) (ownFrom_below (Nat.le_refl _) (by omega)))
    (fun _ _ _ _ _ hs _ _ => hs)
    ⟨⟨b0, b2, b1⟩, hB0⟩
    (fun x => { tmps := #[.slice A up.length c, .pointer (some ⟨w.heap.size, 0, none⟩), .slice none 0 0, .pointer (some ⟨w.heap.size + 1 + 1, 0, none⟩), .int .i64 (x.1.1 : Int), .int .i64 (x.1.2 : Int), .slice A up.length c, .int .i64 (up.length : Int), .slice (some ⟨w.heap.size + 1, 0, none⟩) up.length up.length, .slice A up.length c, .int .i64 (up.length : Int), .func (.func 63) #[] #[.pointer (some ⟨w.heap.size + 1 + 1 + 1, 0, none⟩)], .int .i64 (x.1.1 : Int), .int .i64 (x.1.2 : Int), undef, undef, undef, undef, undef, undef, undef, undef, undef, undef, undef, undef, undef], defers := [] }) ?assign ?body ?done ?stop
  case assign =>
    intro l x W K hK
    gi_wp2
    exact hK
  case body =>
    rintro l pre ⟨⟨a, b⟩, ha, hb⟩ W ⟨⟨⟨hcu, hfu⟩, hD, hblk⟩, hB⟩ hlen
    dsimp only at ha hb ⊢
    obtain ⟨hcd, hfd⟩ := id hD
    have hU : Ups W w.heap.size A up := h.below hB
    have hmix : Try.prog.follows .mixedOrders = true := by kernel_rfl
    have hlt : ∀ p ∈ vals pre, p.1 < 32 := by
      intro p hp
      obtain ⟨q, _, rfl⟩ := List.mem_map.1 hp
      have := q.2.1
      omega
    obtain ⟨d, hd⟩ : ∃ d, Lat.turnTo up (vals pre) = d := ⟨_, rfl⟩
    have hdl : d.length = up.length := by rw [← hd]; exact Lat.turnTo_length _ _
    have hd32 : ∀ k x : Nat, d[k]? = some x → x < 4294967296 := by rw [← hd]; exact Lat.turnTo_lt hlt
    rw [hd] at hblk
    have hyb : d[b]? = some (d[b]'(by omega)) := List.getElem?_eq_getElem (by omega)
    obtain ⟨y, hy⟩ : ∃ y, d[b]'(by omega) = y := ⟨_, rfl⟩
    rw [hy] at hyb
    have hy32 := hd32 _ _ hyb
    have hcy : W.cell? ⟨w.heap.size + 1, b, none⟩ = some (.int .u32 (y : Int)) := by rw [hblk.cell]; simp [u32s, hyb]
    have hfy : W.frozen? ⟨w.heap.size + 1, b, none⟩ = false := hblk.frozen b
    have HD' := Lib.hid hd
    have HYB := Lib.hid hyb
    have HDL := Lib.hid hdl
    have hor := or_num y a hy32 (by omega)
    clear hd hyb hdl hy hd32 hlt hlen b0 b1 b2 b3
    cases e1 : Lat.fl up a b
    · have HE1 := Lib.hid e1
      gi_wp2_with (gi_at_call 57; refine (CallsIn.inRound l (callsIn_wide.2 (flows_any c _ _ _ hU (by omega) (by omega)))).mono ?_; rintro e w' ⟨rfl, rfl⟩)
      refine ⟨KeepsOthers.refl _, keepsCell_below (Below.refl _ _) (Nat.lt_succ_self _), ⟨⟨hcu, hfu⟩, hD, ?_⟩, hB⟩
      rw [vals_snoc, Lat.turnTo_snoc, HD'.out]
      simpa [Lat.stepT, HE1.out] using hblk
    · have HE1 := Lib.hid e1
      gi_wp2_with (gi_at_call 57; refine (CallsIn.inRound l (callsIn_wide.2 (flows_any c _ _ _ hU (by omega) (by omega)))).mono ?_; rintro e w' ⟨rfl, rfl⟩)
      have hfin : ∀ W' : World, W' = (W.setCell ⟨w.heap.size + 1, b, none⟩ (.int .u32 ((y ||| 2 ^ a : Nat) : Int))).drew → KeepsOthers W W' ∧ KeepsCell (w.heap.size + 1 + 1 + 1) W W' ∧
          (Box W' w.heap.size (.slice A up.length c) ∧ Box W' (w.heap.size + 1 + 1) (.slice (some ⟨w.heap.size + 1, 0, none⟩) up.length up.length) ∧ Blk W' (w.heap.size + 1) 62 (u32s (Lat.turnTo up (vals (pre ++ [⟨(a, b), ha, hb⟩])))).toArray) ∧ Below w.heap.size w W' := by
        rintro W' rfl
        refine ⟨(KeepsOthers.setCell W ⟨w.heap.size + 1, b, none⟩ _).trans (KeepsOthers.drew _), fun v hv => ?_, ⟨?_, ?_, ?_⟩, (hB.setCell (p := ⟨w.heap.size + 1, b, none⟩) (by simp) _).drew⟩
        · exact (World.cell?_setCell_other W ⟨w.heap.size + 1, b, none⟩ ⟨w.heap.size + 1 + 1 + 1, 0, none⟩ _ (by simp)).trans hv
        · exact (Box.other (p := ⟨w.heap.size + 1, b, none⟩) ⟨hcu, hfu⟩ (by simp) _).drewN 1
        · exact (hD.other (p := ⟨w.heap.size + 1, b, none⟩) (by simp) _).drewN 1
        · have := (hblk.set_ b (.int .u32 ((y ||| 2 ^ a : Nat) : Int))).drew
          have e : (u32s (Lat.turnTo up (vals (pre ++ [⟨(a, b), ha, hb⟩])))).toArray = (u32s d).toArray.setIfInBounds b (.int .u32 ((y ||| 2 ^ a : Nat) : Int)) := by
            rw [vals_snoc, Lat.turnTo_snoc, HD'.out]
            unfold Lat.stepT
            simp only [HE1.out, if_true]
            rw [List.getD_eq_getElem?_getD, HYB.out]
            simp [u32s, List.map_set]
          rw [e]
          exact this
      have HFIN := Lib.hid hfin
      clear hfin
      gi_region_with_o (fail)
      all_goals gi_wp2
      all_goals exact HFIN.out _ rfl
  case done =>
    rintro D xs W hD hxs ⟨⟨_, hDn, hblk⟩, hB⟩ hK
    rw [hxs] at hblk
    obtain ⟨hcd, hfd⟩ := id hDn
    clear hxs b0 b1 b2 b3
    gi_wp2
    refine ⟨by simp, .inl ⟨_, _, rfl, run_takeDeferred hK, ?_⟩⟩
    refine ⟨_, results_tmp rfl _ _ _, _, rfl, hblk.putObj (.deferred none) hK rfl, hB.trans (belowK_b (w := w) (Nat.le_refl _) W D _ _ (by omega) hK rfl rfl)⟩
  case stop =>
    rintro D c pre W _ _ h _
    exact h.elim
end Go.Proofs.Ytaingkjleelbfaa
