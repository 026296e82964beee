/- Walk of lattice's mayBe. -/
import Derived.Test.YtaingkjleelbfaaLatt
import Derived.Test.YtaingkjleelbfaaName
namespace Go.Proofs.Ytaingkjleelbfaa
open Go.RowKit Go.Shelf

attribute [local go_sem] Oper.semAt_some

/-- The lattice value v holds these names and these rows of bits. -/
structure IsLat (w : World) (B : Nat) (v : Value) (names : List ByteArray) (up : List Nat) : Prop where
  form : ∃ (A A' : Option Addr) (c c' : Nat), v = .agg #[.slice A names.length c, .slice A' up.length c'] ∧ Row w B A (strs names) ∧ Ups w B A' up
  short : ∀ s ∈ names, s.size ≤ maxLen
  few : names.length ≤ 1000 ∧ up.length ≤ 1000
  caps : ∀ A n c A' n' c', v = .agg #[.slice A n c, .slice A' n' c'] → n ≤ c ∧ n' ≤ c'
theorem IsLat.below {w w' : World} {B : Nat} {v : Value} {names : List ByteArray} {up : List Nat} (h : IsLat w B v names up) (hb : Below B w w') : IsLat w' B v names up :=
  ⟨by obtain ⟨A, A', c, c', e, h1, h2⟩ := h.form; exact ⟨A, A', c, c', e, h1.below hb, h2.below hb⟩, h.short, h.few, h.caps⟩
theorem IsLat.more {w : World} {B B' : Nat} {v : Value} {names : List ByteArray} {up : List Nat} (h : IsLat w B v names up) (hB : B ≤ B') : IsLat w B' v names up :=
  ⟨by obtain ⟨A, A', c, c', e, h1, h2⟩ := h.form; exact ⟨A, A', c, c', e, h1.more hB, h2.more hB⟩, h.short, h.few, h.caps⟩

theorem strs_at {w : World} {B : Nat} {A : Option Addr} {names : List ByteArray} {k : Nat} (h : Row w B A (strs names)) (hk : k < names.length) : ∃ ad s, A = some ad ∧ ad.block < B ∧ names[k]? = some s ∧ w.cell? (ad.add k) = some (.string s) := by
  obtain ⟨ad, e, hb, hc⟩ := h.at_ (k := k) (by simpa [strs] using hk)
  exact ⟨ad, names[k], e, hb, List.getElem?_eq_getElem hk, by simpa [strs] using hc⟩

/-- Row k and name k are right. -/
def rowOk (names : List ByteArray) (up : List Nat) (k : Nat) : Bool := Lat.sub (up.getD k 0) (Lat.allS up.length) && nameOk (names.getD k ByteArray.empty)
def streq (s t : ByteArray) : Bool := s.toList == t.toList
def twoOk (names : List ByteArray) (p : Nat × Nat) : Bool := !(p.1 != p.2 && streq (names.getD p.1 ByteArray.empty) (names.getD p.2 ByteArray.empty))
def mayB (names : List ByteArray) (up : List Nat) : Bool :=
  (decide (1 ≤ up.length) && decide (up.length ≤ 8) && decide (names.length = up.length)) && ((List.range up.length).all (rowOk names up) && (Lat.pairs up.length).all (twoOk names))

theorem all_range_false {f : Nat → Bool} {n k : Nat} (hk : k < n) (hf : f k = false) : (List.range n).all f = false := by
  rw [List.all_eq_false]
  exact ⟨k, by simpa using hk, by simp [hf]⟩

set_option maxRecDepth 100000 in
set_option maxHeartbeats 2000000 in
theorem mayBe_any {v : Value} {names : List ByteArray} {up : List Nat} (w : World) (h : IsLat w w.heap.size v names up) :
    Calls Try.prog 43 #[v] w fun e w' => e = .returned (.bool (mayB names up)) ∧ Below w.heap.size w w' := by
  obtain ⟨⟨A, A', c, c', rfl, hN, hU⟩, hshort, ⟨hf1, hf2⟩, -⟩ := h
  have hwf : ∀ f, Fence.wide.fn f := fun _ => trivial
  refine (callsIn_wide (n := 3)).1 ?_
  refine callsIn_of_wp_marks Try.func43 rfl trivial ?_ rfl
  simp only [Try.ntmps43, List.size_toArray, List.length_cons, List.length_nil, Nat.reduceAdd, Nat.reduceSub, Array.replicate_succ, Array.replicate_zero, List.push_toArray, List.append_toArray, List.nil_append, List.cons_append]
  have hlen : ∀ b : Bool, mayB names up = b → mayB names up = b := fun _ h => h
  have hB2 : Below w.heap.size w ((w.alloc (.cells #[.slice A names.length c, .slice A' up.length c'] 25)).alloc (.cells #[.bool false] 4)) := ((Below.refl _ w).alloc (Nat.le_refl _) _).alloc (by simp) _
  have p0 : Blk ((w.alloc (.cells #[.slice A names.length c, .slice A' up.length c'] 25)).alloc (.cells #[.bool false] 4)) w.heap.size 25 #[.slice A names.length c, .slice A' up.length c'] := (Blk.new _ _ _).alloc _
  have p1 : Box ((w.alloc (.cells #[.slice A names.length c, .slice A' up.length c'] 25)).alloc (.cells #[.bool false] 4)) (w.heap.size + 1) (.bool false) := Box.new' _ _ _ _ (by simp)
  have HP0 := Lib.hid p0
  have HP1 := Lib.hid p1
  clear p0 p1 hlen
  by_cases z1 : up.length < 1
  · have HM : Hid (mayB names up = false) := by unfold Hid mayB; simp; omega
    gi_wp2
    refine ⟨.bool false, ?_, by rw [HM.out], hB2⟩
    simp [results, Try.f43, go_sem]
  by_cases z2 : 8 < up.length
  · have HM : Hid (mayB names up = false) := by unfold Hid mayB; simp; omega
    gi_wp2
    refine ⟨.bool false, ?_, by rw [HM.out], hB2⟩
    simp [results, Try.f43, go_sem]
  by_cases z3 : ¬ names.length = up.length
  · have HM : Hid (mayB names up = false) := by unfold Hid mayB; simp [z3]
    have z4 : ((names.length : Int) != (up.length : Int)) = true := by rw [bne_iff_ne]; omega
    gi_wp2
    refine ⟨.bool false, ?_, by rw [HM.out], hB2⟩
    simp [results, Try.f43, go_sem]
  have z3 : names.length = up.length := Decidable.not_not.1 z3
  have HM : Hid (mayB names up = ((List.range up.length).all (rowOk names up) && (Lat.pairs up.length).all (twoOk names))) := by unfold Hid mayB; simp [z3]; omega
  have z4 : ((names.length : Int) != (up.length : Int)) = false := by rw [bne_eq_false_iff_eq]; omega
  have Z3 := Lib.hid z3
  clear z3
  gi_wp2_with (fail)
  gi_loopw [24] (fun i wr => ∃ k : Nat, k ≤ up.length ∧ i = .int .i64 k ∧ (List.range k).all (rowOk names up) = true ∧ Blk wr w.heap.size 25 #[.slice A names.length c, .slice A' up.length c'] ∧ Box wr (w.heap.size + 1) (.bool false) ∧ Below w.heap.size w wr) (fun i _ => up.length - (intOf i).toNat)
  case atStart => exact ⟨0, Nat.zero_le _, rfl, rfl, HP0.out, HP1.out, hB2⟩
  case round =>
    obtain ⟨k, hk, rfl, hall, hblk, hR, hB⟩ := hrel
    have HALL := Lib.hid hall
    obtain ⟨hcr, hfr⟩ := id hR
    have hc0 : wr.cell? ⟨w.heap.size, 0, none⟩ = some (.slice A names.length c) := by rw [hblk.cell]; rfl
    have hc1 : wr.cell? ⟨w.heap.size, 1, none⟩ = some (.slice A' up.length c') := by rw [hblk.cell]; rfl
    clear hall hB2
    by_cases hlt : k < up.length
    · obtain ⟨ad, x, rfl, _, hx, hx32, hcx⟩ := (hU.below hB).at_ hlt
      obtain ⟨ad2, s, rfl, _, hs, hcs⟩ := strs_at (hN.below hB) (show k < names.length by rw [Z3.out]; exact hlt)
      have hsl := hshort s (List.mem_of_getElem? hs)
      have hrow : rowOk names up k = (Lat.sub x (Lat.allS up.length) && nameOk s) := by unfold rowOk; simp only [List.getD_eq_getElem?_getD, hx, hs, Option.getD_some]
      have HROW := Lib.hid hrow
      have hall32 : Lat.allS up.length < 4294967296 := by
        unfold Lat.allS
        have : 2 ^ up.length < 2 ^ 32 := Nat.pow_lt_pow_right (by decide) (by omega)
        omega
      have hne := andNot_ne x (Lat.allS up.length) hx32 hall32
      have HX := Lib.hid hx
      have HS := Lib.hid hs
      clear hx hs hrow hall32
      have hnm := fun nq => isName_any s (wr.drewN nq) hsl
      cases e1 : Lat.sub x (Lat.allS up.length)
      · rw [e1] at hne
        have HE1 := Lib.hid e1
        clear e1
        gi_wp2_with (fail)
        refine round_region_drew (by kernel_rfl) (by kernel_rfl) (by kernel_rfl) ?_
        repeat (gi_big_quiet_step ((gi_at_call 54; refine callsIn_quiet_eq (callsIn_wide.2 (all_any _ _ (by omega))))))
        refine wpQuietIn_nil ?_
        rintro _ ⟨nq, rfl⟩
        gi_wp2
        refine ⟨.bool false, ?_, ?_, (below_drewN_ hB nq).setCell (p := ⟨w.heap.size + 1, 0, none⟩) (by simp) _⟩
        · simp [results, Try.f43, go_sem, ((hR.drewN nq).set_ (.bool false)).1]
        · rw [HM.out, all_range_false hlt (by rw [HROW.out, HE1.out]; rfl)]; rfl
      · rw [e1] at hne
        have HE1 := Lib.hid e1
        clear e1
        cases e2 : nameOk s
        · rw [e2] at hnm
          have HNM := Lib.hid hnm
          have HE2 := Lib.hid e2
          clear hnm e2
          gi_wp2_with (fail)
          refine round_region_drew (by kernel_rfl) (by kernel_rfl) (by kernel_rfl) ?_
          repeat (gi_big_quiet_step (first | (gi_at_call 54; refine callsIn_quiet_eq (callsIn_wide.2 (all_any _ _ (by omega)))) | (gi_at_call 55; refine callsIn_quiet_eq (callsIn_wide.2 (HNM.out _)))))
          refine wpQuietIn_nil ?_
          rintro _ ⟨nq, rfl⟩
          gi_wp2
          refine ⟨.bool false, ?_, ?_, (below_drewN_ hB nq).setCell (p := ⟨w.heap.size + 1, 0, none⟩) (by simp) _⟩
          · simp [results, Try.f43, go_sem, ((hR.drewN nq).set_ (.bool false)).1]
          · rw [HM.out, all_range_false hlt (by rw [HROW.out, HE1.out, HE2.out]; rfl)]; rfl
        · rw [e2] at hnm
          have HNM := Lib.hid hnm
          have HE2 := Lib.hid e2
          clear hnm e2
          gi_wp2_with (fail)
          refine round_region_drew (by kernel_rfl) (by kernel_rfl) (by kernel_rfl) ?_
          repeat (gi_big_quiet_step (first | (gi_at_call 54; refine callsIn_quiet_eq (callsIn_wide.2 (all_any _ _ (by omega)))) | (gi_at_call 55; refine callsIn_quiet_eq (callsIn_wide.2 (HNM.out _)))))
          refine wpQuietIn_nil ?_
          rintro _ ⟨nq, rfl⟩
          gi_wp2
          go_roundw
          case rel => exact ⟨k + 1, by omega, by go_num, by rw [List.range_succ, List.all_append, HALL.out]; simp [HROW.out, HE1.out, HE2.out], hblk, hR, below_drewN_ hB nq⟩
          case measure => simp [intOf]; omega
    · obtain rfl : k = up.length := by omega
      gi_wp2_with (gi_at_call 56; refine (callsIn_wide.2 (pairs_any up.length _)).mono ?_; rintro e w' ⟨rfl, rfl⟩)
      have hrows := HALL.out
      have HROWS := Lib.hid hrows
      obtain ⟨W0, hW0⟩ : ∃ W0 : World, wr.alloc (.cells #[.int .i64 up.length] 3) = W0 := ⟨_, rfl⟩
      have hsz : W0.heap.size = wr.heap.size + 1 := by rw [← hW0]; simp
      have hle := hB.size
      have b0 : Blk W0 w.heap.size 25 #[.slice A names.length c, .slice A' up.length c'] := by rw [← hW0]; exact hblk.alloc _
      have b1 : Box W0 (w.heap.size + 1) (.bool false) := by rw [← hW0]; exact hR.alloc _
      have b2 : Box W0 wr.heap.size (.int .i64 up.length) := by rw [← hW0]; exact Box.new _ _ _
      have hB0 : Below w.heap.size w W0 := by rw [← hW0]; exact hB.alloc (by omega) _
      rw [hW0]
      clear hW0 hrows hcr hfr hc0 hc1
      refine wpIn_rangeFunc_ownF rfl (by decide) (gf := 63) (lb := #[.pointer (some ⟨wr.heap.size, 0, none⟩)]) rfl trivial (enters_of Try.func63 (by kernel_rfl) rfl)
        (pairs_stops _ up.length wr.heap.size (by omega) (by decide) _ (by omega) b2.1) keepsCell_t keepsCell_b (Below.refl _ _) (fun _ => rfl)
        (fun pre W => ((vals pre).all (twoOk names) = true ∧ Blk W w.heap.size 25 #[.slice A names.length c, .slice A' up.length c'] ∧ Box W (w.heap.size + 1) (.bool false)) ∧ Below w.heap.size w W)
        (fun c pre W => (c = .ret ∧ (vals pre).all (twoOk names) = false ∧ Box W (w.heap.size + 1) (.bool false)) ∧ Below w.heap.size w W)
        (OwnFrom.and (Own.from (fun s A B row hs hg hr => ⟨hs.1, hs.2.1.kept hg hr, hs.2.2.kept hg hr⟩) _) (ownFrom_below (Nat.le_refl _) (by omega)))
        (fun c => OwnFrom.and (Own.from (fun s A B row hs hg hr => ⟨hs.1, hs.2.1, hs.2.2.kept hg hr⟩) _) (ownFrom_below (Nat.le_refl _) (by omega)))
        ⟨⟨rfl, b0, b1⟩, hB0⟩ ?a1 ?assign ?body ?done ?stop
      case assign =>
        intro l x W K hK
        gi_wp2
        exact hK
      case body =>
        rintro l pre ⟨⟨a, b⟩, ha, hb⟩ W ⟨⟨hall, hblkW, hRW⟩, hBW⟩ hlen
        dsimp only at ha hb ⊢
        obtain ⟨hcr, hfr⟩ := id hRW
        have hc0 : W.cell? ⟨w.heap.size, 0, none⟩ = some (.slice A names.length c) := by rw [hblkW.cell]; rfl
        obtain ⟨ad, s, rfl, _, hs, hcs⟩ := strs_at (hN.below hBW) (show a < names.length by rw [Z3.out]; exact ha)
        obtain ⟨ad', t, he, _, ht, hct⟩ := strs_at (hN.below hBW) (show b < names.length by rw [Z3.out]; exact hb)
        obtain rfl : ad = ad' := by injection he
        have htwo : twoOk names (a, b) = !(a != b && streq s t) := by unfold twoOk; simp only [List.getD_eq_getElem?_getD, hs, ht, Option.getD_some]
        have HTWO := Lib.hid htwo
        have HALLW := Lib.hid hall
        have han : a < names.length := by rw [Z3.out]; exact ha
        have hbn : b < names.length := by rw [Z3.out]; exact hb
        clear he hs ht htwo hall hlen b0 b1 b2 hblk hR
        by_cases hab : a = b
        · subst hab
          have hb2 : ((a : Int) != (a : Int)) = false := by simp
          gi_wp2_with (fail)
          refine round_region_drew (by kernel_rfl) (by kernel_rfl) (by kernel_rfl) ?_
          repeat (gi_big_quiet_step (fail))
          refine wpQuietIn_nil ?_
          rintro _ ⟨nq, rfl⟩
          gi_wp2
          exact ⟨keepsOthers_drewN _ _, keepsCell_below (below_drewN_ (Below.refl _ _) _) (Nat.lt_succ_self _), ⟨by rw [vals_snoc, Lat.all_snoc, HALLW.out, HTWO.out]; simp, hblkW, hRW⟩, below_drewN_ hBW _⟩
        · have hb2 : ((a : Int) != (b : Int)) = true := by rw [bne_iff_ne]; omega
          cases hst : (s.toList == t.toList)
          · have HST : Hid (streq s t = false) := hst
            gi_wp2_with (fail)
            refine round_region_drew (by kernel_rfl) (by kernel_rfl) (by kernel_rfl) ?_
            repeat (gi_big_quiet_step (fail))
            refine wpQuietIn_nil ?_
            rintro _ ⟨nq, rfl⟩
            gi_wp2
            exact ⟨keepsOthers_drewN _ _, keepsCell_below (below_drewN_ (Below.refl _ _) _) (Nat.lt_succ_self _), ⟨by rw [vals_snoc, Lat.all_snoc, HALLW.out, HTWO.out, HST.out]; simp, hblkW, hRW⟩, below_drewN_ hBW _⟩
          · have HST : Hid (streq s t = true) := hst
            gi_wp2_with (fail)
            refine round_region_drew (by kernel_rfl) (by kernel_rfl) (by kernel_rfl) ?_
            repeat (gi_big_quiet_step (fail))
            refine wpQuietIn_nil ?_
            rintro _ ⟨nq, rfl⟩
            gi_wp2
            exact ⟨(keepsOthers_drewN _ _).trans (KeepsOthers.setCell _ _ _), ⟨rfl, by rw [vals_snoc, Lat.all_snoc, HALLW.out, HTWO.out, HST.out]; simp [hab], (hRW.drewN _).set_ _⟩, (below_drewN_ hBW _).setCell (p := ⟨w.heap.size + 1, 0, none⟩) (by simp) _⟩
      case done =>
        rintro D xs W hD hxs ⟨⟨hall, _, hRW⟩, hBW⟩ hK
        have hiso : mayB names up = true := by rw [HM.out, HROWS.out, ← hxs, hall]; rfl
        obtain ⟨hcr, hfr⟩ := id hRW
        clear hall hxs b0 b1 b2 hblk hR
        have HISO := Lib.hid hiso
        clear hiso
        gi_wp2
        have hK' := (KeepsOthers.setCell W ⟨w.heap.size + 1, 0, none⟩ (.bool true)).same D _ hK rfl
        refine ⟨by simp, .inl ⟨_, _, rfl, run_takeDeferred hK', ?_⟩⟩
        have hc5 := ((hRW.set_ (.bool true)).putObj (.deferred none) hK' rfl).1
        refine ⟨.bool true, ?_, by rw [HISO.out], (hBW.setCell (p := ⟨w.heap.size + 1, 0, none⟩) (by simp) _).trans (belowK_b (w := w) (Nat.le_refl _) _ D _ _ (by omega) hK' rfl rfl)⟩
        simp [results, Try.f43, go_sem, hc5]
      case stop =>
        rintro D c pre W hD hpre ⟨⟨rfl, hno, hRW⟩, hBW⟩ hK
        have hiso : mayB names up = false := by rw [HM.out, Lat.all_false hpre hno, Bool.and_false]
        obtain ⟨hcr, hfr⟩ := id hRW
        clear hno hpre b0 b1 b2 hblk hR
        have HISO := Lib.hid hiso
        clear hiso
        gi_wp2
        refine ⟨by simp, .inl ⟨_, _, rfl, run_takeDeferred hK, ?_⟩⟩
        have hc5 := (hRW.putObj (.deferred none) hK rfl).1
        refine ⟨.bool false, ?_, by rw [HISO.out], hBW.trans (belowK_b (w := w) (Nat.le_refl _) W D _ _ (by omega) hK rfl rfl)⟩
        simp [results, Try.f43, go_sem, hc5]
end Go.Proofs.Ytaingkjleelbfaa
