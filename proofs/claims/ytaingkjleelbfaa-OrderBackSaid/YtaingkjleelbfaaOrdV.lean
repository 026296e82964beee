/- Walks of the reference's Edges and Same. -/
import Derived.Test.YtaingkjleelbfaaLawO
import Derived.Test.YtaingkjleelbfaaRef
import Derived.Test.YtaingkjleelbfaaRefCheck
namespace Go.Proofs.Ytaingkjleelbfaa
open Go.RowKit Go.Shelf

namespace Ordr
def isTo (up : List Nat) (a b k : Nat) : Bool := decide (a ≠ b) && Lat.fl up a b && !(List.range k).any (bt up a b)
theorem isTo_zero (up : List Nat) (a b : Nat) : isTo up a b 0 = (decide (a ≠ b) && Lat.fl up a b) := by unfold isTo; simp
theorem isTo_yes {up : List Nat} {a b k : Nat} (h : bt up a b k = true) : isTo up a b (k + 1) = false := by
  unfold isTo
  rw [List.range_succ, List.any_append]
  simp [h]
theorem isTo_no {up : List Nat} {a b k : Nat} (h : bt up a b k = false) : isTo up a b (k + 1) = isTo up a b k := by
  unfold isTo
  rw [List.range_succ, List.any_append]
  simp [h]
theorem isTo_all (up : List Nat) (a b : Nat) : isTo up a b up.length = isEdge up (a, b) := rfl
end Ordr

/-- What holds in the reference's loops. -/
def REdgesAt (w : World) (up : List Nat) (x0 x1 : Value) (k : Nat) (v : Value) (wr : World) : Prop :=
  wr.ownsRow (w.heap.size + 1) 51 2 v (Ordr.edgesTo up k).length (ecells (Ordr.edgesTo up k)) ∧ Blk wr w.heap.size 25 #[x0, x1] ∧ Below w.heap.size w wr
theorem REdgesAt.next {w wr w' : World} {up : List Nat} {x0 x1 v : Value} {k : Nat} (h : REdgesAt w up x0 x1 k v wr) (hb : Below wr.heap.size wr w') : REdgesAt w up x0 x1 k v w' :=
  ⟨own_below h.1 hb (Nat.le_refl _), h.2.1.below hb h.2.1.lt, h.2.2.trans (hb.mono h.2.2.size)⟩
theorem REdgesAt.c0 {w wr : World} {up : List Nat} {x0 x1 v : Value} {k : Nat} (h : REdgesAt w up x0 x1 k v wr) : wr.cell? ⟨w.heap.size, 0, none⟩ = some x0 := by rw [h.2.1.cell]; rfl
theorem REdgesAt.c1 {w wr : World} {up : List Nat} {x0 x1 v : Value} {k : Nat} (h : REdgesAt w up x0 x1 k v wr) : wr.cell? ⟨w.heap.size, 1, none⟩ = some x1 := by rw [h.2.1.cell]; rfl
theorem REdgesAt.same {w wr : World} {up : List Nat} {x0 x1 v : Value} {k k' : Nat} (h : REdgesAt w up x0 x1 k v wr) (hk : Ordr.edgesTo up k' = Ordr.edgesTo up k) : REdgesAt w up x0 x1 k' v wr := by
  unfold REdgesAt; rw [hk]; exact h
theorem REdgesAt.step {w : World} {up : List Nat} {x0 x1 v v' : Value} {k k' : Nat} {wr w' : World} {o : Obj} {e : Int × Int} (h : REdgesAt w up x0 x1 k v wr) (hown : w'.ownsRow (w.heap.size + 1) 51 2 v' ((Ordr.edgesTo up k).length + 1) (ecells (Ordr.edgesTo up k) ++ [.int .i64 e.1, .int .i64 e.2]))
    (hg : (wr.alloc o).grownBy w' v.ownBlock) (hk : Ordr.edgesTo up k' = Ordr.edgesTo up k ++ [e]) : REdgesAt w up x0 x1 k' v' w' := by
  obtain ⟨h1, h2, h4⟩ := h
  have hl := h2.lt
  refine ⟨?_, ?_, ?_⟩
  · rw [hk, ecells_snoc, List.length_append]; exact hown
  · exact (hg.block w.heap.size (by simp; omega) (fun he => by have := (h1.lt _ he.symm).1; omega)).trans (h2.alloc o)
  · exact (h4.alloc h4.size o).grown hg (by simp; omega) (fun k he => by have := (h1.lt k he).1; omega)
theorem own_emptyN (w : World) (e : TypeId) (sz : Nat) : (w.alloc (.cells #[] e)).ownsRow w.heap.size e sz (.slice (some ⟨w.heap.size, 0, none⟩) 0 0) 0 [] :=
  ⟨by simp, .inr ⟨w.heap.size, 0, #[], rfl, Nat.le_refl _, World.alloc_heap_new w _, Nat.le_refl _, by unfold maxLen; omega, by simp, by simp⟩⟩

set_option maxRecDepth 100000 in
set_option maxHeartbeats 4000000 in
theorem rEdges_any {v : Value} {names : List ByteArray} {up : List Nat} (w : World) (h : IsLat w w.heap.size v names up) (hl8 : up.length ≤ 8) :
    Calls Try.prog 19 #[v] w fun e w' => ∃ x, e = .returned x ∧ IsEdges w' w'.heap.size x (Ordr.edges up) ∧ Below w.heap.size w w' := by
  have h' := h
  obtain ⟨⟨A, A', c, c', rfl, hN, hU⟩, hshort, ⟨hf1, hf2⟩, -⟩ := h'
  have hfl := fun (a b : Nat) W (hW : Below w.heap.size w W) (ha : a < up.length) (hb : b < up.length) => rFlows_any a b W ((h.below hW).more hW.size) ha (by omega)
  have HFL := Lib.hid hfl
  have hst : REdgesAt w up (.slice A names.length c) (.slice A' up.length c') 0 (.slice (some ⟨w.heap.size + 1, 0, none⟩) 0 0) ((w.alloc (.cells #[.slice A names.length c, .slice A' up.length c'] 25)).alloc (.cells #[] 51)) := by
    refine ⟨?_, (Blk.new _ _ _).alloc _, ((Below.refl _ w).alloc (Nat.le_refl _) _).alloc (by simp) _⟩
    have := own_emptyN (w.alloc (.cells #[.slice A names.length c, .slice A' up.length c'] 25)) 51 2
    rw [World.size_alloc] at this
    exact this
  have HST := Lib.hid hst
  clear hfl hst h hN hU hshort
  obtain ⟨i0, hi, hz0, hz1, hz2⟩ := info_parts Try.infoEdge
  go_enter Try.func19, Try.ntmps19
  go_wp2
  go_loopw [3, 12] (fun v i wr => ∃ a : Nat, a ≤ up.length ∧ i = .int .i64 a ∧ REdgesAt w up (.slice A names.length c) (.slice A' up.length c') (a * up.length) v wr) (fun _ i _ => up.length - (intOf i).toNat)
  case atStart => exact ⟨0, Nat.zero_le _, rfl, by rw [Nat.zero_mul]; exact HST.out⟩
  case round =>
    clear HST
    obtain ⟨a, ha, rfl, hat⟩ := hrel
    by_cases hlt : a < up.length
    · obtain ⟨wo, rfl⟩ : ∃ wo : World, wo = wr := ⟨_, rfl⟩
      have hcw : wo.cell? ⟨w.heap.size, 1, none⟩ = some (.slice A' up.length c') := by rw [hat.2.1.cell]; rfl
      have HAT := Lib.hid hat
      clear hat
      go_wp2
      go_loopw [3, 18] (fun v j wr => ∃ b : Nat, b ≤ up.length ∧ j = .int .i64 b ∧ REdgesAt w up (.slice A names.length c) (.slice A' up.length c') (a * up.length + b) v wr) (fun _ j _ => up.length - (intOf j).toNat)
      case atStart => exact ⟨0, Nat.zero_le _, rfl, HAT.out⟩
      case round =>
        clear HAT hcw
        obtain ⟨b, hb, rfl, hat⟩ := hrel
        by_cases hlt2 : b < up.length
        · have hidx := Ordr.idx_lt hlt hlt2
          have hc0 := hat.c0
          have hc1 := hat.c1
          have hf := HFL.out a b wr hat.2.2 hlt hlt2
          have HAT := Lib.hid hat
          clear hat
          obtain ⟨wp, rfl⟩ : ∃ wp : World, wp = wr := ⟨_, rfl⟩
          by_cases hab : a = b
          · have n1 : ((a : Int) != (b : Int)) = false := by rw [bne_eq_false_iff_eq]; omega
            have HZ : Hid (Ordr.isTo up a b 0 = false) := by unfold Hid; rw [Ordr.isTo_zero]; simp [hab]
            have HAB := Lib.hid hab
            clear hf hab
            go_wp2
            go_loopw [6, 33] (fun s i wr => ∃ k : Nat, k ≤ up.length ∧ i = .int .i64 k ∧ s = .bool (Ordr.isTo up a b k) ∧ REdgesAt w up (.slice A names.length c) (.slice A' up.length c') (a * up.length + b) u3 wr) (fun _ i _ => up.length - (intOf i).toNat)
            case atStart => exact ⟨0, Nat.zero_le _, rfl, by rw [HZ.out], HAT.out⟩
            case round =>
              clear hc0 hc1
              obtain ⟨k, hk, rfl, rfl, hat⟩ := hrel
              by_cases hlt3 : k < up.length
              · have hc0 := hat.c0
                have hc1 := hat.c1
                have hfa := HFL.out a k wr hat.2.2 hlt hlt3
                have hfb := fun W hW => HFL.out k b W hW hlt3 hlt2
                have HATK := Lib.hid hat
                have HFB := Lib.hid hfb
                have HBT : Hid (Ordr.bt up a b k = (decide (k ≠ a) && decide (k ≠ b) && Lat.fl up a k && Lat.fl up k b)) := rfl
                clear hat hfb
                by_cases h1 : k = a
                · have m1 : ((k : Int) != (a : Int)) = false := by rw [bne_eq_false_iff_eq]; omega
                  have HX : Hid (Ordr.bt up a b k = false) := by unfold Hid; rw [HBT.out]; simp [h1]
                  clear h1 hfa
                  go_wp2
                  go_roundw
                  case rel => exact ⟨k + 1, by omega, by go_num, by rw [Ordr.isTo_no HX.out], HATK.out⟩
                  case measure => simp [intOf]; omega
                · have m1 : ((k : Int) != (a : Int)) = true := by rw [bne_iff_ne]; omega
                  by_cases h2 : k = b
                  · have m2 : ((k : Int) != (b : Int)) = false := by rw [bne_eq_false_iff_eq]; omega
                    have HX : Hid (Ordr.bt up a b k = false) := by unfold Hid; rw [HBT.out]; simp [h2]
                    clear h1 h2 hfa
                    go_wp2
                    go_roundw
                    case rel => exact ⟨k + 1, by omega, by go_num, by rw [Ordr.isTo_no HX.out], HATK.out⟩
                    case measure => simp [intOf]; omega
                  · have m2 : ((k : Int) != (b : Int)) = true := by rw [bne_iff_ne]; omega
                    cases e2 : Lat.fl up a k
                    · have HX : Hid (Ordr.bt up a b k = false) := by unfold Hid; rw [HBT.out, e2]; simp
                      rw [e2] at hfa
                      have HFA := Lib.hid hfa
                      clear hfa e2 h1 h2
                      go_wp2_with (fail)
                      refine HFA.out.mono ?_
                      rintro e wx ⟨rfl, hbx⟩
                      have hat2 := HATK.out.next hbx
                      have HAT2 := Lib.hid hat2
                      clear hbx hat2
                      go_wp2
                      go_roundw
                      case rel => exact ⟨k + 1, by omega, by go_num, by rw [Ordr.isTo_no HX.out], HAT2.out⟩
                      case measure => simp [intOf]; omega
                    · rw [e2] at hfa
                      have HFA := Lib.hid hfa
                      clear hfa
                      cases e3 : Lat.fl up k b
                      · have HX : Hid (Ordr.bt up a b k = false) := by unfold Hid; rw [HBT.out, e3]; simp
                        have HE3 := Lib.hid e3
                        clear e2 e3 h1 h2
                        go_wp2_with (fail)
                        refine HFA.out.mono ?_
                        rintro e wx ⟨rfl, hbx⟩
                        have hat2 := HATK.out.next hbx
                        have hd0 := hat2.c0
                        have hd1 := hat2.c1
                        have hfb := HFB.out wx hat2.2.2
                        rw [HE3.out] at hfb
                        have HAT2 := Lib.hid hat2
                        have HFB2 := Lib.hid hfb
                        clear hbx hat2 hfb hc0 hc1
                        go_wp2_with (fail)
                        refine HFB2.out.mono ?_
                        rintro e wy ⟨rfl, hby⟩
                        have hat3 := HAT2.out.next hby
                        have HAT3 := Lib.hid hat3
                        clear hby hat3
                        go_wp2
                        go_roundw
                        case rel => exact ⟨k + 1, by omega, by go_num, by rw [Ordr.isTo_no HX.out], HAT3.out⟩
                        case measure => simp [intOf]; omega
                      · have HX : Hid (Ordr.bt up a b k = true) := by unfold Hid; rw [HBT.out, e2, e3]; simp [h1, h2]
                        have HE3 := Lib.hid e3
                        clear e2 e3 h1 h2
                        go_wp2_with (fail)
                        refine HFA.out.mono ?_
                        rintro e wx ⟨rfl, hbx⟩
                        have hat2 := HATK.out.next hbx
                        have hd0 := hat2.c0
                        have hd1 := hat2.c1
                        have hfb := HFB.out wx hat2.2.2
                        rw [HE3.out] at hfb
                        have HAT2 := Lib.hid hat2
                        have HFB2 := Lib.hid hfb
                        clear hbx hat2 hfb hc0 hc1
                        go_wp2_with (fail)
                        refine HFB2.out.mono ?_
                        rintro e wy ⟨rfl, hby⟩
                        have hat3 := HAT2.out.next hby
                        have HAT3 := Lib.hid hat3
                        clear hby hat3
                        go_wp2
                        go_roundw
                        case rel => exact ⟨k + 1, by omega, by go_num, by rw [Ordr.isTo_yes HX.out], HAT3.out⟩
                        case measure => simp [intOf]; omega
              · obtain rfl : k = up.length := by omega
                rw [Ordr.isTo_all]
                have hown := hat.1
                have hsz := hat.2.1.lt
                have hle := Ordr.edgesTo_le (up := up) (k := a * up.length + b) (by omega) (by omega)
                have HATK := Lib.hid hat
                clear hat
                cases ee : Ordr.isEdge up (a, b)
                · have HE := Lib.hid ee
                  clear ee hown
                  go_wp2
                  go_roundw
                  case rel => exact ⟨b + 1, by omega, by go_num, HATK.out.same (Ordr.edgesTo_no hlt2 HE.out)⟩
                  case measure => simp [intOf]; omega
                · have HE := Lib.hid ee
                  clear ee
                  go_wp2_with (at_builtin; refine wpList_append_own _ rfl _ _ 36 rfl (w.heap.size + 1) 51 i0 (.agg #[.int .i64 0, .int .i64 0]) 2 16 Try.underlying36 hi hz0 hz1 hz2 rfl (by decide) _ _ _ rfl (hown.alloc _) ⟨wr.heap.size, 0, none⟩ 1 1 [.int .i64 (a : Int), .int .i64 (b : Int)] rfl rfl ?c1 ?c2 ?c3 ?c4 ?c5 ?_)
                  case c1 => exact cell_two_new _ _ _ _
                  case c2 => simp [Value.oneCell']
                  case c3 => unfold maxLen; omega
                  case c4 => omega
                  case c5 => simp; omega
                  intro v' w' hown' hgrow _
                  have hst := HATK.out.step (e := ((a : Int), (b : Int))) hown' hgrow (Ordr.edgesTo_yes hlt2 HE.out)
                  have HST := Lib.hid hst
                  clear hst hown' hgrow hown
                  go_wp2
                  go_roundw
                  case rel => exact ⟨b + 1, by omega, by go_num, HST.out⟩
                  case measure => simp [intOf]; omega
          · have n1 : ((a : Int) != (b : Int)) = true := by rw [bne_iff_ne]; omega
            cases e1 : Lat.fl up a b
            all_goals
              have HZ := Lib.hid (Ordr.isTo_zero up a b)
              have HD : Hid (decide (a ≠ b) = true) := by unfold Hid; simpa using hab
              rw [e1] at hf HZ
              have HF := Lib.hid hf
              clear hf e1
              go_wp2_with (fail)
              refine HF.out.mono ?_
              rintro e wq ⟨rfl, hbq⟩
              have hat1 := HAT.out.next hbq
              have hc0 := hat1.c0
              have hc1 := hat1.c1
              have HAT1 := Lib.hid hat1
              clear hbq hat1 HAT HF
              go_wp2
              go_loopw [6, 33] (fun s i wr => ∃ k : Nat, k ≤ up.length ∧ i = .int .i64 k ∧ s = .bool (Ordr.isTo up a b k) ∧ REdgesAt w up (.slice A names.length c) (.slice A' up.length c') (a * up.length + b) u3 wr) (fun _ i _ => up.length - (intOf i).toNat)
              case atStart => exact ⟨0, Nat.zero_le _, rfl, by rw [HZ.out, HD.out]; rfl, HAT1.out⟩
              case round =>
                clear hc0 hc1
                obtain ⟨k, hk, rfl, rfl, hat⟩ := hrel
                by_cases hlt3 : k < up.length
                · have hc0 := hat.c0
                  have hc1 := hat.c1
                  have hfa := HFL.out a k wr hat.2.2 hlt hlt3
                  have hfb := fun W hW => HFL.out k b W hW hlt3 hlt2
                  have HATK := Lib.hid hat
                  have HFB := Lib.hid hfb
                  have HBT : Hid (Ordr.bt up a b k = (decide (k ≠ a) && decide (k ≠ b) && Lat.fl up a k && Lat.fl up k b)) := rfl
                  clear hat hfb
                  by_cases h1 : k = a
                  · have m1 : ((k : Int) != (a : Int)) = false := by rw [bne_eq_false_iff_eq]; omega
                    have HX : Hid (Ordr.bt up a b k = false) := by unfold Hid; rw [HBT.out]; simp [h1]
                    clear h1 hfa
                    go_wp2
                    go_roundw
                    case rel => exact ⟨k + 1, by omega, by go_num, by rw [Ordr.isTo_no HX.out], HATK.out⟩
                    case measure => simp [intOf]; omega
                  · have m1 : ((k : Int) != (a : Int)) = true := by rw [bne_iff_ne]; omega
                    by_cases h2 : k = b
                    · have m2 : ((k : Int) != (b : Int)) = false := by rw [bne_eq_false_iff_eq]; omega
                      have HX : Hid (Ordr.bt up a b k = false) := by unfold Hid; rw [HBT.out]; simp [h2]
                      clear h1 h2 hfa
                      go_wp2
                      go_roundw
                      case rel => exact ⟨k + 1, by omega, by go_num, by rw [Ordr.isTo_no HX.out], HATK.out⟩
                      case measure => simp [intOf]; omega
                    · have m2 : ((k : Int) != (b : Int)) = true := by rw [bne_iff_ne]; omega
                      cases e2 : Lat.fl up a k
                      · have HX : Hid (Ordr.bt up a b k = false) := by unfold Hid; rw [HBT.out, e2]; simp
                        rw [e2] at hfa
                        have HFA := Lib.hid hfa
                        clear hfa e2 h1 h2
                        go_wp2_with (fail)
                        refine HFA.out.mono ?_
                        rintro e wx ⟨rfl, hbx⟩
                        have hat2 := HATK.out.next hbx
                        have HAT2 := Lib.hid hat2
                        clear hbx hat2
                        go_wp2
                        go_roundw
                        case rel => exact ⟨k + 1, by omega, by go_num, by rw [Ordr.isTo_no HX.out], HAT2.out⟩
                        case measure => simp [intOf]; omega
                      · rw [e2] at hfa
                        have HFA := Lib.hid hfa
                        clear hfa
                        cases e3 : Lat.fl up k b
                        · have HX : Hid (Ordr.bt up a b k = false) := by unfold Hid; rw [HBT.out, e3]; simp
                          have HE3 := Lib.hid e3
                          clear e2 e3 h1 h2
                          go_wp2_with (fail)
                          refine HFA.out.mono ?_
                          rintro e wx ⟨rfl, hbx⟩
                          have hat2 := HATK.out.next hbx
                          have hd0 := hat2.c0
                          have hd1 := hat2.c1
                          have hfb := HFB.out wx hat2.2.2
                          rw [HE3.out] at hfb
                          have HAT2 := Lib.hid hat2
                          have HFB2 := Lib.hid hfb
                          clear hbx hat2 hfb hc0 hc1
                          go_wp2_with (fail)
                          refine HFB2.out.mono ?_
                          rintro e wy ⟨rfl, hby⟩
                          have hat3 := HAT2.out.next hby
                          have HAT3 := Lib.hid hat3
                          clear hby hat3
                          go_wp2
                          go_roundw
                          case rel => exact ⟨k + 1, by omega, by go_num, by rw [Ordr.isTo_no HX.out], HAT3.out⟩
                          case measure => simp [intOf]; omega
                        · have HX : Hid (Ordr.bt up a b k = true) := by unfold Hid; rw [HBT.out, e2, e3]; simp [h1, h2]
                          have HE3 := Lib.hid e3
                          clear e2 e3 h1 h2
                          go_wp2_with (fail)
                          refine HFA.out.mono ?_
                          rintro e wx ⟨rfl, hbx⟩
                          have hat2 := HATK.out.next hbx
                          have hd0 := hat2.c0
                          have hd1 := hat2.c1
                          have hfb := HFB.out wx hat2.2.2
                          rw [HE3.out] at hfb
                          have HAT2 := Lib.hid hat2
                          have HFB2 := Lib.hid hfb
                          clear hbx hat2 hfb hc0 hc1
                          go_wp2_with (fail)
                          refine HFB2.out.mono ?_
                          rintro e wy ⟨rfl, hby⟩
                          have hat3 := HAT2.out.next hby
                          have HAT3 := Lib.hid hat3
                          clear hby hat3
                          go_wp2
                          go_roundw
                          case rel => exact ⟨k + 1, by omega, by go_num, by rw [Ordr.isTo_yes HX.out], HAT3.out⟩
                          case measure => simp [intOf]; omega
                · obtain rfl : k = up.length := by omega
                  rw [Ordr.isTo_all]
                  have hown := hat.1
                  have hsz := hat.2.1.lt
                  have hle := Ordr.edgesTo_le (up := up) (k := a * up.length + b) (by omega) (by omega)
                  have HATK := Lib.hid hat
                  clear hat
                  cases ee : Ordr.isEdge up (a, b)
                  · have HE := Lib.hid ee
                    clear ee hown
                    go_wp2
                    go_roundw
                    case rel => exact ⟨b + 1, by omega, by go_num, HATK.out.same (Ordr.edgesTo_no hlt2 HE.out)⟩
                    case measure => simp [intOf]; omega
                  · have HE := Lib.hid ee
                    clear ee
                    go_wp2_with (at_builtin; refine wpList_append_own _ rfl _ _ 36 rfl (w.heap.size + 1) 51 i0 (.agg #[.int .i64 0, .int .i64 0]) 2 16 Try.underlying36 hi hz0 hz1 hz2 rfl (by decide) _ _ _ rfl (hown.alloc _) ⟨wr.heap.size, 0, none⟩ 1 1 [.int .i64 (a : Int), .int .i64 (b : Int)] rfl rfl ?c1 ?c2 ?c3 ?c4 ?c5 ?_)
                    case c1 => exact cell_two_new _ _ _ _
                    case c2 => simp [Value.oneCell']
                    case c3 => unfold maxLen; omega
                    case c4 => omega
                    case c5 => simp; omega
                    intro v' w' hown' hgrow _
                    have hst := HATK.out.step (e := ((a : Int), (b : Int))) hown' hgrow (Ordr.edgesTo_yes hlt2 HE.out)
                    have HST := Lib.hid hst
                    clear hst hown' hgrow hown
                    go_wp2
                    go_roundw
                    case rel => exact ⟨b + 1, by omega, by go_num, HST.out⟩
                    case measure => simp [intOf]; omega
        · obtain rfl : b = up.length := by omega
          have HAT := Lib.hid hat
          clear hat
          go_wp2
          go_roundw
          case rel => exact ⟨a + 1, by omega, by go_num, by rw [Nat.add_mul, Nat.one_mul]; exact HAT.out⟩
          case measure => simp [intOf]; omega
    · obtain rfl : a = up.length := by omega
      have HAT := Lib.hid hat
      clear hat
      go_wp2
      go_ret
      obtain ⟨hown, -, hbw⟩ := HAT.out
      obtain ⟨A2, c2, rfl⟩ := own_slice hown
      obtain ⟨hr, hc⟩ := own_rowN hown
      exact ⟨_, rfl, ⟨A2, c2, rfl, hr, hc, Ordr.edgesTo_le (by omega) (Nat.le_refl _)⟩, hbw⟩
end Go.Proofs.Ytaingkjleelbfaa
