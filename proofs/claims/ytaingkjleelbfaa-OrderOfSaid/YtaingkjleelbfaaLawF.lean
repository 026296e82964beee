/- Walk of the law OrderOf. -/
import Derived.Test.YtaingkjleelbfaaOrdY
import Derived.Test.YtaingkjleelbfaaBox1
namespace Go.Proofs.Ytaingkjleelbfaa
open Go.RowKit Go.Shelf Go.Sort

theorem ecells_take (es : List (Int × Int)) (n : Nat) : ecells (es.take n) = (ecells es).take (n * 2) := by
  induction es generalizing n with
  | nil => simp [ecells]
  | cons e r ih =>
    cases n with
    | zero => simp [ecells]
    | succ n =>
      have := ih n
      have e1 : (n + 1) * 2 = n * 2 + 1 + 1 := by omega
      simp only [List.take_succ_cons, ecells, List.flatMap_cons] at this ⊢
      rw [this, e1]
      rfl
theorem edges_cut {w : World} {B : Nat} {D : Option Addr} {es : List (Int × Int)} {d n : Nat} (h : Row w B D (ecells es)) (hn : n ≤ es.length) (hd : es.length ≤ d) (h66 : n ≤ 66) : IsEdges w B (.slice D n d) (es.take n) := by
  have hl : (es.take n).length = n := by simp; omega
  refine ⟨D, d, by rw [hl], ?_, by rw [hl]; omega, by rw [hl]; omega⟩
  rw [ecells_take]
  exact h.take _

/-- What OrderOf holds ahead of its last statement. -/
structure Ofs (w : World) (q0 q1 : Value) (k : Nat) (x0 x1 : Value) (names : List ByteArray) (up : List Nat) (g g' : Nat) (W : World) : Prop where
  l : Blk W g 25 #[x0, x1]
  t : Blk W g' 31 #[q0, q1, .int .i64 (k : Int)]
  hl : IsLat W W.heap.size (.agg #[x0, x1]) names up
  ht : IsLat W W.heap.size (.agg #[q0, q1]) names up
  below : Below w.heap.size w W
theorem ofs_stable (w : World) (q0 q1 : Value) (k : Nat) (x0 x1 : Value) (names : List ByteArray) (up : List Nat) (g g' : Nat) : Stable (Ofs w q0 q1 k x0 x1 names up g g') := fun _ _ h hb =>
  ⟨h.l.below hb h.l.lt, h.t.below hb h.t.lt, stable_lat _ _ _ _ _ h.hl hb, stable_lat _ _ _ _ _ h.ht hb, h.below.trans (hb.mono h.below.size)⟩

set_option maxRecDepth 100000 in
set_option maxHeartbeats 8000000 in
theorem ofLaw_any {A D : Option Addr} {n1 : List ByteArray} {es : List (Int × Int)} (c d : Nat) (w : World) (hN : Row w w.heap.size A (strs n1)) (hE : Row w w.heap.size D (ecells es)) (hc : n1.length ≤ c) (hd : es.length ≤ d) (hm : c ≤ maxLen) (hmd : d ≤ maxLen) (hs : ∀ s ∈ n1, s.size ≤ maxLen) :
    Calls Try.prog 4 #[.slice A n1.length c, .slice D es.length d] w fun e w' => e = .returned (.bool true) ∧ Below w.heap.size w w' := by
  have hfa := fun W (hW : Below w.heap.size w W) => few_any (up := []) (A' := none) w.heap.size c 0 W hW.size (hN.below hW) ⟨Row.nil, fun k x hx => by simp at hx⟩ hc (Nat.le_refl _) hm (by decide) hs
  have HFA := Lib.hid hfa
  have HE := Lib.hid hE
  clear hfa hN hE hs
  unfold maxLen at hmd
  have hd66 : (es.length : Int) ≤ 9223372036854775807 := by omega
  have hfield : ∀ (a b : Value) (W : World), (Instr.field 25 (.agg #[a, b]) 0).run Try.prog W = .ok a W := fun a b W => by kernel_rfl
  by_cases h66 : (66 : Int) < es.length
  · have h66' : 66 ≤ es.length := by omega
    have h66i : (66 : Int) ≤ es.length := by omega
    go_enter Try.func4, Try.ntmps4
    go_wp2
    go_region_with (go_at_call 7; refine (HFA.out _ ?_).mono ?_; exact (Below.refl _ _).drew; rintro e w1 ⟨v, names, up, rfl, hlat, hb1⟩; obtain ⟨A1, A2, c1, c2, rfl, hrn, -⟩ := (hlat w1 ⟨Nat.le_refl _, fun _ _ _ => rfl⟩).form)
    all_goals
      have hl1 := hlat w1 ⟨Nat.le_refl _, fun _ _ _ => rfl⟩
      have hbw : Below w.heap.size w w1 := ((Below.refl w.heap.size w).drew).trans hb1
      have hcap := (hl1.caps _ _ _ _ _ _ rfl).1
      have hed := fun W (hW : Below w.heap.size w W) => edges_cut ((HE.out.below hW).more hW.size) h66' hd (Nat.le_refl _)
      have hof := of_any c1 w1 hrn (hed w1 hbw) hl1.short hl1.few.1
      have hro := fun W (hW : Below w1.heap.size w1 W) => rOf_any c1 W ((hrn.below hW).more hW.size) (hed W (hbw.trans (hW.mono hbw.size))) hl1.short hcap hl1.few.1
      have HOF := Lib.hid hof
      have HRO := Lib.hid hro
      have HBW := Lib.hid hbw
      clear hof hro hbw hed hl1 hlat hb1 hrn
      go_wp2_with (fail)
      refine HOF.out.mono ?_
      rintro e w2 ⟨v2, rfl, hl2, hb2⟩
      obtain ⟨A3, m3, c3, A4, m4, c4, rfl⟩ := lat_two hl2
      have hb3 : Below w1.heap.size w1 (w2.alloc (.cells #[.slice A3 m3 c3, .slice A4 m4 c4] 25)) := hb2.alloc hb2.size _
      have hl3 := stable_lat _ _ _ _ _ hl2 ((Below.refl _ w2).alloc (Nat.le_refl _) (.cells #[.slice A3 m3 c3, .slice A4 m4 c4] 25))
      have HL3 := Lib.hid hl3
      have HR3 := Lib.hid (HRO.out _ hb3)
      have P3 := Lib.hid (Blk.new w2 25 #[.slice A3 m3 c3, .slice A4 m4 c4])
      have HB3 := Lib.hid (HBW.out.trans (hb3.mono HBW.out.size))
      clear hl2 hl3 hb2 hb3 HOF HRO HBW
      go_wp2_with (fail)
      refine HR3.out.mono ?_
      rintro e w4 ⟨q0, q1, rfl, hl4, hb4⟩
      obtain ⟨A5, m5, c5, A6, m6, c6, he⟩ := lat_two hl4
      injection he with he
      injection he with he
      injection he with he1 he
      injection he with he2 he
      subst he1 he2
      have hb5 := (Below.refl w4.heap.size w4).alloc (Nat.le_refl _) (.cells #[.slice A5 m5 c5, .slice A6 m6 c6, .int .i64 (ofN names (es.take 66) : Nat)] 31)
      have hst : Ofs w (.slice A5 m5 c5) (.slice A6 m6 c6) (ofN names (es.take 66)) (.slice A3 m3 c3) (.slice A4 m4 c4) (ofNames names (es.take 66)) (ofUp names (es.take 66)) w2.heap.size w4.heap.size (w4.alloc (.cells #[.slice A5 m5 c5, .slice A6 m6 c6, .int .i64 (ofN names (es.take 66) : Nat)] 31)) :=
        ⟨(P3.out.below hb4 P3.out.lt).alloc _, Blk.new _ _ _, stable_lat _ _ _ _ _ (stable_lat _ _ _ _ _ HL3.out hb4) hb5, stable_lat _ _ _ _ _ hl4 hb5, (HB3.out.trans (hb4.mono HB3.out.size)).trans (hb5.mono (HB3.out.trans (hb4.mono HB3.out.size)).size)⟩
      have HST := Lib.hid hst
      clear hl4 hb4 hb5 he HL3 P3 HB3 HR3 hst
      go_wp2_with (fail)
      refine (alive2_any _).mono ?_
      rintro e w6 ⟨rfl, hb6⟩
      have h6 := ofs_stable _ _ _ _ _ _ _ _ _ _ _ _ HST.out hb6
      have c90 := h6.l.cell 0
      have c91 := h6.l.cell 1
      have ct0 := h6.t.cell 0
      have ct1 := h6.t.cell 1
      have ct2 := h6.t.cell 2
      have hsm := rSame_any w6 h6.hl h6.ht
      rw [show sameLat (ofNames names (es.take 66)) (ofUp names (es.take 66)) (ofNames names (es.take 66)) (ofUp names (es.take 66)) = true by simp [sameLat]] at hsm
      have HSM := Lib.hid hsm
      have H6 := Lib.hid h6
      clear hsm h6 hb6 HST
      go_wp2_with (fail)
      refine HSM.out.mono ?_
      rintro e w7 ⟨rfl, hb7⟩
      go_wp2
      go_ret
      exact ⟨rfl, (ofs_stable _ _ _ _ _ _ _ _ _ _ _ _ H6.out hb7).below⟩
  · have hp66 : ((66 : Int) < es.length) = False := eq_false h66
    have h66' : es.length ≤ es.length := Nat.le_refl _
    have h67 : es.length ≤ 66 := by omega
    clear h66
    go_enter Try.func4, Try.ntmps4
    go_wp2
    go_region_with (go_at_call 7; refine (HFA.out _ ?_).mono ?_; exact (Below.refl _ _).drew; rintro e w1 ⟨v, names, up, rfl, hlat, hb1⟩; obtain ⟨A1, A2, c1, c2, rfl, hrn, -⟩ := (hlat w1 ⟨Nat.le_refl _, fun _ _ _ => rfl⟩).form)
    all_goals
      have hl1 := hlat w1 ⟨Nat.le_refl _, fun _ _ _ => rfl⟩
      have hbw : Below w.heap.size w w1 := ((Below.refl w.heap.size w).drew).trans hb1
      have hcap := (hl1.caps _ _ _ _ _ _ rfl).1
      have hed : ∀ W, Below w.heap.size w W → IsEdges W W.heap.size (.slice D es.length d) es := fun W hW => by
        have := edges_cut ((HE.out.below hW).more hW.size) h66' hd h67
        rwa [List.take_length] at this
      have hof := of_any c1 w1 hrn (hed w1 hbw) hl1.short hl1.few.1
      have hro := fun W (hW : Below w1.heap.size w1 W) => rOf_any c1 W ((hrn.below hW).more hW.size) (hed W (hbw.trans (hW.mono hbw.size))) hl1.short hcap hl1.few.1
      have HOF := Lib.hid hof
      have HRO := Lib.hid hro
      have HBW := Lib.hid hbw
      clear hof hro hbw hed hl1 hlat hb1 hrn
      go_wp2_with (fail)
      refine HOF.out.mono ?_
      rintro e w2 ⟨v2, rfl, hl2, hb2⟩
      obtain ⟨A3, m3, c3, A4, m4, c4, rfl⟩ := lat_two hl2
      have hb3 : Below w1.heap.size w1 (w2.alloc (.cells #[.slice A3 m3 c3, .slice A4 m4 c4] 25)) := hb2.alloc hb2.size _
      have hl3 := stable_lat _ _ _ _ _ hl2 ((Below.refl _ w2).alloc (Nat.le_refl _) (.cells #[.slice A3 m3 c3, .slice A4 m4 c4] 25))
      have HL3 := Lib.hid hl3
      have HR3 := Lib.hid (HRO.out _ hb3)
      have P3 := Lib.hid (Blk.new w2 25 #[.slice A3 m3 c3, .slice A4 m4 c4])
      have HB3 := Lib.hid (HBW.out.trans (hb3.mono HBW.out.size))
      clear hl2 hl3 hb2 hb3 HOF HRO HBW
      go_wp2_with (fail)
      refine HR3.out.mono ?_
      rintro e w4 ⟨q0, q1, rfl, hl4, hb4⟩
      obtain ⟨A5, m5, c5, A6, m6, c6, he⟩ := lat_two hl4
      injection he with he
      injection he with he
      injection he with he1 he
      injection he with he2 he
      subst he1 he2
      have hb5 := (Below.refl w4.heap.size w4).alloc (Nat.le_refl _) (.cells #[.slice A5 m5 c5, .slice A6 m6 c6, .int .i64 (ofN names es : Nat)] 31)
      have hst : Ofs w (.slice A5 m5 c5) (.slice A6 m6 c6) (ofN names es) (.slice A3 m3 c3) (.slice A4 m4 c4) (ofNames names es) (ofUp names es) w2.heap.size w4.heap.size (w4.alloc (.cells #[.slice A5 m5 c5, .slice A6 m6 c6, .int .i64 (ofN names es : Nat)] 31)) :=
        ⟨(P3.out.below hb4 P3.out.lt).alloc _, Blk.new _ _ _, stable_lat _ _ _ _ _ (stable_lat _ _ _ _ _ HL3.out hb4) hb5, stable_lat _ _ _ _ _ hl4 hb5, (HB3.out.trans (hb4.mono HB3.out.size)).trans (hb5.mono (HB3.out.trans (hb4.mono HB3.out.size)).size)⟩
      have HST := Lib.hid hst
      clear hl4 hb4 hb5 he HL3 P3 HB3 HR3 hst
      go_wp2_with (fail)
      refine (alive2_any _).mono ?_
      rintro e w6 ⟨rfl, hb6⟩
      have h6 := ofs_stable _ _ _ _ _ _ _ _ _ _ _ _ HST.out hb6
      have c90 := h6.l.cell 0
      have c91 := h6.l.cell 1
      have ct0 := h6.t.cell 0
      have ct1 := h6.t.cell 1
      have ct2 := h6.t.cell 2
      have hsm := rSame_any w6 h6.hl h6.ht
      rw [show sameLat (ofNames names es) (ofUp names es) (ofNames names es) (ofUp names es) = true by simp [sameLat]] at hsm
      have HSM := Lib.hid hsm
      have H6 := Lib.hid h6
      clear hsm h6 hb6 HST
      go_wp2_with (fail)
      refine HSM.out.mono ?_
      rintro e w7 ⟨rfl, hb7⟩
      go_wp2
      go_ret
      exact ⟨rfl, (ofs_stable _ _ _ _ _ _ _ _ _ _ _ _ H6.out hb7).below⟩
end Go.Proofs.Ytaingkjleelbfaa
