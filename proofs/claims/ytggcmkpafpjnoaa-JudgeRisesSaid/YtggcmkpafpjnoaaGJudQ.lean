/- The walk of the law JudgeRises. -/
import Derived.Test.YtggcmkpafpjnoaaGJudK
import Derived.Test.YtggcmkpafpjnoaaGClI
import Derived.Test.YtggcmkpafpjnoaaGRulB
namespace Go.Proofs.Ytggcmkpafpjnoaa
set_option maxRecDepth 100000
open Go.RowKit Go.Shelf Go.Sort

theorem pick4 (kk : Int) : ∃ K : Nat, K < 4 ∧ (wrap64 (kk.tmod 4 + 4)).tmod 4 = (K : Int) := by
  have h1 : -4 < kk.tmod 4 := Int.lt_tmod_of_pos _ (by decide)
  have h2 : kk.tmod 4 < 4 := Int.tmod_lt_of_pos _ (by decide)
  have h3 : wrap64 (kk.tmod 4 + 4) = kk.tmod 4 + 4 := by unfold wrap64; omega
  rw [h3]
  have h4 : (kk.tmod 4 + 4).tmod 4 < 4 := Int.tmod_lt_of_pos _ (by decide)
  have h5 : 0 ≤ (kk.tmod 4 + 4).tmod 4 := Int.tmod_nonneg _ (by omega)
  exact ⟨((kk.tmod 4 + 4).tmod 4).toNat, by omega, by omega⟩
theorem uses_bit (r : List Int) {K : Nat} (hK : K < 4) : Rl.usesOf r / 2 ^ K % 2 = if (8 + (K : Int)) ∈ r then 1 else 0 := by
  unfold Rl.usesOf
  have e8 : (8 : Int) + ((0 : Nat) : Int) = 8 := by decide
  have e9 : (8 : Int) + ((1 : Nat) : Int) = 9 := by decide
  have e10 : (8 : Int) + ((2 : Nat) : Int) = 10 := by decide
  have e11 : (8 : Int) + ((3 : Nat) : Int) = 11 := by decide
  rcases (by omega : K = 0 ∨ K = 1 ∨ K = 2 ∨ K = 3) with rfl | rfl | rfl | rfl
  · rw [e8]; split <;> split <;> split <;> split <;> first | rfl | omega
  · rw [e9]; split <;> split <;> split <;> split <;> first | rfl | omega
  · rw [e10]; split <;> split <;> split <;> split <;> first | rfl | omega
  · rw [e11]; split <;> split <;> split <;> split <;> first | rfl | omega
/-- The four labels, one of them another one. -/
def swap (ll : List Int) (K : Nat) (b : Int) : List Int := if ll.length = 4 then ll.set K b else ll
theorem swap_len (ll : List Int) (K : Nat) (b : Int) : (swap ll K b).length = ll.length := by
  unfold swap
  split
  · rw [List.length_set]
  · rfl
theorem why_len {names : List ByteArray} {up : List Nat} {rr ll : List Int} {s : Bool} (h : jWhy names up rr ll s = 0) : ll.length = 4 := (of_decide_eq_true (jWhy_zero h).2.2).1
theorem lab_other {ll : List Int} {K j : Nat} {b : Int} (hj : j ≠ K) : ((swap ll K b).getD j 0).toNat = (ll.getD j 0).toNat := by
  unfold swap
  split
  · rw [List.getD_eq_getElem?_getD, List.getElem?_set_ne (fun e => hj e.symm), ← List.getD_eq_getElem?_getD]
  · rfl
/-- A rule that names a label not comes to the same whatever that is. -/
theorem val_unnamed {names : List ByteArray} {up : List Nat} {rr ll : List Int} {K : Nat} {b : Int} {s : Bool} (h : jWhy names up rr ll s = 0) (hn : (8 + (K : Int)) ∉ rr) : Jg.val (jops up (swap ll K b)) rr = Jg.val (jops up ll) rr := by
  obtain ⟨_, h2, _⟩ := jWhy_zero h
  obtain ⟨t, ht, hp, -⟩ := Sh.right_tree h2
  subst hp
  rw [Jg.val_tree ht, Jg.val_tree ht]
  exact Jg.ev_unnamed (o := jops up ll) (o' := jops up (swap ll K b)) (k := K) rfl rfl rfl rfl rfl (fun j hj => lab_other hj) t s ht hn
theorem ups_of {names : List ByteArray} {up : List Nat} (hz : checkN names up = 0) (labs : List Int) : (jops up labs).Up up.length := by
  have hL := latt_of hz
  have hj : ∀ a b, a < up.length → b < up.length → ∃ c, (jops up labs).jn a b = c ∧ c < up.length ∧ Lat.fl up a c = true ∧ Lat.fl up b c = true ∧ ∀ d, d < up.length → Lat.fl up a d = true → Lat.fl up b d = true → Lat.fl up c d = true := fun a b ha hb => by
    obtain ⟨c, hc, hcl, h1, h2, h3⟩ := hL.join_spec ha hb
    have h4 := hL.rJoin_eq ha hb
    exact ⟨c, by show Lat.leastN up (Lat.joinS up a b) = c; omega, hcl, h1, h2, h3⟩
  have hm : ∀ a b, a < up.length → b < up.length → ∃ c, (jops up labs).mt a b = c ∧ c < up.length ∧ Lat.fl up c a = true ∧ Lat.fl up c b = true ∧ ∀ d, d < up.length → Lat.fl up d a = true → Lat.fl up d b = true → Lat.fl up d c = true := fun a b ha hb => by
    obtain ⟨c, hc, hcl, h1, h2, h3⟩ := hL.meet_spec ha hb
    have h4 := hL.rMeet_eq ha hb
    exact ⟨c, by show Lat.leastN (Lat.turned up) (Lat.joinS (Lat.turned up) a b) = c; omega, hcl, h1, h2, h3⟩
  refine ⟨fun a ha => Lat.ord_refl hL.ord ha, fun a b c ha hb hc h1 h2 => Lat.ord_trans hL.ord ha hb h1 h2, fun a b ha hb => ?_, fun a b ha hb => ?_, fun a b c ha hb hc h1 h2 => ?_, fun a b ha hb => ?_, fun a b ha hb => ?_, fun a b c ha hb hc h1 h2 => ?_⟩
  · obtain ⟨c, e, _, h, _⟩ := hj a b ha hb; rw [e]; exact h
  · obtain ⟨c, e, _, _, h, _⟩ := hj a b ha hb; rw [e]; exact h
  · obtain ⟨d, e, _, _, _, h⟩ := hj a b ha hb; rw [e]; exact h c hc h1 h2
  · obtain ⟨c, e, _, h, _⟩ := hm a b ha hb; rw [e]; exact h
  · obtain ⟨c, e, _, _, h, _⟩ := hm a b ha hb; rw [e]; exact h
  · obtain ⟨d, e, _, _, _, h⟩ := hm a b ha hb; rw [e]; exact h c hc h1 h2
/-- What a label comes to with a higher label is not lower. -/
theorem val_rises {names : List ByteArray} {up : List Nat} {rr ll : List Int} {K : Nat} {b : Int} (hK : K < 4) (h : jWhy names up rr ll true = 0) (h' : jWhy names up rr (swap ll K b) true = 0) (hf : Lat.fl up (ll.getD K 0).toNat b.toNat = true) :
    Lat.fl up (Jg.A (Jg.val (jops up ll) rr)) (Jg.A (Jg.val (jops up (swap ll K b)) rr)) = true := by
  obtain ⟨h1, h2, h3⟩ := jWhy_zero h
  obtain ⟨_, _, h4⟩ := jWhy_zero h'
  obtain ⟨t, ht, hp, -⟩ := Sh.right_tree h2
  subst hp
  rw [Jg.val_tree ht, Jg.val_tree ht]
  have f1 := fine_of h1 h3
  have f2 := fine_of h1 h4
  have hu := ups_of h1 ll
  refine Jg.ev_rises (o := jops up ll) (o' := jops up (swap ll K b)) f1 f2 hu rfl rfl rfl rfl (fun j hj => ?_) t ht
  by_cases e : j = K
  · subst e
    have h4' := (of_decide_eq_true h3).1
    show Lat.fl up ((ll.getD j 0).toNat) (((swap ll j b).getD j 0).toNat) = true
    have : (swap ll j b).getD j 0 = b := by
      unfold swap
      rw [if_pos h4', List.getD_eq_getElem?_getD, List.getElem?_set_self (by omega)]
      rfl
    rw [this]
    exact hf
  · show Lat.fl up ((ll.getD j 0).toNat) (((swap ll K b).getD j 0).toNat) = true
    rw [lab_other e]
    exact hu.refl _ (f1.lab j hj)
theorem and_bit1 : ∀ x : Nat, x < 16 → bits BinOp.and IntKind.u32 (x : Int) 1 = ((x % 2 : Nat) : Int) := by decide +kernel
theorem bit_of {U : Nat} (K : Nat) (hU : U < 16) : bits BinOp.and IntKind.u32 ((U : Int) / 2 ^ K) 1 = ((U / 2 ^ K % 2 : Nat) : Int) := by
  have h : (U : Int) / 2 ^ K = ((U / 2 ^ K : Nat) : Int) := by simp
  rw [h]
  exact and_bit1 _ (Nat.lt_of_le_of_lt (Nat.div_le_self _ _) hU)
theorem why_not2 {names : List ByteArray} {up : List Nat} {r labs : List Int} (hr : jWhy names up r labs true = 0) : jWhy names up r labs false ≠ 0 := fun h => by
  obtain ⟨_, h1, _⟩ := jWhy_zero h
  obtain ⟨_, h2, _⟩ := jWhy_zero hr
  obtain ⟨t, ht, hp, -⟩ := Sh.right_tree h1
  obtain ⟨t', ht', hp', -⟩ := Sh.right_tree h2
  have e := Sh.post_inj ht ht' (hp.trans hp'.symm)
  subst e
  have s1 := Jg.ev_sort (o := jops up labs) t _ ht
  have s2 := Jg.ev_sort (o := jops up labs) t _ ht'
  rw [s1] at s2
  cases s2
theorem val_l2 {names : List ByteArray} {up : List Nat} {r labs : List Int} (hr : jWhy names up r labs true = 0) : ∃ x, Jg.val (jops up labs) r = .l x ∧ x < up.length := by
  obtain ⟨h1, h2, h3⟩ := jWhy_zero hr
  obtain ⟨t, ht, hp, -⟩ := Sh.right_tree h2
  subst hp
  rw [Jg.val_tree ht]
  have g := Jg.ev_good (fine_of h1 h3) t _ ht
  have h := Jg.ev_sort (o := jops up labs) t _ ht
  cases e : Jg.ev (jops up labs) t with
  | l x => rw [e] at g; exact ⟨x, rfl, g⟩
  | c x => rw [e] at h; cases h
/-- The law's box, and the other labels. -/
structure OneO (w : World) (A1 : Option Addr) (k1 c1 : Nat) (A2 : Option Addr) (k2 c2 : Nat) (names : List ByteArray) (up : List Nat) (Ao : Option Addr) (oo : List Int) (W : World) : Prop where
  one : One w (.slice A1 k1 c1) (.slice A2 k2 c2) names up W
  row : Row W W.heap.size Ao (ints oo)
theorem OneO.next {w W W' : World} {A1 A2 Ao : Option Addr} {k1 c1 k2 c2 : Nat} {names : List ByteArray} {up : List Nat} {oo : List Int} (h : OneO w A1 k1 c1 A2 k2 c2 names up Ao oo W) (hb : Below W.heap.size W W') : OneO w A1 k1 c1 A2 k2 c2 names up Ao oo W' :=
  ⟨one_stable _ _ _ _ _ _ _ h.one hb, (h.row.below hb).more hb.size⟩
/-- A row of the call's own, one of its numbers written over. -/
theorem own_swap {W : World} {base cap g K : Nat} {ll : List Int} {b : Int} (h : W.ownsRow base 3 1 (.slice (some ⟨g, 0, none⟩) ll.length cap) ll.length (ints ll)) (h4 : ll.length = 4) (hK : K < 4) : (∃ u, W.cell? ⟨g, K, none⟩ = some u) ∧ W.frozen? ⟨g, K, none⟩ = false ∧ Row (W.setCell ⟨g, K, none⟩ (.int .i64 b)) (W.setCell ⟨g, K, none⟩ (.int .i64 b)).heap.size (some ⟨g, 0, none⟩) (ints (swap ll K b)) := by
  obtain ⟨h1, ⟨he, h0⟩ | ⟨g', cap', cur, he, hb, hh, hkc, hcm, hcs, ht⟩⟩ := h
  · omega
  · injection he with e1 e2 e3
    injection e1 with e1
    injection e1 with e1
    subst e1 e3
    have hk : Blk W g 3 cur := hh
    have hkk := hk.set_ K (.int .i64 b)
    have hsz : K < cur.size := by omega
    refine ⟨⟨cur[K], by rw [hk.cell]; exact Array.getElem?_eq_getElem hsz⟩, hk.frozen K, fun _ => ⟨⟨g, 0, none⟩, rfl, hkk.lt, fun j u hj => ?_⟩⟩
    have ea : (⟨g, 0, none⟩ : Addr).add j = ⟨g, j, none⟩ := by unfold Addr.add; split <;> simp_all
    rw [ea, hkk.cell]
    unfold swap at hj
    rw [if_pos h4] at hj
    have hj4 : j < 4 := by have := (List.getElem?_eq_some_iff.1 hj).1; simp [ints] at this; omega
    by_cases e : j = K
    · subst e
      rw [Array.getElem?_setIfInBounds_self_of_lt hsz]
      unfold ints at hj
      rw [List.getElem?_map, List.getElem?_set_self (by omega)] at hj
      exact hj
    · rw [Array.getElem?_setIfInBounds_ne (fun e2 => e e2.symm)]
      unfold ints at hj
      rw [List.getElem?_map, List.getElem?_set_ne (fun e2 => e e2.symm), ← List.getElem?_map] at hj
      have h2 : (ints ll)[j]? = some u := hj
      rw [← ht, List.getElem?_take_of_lt (by omega)] at h2
      simpa using h2
set_option maxHeartbeats 64000000 in
theorem rises_any {A A' R L : Option Addr} {n1 : List ByteArray} {u1 : List Nat} {r labs : List Int} (c c' cr cl : Nat) (kk by_ : Int) (w : World) (hN : Row w w.heap.size A (strs n1)) (hU : Ups w w.heap.size A' u1) (hR : Row w w.heap.size R (ints r)) (hL : Row w w.heap.size L (ints labs)) (hc : n1.length ≤ c) (hc' : u1.length ≤ c') (hcr : r.length ≤ cr) (hcl : labs.length ≤ cl) (hm : c ≤ maxLen) (hm' : c' ≤ maxLen) (hmr : cr ≤ maxLen) (hml : cl ≤ maxLen) (hs : ∀ s ∈ n1, s.size ≤ maxLen) :
    Calls Try.prog 5 #[.agg #[.slice A n1.length c, .slice A' u1.length c'], .slice R r.length cr, .slice L labs.length cl, .int .i64 kk, .int .i64 by_] w fun e w' => e = .returned (.bool true) ∧ Below w.heap.size w w' := by
  have hfa := fun W (hW : Below w.heap.size w W) => few_any w.heap.size c c' W hW.size (hN.below hW) (hU.below hW) hc hc' hm hm' hs
  have hbk := Blk.new w 25 #[.slice A n1.length c, .slice A' u1.length c']
  have hb0 : Below w.heap.size w (w.alloc (.cells #[.slice A n1.length c, .slice A' u1.length c'] 25)).drew := ((Below.refl _ w).alloc (Nat.le_refl _) _).drew
  have hrr := row_cut hR 45
  obtain ⟨N, hNe⟩ : ∃ N, (r.take 45).length = N := ⟨_, rfl⟩
  have hN1 : min (r.length : Int) 45 = (N : Int) := by rw [← hNe, List.length_take]; omega
  have hNc : (N ≤ cr) = True := eq_true (by rw [← hNe, List.length_take]; omega)
  have hN6 : N ≤ 45 := by rw [← hNe, List.length_take]; omega
  have hll := row_cut hL 4
  obtain ⟨M, hMe⟩ : ∃ N, (labs.take 4).length = N := ⟨_, rfl⟩
  have hM1 : min (labs.length : Int) 4 = (M : Int) := by rw [← hMe, List.length_take]; omega
  have hMc : (M ≤ cl) = True := eq_true (by rw [← hMe, List.length_take]; omega)
  have hM6 : M ≤ 4 := by rw [← hMe, List.length_take]; omega
  generalize r.take 45 = rr at *
  generalize labs.take 4 = ll at *
  unfold maxLen at hmr hml
  have hrb : (r.length : Int) ≤ 9223372036854775807 := by omega
  have hlb : (labs.length : Int) ≤ 9223372036854775807 := by omega
  have HFA := Lib.hid hfa
  have HBK := Lib.hid hbk
  have HB0 := Lib.hid hb0
  have HRR := Lib.hid hrr
  have HLL := Lib.hid hll
  have HN := Lib.hid hNe
  have HM := Lib.hid hMe
  clear hfa hbk hb0 hrr hll hN hU hR hL hc hc' hcr hcl hm hm' hmr hml hs hNe hMe
  generalize r.length = rn at *
  generalize labs.length = ln at *
  go_enter Try.func5, Try.ntmps5
  go_wp2
  refine Free.region_seq [1, 12, 13, 14] [0] 1 (fun W' => W'.cell? ⟨w.heap.size, 0, none⟩ = some (.slice A n1.length c) ∧ W'.cell? ⟨w.heap.size, 1, none⟩ = some (.slice A' u1.length c')) (by kernel_rfl) (by kernel_rfl) (by kernel_rfl) (by kernel_rfl) (⟨HBK.out.cell 0, HBK.out.cell 1⟩) (fun ops hops => ?_)
  clear hops
  iterate 1
    refine Free.Seq.quiet (v := ?_) (a' := ?_) rfl rfl (fun W' hW' => ?_) ?_ ?_
    rotate_left 2
    · first | obtain ⟨s0, s1⟩ := hW' rfl | skip
      go_simp
      try with_reducible rfl
    · simp only [Act.put, List.setIfInBounds_toArray, List.set_cons_zero, List.set_cons_succ]
      try with_reducible rfl
  refine Free.Seq.loud_ rfl (.inl rfl) (fun K hK => ?_)
  go_simp
  refine (HFA.out _ HB0.out).mono ?_
  rintro e w1 ⟨v, names, up, rfl, hlw, hb1⟩
  have hfw : FewW w w1 v := ⟨names, up, fun W2 k => hlw W2 (k.mono_ (by simp))⟩
  obtain ⟨A1, k1, c1, A2, k2, c2, rfl⟩ := hfw.two
  dsimp only
  have hk1 : Blk w1 w.heap.size 25 #[.slice A n1.length c, .slice A' u1.length c'] := HBK.out.drew.below hb1 HBK.out.drew.lt
  have hc0 := hk1.cell 0
  have hc1 := hk1.cell 1
  have hf0 := hk1.frozen 0
  have hf1 := hk1.frozen 1
  have HB1 := Lib.hid (HB0.out.trans (hb1.mono HB0.out.size))
  refine hK.out _ _ rfl (fun h => absurd h (by decide)) ?_
  clear hK K hb1
  iterate 10
    refine Free.Seq.quiet (v := ?_) (a' := ?_) rfl rfl (fun W' hW' => ?_) ?_ ?_
    rotate_left 2
    · skip
      go_simp
      try with_reducible rfl
    · simp only [Act.put, List.setIfInBounds_toArray, List.set_cons_zero, List.set_cons_succ]
      try with_reducible rfl
  refine Free.Seq.loud_ rfl (.inl rfl) (fun K hK => ?_)
  go_simp
  refine hK.out _ _ rfl (fun h => absurd h (by decide)) ?_
  clear hK K
  refine Free.Seq.loud_ rfl (.inl rfl) (fun K hK => ?_)
  go_simp
  refine hK.out _ _ rfl (fun h => absurd h (by decide)) ?_
  clear hK K
  refine Free.Seq.loud_ rfl (.inl rfl) (fun K hK => ?_)
  go_simp
  refine hK.out _ _ rfl (fun h => absurd h (by decide)) ?_
  clear hK K
  refine Free.Seq.nil_ ?_
  obtain ⟨W2, hW2⟩ : ∃ W2, (w1.setCell ⟨w.heap.size, 0, none⟩ (.slice A1 k1 c1)).setCell ⟨w.heap.size, 1, none⟩ (.slice A2 k2 c2) = W2 := ⟨_, rfl⟩
  have hone : One w (.slice A1 k1 c1) (.slice A2 k2 c2) names up W2 := by
    rw [← hW2]
    refine ⟨(hk1.set_ 0 _).set_ 1 _, hlw _ ?_, (HB1.out.setCell (p := ⟨w.heap.size, 0, none⟩) (Nat.le_refl _) _).setCell (p := ⟨w.heap.size, 1, none⟩) (Nat.le_refl _) _⟩
    exact ((Keeps.set_ (p := ⟨w.heap.size, 0, none⟩) (Nat.le_refl _) (by simp)).trans_ (Keeps.set_ (p := ⟨w.heap.size, 1, none⟩) (Nat.le_refl _) (by simp)))
  rw [hW2]
  have HONE := Lib.hid hone
  have hcln := cloneI_any L cl ll W2 (one_row HLL.out hone) (by rw [HM.out]; omega)
  unfold Cloned at hcln
  rw [HM.out] at hcln
  have HCLN := Lib.hid hcln
  clear hW2 hlw hfw hk1 hc0 hc1 hf0 hf1 hone hcln
  obtain ⟨J, hJ4, hKe⟩ := pick4 kk
  have HK4 := Lib.hid hJ4
  go_upto_region 3 with (fail)
  clear hKe
  go_wp2_with (fail)
  refine HCLN.out.mono ?_
  rintro e w3 ⟨vo, rfl, hown, hb3⟩
  have HB3 := Lib.hid hb3
  have HOW := Lib.hid hown
  clear hb3 HCLN
  by_cases h4 : M = 4
  · subst h4
    have hown := HOW.out
    obtain ⟨g, co, rfl, hbg⟩ := own_addr hown (by omega)
    have hM := HM.out
    rw [← hM] at hown
    obtain ⟨⟨z, hz⟩, hfz, hro⟩ := own_swap (b := by_) hown (by omega) hJ4
    have hb5 := HB3.out.setCell (p := ⟨g, J, none⟩) hbg (.int .i64 by_)
    obtain ⟨W5, hW5⟩ : ∃ W5, w3.setCell ⟨g, J, none⟩ (.int .i64 by_) = W5 := ⟨_, rfl⟩
    rw [hW5] at hro hb5
    have HX5 : Hid (OneO w A1 k1 c1 A2 k2 c2 names up (some ⟨g, 0, none⟩) (swap ll J by_) W5) := Lib.hid ⟨one_stable _ _ _ _ _ _ _ HONE.out hb5, hro⟩
    have HX50 := HX5.out.one.a.cell 0
    have HX51 := HX5.out.one.a.cell 1
    have hcl := fun W (hW : OneO w A1 k1 c1 A2 k2 c2 names up (some ⟨g, 0, none⟩) (swap ll J by_) W) => cond_any (labs := ll) cr cl W hW.one.la (one_row HRR.out hW.one) (by rw [HN.out]; omega) (one_row HLL.out hW.one) (by rw [HM.out]; omega)
    have hco := fun W (hW : OneO w A1 k1 c1 A2 k2 c2 names up (some ⟨g, 0, none⟩) (swap ll J by_) W) => cond_any (labs := swap ll J by_) cr co W hW.one.la (one_row HRR.out hW.one) (by rw [HN.out]; omega) hW.row (by rw [swap_len, HM.out]; omega)
    have hll := fun W (hW : OneO w A1 k1 c1 A2 k2 c2 names up (some ⟨g, 0, none⟩) (swap ll J by_) W) => label_any (labs := ll) cr cl W hW.one.la (one_row HRR.out hW.one) (by rw [HN.out]; omega) (one_row HLL.out hW.one) (by rw [HM.out]; omega)
    have hlo := fun W (hW : OneO w A1 k1 c1 A2 k2 c2 names up (some ⟨g, 0, none⟩) (swap ll J by_) W) => label_any (labs := swap ll J by_) cr co W hW.one.la (one_row HRR.out hW.one) (by rw [HN.out]; omega) hW.row (by rw [swap_len, HM.out]; omega)
    obtain ⟨p, hp⟩ : ∃ p, jWhy names up rr ll false = p := ⟨_, rfl⟩
    obtain ⟨q, hq⟩ : ∃ p, jWhy names up rr (swap ll J by_) false = p := ⟨_, rfl⟩
    obtain ⟨u, hu⟩ : ∃ p, jWhy names up rr ll true = p := ⟨_, rfl⟩
    obtain ⟨v, hv⟩ : ∃ p, jWhy names up rr (swap ll J by_) true = p := ⟨_, rfl⟩
    rw [HN.out, HM.out, hp] at hcl
    rw [HN.out, swap_len, HM.out, hq] at hco
    rw [HN.out, HM.out, hu] at hll
    rw [HN.out, swap_len, HM.out, hv] at hlo
    have hbr : condV up rr ll p = if p = 0 then Jg.Is (Jg.val (jops up ll) rr) else false := rfl
    have hbs : condV up rr (swap ll J by_) q = if q = 0 then Jg.Is (Jg.val (jops up (swap ll J by_)) rr) else false := rfl
    have har : labelV up rr ll u = if u = 0 then Jg.A (Jg.val (jops up ll) rr) else 0 := rfl
    have has : labelV up rr (swap ll J by_) v = if v = 0 then Jg.A (Jg.val (jops up (swap ll J by_)) rr) else 0 := rfl
    generalize condV up rr ll p = b0 at *
    generalize condV up rr (swap ll J by_) q = b1 at *
    generalize labelV up rr ll u = a0 at *
    generalize labelV up rr (swap ll J by_) v = a1 at *
    have hus := fun W (hW : OneO w A1 k1 c1 A2 k2 c2 names up (some ⟨g, 0, none⟩) (swap ll J by_) W) (hmd : Rl.made rr = true) => uses_yes cr W (one_row HRR.out hW.one) (by rw [HN.out]; omega) hmd
    have hun := fun W (hW : OneO w A1 k1 c1 A2 k2 c2 names up (some ⟨g, 0, none⟩) (swap ll J by_) W) (hmd : Rl.made rr = false) => uses_no cr W (one_row HRR.out hW.one) (by rw [HN.out]; omega) hmd
    unfold UsesRes at hus hun
    rw [HN.out] at hus hun
    have HCL := Lib.hid hcl
    have HCO := Lib.hid hco
    have HLB := Lib.hid hll
    have HLO := Lib.hid hlo
    have HP := Lib.hid hp
    have HQ := Lib.hid hq
    have HU := Lib.hid hu
    have HV := Lib.hid hv
    have HBR := Lib.hid hbr
    have HBS := Lib.hid hbs
    have HAR := Lib.hid har
    have HAS := Lib.hid has
    clear hcl hco hll hlo hp hq hu hv hbr hbs har has
    clear hown hM hro hb5
    go_upto_region 6 with (fail)
    clear hW5 hz hfz
    by_cases hmd : Rl.made rr = true
    · have hus2 := fun W hW => hus W hW hmd
      rw [if_pos hmd, if_pos hmd] at hus2
      obtain ⟨U, hUe⟩ : ∃ U, Rl.usesOf rr = U := ⟨_, rfl⟩
      rw [hUe] at hus2
      have hU16 : U < 16 := by rw [← hUe]; exact Rl.usesOf_lt rr
      have hbit := bit_of J hU16
      have hbt := uses_bit rr hJ4
      rw [hUe] at hbt
      rw [hbt] at hbit
      have HBIT := Lib.hid hbit
      have HUS := Lib.hid hus2
      clear hus hus2 hun hUe hbt hbit hU16
      have hW5d := HX5.out
      clear hW5d
      by_cases huv : u = 0 ∧ v = 0
      · obtain ⟨rfl, rfl⟩ := huv
        have zp : p ≠ 0 := fun e => (why_not2 HU.out) (HP.out.trans e)
        have hp1 : ((p : Int) == 0) = false := zero_some zp
        have hp2 : ((p : Int) != 0) = true := by rw [bne_iff_ne]; omega
        have hz := (jWhy_zero HU.out).1
        have hok1 := (jWhy_zero HU.out).2.2
        have hok2 := (jWhy_zero HV.out).2.2
        obtain ⟨a, hva, hal⟩ := val_l2 HU.out
        obtain ⟨b, hvb, hbl⟩ := val_l2 HV.out
        have ha0 : a0 = a := by rw [HAR.out, if_pos rfl, hva]; rfl
        have ha1 : a1 = b := by rw [HAS.out, if_pos rfl, hvb]; rfl
        have hlen4 : ll.length = 4 := HM.out
        obtain ⟨x, hx⟩ : ∃ x, ll[J]? = some x := ⟨_, List.getElem?_eq_getElem (by omega)⟩
        have hxv : 0 ≤ x ∧ x < up.length := (of_decide_eq_true hok1).2 x (List.mem_of_getElem? hx)
        have hbv : 0 ≤ by_ ∧ by_ < up.length := (of_decide_eq_true hok2).2 by_ (List.mem_of_getElem? (i := J) (by unfold swap; rw [if_pos hlen4, List.getElem?_set_self (by omega)]))
        have hgx : ll.getD J 0 = x := by rw [List.getD_eq_getElem?_getD, hx]; rfl
        have hlab : labN names up x by_ = 0 := by unfold labN isLab; rw [if_pos hz, if_pos (by simp; omega)]
        have hfv : flowsR names up x by_ = Lat.fl up x.toNat by_.toNat := by unfold flowsR; rw [if_pos hlab]
        have hrise := fun h => val_rises (b := by_) hJ4 HU.out HV.out h
        rw [hgx, hva, hvb] at hrise
        have hrise : Lat.fl up x.toNat by_.toNat = true → Lat.fl up a b = true := hrise
        have hsame : (8 + (J : Int)) ∉ rr → b = a := fun hn => by
          have := val_unnamed (b := by_) HU.out hn
          rw [hva, hvb] at this
          injection this
        have hfl1 := fun W (hW : OneO w A1 k1 c1 A2 k2 c2 names up (some ⟨g, 0, none⟩) (swap ll J by_) W) => Flows_any x by_ W hW.one.la
        have hfl2 := fun W (hW : OneO w A1 k1 c1 A2 k2 c2 names up (some ⟨g, 0, none⟩) (swap ll J by_) W) => Flows_any a b W hW.one.la
        rw [hfv, hlab] at hfl1
        rw [flowsR_ok hz hal hbl, labN_ok hz hal hbl] at hfl2
        obtain ⟨f1, hf1⟩ : ∃ f, Lat.fl up x.toNat by_.toNat = f := ⟨_, rfl⟩
        obtain ⟨f2, hf2⟩ : ∃ f, Lat.fl up a b = f := ⟨_, rfl⟩
        rw [hf1] at hfl1 hrise
        rw [hf2] at hfl2 hrise
        obtain ⟨la, rfl, hlb, hlc⟩ := HLL.out (fun e => by have h := congrArg List.length e; rw [ints_length, hlen4] at h; cases h)
        have hlk := hlc J (.int .i64 x) (by unfold ints; rw [List.getElem?_map, hx]; rfl)
        have HLK := Lib.hid (fun W (hW : OneO w A1 k1 c1 A2 k2 c2 names up (some ⟨g, 0, none⟩) (swap ll J by_) W) => (hW.one.below.cell (by rw [add_block]; exact hlb)).trans hlk)
        have HFL1 := Lib.hid hfl1
        have HFL2 := Lib.hid hfl2
        have HRISE := Lib.hid hrise
        have HSAME := Lib.hid hsame
        subst ha0 ha1
        clear hz hok1 hok2 hva hal hvb hbl hx hxv hbv hgx hlab hfv hrise hsame hfl1 hfl2 hf1 hf2 hlc hlk HP HQ HU HV HBR HBS HAR HAS zp hlen4
        have hK3 : (J : Int) < 4 := by omega
        go_wp2_with (fail)
        refine (HUS.out W5 HX5.out).mono ?_
        rintro e w6 ⟨rfl, hbn⟩
        have HX6 := Lib.hid (HX5.out.next hbn)
        have HX60 := HX6.out.one.a.cell 0
        have HX61 := HX6.out.one.a.cell 1
        clear hbn HX5 HX50 HX51 HUS
        go_wp2_with (fail)
        refine (HCL.out w6 HX6.out).mono ?_
        rintro e w7 ⟨rfl, hbn⟩
        have HX7 := Lib.hid (HX6.out.next hbn)
        have HX70 := HX7.out.one.a.cell 0
        have HX71 := HX7.out.one.a.cell 1
        clear hbn HX6 HX60 HX61 HCL
        go_wp2_with (fail)
        refine (HCO.out w7 HX7.out).mono ?_
        rintro e w8 ⟨rfl, hbn⟩
        have HX8 := Lib.hid (HX7.out.next hbn)
        have HX80 := HX8.out.one.a.cell 0
        have HX81 := HX8.out.one.a.cell 1
        clear hbn HX7 HX70 HX71 HCO
        go_wp2_with (fail)
        refine (HLB.out w8 HX8.out).mono ?_
        rintro e w9 ⟨rfl, hbn⟩
        have HX9 := Lib.hid (HX8.out.next hbn)
        have HX90 := HX9.out.one.a.cell 0
        have HX91 := HX9.out.one.a.cell 1
        clear hbn HX8 HX80 HX81 HLB
        go_wp2_with (fail)
        refine (HLO.out w9 HX9.out).mono ?_
        rintro e w10 ⟨rfl, hbn⟩
        have HXA := Lib.hid (HX9.out.next hbn)
        have HXA0 := HXA.out.one.a.cell 0
        have HXA1 := HXA.out.one.a.cell 1
        clear hbn HX9 HX90 HX91 HLO
        go_wp2
        refine Free.region_seq [6] [0, 4] 6 (fun W' => W'.cell? ⟨w.heap.size, 0, none⟩ = some (.slice A1 k1 c1) ∧ W'.cell? ⟨w.heap.size, 1, none⟩ = some (.slice A2 k2 c2) ∧ W'.cell? (la.add J) = some (.int .i64 x)) (by kernel_rfl) (by kernel_rfl) (by kernel_rfl) (by kernel_rfl) (⟨HXA.out.one.a.cell 0, HXA.out.one.a.cell 1, HLK.out _ (HXA.out.next (Below.refl _ _).drew)⟩) (fun ops hops => ?_)
        clear hops
        iterate 6
          refine Free.Seq.quiet (v := ?_) (a' := ?_) rfl rfl (fun W' hW' => ?_) ?_ ?_
          rotate_left 2
          · first | obtain ⟨s0, s1, s2⟩ := hW' rfl | skip
            go_simp
            try with_reducible rfl
          · simp only [Act.put, List.setIfInBounds_toArray, List.set_cons_zero, List.set_cons_succ]
            try with_reducible rfl
        refine Free.Seq.loud_ rfl (.inl rfl) (fun K hK => ?_)
        go_simp
        refine (HFL1.out _ (HXA.out.next (Below.refl _ _).drew)).mono ?_
        rintro e w11 ⟨rfl, hbn⟩
        have HXB := Lib.hid ((HXA.out.next (Below.refl _ _).drew).next hbn)
        have HXB0 := HXB.out.one.a.cell 0
        have HXB1 := HXB.out.one.a.cell 1
        refine hK.out _ _ rfl (fun h => absurd h (by decide)) ?_
        clear hK K hbn HXA HXA0 HXA1
        iterate 5
          refine Free.Seq.quiet (v := ?_) (a' := ?_) rfl rfl (fun W' hW' => ?_) ?_ ?_
          rotate_left 2
          · skip
            go_simp
            try with_reducible rfl
          · simp only [Act.put, List.setIfInBounds_toArray, List.set_cons_zero, List.set_cons_succ]
            try with_reducible rfl
        refine Free.Seq.nil_ ?_
        go_wp2_with (fail)
        refine (HFL2.out w11 HXB.out).mono ?_
        rintro e w12 ⟨rfl, hbn⟩
        have HXC := Lib.hid (HXB.out.next hbn)
        have HXC0 := HXC.out.one.a.cell 0
        have HXC1 := HXC.out.one.a.cell 1
        clear hbn HXB HXB0 HXB1 HFL2
        have hff : (!f1 || f2) = true := by
          have := HRISE.out
          cases f1 <;> cases f2 <;> first | rfl | exact absurd (this rfl) (by decide)
        by_cases hin : (8 + (J : Int)) ∈ rr
        · have hb1 : bits BinOp.and IntKind.u32 ((U : Int) / 2 ^ J) 1 = 1 := HBIT.out.trans (by rw [if_pos hin]; rfl)
          clear hin HBIT
          cases f1 <;> cases f2
          all_goals first
            | (exact absurd hff (by decide))
            | (clear hff HRISE
               go_wp2_with (fail)
               refine (alive7_any w12).mono ?_
               rintro e w13 ⟨rfl, hbn⟩
               have HXZ := Lib.hid (HXC.out.next hbn)
               clear hbn
               go_wp2
               go_ret
               exact ⟨rfl, HXZ.out.one.below⟩)
        · have hb1 : bits BinOp.and IntKind.u32 ((U : Int) / 2 ^ J) 1 = 0 := HBIT.out.trans (by rw [if_neg hin]; rfl)
          have hab := HSAME.out hin
          subst hab
          clear hin HBIT
          cases f1 <;> cases f2
          all_goals first
            | (exact absurd hff (by decide))
            | (clear hff HRISE
               go_wp2_with (fail)
               refine (alive7_any w12).mono ?_
               rintro e w13 ⟨rfl, hbn⟩
               have HXZ := Lib.hid (HXC.out.next hbn)
               clear hbn
               go_wp2
               go_ret
               exact ⟨rfl, HXZ.out.one.below⟩)
      · go_wp2_with (fail)
        refine (HUS.out W5 HX5.out).mono ?_
        rintro e w6 ⟨rfl, hbn⟩
        have HX6 := Lib.hid (HX5.out.next hbn)
        have HX60 := HX6.out.one.a.cell 0
        have HX61 := HX6.out.one.a.cell 1
        clear hbn HX5 HX50 HX51 HUS
        go_wp2_with (fail)
        refine (HCL.out w6 HX6.out).mono ?_
        rintro e w7 ⟨rfl, hbn⟩
        have HX7 := Lib.hid (HX6.out.next hbn)
        have HX70 := HX7.out.one.a.cell 0
        have HX71 := HX7.out.one.a.cell 1
        clear hbn HX6 HX60 HX61 HCL
        go_wp2_with (fail)
        refine (HCO.out w7 HX7.out).mono ?_
        rintro e w8 ⟨rfl, hbn⟩
        have HX8 := Lib.hid (HX7.out.next hbn)
        have HX80 := HX8.out.one.a.cell 0
        have HX81 := HX8.out.one.a.cell 1
        clear hbn HX7 HX70 HX71 HCO
        by_cases hpq : p = 0 ∧ q = 0
        · obtain ⟨rfl, rfl⟩ := hpq
          by_cases hin : (8 + (J : Int)) ∈ rr
          · have hb1 : bits BinOp.and IntKind.u32 ((U : Int) / 2 ^ J) 1 = 1 := HBIT.out.trans (by rw [if_pos hin]; rfl)
            clear hin HBIT HP HQ HU HV HBR HBS HAR HAS
            by_cases zu : u = 0
            · subst zu
              have zv : v ≠ 0 := fun e => huv ⟨rfl, e⟩
              have hv1 : ((v : Int) == 0) = false := zero_some zv
              have hv2 : ((v : Int) != 0) = true := by rw [bne_iff_ne]; omega
              clear huv
              go_wp2_with (fail)
              refine (HLB.out w8 HX8.out).mono ?_
              rintro e w9 ⟨rfl, hbn⟩
              have HX9 := Lib.hid (HX8.out.next hbn)
              have HX90 := HX9.out.one.a.cell 0
              have HX91 := HX9.out.one.a.cell 1
              clear hbn HX8 HX80 HX81 HLB
              go_wp2_with (fail)
              refine (HLO.out w9 HX9.out).mono ?_
              rintro e w10 ⟨rfl, hbn⟩
              have HXA := Lib.hid (HX9.out.next hbn)
              have HXA0 := HXA.out.one.a.cell 0
              have HXA1 := HXA.out.one.a.cell 1
              clear hbn HX9 HX90 HX91 HLO
              go_wp2_with (fail)
              refine (alive7_any w10).mono ?_
              rintro e w11 ⟨rfl, hbn⟩
              have HXZ := Lib.hid (HXA.out.next hbn)
              clear hbn
              go_wp2
              go_ret
              exact ⟨rfl, HXZ.out.one.below⟩
            · have hu1 : ((u : Int) == 0) = false := zero_some zu
              have hu2 : ((u : Int) != 0) = true := by rw [bne_iff_ne]; omega
              clear huv
              go_wp2_with (fail)
              refine (HLB.out w8 HX8.out).mono ?_
              rintro e w9 ⟨rfl, hbn⟩
              have HX9 := Lib.hid (HX8.out.next hbn)
              have HX90 := HX9.out.one.a.cell 0
              have HX91 := HX9.out.one.a.cell 1
              clear hbn HX8 HX80 HX81 HLB
              go_wp2_with (fail)
              refine (HLO.out w9 HX9.out).mono ?_
              rintro e w10 ⟨rfl, hbn⟩
              have HXA := Lib.hid (HX9.out.next hbn)
              have HXA0 := HXA.out.one.a.cell 0
              have HXA1 := HXA.out.one.a.cell 1
              clear hbn HX9 HX90 HX91 HLO
              go_wp2_with (fail)
              refine (alive7_any w10).mono ?_
              rintro e w11 ⟨rfl, hbn⟩
              have HXZ := Lib.hid (HXA.out.next hbn)
              clear hbn
              go_wp2
              go_ret
              exact ⟨rfl, HXZ.out.one.below⟩
          · have hb1 : bits BinOp.and IntKind.u32 ((U : Int) / 2 ^ J) 1 = 0 := HBIT.out.trans (by rw [if_neg hin]; rfl)
            have hbb : b1 = b0 := by rw [HBR.out, HBS.out, if_pos rfl, if_pos rfl, val_unnamed HP.out hin]
            subst hbb
            have hbn : (b1 != b1) = false := by cases b1 <;> rfl
            clear hin HBIT HP HQ HU HV HBR HBS HAR HAS
            by_cases zu : u = 0
            · subst zu
              have zv : v ≠ 0 := fun e => huv ⟨rfl, e⟩
              have hv1 : ((v : Int) == 0) = false := zero_some zv
              have hv2 : ((v : Int) != 0) = true := by rw [bne_iff_ne]; omega
              clear huv
              go_wp2_with (fail)
              refine (HLB.out w8 HX8.out).mono ?_
              rintro e w9 ⟨rfl, hbn⟩
              have HX9 := Lib.hid (HX8.out.next hbn)
              have HX90 := HX9.out.one.a.cell 0
              have HX91 := HX9.out.one.a.cell 1
              clear hbn HX8 HX80 HX81 HLB
              go_wp2_with (fail)
              refine (HLO.out w9 HX9.out).mono ?_
              rintro e w10 ⟨rfl, hbn⟩
              have HXA := Lib.hid (HX9.out.next hbn)
              have HXA0 := HXA.out.one.a.cell 0
              have HXA1 := HXA.out.one.a.cell 1
              clear hbn HX9 HX90 HX91 HLO
              go_wp2_with (fail)
              refine (alive7_any w10).mono ?_
              rintro e w11 ⟨rfl, hbn⟩
              have HXZ := Lib.hid (HXA.out.next hbn)
              clear hbn
              go_wp2
              go_ret
              exact ⟨rfl, HXZ.out.one.below⟩
            · have hu1 : ((u : Int) == 0) = false := zero_some zu
              have hu2 : ((u : Int) != 0) = true := by rw [bne_iff_ne]; omega
              clear huv
              go_wp2_with (fail)
              refine (HLB.out w8 HX8.out).mono ?_
              rintro e w9 ⟨rfl, hbn⟩
              have HX9 := Lib.hid (HX8.out.next hbn)
              have HX90 := HX9.out.one.a.cell 0
              have HX91 := HX9.out.one.a.cell 1
              clear hbn HX8 HX80 HX81 HLB
              go_wp2_with (fail)
              refine (HLO.out w9 HX9.out).mono ?_
              rintro e w10 ⟨rfl, hbn⟩
              have HXA := Lib.hid (HX9.out.next hbn)
              have HXA0 := HXA.out.one.a.cell 0
              have HXA1 := HXA.out.one.a.cell 1
              clear hbn HX9 HX90 HX91 HLO
              go_wp2_with (fail)
              refine (alive7_any w10).mono ?_
              rintro e w11 ⟨rfl, hbn⟩
              have HXZ := Lib.hid (HXA.out.next hbn)
              clear hbn
              go_wp2
              go_ret
              exact ⟨rfl, HXZ.out.one.below⟩
        · by_cases zp : p = 0
          · subst zp
            have zq : q ≠ 0 := fun e => hpq ⟨rfl, e⟩
            have hq1 : ((q : Int) == 0) = false := zero_some zq
            have hq2 : ((q : Int) != 0) = true := by rw [bne_iff_ne]; omega
            clear hpq HBIT HP HQ HU HV HBR HBS HAR HAS
            by_cases zu : u = 0
            · subst zu
              have zv : v ≠ 0 := fun e => huv ⟨rfl, e⟩
              have hv1 : ((v : Int) == 0) = false := zero_some zv
              have hv2 : ((v : Int) != 0) = true := by rw [bne_iff_ne]; omega
              clear huv
              go_wp2_with (fail)
              refine (HLB.out w8 HX8.out).mono ?_
              rintro e w9 ⟨rfl, hbn⟩
              have HX9 := Lib.hid (HX8.out.next hbn)
              have HX90 := HX9.out.one.a.cell 0
              have HX91 := HX9.out.one.a.cell 1
              clear hbn HX8 HX80 HX81 HLB
              go_wp2_with (fail)
              refine (HLO.out w9 HX9.out).mono ?_
              rintro e w10 ⟨rfl, hbn⟩
              have HXA := Lib.hid (HX9.out.next hbn)
              have HXA0 := HXA.out.one.a.cell 0
              have HXA1 := HXA.out.one.a.cell 1
              clear hbn HX9 HX90 HX91 HLO
              go_wp2_with (fail)
              refine (alive7_any w10).mono ?_
              rintro e w11 ⟨rfl, hbn⟩
              have HXZ := Lib.hid (HXA.out.next hbn)
              clear hbn
              go_wp2
              go_ret
              exact ⟨rfl, HXZ.out.one.below⟩
            · have hu1 : ((u : Int) == 0) = false := zero_some zu
              have hu2 : ((u : Int) != 0) = true := by rw [bne_iff_ne]; omega
              clear huv
              go_wp2_with (fail)
              refine (HLB.out w8 HX8.out).mono ?_
              rintro e w9 ⟨rfl, hbn⟩
              have HX9 := Lib.hid (HX8.out.next hbn)
              have HX90 := HX9.out.one.a.cell 0
              have HX91 := HX9.out.one.a.cell 1
              clear hbn HX8 HX80 HX81 HLB
              go_wp2_with (fail)
              refine (HLO.out w9 HX9.out).mono ?_
              rintro e w10 ⟨rfl, hbn⟩
              have HXA := Lib.hid (HX9.out.next hbn)
              have HXA0 := HXA.out.one.a.cell 0
              have HXA1 := HXA.out.one.a.cell 1
              clear hbn HX9 HX90 HX91 HLO
              go_wp2_with (fail)
              refine (alive7_any w10).mono ?_
              rintro e w11 ⟨rfl, hbn⟩
              have HXZ := Lib.hid (HXA.out.next hbn)
              clear hbn
              go_wp2
              go_ret
              exact ⟨rfl, HXZ.out.one.below⟩
          · have hp1 : ((p : Int) == 0) = false := zero_some zp
            have hp2 : ((p : Int) != 0) = true := by rw [bne_iff_ne]; omega
            clear hpq HBIT HP HQ HU HV HBR HBS HAR HAS
            by_cases zu : u = 0
            · subst zu
              have zv : v ≠ 0 := fun e => huv ⟨rfl, e⟩
              have hv1 : ((v : Int) == 0) = false := zero_some zv
              have hv2 : ((v : Int) != 0) = true := by rw [bne_iff_ne]; omega
              clear huv
              go_wp2_with (fail)
              refine (HLB.out w8 HX8.out).mono ?_
              rintro e w9 ⟨rfl, hbn⟩
              have HX9 := Lib.hid (HX8.out.next hbn)
              have HX90 := HX9.out.one.a.cell 0
              have HX91 := HX9.out.one.a.cell 1
              clear hbn HX8 HX80 HX81 HLB
              go_wp2_with (fail)
              refine (HLO.out w9 HX9.out).mono ?_
              rintro e w10 ⟨rfl, hbn⟩
              have HXA := Lib.hid (HX9.out.next hbn)
              have HXA0 := HXA.out.one.a.cell 0
              have HXA1 := HXA.out.one.a.cell 1
              clear hbn HX9 HX90 HX91 HLO
              go_wp2_with (fail)
              refine (alive7_any w10).mono ?_
              rintro e w11 ⟨rfl, hbn⟩
              have HXZ := Lib.hid (HXA.out.next hbn)
              clear hbn
              go_wp2
              go_ret
              exact ⟨rfl, HXZ.out.one.below⟩
            · have hu1 : ((u : Int) == 0) = false := zero_some zu
              have hu2 : ((u : Int) != 0) = true := by rw [bne_iff_ne]; omega
              clear huv
              go_wp2_with (fail)
              refine (HLB.out w8 HX8.out).mono ?_
              rintro e w9 ⟨rfl, hbn⟩
              have HX9 := Lib.hid (HX8.out.next hbn)
              have HX90 := HX9.out.one.a.cell 0
              have HX91 := HX9.out.one.a.cell 1
              clear hbn HX8 HX80 HX81 HLB
              go_wp2_with (fail)
              refine (HLO.out w9 HX9.out).mono ?_
              rintro e w10 ⟨rfl, hbn⟩
              have HXA := Lib.hid (HX9.out.next hbn)
              have HXA0 := HXA.out.one.a.cell 0
              have HXA1 := HXA.out.one.a.cell 1
              clear hbn HX9 HX90 HX91 HLO
              go_wp2_with (fail)
              refine (alive7_any w10).mono ?_
              rintro e w11 ⟨rfl, hbn⟩
              have HXZ := Lib.hid (HXA.out.next hbn)
              clear hbn
              go_wp2
              go_ret
              exact ⟨rfl, HXZ.out.one.below⟩
    · have hmf : Rl.made rr = false := by simpa using hmd
      have hun2 := fun W hW => hun W hW hmf
      rw [if_neg (by rw [hmf]; decide), if_neg (by rw [hmf]; decide)] at hun2
      have HUN := Lib.hid hun2
      clear hus hun hun2 hmd hmf HP HQ HU HV HBR HBS HAR HAS
      go_wp2_with (fail)
      refine (HUN.out W5 HX5.out).mono ?_
      rintro e w6 ⟨rfl, hbn⟩
      have HX6 := Lib.hid (HX5.out.next hbn)
      have HX60 := HX6.out.one.a.cell 0
      have HX61 := HX6.out.one.a.cell 1
      clear hbn HX5 HX50 HX51 HUN
      go_wp2_with (fail)
      refine (alive7_any w6).mono ?_
      rintro e w7 ⟨rfl, hbn⟩
      have HXZ := Lib.hid (HX6.out.next hbn)
      clear hbn
      go_wp2
      go_ret
      exact ⟨rfl, HXZ.out.one.below⟩
  · have hown := HOW.out
    obtain ⟨Ao, co, rfl⟩ := ownT_slice hown
    have hM := HM.out
    have hsw : swap ll J by_ = ll := by unfold swap; rw [if_neg (by rw [hM]; exact h4)]
    have HX5 : Hid (OneO w A1 k1 c1 A2 k2 c2 names up Ao (swap ll J by_) w3) := Lib.hid ⟨one_stable _ _ _ _ _ _ _ HONE.out HB3.out, by rw [hsw]; exact (ownT_row hown).1⟩
    have HX50 := HX5.out.one.a.cell 0
    have HX51 := HX5.out.one.a.cell 1
    have hcl := fun W (hW : OneO w A1 k1 c1 A2 k2 c2 names up Ao (swap ll J by_) W) => cond_any (labs := ll) cr cl W hW.one.la (one_row HRR.out hW.one) (by rw [HN.out]; omega) (one_row HLL.out hW.one) (by rw [HM.out]; omega)
    have hco := fun W (hW : OneO w A1 k1 c1 A2 k2 c2 names up Ao (swap ll J by_) W) => cond_any (labs := swap ll J by_) cr co W hW.one.la (one_row HRR.out hW.one) (by rw [HN.out]; omega) hW.row (by rw [swap_len, HM.out]; omega)
    have hll := fun W (hW : OneO w A1 k1 c1 A2 k2 c2 names up Ao (swap ll J by_) W) => label_any (labs := ll) cr cl W hW.one.la (one_row HRR.out hW.one) (by rw [HN.out]; omega) (one_row HLL.out hW.one) (by rw [HM.out]; omega)
    have hlo := fun W (hW : OneO w A1 k1 c1 A2 k2 c2 names up Ao (swap ll J by_) W) => label_any (labs := swap ll J by_) cr co W hW.one.la (one_row HRR.out hW.one) (by rw [HN.out]; omega) hW.row (by rw [swap_len, HM.out]; omega)
    obtain ⟨p, hp⟩ : ∃ p, jWhy names up rr ll false = p := ⟨_, rfl⟩
    obtain ⟨q, hq⟩ : ∃ p, jWhy names up rr (swap ll J by_) false = p := ⟨_, rfl⟩
    obtain ⟨u, hu⟩ : ∃ p, jWhy names up rr ll true = p := ⟨_, rfl⟩
    obtain ⟨v, hv⟩ : ∃ p, jWhy names up rr (swap ll J by_) true = p := ⟨_, rfl⟩
    rw [HN.out, HM.out, hp] at hcl
    rw [HN.out, swap_len, HM.out, hq] at hco
    rw [HN.out, HM.out, hu] at hll
    rw [HN.out, swap_len, HM.out, hv] at hlo
    have hbr : condV up rr ll p = if p = 0 then Jg.Is (Jg.val (jops up ll) rr) else false := rfl
    have hbs : condV up rr (swap ll J by_) q = if q = 0 then Jg.Is (Jg.val (jops up (swap ll J by_)) rr) else false := rfl
    have har : labelV up rr ll u = if u = 0 then Jg.A (Jg.val (jops up ll) rr) else 0 := rfl
    have has : labelV up rr (swap ll J by_) v = if v = 0 then Jg.A (Jg.val (jops up (swap ll J by_)) rr) else 0 := rfl
    generalize condV up rr ll p = b0 at *
    generalize condV up rr (swap ll J by_) q = b1 at *
    generalize labelV up rr ll u = a0 at *
    generalize labelV up rr (swap ll J by_) v = a1 at *
    have hus := fun W (hW : OneO w A1 k1 c1 A2 k2 c2 names up Ao (swap ll J by_) W) (hmd : Rl.made rr = true) => uses_yes cr W (one_row HRR.out hW.one) (by rw [HN.out]; omega) hmd
    have hun := fun W (hW : OneO w A1 k1 c1 A2 k2 c2 names up Ao (swap ll J by_) W) (hmd : Rl.made rr = false) => uses_no cr W (one_row HRR.out hW.one) (by rw [HN.out]; omega) hmd
    unfold UsesRes at hus hun
    rw [HN.out] at hus hun
    have HCL := Lib.hid hcl
    have HCO := Lib.hid hco
    have HLB := Lib.hid hll
    have HLO := Lib.hid hlo
    have HP := Lib.hid hp
    have HQ := Lib.hid hq
    have HU := Lib.hid hu
    have HV := Lib.hid hv
    have HBR := Lib.hid hbr
    have HBS := Lib.hid hbs
    have HAR := Lib.hid har
    have HAS := Lib.hid has
    clear hcl hco hll hlo hp hq hu hv hbr hbs har has
    have hM4 : ((M : Int) == 4) = false := by rw [beq_eq_false_iff_ne]; omega
    have zp : p ≠ 0 := fun e => h4 (HM.out.symm.trans (why_len (HP.out.trans e)))
    have zu : u ≠ 0 := fun e => h4 (HM.out.symm.trans (why_len (HU.out.trans e)))
    have hp1 : ((p : Int) == 0) = false := zero_some zp
    have hp2 : ((p : Int) != 0) = true := by rw [bne_iff_ne]; omega
    have hu1 : ((u : Int) == 0) = false := zero_some zu
    have hu2 : ((u : Int) != 0) = true := by rw [bne_iff_ne]; omega
    clear hown hM hsw
    by_cases hmd : Rl.made rr = true
    · have hus2 := fun W hW => hus W hW hmd
      rw [if_pos hmd, if_pos hmd] at hus2
      obtain ⟨U, hUe⟩ : ∃ U, Rl.usesOf rr = U := ⟨_, rfl⟩
      rw [hUe] at hus2
      have hU16 : U < 16 := by rw [← hUe]; exact Rl.usesOf_lt rr
      have hbit := bit_of J hU16
      have hbt := uses_bit rr hJ4
      rw [hUe] at hbt
      rw [hbt] at hbit
      have HBIT := Lib.hid hbit
      have HUS := Lib.hid hus2
      clear hus hus2 hun hUe hbt hbit hU16
      clear HBIT HP HQ HU HV HBR HBS HAR HAS zp zu
      go_wp2_with (fail)
      refine (HUS.out w3 HX5.out).mono ?_
      rintro e w6 ⟨rfl, hbn⟩
      have HX6 := Lib.hid (HX5.out.next hbn)
      have HX60 := HX6.out.one.a.cell 0
      have HX61 := HX6.out.one.a.cell 1
      clear hbn HX5 HX50 HX51 HUS
      go_wp2_with (fail)
      refine (HCL.out w6 HX6.out).mono ?_
      rintro e w7 ⟨rfl, hbn⟩
      have HX7 := Lib.hid (HX6.out.next hbn)
      have HX70 := HX7.out.one.a.cell 0
      have HX71 := HX7.out.one.a.cell 1
      clear hbn HX6 HX60 HX61 HCL
      go_wp2_with (fail)
      refine (HCO.out w7 HX7.out).mono ?_
      rintro e w8 ⟨rfl, hbn⟩
      have HX8 := Lib.hid (HX7.out.next hbn)
      have HX80 := HX8.out.one.a.cell 0
      have HX81 := HX8.out.one.a.cell 1
      clear hbn HX7 HX70 HX71 HCO
      go_wp2_with (fail)
      refine (HLB.out w8 HX8.out).mono ?_
      rintro e w9 ⟨rfl, hbn⟩
      have HX9 := Lib.hid (HX8.out.next hbn)
      have HX90 := HX9.out.one.a.cell 0
      have HX91 := HX9.out.one.a.cell 1
      clear hbn HX8 HX80 HX81 HLB
      go_wp2_with (fail)
      refine (HLO.out w9 HX9.out).mono ?_
      rintro e w10 ⟨rfl, hbn⟩
      have HXA := Lib.hid (HX9.out.next hbn)
      have HXA0 := HXA.out.one.a.cell 0
      have HXA1 := HXA.out.one.a.cell 1
      clear hbn HX9 HX90 HX91 HLO
      go_wp2_with (fail)
      refine (alive7_any w10).mono ?_
      rintro e w11 ⟨rfl, hbn⟩
      have HXZ := Lib.hid (HXA.out.next hbn)
      clear hbn
      go_wp2
      go_ret
      exact ⟨rfl, HXZ.out.one.below⟩
    · have hmf : Rl.made rr = false := by simpa using hmd
      have hun2 := fun W hW => hun W hW hmf
      rw [if_neg (by rw [hmf]; decide), if_neg (by rw [hmf]; decide)] at hun2
      have HUN := Lib.hid hun2
      clear zp zu hus hun hun2 hmd hmf HP HQ HU HV HBR HBS HAR HAS
      go_wp2_with (fail)
      refine (HUN.out w3 HX5.out).mono ?_
      rintro e w6 ⟨rfl, hbn⟩
      have HX6 := Lib.hid (HX5.out.next hbn)
      have HX60 := HX6.out.one.a.cell 0
      have HX61 := HX6.out.one.a.cell 1
      clear hbn HX5 HX50 HX51 HUN
      go_wp2_with (fail)
      refine (alive7_any w6).mono ?_
      rintro e w7 ⟨rfl, hbn⟩
      have HXZ := Lib.hid (HX6.out.next hbn)
      clear hbn
      go_wp2
      go_ret
      exact ⟨rfl, HXZ.out.one.below⟩
end Go.Proofs.Ytggcmkpafpjnoaa
