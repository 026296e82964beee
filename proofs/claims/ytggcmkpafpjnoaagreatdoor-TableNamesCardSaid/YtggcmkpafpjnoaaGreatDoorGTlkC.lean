/- The usual table as the reference tells it; its text read. -/
import Derived.Test.YtggcmkpafpjnoaaGreatDoorGRefU
import Derived.Test.YtggcmkpafpjnoaaGreatDoorGTabO
import Derived.Test.YtggcmkpafpjnoaaGreatDoorGTabU
import Derived.Test.YtggcmkpafpjnoaaGreatDoorGTabT
import Derived.Test.YtggcmkpafpjnoaaGreatDoorGTabC
import Derived.Test.YtggcmkpafpjnoaaGreatDoorGTlkA
namespace Go.Proofs.YtggcmkpafpjnoaaGreatDoor
set_option maxRecDepth 100000
open Go.RowKit Go.Shelf Go.Sort
attribute [local go_sem] Oper.semAt_some

namespace Tb
def rUsualL : List UInt8 := [110, 111, 111, 112, 58, 32, 116, 114, 117, 101, 59, 32, 98, 111, 116, 59, 32, 112, 99, 59, 32, 112, 117, 115, 104, 58, 32, 116, 114, 117, 101, 59, 32, 111, 110, 101, 59, 32, 112, 99, 59, 32, 112, 111, 112, 58, 32, 116, 114, 117, 101, 59, 32, 98, 111, 116, 59, 32, 112, 99, 59, 32, 97, 100, 100, 58, 32, 116, 114, 117] ++
  [101, 59, 32, 111, 110, 101, 32, 106, 111, 105, 110, 32, 116, 119, 111, 59, 32, 112, 99, 59, 32, 115, 117, 98, 58, 32, 116, 114, 117, 101, 59, 32, 111, 110, 101, 32, 106, 111, 105, 110, 32, 116, 119, 111, 59, 32, 112, 99, 59, 32, 108, 111, 97, 100, 58, 32, 116, 114, 117, 101, 59, 32, 111, 110, 101, 32, 106, 111, 105, 110] ++
  [32, 116, 119, 111, 59, 32, 112, 99, 59, 32, 115, 116, 111, 114, 101, 58, 32, 111, 110, 101, 32, 106, 111, 105, 110, 32, 112, 99, 32, 60, 61, 32, 116, 104, 114, 101, 101, 59, 32, 111, 110, 101, 32, 106, 111, 105, 110, 32, 116, 119, 111, 32, 106, 111, 105, 110, 32, 112, 99, 59, 32, 112, 99, 59, 32, 106, 117, 109, 112, 58] ++
  [32, 116, 114, 117, 101, 59, 32, 98, 111, 116, 59, 32, 111, 110, 101, 32, 106, 111, 105, 110, 32, 112, 99, 59, 32, 98, 110, 122, 58, 32, 116, 114, 117, 101, 59, 32, 98, 111, 116, 59, 32, 111, 110, 101, 32, 106, 111, 105, 110, 32, 112, 99, 59, 32, 99, 97, 108, 108, 58, 32, 116, 114, 117, 101, 59, 32, 98, 111, 116, 59] ++
  [32, 111, 110, 101, 32, 106, 111, 105, 110, 32, 112, 99, 59, 32, 114, 101, 116, 117, 114, 110, 58, 32, 116, 114, 117, 101, 59, 32, 111, 110, 101, 32, 106, 111, 105, 110, 32, 112, 99, 59, 32, 116, 119, 111, 59, 32, 111, 117, 116, 112, 117, 116, 58, 32, 116, 114, 117, 101, 59, 32, 111, 110, 101, 32, 106, 111, 105, 110, 32, 112] ++
  [99, 59, 32, 112, 99, 59, 32, 104, 97, 108, 116, 58, 32, 116, 114, 117, 101, 59, 32, 98, 111, 116, 59, 32, 112, 99, 59]
theorem parse_rUsual : parse rUsualL = (usualRows, 0, 0) := by decide +kernel
theorem lex_rUsual : (Lx.lex rUsualL).2.2 = 0 := by decide +kernel
end Tb
/-- The reference's text of the usual table. -/
theorem rUsual_any (w : World) : Calls Tryz.prog 10 #[] w fun e w' => ∃ s : ByteArray, e = .returned (.string s) ∧ s.data.toList = Tb.rUsualL ∧ s.size ≤ maxLen ∧ w = w' := by
  go_enter Tryz.func10, Tryz.ntmps10
  go_wp2
  go_ret
  exact ⟨_, rfl, by decide +kernel, by decide +kernel, rfl⟩
/-- Any text that Lex takes, or refuses. -/
theorem rparse_any (s : ByteArray) (w : World) (hm : s.size ≤ maxLen) : Calls Tryz.prog 9 #[.string s] w (RParseRes w (Tb.parse s.data.toList)) := by
  by_cases he : (Lx.lex s.data.toList).2.2 = 0
  · obtain ⟨⟨l, a, n⟩, hl⟩ : ∃ r, Lx.lex s.data.toList = r := ⟨_, rfl⟩
    rw [hl] at he
    have hn : n = 0 := he
    subst hn
    exact rparse_good s w hm hl
  · exact rparse_lex s w hm he
theorem rparse_usual (s : ByteArray) (w : World) (hs : s.data.toList = Tb.rUsualL) (hm : s.size ≤ maxLen) : Calls Tryz.prog 9 #[.string s] w (RParseRes w (Tb.usualRows, 0, 0)) := by
  have := rparse_any s w hm
  rw [hs, Tb.parse_rUsual] at this
  exact this
theorem Small.smal {x : Tb.PR} (h : Small x) : Smal x := ⟨h 0, h 1, h 2⟩
/-- Two tables in two variables. -/
structure TwoT (w : World) (sa sb : Value) (a b : List Tb.PR) (W : World) : Prop where
  ka : Blk W w.heap.size 24 #[sa]
  kb : Blk W (w.heap.size + 1) 24 #[sb]
  ta : IsTab W W.heap.size sa a
  tb : IsTab W W.heap.size sb b
  below : Below w.heap.size w W
theorem TwoT.next {w W W' : World} {sa sb : Value} {a b : List Tb.PR} (h : TwoT w sa sb a b W) (hb : Below W.heap.size W W') : TwoT w sa sb a b W' :=
  ⟨h.ka.below hb h.ka.lt, h.kb.below hb h.kb.lt, (h.ta.below hb).more hb.size, (h.tb.below hb).more hb.size, h.below.trans (hb.mono h.below.size)⟩
/-- The package's Like, of tables that lie anywhere. -/
theorem tLike_tab {x y : Value} {a b : List Tb.PR} (w : World) (ha : IsTab w w.heap.size x a) (hb : IsTab w w.heap.size y b) (hs : ∀ z ∈ a, Smal z) (ht : ∀ z ∈ b, Smal z) (hl : a.length ≤ 1000000) : Calls Tryz.prog 7 #[.agg #[x], .agg #[y]] w (Tells w (decide (a = b))) := by
  obtain ⟨A, c, rfl, ra, -⟩ := ha
  obtain ⟨B, d, rfl, rb, -⟩ := hb
  exact tLike_any c d w ra rb hs ht hl
theorem rLike_tab {x y : Value} {a b : List Tb.PR} (w : World) (ha : IsTab w w.heap.size x a) (hb : IsTab w w.heap.size y b) (hs : ∀ z ∈ a, ∀ k, (z.nth k).length ≤ 100000) (hl : a.length ≤ 100000) : Calls Tryz.prog 11 #[.agg #[x], .agg #[y]] w (Tells w (decide (a = b))) := by
  obtain ⟨A, c, rfl, ra, -⟩ := ha
  obtain ⟨B, d, rfl, rb, -⟩ := hb
  by_cases h : a.length = b.length
  · exact rLike_any c d w ra rb hs h hl
  · rw [decide_eq_false (fun e => h (by rw [e]))]
    exact rLike_len c d w h
theorem fieldR (v : Value) (a b : Int) (W : World) : (Instr.field 34 (.agg #[v, .int .i64 a, .int .i64 b]) 0).run Tryz.prog W = .ok (.agg #[v]) W := by kernel_rfl
theorem fewT_len (l : List Tb.PR) : (fewT l).length ≤ 15 := by simp [fewT]; omega
theorem fewT_nth (l : List Tb.PR) : ∀ x ∈ fewT l, ∀ k, (x.nth k).length ≤ 100000 := fun x hx k => by
  obtain ⟨y, _, rfl⟩ := List.mem_map.1 hx
  unfold Tb.PR.nth cutR6
  by_cases e0 : k = 0
  · rw [if_pos e0]; simp; omega
  · rw [if_neg e0]
    by_cases e1 : k = 1
    · rw [if_pos e1]; simp; omega
    · rw [if_neg e1]; simp; omega
end Go.Proofs.YtggcmkpafpjnoaaGreatDoor

/- The walk of the law TableNames. -/
namespace Go.Proofs.YtggcmkpafpjnoaaGreatDoor
set_option maxRecDepth 100000
open Go.RowKit Go.Shelf Go.Sort
attribute [local go_sem] Oper.semAt_some

set_option maxHeartbeats 16000000 in
theorem tableNames_any {A B : Option Addr} {a b : List Tb.PR} (n : Int) (c d : Nat) (m : Int) (w : World) (hi : Ins w) (hwd : Wds w) (hml : w.cell? ⟨1, 0, none⟩ = some (.int .i64 m)) (ha : RowsIn w w.heap.size A a) (hb : RowsIn w w.heap.size B b) (hc : a.length ≤ c) (hd : b.length ≤ d) (hm : c ≤ maxLen) (hm' : d ≤ maxLen) :
    Calls Tryz.prog 3 #[.int .i64 n, .agg #[.slice A a.length c], .agg #[.slice B b.length d]] w (Tells w true) := by
  have hbox : Below w.heap.size w ((w.alloc (.cells #[.slice A a.length c] 24)).alloc (.cells #[.slice B b.length d] 24)).drew := (((Below.refl _ w).alloc (Nat.le_refl _) _).alloc (by simp) _).drew
  have hfa := fun W (hW : Below w.heap.size w W) => few6_any c W ((ha.below hW).more hW.size) hc hm
  have hfb := fun W (hW : Below w.heap.size w W) => few6_any d W ((hb.below hW).more hW.size) hd hm'
  have hk0 := (Blk.new w 24 #[.slice A a.length c]).alloc (.cells #[.slice B b.length d] 24)
  have hk1 := Blk.new (w.alloc (.cells #[.slice A a.length c] 24)) 24 #[.slice B b.length d]
  rw [World.size_alloc] at hk1
  obtain ⟨fa, hfae⟩ : ∃ fa, fewT a = fa := ⟨_, rfl⟩
  obtain ⟨fb, hfbe⟩ : ∃ fb, fewT b = fb := ⟨_, rfl⟩
  have hsa : ∀ z ∈ fa, Smal z := fun z hz => (fewT_small a z (hfae ▸ hz)).smal
  have hsb : ∀ z ∈ fb, Smal z := fun z hz => (fewT_small b z (hfbe ▸ hz)).smal
  have hna : ∀ z ∈ fa, ∀ k, (z.nth k).length ≤ 100000 := fun z hz => fewT_nth a z (hfae ▸ hz)
  have hla : fa.length ≤ 15 := hfae ▸ fewT_len a
  unfold Cut at hfa hfb
  rw [hfae] at hfa
  rw [hfbe] at hfb
  have hg0 := hi.lt
  have hg1 := hwd.lt
  have hal : ∀ W, Below w.heap.size w W → Calls Tryz.prog 12 #[] W (Tells W true) := fun W hb => tAlive_any m W (hi.below hb hi.lt) (hwd.below hb hwd.lt) ((hb.cell (World.block_lt_of_cell? w ⟨1, 0, none⟩ hml)).trans hml)
  have HBOX := Lib.hid hbox
  have HFA := Lib.hid hfa
  have HFB := Lib.hid hfb
  have HK0 := Lib.hid hk0
  have HK1 := Lib.hid hk1
  have HI := Lib.hid hi
  have HG := Lib.hid hg0
  have HSA := Lib.hid hsa
  have HSB := Lib.hid hsb
  have HNA := Lib.hid hna
  have HLA : Hid (∀ z, z = fa → z.length ≤ 15) := Lib.hid fun z hz => hz ▸ hla
  have HAL := Lib.hid hal
  clear hbox hfa hfb hk0 hk1 hi hwd hml ha hb hc hd hm hm' hfae hfbe hsa hsb hna hla hal hg0 hg1
  generalize a.length = an at *
  generalize b.length = bn at *
  go_enter Tryz.func3, Tryz.ntmps3
  go_wp2
  refine Free.region_seq [1, 3, 4, 5] [0, 2] 3 (fun W' => W'.cell? ⟨w.heap.size, 0, none⟩ = some (.slice A an c) ∧ W'.cell? ⟨w.heap.size + 1, 0, none⟩ = some (.slice B bn d)) (by kernel_rfl) (by kernel_rfl) (by kernel_rfl) (by kernel_rfl) (⟨HK0.out.cell 0, HK1.out.cell 0⟩) (fun ops hops => ?_)
  clear hops
  iterate 1
    refine Free.Seq.quiet (v := ?_) (a' := ?_) rfl rfl (fun W' hW' => ?_) ?_ ?_
    rotate_left 2
    · first | obtain ⟨s0, s1⟩ := hW' rfl | skip
      go_simp
      try with_reducible rfl
    · simp only [Act.put, List.setIfInBounds_toArray, List.set_cons_zero, List.set_cons_succ]
      try with_reducible rfl
  refine Free.Seq.loud_ rfl (.inl rfl) (fun K hK => ?_)
  go_simp
  refine (HFA.out _ HBOX.out).mono ?_
  rintro e w1 ⟨v1, rfl, ht1, hb1⟩
  obtain ⟨A1, c1, rfl, -, -⟩ := id ht1
  dsimp only
  have HB1 := Lib.hid (HBOX.out.trans (hb1.mono HBOX.out.size))
  have hk1 := HK0.out.drew.below hb1 HK0.out.drew.lt
  have hk2 := HK1.out.drew.below hb1 HK1.out.drew.lt
  have HT1 := Lib.hid ht1
  have HX1 := Lib.hid hk1
  have HX2 := Lib.hid hk2
  refine hK.out _ _ rfl (fun _ => ⟨hk1.cell 0, hk2.cell 0⟩) ?_
  clear hK K hb1 ht1 hk1 hk2
  iterate 1
    refine Free.Seq.quiet (v := ?_) (a' := ?_) rfl rfl (fun W' hW' => ?_) ?_ ?_
    rotate_left 2
    · first | obtain ⟨s0, s1⟩ := hW' rfl | skip
      go_simp
      try with_reducible rfl
    · simp only [Act.put, List.setIfInBounds_toArray, List.set_cons_zero, List.set_cons_succ]
      try with_reducible rfl
  refine Free.Seq.loud_ rfl (.inl rfl) (fun K hK => ?_)
  go_simp
  refine (HFB.out _ HB1.out).mono ?_
  rintro e w2 ⟨v2, rfl, ht2, hb2⟩
  obtain ⟨B1, d1, rfl, -, -⟩ := id ht2
  dsimp only
  have HB2 := Lib.hid (HB1.out.trans (hb2.mono HB1.out.size))
  have hk1 := HX1.out.below hb2 HX1.out.lt
  have hk2 := HX2.out.below hb2 HX2.out.lt
  have ht1 := (HT1.out.below hb2).more hb2.size
  have hc1 := hk1.cell 0
  have hc2 := hk2.cell 0
  have hf1 := hk1.frozen 0
  have hf2 := hk2.frozen 0
  refine hK.out _ _ rfl (fun h => absurd h (by decide)) ?_
  clear hK K hb2 HX1 HX2 HT1
  refine Free.Seq.loud_ rfl (.inl rfl) (fun K hK => ?_)
  go_simp
  refine hK.out _ _ rfl (fun h => absurd h (by decide)) ?_
  clear hK K
  refine Free.Seq.loud_ rfl (.inl rfl) (fun K hK => ?_)
  go_simp
  refine hK.out _ _ rfl (fun h => absurd h (by decide)) ?_
  clear hK K
  refine Free.Seq.nil_ ?_
  obtain ⟨W3, hW3⟩ : ∃ W3, (w2.setCell ⟨w.heap.size, 0, none⟩ (.slice A1 fa.length c1)).setCell ⟨w.heap.size + 1, 0, none⟩ (.slice B1 fb.length d1) = W3 := ⟨_, rfl⟩
  have h3 : TwoT w (.slice A1 fa.length c1) (.slice B1 fb.length d1) fa fb W3 := by
    have k1 := (hk1.set_ 0 (.slice A1 fa.length c1)).other (p := ⟨w.heap.size + 1, 0, none⟩) (by show w.heap.size + 1 ≠ _; omega) (.slice B1 fb.length d1)
    have k2 := (hk2.other (p := ⟨w.heap.size, 0, none⟩) (by show w.heap.size ≠ _; omega) (.slice A1 fa.length c1))
    have k3 := k2.set_ 0 (.slice B1 fb.length d1)
    rw [← hW3]
    refine ⟨k1, k3, (tab_kept k2 (tab_kept hk1 ht1)).more (by simp [World.setCell]), (tab_kept k2 (tab_kept hk1 ht2)).more (by simp [World.setCell]), (HB2.out.setCell (p := ⟨w.heap.size, 0, none⟩) (Nat.le_refl _) _).setCell (p := ⟨w.heap.size + 1, 0, none⟩) (by simp) _⟩
  rw [hW3]
  have H3 := Lib.hid h3
  clear hW3 h3 hk1 hk2 hc1 hc2 hf1 hf2 ht1 ht2 HB1 HB2
  have hfd := fieldR
  obtain ⟨nS, nE, aN, aE, hnm, har, hwh⟩ : ∃ nS nE aN aE, (∀ W, Ins W → Calls Tryz.prog 5 #[.int .i64 n] W (Wrote W (nS, nE))) ∧ (∀ W, Ins W → Calls Tryz.prog 6 #[.int .i64 n] W (TellsE W aN aE)) ∧ ((¬ (0 ≤ n ∧ n < 13) ∧ nS = ByteArray.empty ∧ nE = 9 ∧ aN = 0 ∧ aE = 9) ∨ (∃ k : Nat, n = k ∧ k < 13 ∧ nS = Tb.word k ∧ nE = 0 ∧ aN = Tb.arity k ∧ aE = 0)) := by
    by_cases h : 0 ≤ n ∧ n < 13
    · obtain ⟨k, rfl⟩ : ∃ k : Nat, n = k := ⟨n.toNat, by omega⟩
      exact ⟨_, _, _, _, fun W hW => name_yes k (by omega) W hW, fun W hW => arity_yes k (by omega) W hW, .inr ⟨k, rfl, by omega, rfl, rfl, rfl, rfl⟩⟩
    · exact ⟨_, _, _, _, fun W _ => name_no n h W, fun W _ => arity_no n h W, .inl ⟨h, rfl, rfl, rfl, rfl⟩⟩
  have HINS := Lib.hid (fun W (hW : TwoT w (.slice A1 fa.length c1) (.slice B1 fb.length d1) fa fb W) => HI.out.below hW.below HG.out)
  unfold Wrote at hnm
  unfold TellsE at har
  dsimp only at hnm
  have HNM := Lib.hid hnm
  have HAR := Lib.hid har
  have HWH := Lib.hid hwh
  clear hnm har hwh
  generalize fa.length = la at *
  generalize fb.length = lb at *
  go_wp2_with (fail)
  refine (HNM.out W3 (HINS.out _ H3.out)).mono ?_
  rintro e w4 ⟨rfl, hb4⟩
  have H4 := Lib.hid (H3.out.next hb4)
  clear hb4 H3 HNM
  go_wp2_with (fail)
  refine (HAR.out w4 (HINS.out _ H4.out)).mono ?_
  rintro e w5 ⟨rfl, hb5⟩
  have H5 := Lib.hid (H4.out.next hb5)
  clear hb5 H4 HAR
  go_wp2
  refine Free.region_seq [0, 1, 2, 4, 9, 12, 18, 22] [7, 8, 10, 11, 16, 17] 22 (fun W' => W'.cell? ⟨w.heap.size, 0, none⟩ = some (.slice A1 la c1) ∧ W'.cell? ⟨w.heap.size + 1, 0, none⟩ = some (.slice B1 lb d1)) (by kernel_rfl) (by kernel_rfl) (by kernel_rfl) (by kernel_rfl) (⟨H5.out.ka.cell 0, H5.out.kb.cell 0⟩) (fun ops hops => ?_)
  have HOPS := Lib.hid hops
  clear hops
  refine Free.Seq.loud_ rfl (.inl rfl) (fun K hK => ?_)
  go_simp
  refine (usual_any w5.drew (HINS.out _ (H5.out.next (Below.refl _ w5).drew))).mono ?_
  rintro e w6 ⟨u, rfl, htu, hb6⟩
  have H6 := Lib.hid ((H5.out.next (Below.refl _ w5).drew).next hb6)
  clear hb6
  refine hK.out _ _ rfl (fun _ => ⟨H6.out.ka.cell 0, H6.out.kb.cell 0⟩) ?_
  clear hK K
  refine Free.Seq.loud_ rfl (.inl rfl) (fun K hK => ?_)
  go_simp
  refine (rUsual_any w6).mono ?_
  rintro e w7 ⟨s, rfl, hs, hsz, rfl⟩
  dsimp only
  refine hK.out _ _ rfl (fun _ => ⟨H6.out.ka.cell 0, H6.out.kb.cell 0⟩) ?_
  clear hK K
  refine Free.Seq.loud_ rfl (.inl rfl) (fun K hK => ?_)
  go_simp
  refine (rparse_usual s w6 hs hsz).mono ?_
  rintro e w8 ⟨r, rfl, htr, hb8⟩
  have H8 := Lib.hid (H6.out.next hb8)
  have htu8 := (htu.below hb8).more hb8.size
  dsimp only at htr ⊢
  refine hK.out _ _ rfl (fun _ => ⟨H8.out.ka.cell 0, H8.out.kb.cell 0⟩) ?_
  clear hK K
  iterate 1
    refine Free.Seq.quiet (v := ?_) (a' := ?_) rfl rfl (fun W' hW' => ?_) ?_ ?_
    rotate_left 2
    · skip
      go_simp
      try with_reducible rfl
    · simp only [Act.put, List.setIfInBounds_toArray, List.set_cons_zero, List.set_cons_succ]
      try with_reducible rfl
  refine Free.Seq.loud_ rfl (.inl rfl) (fun K hK => ?_)
  go_simp
  refine (tLike_tab w8 htu8 htr (fun z hz => (small_usual z hz).smal) (fun z hz => (small_usual z hz).smal) (by decide)).mono ?_
  rintro e w9 ⟨rfl, hb9⟩
  have H9 := Lib.hid (H8.out.next hb9)
  rw [decide_eq_true (rfl : Tb.usualRows = Tb.usualRows)]
  clear htu htr htu8 hb9 hb8 hs hsz H6 H8
  refine hK.out _ _ rfl (fun _ => ⟨H9.out.ka.cell 0, H9.out.kb.cell 0⟩) ?_
  clear hK K
  iterate 2
    refine Free.Seq.quiet (v := ?_) (a' := ?_) rfl rfl (fun W' hW' => ?_) ?_ ?_
    rotate_left 2
    · skip
      go_simp
      try with_reducible rfl
    · simp only [Act.put, List.setIfInBounds_toArray, List.set_cons_zero, List.set_cons_succ]
      try with_reducible rfl
  iterate 2
    refine Free.Seq.quiet (v := ?_) (a' := ?_) rfl (by rw [HOPS.out]; rfl) (fun W' hW' => ?_) ?_ ?_
    rotate_left 2
    · first | obtain ⟨s0, s1⟩ := hW' rfl | skip
      go_simp
      try with_reducible rfl
    · simp only [Act.put, List.setIfInBounds_toArray, List.set_cons_zero, List.set_cons_succ]
      try with_reducible rfl
  refine Free.Seq.loud_ rfl (.inr (by rw [HOPS.out]; rfl)) (fun K hK => ?_)
  rw [if_pos (show Region.wanted _ _ = true by rw [HOPS.out]; rfl)]
  go_simp
  refine (tLike_tab w9 H9.out.ta H9.out.tb HSA.out HSB.out (by have := HLA.out fa rfl; omega)).mono ?_
  rintro e w10 ⟨rfl, hb10⟩
  have H10 := Lib.hid (H9.out.next hb10)
  clear hb10 H9
  refine hK.out _ _ rfl (fun _ => ⟨H10.out.ka.cell 0, H10.out.kb.cell 0⟩) ?_
  clear hK K
  iterate 2
    refine Free.Seq.quiet (v := ?_) (a' := ?_) rfl (by rw [HOPS.out]; rfl) (fun W' hW' => ?_) ?_ ?_
    rotate_left 2
    · first | obtain ⟨s0, s1⟩ := hW' rfl | skip
      go_simp
      try with_reducible rfl
    · simp only [Act.put, List.setIfInBounds_toArray, List.set_cons_zero, List.set_cons_succ]
      try with_reducible rfl
  refine Free.Seq.loud_ rfl (.inr (by rw [HOPS.out]; rfl)) (fun K hK => ?_)
  rw [if_pos (show Region.wanted _ _ = true by rw [HOPS.out]; rfl)]
  go_simp
  refine (rLike_tab w10 H10.out.ta H10.out.tb HNA.out (by have := HLA.out fa rfl; omega)).mono ?_
  rintro e w11 ⟨rfl, hb11⟩
  have H11 := Lib.hid (H10.out.next hb11)
  generalize decide (fa = fb) = bb at *
  clear hb11 H10
  refine hK.out _ _ rfl (fun _ => ⟨H11.out.ka.cell 0, H11.out.kb.cell 0⟩) ?_
  clear hK K
  iterate 1
    refine Free.Seq.quiet (v := ?_) (a' := ?_) rfl (by rw [HOPS.out]; rfl) (fun W' hW' => ?_) ?_ ?_
    rotate_left 2
    · skip
      go_simp
      try with_reducible rfl
    · simp only [Act.put, List.setIfInBounds_toArray, List.set_cons_zero, List.set_cons_succ]
      try with_reducible rfl
  iterate 2
    refine Free.Seq.quiet (v := ?_) (a' := ?_) rfl rfl (fun W' hW' => ?_) ?_ ?_
    rotate_left 2
    · skip
      go_simp
      try with_reducible rfl
    · simp only [Act.put, List.setIfInBounds_toArray, List.set_cons_zero, List.set_cons_succ]
      try with_reducible rfl
  iterate 2
    refine Free.Seq.quiet (v := ?_) (a' := ?_) rfl (by rw [HOPS.out]; rfl) (fun W' hW' => ?_) ?_ ?_
    rotate_left 2
    · first | obtain ⟨s0, s1⟩ := hW' rfl | skip
      go_simp
      try with_reducible rfl
    · simp only [Act.put, List.setIfInBounds_toArray, List.set_cons_zero, List.set_cons_succ]
      try with_reducible rfl
  refine Free.Seq.loud_ rfl (.inr (by rw [HOPS.out]; rfl)) (fun K hK => ?_)
  rw [if_pos (show Region.wanted _ _ = true by rw [HOPS.out]; rfl)]
  go_simp
  refine (tLike_tab w11 H11.out.ta H11.out.ta HSA.out HSA.out (by have := HLA.out fa rfl; omega)).mono ?_
  rintro e w12 ⟨rfl, hb12⟩
  have H12 := Lib.hid (H11.out.next hb12)
  rw [decide_eq_true (rfl : fa = fa)]
  clear hb12 H11
  refine hK.out _ _ rfl (fun _ => ⟨H12.out.ka.cell 0, H12.out.kb.cell 0⟩) ?_
  clear hK K
  iterate 1
    refine Free.Seq.quiet (v := ?_) (a' := ?_) rfl (by rw [HOPS.out]; rfl) (fun W' hW' => ?_) ?_ ?_
    rotate_left 2
    · skip
      go_simp
      try with_reducible rfl
    · simp only [Act.put, List.setIfInBounds_toArray, List.set_cons_zero, List.set_cons_succ]
      try with_reducible rfl
  iterate 2
    refine Free.Seq.quiet (v := ?_) (a' := ?_) rfl rfl (fun W' hW' => ?_) ?_ ?_
    rotate_left 2
    · skip
      go_simp
      try with_reducible rfl
    · simp only [Act.put, List.setIfInBounds_toArray, List.set_cons_zero, List.set_cons_succ]
      try with_reducible rfl
  refine Free.Seq.loud_ rfl (.inr (by rw [HOPS.out]; rfl)) (fun K hK => ?_)
  rw [if_pos (show Region.wanted _ _ = true by rw [HOPS.out]; rfl)]
  go_simp
  refine (HAL.out w12 H12.out.below).mono ?_
  rintro e w13 ⟨rfl, hb13⟩
  have H13 := Lib.hid (H12.out.next hb13)
  clear hb13 H12
  refine hK.out _ _ rfl (fun h => absurd h (by decide)) ?_
  clear hK K
  iterate 1
    refine Free.Seq.quiet (v := ?_) (a' := ?_) rfl (by rw [HOPS.out]; rfl) (fun W' hW' => ?_) ?_ ?_
    rotate_left 2
    · skip
      go_simp
      try with_reducible rfl
    · simp only [Act.put, List.setIfInBounds_toArray, List.set_cons_zero, List.set_cons_succ]
      try with_reducible rfl
  iterate 1
    refine Free.Seq.quiet (v := ?_) (a' := ?_) rfl rfl (fun W' hW' => ?_) ?_ ?_
    rotate_left 2
    · skip
      go_simp
      try with_reducible rfl
    · simp only [Act.put, List.setIfInBounds_toArray, List.set_cons_zero, List.set_cons_succ]
      try with_reducible rfl
  refine Free.Seq.nil_ ?_
  rcases HWH.out with ⟨hno, rfl, rfl, rfl, rfl⟩ | ⟨k, rfl, hk, rfl, rfl, rfl, rfl⟩
  · clear HWH HINS HSA HSB HNA HLA HAL HOPS HI HG HK0 HK1 HBOX HFA HFB H5
    by_cases hn0 : n < 0
    · go_wp2
      go_ret
      exact ⟨rfl, H13.out.below⟩
    · have hn12 : (12 : Int) < n := by omega
      go_wp2
      go_ret
      exact ⟨rfl, H13.out.below⟩
  · have hwo := fun W => rIWord_any k hk W
    have har := fun W => rArity_any k hk W
    unfold TellsStr at hwo
    unfold TellsI at har
    have hk0 : ¬ ((k : Int) < 0) := by omega
    have hk12 : ¬ ((12 : Int) < (k : Int)) := by omega
    generalize Tb.word k = sw at *
    generalize Tb.arity k = ra at *
    have HWO := Lib.hid hwo
    have HAR := Lib.hid har
    clear hwo har HWH HINS HSA HSB HNA HLA HAL HOPS HI HG HK0 HK1 HBOX HFA HFB H5
    go_wp2_with (fail)
    refine (HWO.out w13).mono ?_
    rintro e w14 ⟨rfl, hb14⟩
    have H14 := Lib.hid (H13.out.next hb14)
    clear hb14 H13 HWO
    go_wp2_with (fail)
    refine (HAR.out w14).mono ?_
    rintro e w15 ⟨rfl, hb15⟩
    have H15 := Lib.hid (H14.out.next hb15)
    clear hb15 H14 HAR
    go_wp2
    go_ret
    exact ⟨rfl, H15.out.below⟩
end Go.Proofs.YtggcmkpafpjnoaaGreatDoor
