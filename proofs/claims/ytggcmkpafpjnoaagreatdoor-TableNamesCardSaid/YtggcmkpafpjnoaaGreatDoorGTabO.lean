/- The usual table: walks of Usual and of the laws' alive. -/
import Derived.Test.YtggcmkpafpjnoaaGreatDoorGTabN
import Derived.Test.YtggcmkpafpjnoaaGreatDoorGTabF
namespace Go.Proofs.YtggcmkpafpjnoaaGreatDoor
set_option maxRecDepth 100000
open Go.RowKit Go.Shelf Go.Sort
attribute [local go_sem] Oper.semAt_some

namespace Tb
def usualL : List UInt8 := [10, 9, 110, 111, 111, 112, 32, 58, 32, 116, 114, 117, 101, 32, 59, 32, 98, 111, 116, 32, 59, 32, 112, 99, 32, 59, 10, 9, 112, 117, 115, 104, 32, 58, 32, 116, 114, 117, 101, 32, 59, 32, 111, 110, 101, 32, 59, 32, 112, 99, 32, 59, 10, 9, 112, 111, 112, 32, 58, 32] ++
  [116, 114, 117, 101, 32, 59, 32, 98, 111, 116, 32, 59, 32, 112, 99, 32, 59, 10, 9, 97, 100, 100, 32, 58, 32, 116, 114, 117, 101, 32, 59, 32, 111, 110, 101, 32, 106, 111, 105, 110, 32, 116, 119, 111, 32, 59, 32, 112, 99, 32, 59, 10, 9, 115, 117, 98, 32, 58, 32, 116] ++
  [114, 117, 101, 32, 59, 32, 111, 110, 101, 32, 106, 111, 105, 110, 32, 116, 119, 111, 32, 59, 32, 112, 99, 32, 59, 10, 9, 108, 111, 97, 100, 32, 58, 32, 116, 114, 117, 101, 32, 59, 32, 111, 110, 101, 32, 106, 111, 105, 110, 32, 116, 119, 111, 32, 59, 32, 112, 99, 32, 59] ++
  [10, 9, 115, 116, 111, 114, 101, 32, 58, 32, 111, 110, 101, 32, 106, 111, 105, 110, 32, 112, 99, 32, 60, 61, 32, 116, 104, 114, 101, 101, 32, 59, 32, 111, 110, 101, 32, 106, 111, 105, 110, 32, 116, 119, 111, 32, 106, 111, 105, 110, 32, 112, 99, 32, 59, 32, 112, 99, 32, 59] ++
  [10, 9, 106, 117, 109, 112, 32, 58, 32, 116, 114, 117, 101, 32, 59, 32, 98, 111, 116, 32, 59, 32, 111, 110, 101, 32, 106, 111, 105, 110, 32, 112, 99, 32, 59, 10, 9, 98, 110, 122, 32, 58, 32, 116, 114, 117, 101, 32, 59, 32, 98, 111, 116, 32, 59, 32, 111, 110, 101, 32] ++
  [106, 111, 105, 110, 32, 112, 99, 32, 59, 10, 9, 99, 97, 108, 108, 32, 58, 32, 116, 114, 117, 101, 32, 59, 32, 98, 111, 116, 32, 59, 32, 111, 110, 101, 32, 106, 111, 105, 110, 32, 112, 99, 32, 59, 10, 9, 114, 101, 116, 117, 114, 110, 32, 58, 32, 116, 114, 117, 101, 32] ++
  [59, 32, 111, 110, 101, 32, 106, 111, 105, 110, 32, 112, 99, 32, 59, 32, 116, 119, 111, 32, 59, 10, 9, 111, 117, 116, 112, 117, 116, 32, 58, 32, 116, 114, 117, 101, 32, 59, 32, 111, 110, 101, 32, 106, 111, 105, 110, 32, 112, 99, 32, 59, 32, 112, 99, 32, 59, 10, 9, 104] ++
  [97, 108, 116, 32, 58, 32, 116, 114, 117, 101, 32, 59, 32, 98, 111, 116, 32, 59, 32, 112, 99, 32, 59, 10]
def usualRows : List PR := [⟨[1], [6], [8]⟩, ⟨[1], [9], [8]⟩, ⟨[1], [6], [8]⟩, ⟨[1], [9, 10, 12], [8]⟩, ⟨[1], [9, 10, 12], [8]⟩, ⟨[1], [9, 10, 12], [8]⟩, ⟨[9, 8, 12, 11, 5], [9, 10, 12, 8, 12], [8]⟩, ⟨[1], [6], [9, 8, 12]⟩, ⟨[1], [6], [9, 8, 12]⟩, ⟨[1], [6], [9, 8, 12]⟩, ⟨[1], [9, 8, 12], [10]⟩, ⟨[1], [9, 8, 12], [8]⟩, ⟨[1], [6], [8]⟩]
def addLine : List UInt8 := [97, 100, 100, 32, 58, 32, 116, 114, 117, 101, 32, 59, 32, 111, 110, 101, 32, 106, 111, 105, 110, 32, 116, 119, 111, 32, 59, 32, 112, 99, 32, 59, 10]
theorem parse_usual : parse usualL = (usualRows, 0, 0) := by decide +kernel
theorem text_usual : (text usualRows).2 = 0 ∧ 40 < (text usualRows).1.size ∧ (text usualRows).1.size ≤ 2000 ∧ Lib.contains (text usualRows).1.data.toList addLine = true := by decide +kernel
end Tb
theorem small_usual : ∀ x ∈ Tb.usualRows, Small x := by
  have h : ∀ x ∈ Tb.usualRows, x.m.length ≤ 1000000 ∧ x.r.length ≤ 1000000 ∧ x.p.length ≤ 1000000 := by decide +kernel
  intro x hx k
  obtain ⟨h0, h1, h2⟩ := h x hx
  unfold Tb.PR.nth
  by_cases e0 : k = 0
  · rw [if_pos e0]; exact h0
  · rw [if_neg e0]
    by_cases e1 : k = 1
    · rw [if_pos e1]; exact h1
    · rw [if_neg e1]; exact h2
theorem one_cell {w : World} {g : Nat} {t : TypeId} {z u : Value} {p : Addr} (hk : Blk w g t #[z]) (hp : p.block = g) (h : w.cell? p = some u) : p.spot = none ∧ p.off = 0 := by
  unfold Blk at hk
  unfold World.cell? at h
  rw [hp, hk] at h
  have h2 : p.spot = none ∧ [z][p.off]? = some u := by simpa using h
  refine ⟨h2.1, ?_⟩
  have := (List.getElem?_eq_some_iff.1 h2.2).1
  simpa using this
/-- A table does not lie where one slice lies. -/
theorem tab_kept {w : World} {g B n c : Nat} {t : TypeId} {a : Option Addr} {v u : Value} {l : List Tb.PR} (hk : Blk w g t #[.slice a n c]) (h : IsTab w B v l) : IsTab (w.setCell ⟨g, 0, none⟩ u) B v l := by
  obtain ⟨A, d, e, ⟨vs, h1, h2, h3⟩, hd⟩ := h
  refine ⟨A, d, e, ⟨vs, h1, fun hn => ?_, fun k x hx => ?_⟩, hd⟩
  · obtain ⟨ad, rfl, hb, hc⟩ := h2 hn
    have hlen : 2 ≤ vs.length := by
      have : vs.length ≠ 0 := fun e => hn (List.eq_nil_of_length_eq_zero e)
      omega
    have hne : ad.block ≠ g := fun hg => by
      obtain ⟨-, o1⟩ := one_cell hk (p := ad.add 1) (by rw [add_block]; exact hg) (hc 1 _ (List.getElem?_eq_getElem (by omega)))
      have e1 : (ad.add 1).off = ad.off + 1 := by unfold Addr.add; rw [if_neg (by decide)]
      omega
    refine ⟨ad, rfl, hb, fun j y hy => ?_⟩
    rw [World.cell?_setCell_other w ⟨g, 0, none⟩ (ad.add j) u (fun e => hne (by rw [← add_block ad j, ← e]))]
    exact hc j y hy
  · obtain ⟨a0, a1, a2, e0, e1, e2, i0, i1, i2⟩ := h3 k x hx
    exact ⟨a0, a1, a2, e0, e1, e2, ints_apart hk i0, ints_apart hk i1, ints_apart hk i2⟩
/-- A table is answered. -/
def TellsT (w : World) (l : List Tb.PR) (e : Ending) (w' : World) : Prop := ∃ v, e = .returned (.agg #[v]) ∧ IsTab w' w'.heap.size v l ∧ Below w.heap.size w w'
set_option maxHeartbeats 2000000 in
theorem usual_any (w : World) (hi : Ins w) : Calls Tryz.prog 8 #[] w (TellsT w Tb.usualRows) := by
  have hpar : ∀ (s : ByteArray) W, s.data.toList = Tb.usualL → s.size ≤ maxLen → Ins W → Calls Tryz.prog 18 #[.string s] W (ParseRes W (Tb.usualRows, 0, 0)) := fun s W h1 h2 h3 => by
    have := parse_any s W h2 h3
    rw [h1, Tb.parse_usual] at this
    exact this
  have hal : Below w.heap.size w (w.alloc (.cells #[.slice none 0 0] 24)) := (Below.refl _ w).alloc (Nat.le_refl _) _
  have HP := Lib.hid hpar
  have HA := Lib.hid hal
  have HI := Lib.hid (hi.below hal hi.lt)
  have hbk := Blk.new w 24 #[.slice none 0 0]
  have HK := Lib.hid hbk
  clear hpar hal hi hbk
  go_enter Tryz.func8, Tryz.ntmps8
  go_wp2_with (fail)
  refine (HP.out _ _ (by decide +kernel) (by decide +kernel) HI.out).mono ?_
  rintro e w1 ⟨v, rfl, ht, hb1⟩
  have hta := ht
  obtain ⟨A, c, rfl, -, -⟩ := ht
  have hk1 := HK.out.below hb1 HK.out.lt
  have ht1 := tab_kept (u := .slice A Tb.usualRows.length c) hk1 hta
  have hsz : (w1.setCell ⟨w.heap.size, 0, none⟩ (.slice A Tb.usualRows.length c)).heap.size = w1.heap.size := by simp [World.setCell]
  rw [← hsz] at ht1
  have hal2 : Below (w1.setCell ⟨w.heap.size, 0, none⟩ (.slice A Tb.usualRows.length c)).heap.size (w1.setCell ⟨w.heap.size, 0, none⟩ (.slice A Tb.usualRows.length c)) ((w1.setCell ⟨w.heap.size, 0, none⟩ (.slice A Tb.usualRows.length c)).alloc (.cells #[.slice A Tb.usualRows.length c] 24)) := (Below.refl _ _).alloc (Nat.le_refl _) _
  have ht2 := (ht1.below hal2).more hal2.size
  have hlt := hk1.lt
  have hb2 := ((HA.out.trans (hb1.mono HA.out.size)).setCell (p := ⟨w.heap.size, 0, none⟩) (Nat.le_refl _) (.slice A Tb.usualRows.length c)).alloc (by rw [hsz]; omega) (.cells #[.slice A Tb.usualRows.length c] 24)
  have hc0 := hk1.cell 0
  have hfz := hk1.frozen 0
  have hcell : ((w1.setCell ⟨w.heap.size, 0, none⟩ (.slice A Tb.usualRows.length c)).alloc (.cells #[.slice A Tb.usualRows.length c] 24)).cell? ⟨w.heap.size, 0, none⟩ = some (.slice A Tb.usualRows.length c) := ((hk1.set_ 0 _).alloc _).cell 0
  have HT := Lib.hid ht2
  have HB := Lib.hid hb2
  clear hta hk1 hal2 ht1 ht2 hsz hb2 hb1
  dsimp only
  have HT3 : Hid (∀ e w', e = Ending.returned (.agg #[.slice A Tb.usualRows.length c]) → w' = (w1.setCell ⟨w.heap.size, 0, none⟩ (.slice A Tb.usualRows.length c)).alloc (.cells #[.slice A Tb.usualRows.length c] 24) → TellsT w Tb.usualRows e w') := Lib.hid fun e w' h1 h2 => by
    subst h1 h2
    exact ⟨_, rfl, HT.out, HB.out⟩
  clear HT HB
  generalize Tb.usualRows.length = n at *
  go_wp2
  exact bodyPost_ret (v := .agg #[.slice A n c]) (by simp [results, Tryz.results8, go_sem, hcell]) rfl (HT3.out _ _ rfl rfl)
set_option maxHeartbeats 2000000 in
theorem tAlive_any (m : Int) (w : World) (hi : Ins w) (hwd : Wds w) (hm : w.cell? ⟨1, 0, none⟩ = some (.int .i64 m)) : Calls Tryz.prog 12 #[] w (Tells w true) := by
  have hu := usual_any w hi
  obtain ⟨t0, t1, t2, t3⟩ := Tb.text_usual
  obtain ⟨⟨s, n⟩, hs⟩ : ∃ r, Tb.text Tb.usualRows = r := ⟨_, rfl⟩
  rw [hs] at t0 t1 t2 t3
  dsimp only at t0 t1 t2 t3
  subst t0
  have htx : ∀ W A c, Below w.heap.size w W → RowsIn W W.heap.size A Tb.usualRows → Calls Tryz.prog 24 #[.agg #[.slice A Tb.usualRows.length c]] W (Wrote W (s, 0)) := fun W A c hb hr => by
    have := text_any6 c W (hi.below hb hi.lt) (hwd.below hb hwd.lt) hr small_usual
    rw [hs] at this
    exact this
  have hml : 1 < w.heap.size := World.block_lt_of_cell? w ⟨1, 0, none⟩ hm
  have hco : ∀ W, Below w.heap.size w W → Calls Tryz.prog 25 #[.string s, .string { data := Tb.addLine.toArray }] W fun e w' => e = .returned (.bool true) ∧ W = w' := fun W hb => by
    refine (strings_Contains s { data := Tb.addLine.toArray } m W (by omega) ((hb.cell hml).trans hm)).mono ?_
    rintro e w' ⟨rfl, rfl⟩
    exact ⟨congrArg (fun b => Ending.returned (.bool b)) t3, rfl⟩
  have hsz : (s.size : Int) > 40 := by omega
  unfold Tb.addLine at hco
  have HU := Lib.hid hu
  have HT := Lib.hid htx
  have HC := Lib.hid hco
  clear hu htx hco t3 hs hi hwd hm
  go_enter Tryz.func12, Tryz.ntmps12
  go_wp2_with (fail)
  refine HU.out.mono ?_
  rintro e w1 ⟨v, rfl, ⟨A, c, rfl, hr, -⟩, hb1⟩
  have HTC := Lib.hid (HT.out w1 A c hb1 hr)
  have HB1 := Lib.hid hb1
  clear hr hb1
  generalize Tb.usualRows.length = k at *
  go_wp2_with (fail)
  refine HTC.out.mono ?_
  rintro e w2 ⟨rfl, hb2⟩
  have HB2 := Lib.hid (HB1.out.trans (hb2.mono HB1.out.size))
  have HCC := Lib.hid (HC.out w2 HB2.out)
  clear hb2
  dsimp only
  go_wp2_with (fail)
  refine HCC.out.mono ?_
  rintro e w3 ⟨rfl, rfl⟩
  go_wp2
  go_ret
  exact ⟨rfl, HB2.out⟩
end Go.Proofs.YtggcmkpafpjnoaaGreatDoor
