/- The walk of the law that what is told is made right, and told again. -/
import Derived.Test.YtkndaljfjceipaaRulO
namespace Go.Proofs.Ytkndaljfjceipaa
open Go.RowKit Go.Shelf

/-- A token of nothing. -/
def tk0 : Lx.Tk := ⟨0, ByteArray.empty, 0⟩
/-- What is cut out of tokens, and an end. -/
def cutOf (l : List Lx.Tk) (k e : Nat) : List Lx.Tk := (l.drop k).take (e - k) ++ [tk0]
theorem cutOf_length {l : List Lx.Tk} {k e : Nat} (h1 : k ≤ e) (h2 : e ≤ l.length) : (cutOf l k e).length = e - k + 1 := by
  unfold cutOf
  rw [List.length_append, List.length_take, List.length_drop]
  simp
  omega
theorem cutOf_last {l : List Lx.Tk} {k e : Nat} (h1 : k ≤ e) (h2 : e ≤ l.length) : (cutOf l k e)[e - k]? = some tk0 := by
  unfold cutOf
  rw [List.getElem?_append_right (by rw [List.length_take]; omega), List.length_take, List.length_drop, show e - k - min (e - k) (l.length - k) = 0 by omega]
  rfl
theorem cutOf_part {l : List Lx.Tk} {k e : Nat} (h1 : k ≤ e) (h2 : e < l.length) : Rl.Part l (cutOf l k e) k e where
  same j hj he := by
    unfold cutOf
    rw [List.getElem?_append_left (by rw [List.length_take, List.length_drop]; omega), List.getElem?_take, if_pos (by omega), List.getElem?_drop]
    congr 1
    omega
  fin := ⟨tk0, cutOf_last h1 (by omega), rfl⟩
  len := cutOf_length h1 (by omega)
  le := h1
  lt := h2
theorem cutOf_from {l : List Lx.Tk} {k : Nat} {lab : Bool} (he : Rl.Ends l) (hk : k < l.length) (h : (Rl.read l lab k).2 = 0) :
    Rl.from_ (cutOf l k (Rl.read l lab k).1.pos) 0 lab = ((Rl.read l lab k).1.out, (Rl.read l lab k).1.pos - k, 0) := by
  obtain ⟨_, _, h3, h4, _⟩ := Rl.read_right he lab k hk h
  have hP := cutOf_part (Nat.le_of_lt h3) h4
  obtain ⟨a1, a2, a3⟩ := Rl.read_again hP he lab hk h rfl
  have hl := hP.len
  rw [may_yes (decide_eq_true ⟨Int.le_refl 0, by omega, tk0, by rw [hl, Nat.add_sub_cancel]; exact cutOf_last (Nat.le_of_lt h3) (Nat.le_of_lt h4), rfl⟩)]
  unfold Rl.told
  rw [show (0 : Int).toNat = 0 from rfl, if_pos a1, a2, a3]
theorem tcells_append (a b : List Lx.Tk) : tcells (a ++ b) = tcells a ++ tcells b := by simp [tcells]
theorem tcells_drop : ∀ (l : List Lx.Tk) (k : Nat), tcells (l.drop k) = (tcells l).drop (k * 3)
  | [], k => by simp [tcells]
  | t :: l, 0 => rfl
  | t :: l, k + 1 => by
    rw [List.drop_succ_cons, tcells_drop l k, show (k + 1) * 3 = k * 3 + 3 by omega, ← List.drop_drop]
    simp [tcells]
theorem tcells_take : ∀ (l : List Lx.Tk) (k : Nat), tcells (l.take k) = (tcells l).take (k * 3)
  | [], k => by simp [tcells]
  | t :: l, 0 => by simp [tcells]
  | t :: l, k + 1 => by
    rw [List.take_succ_cons, show (k + 1) * 3 = 3 + k * 3 by omega]
    have ih := tcells_take l k
    simp only [tcells, List.flatMap_cons] at ih ⊢
    rw [List.take_append, ih, List.take_of_length_le (show [Value.int .i64 t.kind, .string t.text, .int .i64 t.pos].length ≤ 3 + k * 3 by simp), show 3 + k * 3 - [Value.int .i64 t.kind, .string t.text, .int .i64 t.pos].length = k * 3 by simp]

set_option maxRecDepth 100000 in
set_option maxHeartbeats 8000000 in
theorem toldLaw_any {A : Option Addr} {l0 : List Lx.Tk} (c0 : Nat) (i : Int) (lab : Bool) (w : World) (h : Row w w.heap.size A (tcells l0)) (hc : l0.length ≤ c0) (hm : c0 ≤ maxLen) (hs : ∀ t ∈ l0, t.text.size ≤ maxLen) :
    Calls Try.prog 4 #[.slice A l0.length c0, .int .i64 i, .bool lab] w (Tells w true) := by
  have hfew := rFew_any c0 l0 w h hc hm hs
  have hll : (fewR l0).length ≤ 150 := by rw [fewR_length]; omega
  clear h hc hm hs
  generalize fewR l0 = l at *
  have HFW := Lib.hid hfew
  clear hfew
  by_cases hgood : Rl.may l i = true ∧ (Rl.read l lab i.toNat).2 = 0
  · obtain ⟨hmay, hr0⟩ := hgood
    have hfrom : Rl.from_ l i lab = ((Rl.read l lab i.toNat).1.out, (Rl.read l lab i.toNat).1.pos, 0) := by
      rw [may_yes hmay]
      unfold Rl.told
      rw [if_pos hr0]
    obtain ⟨h0, h1, t, ht, hk⟩ := of_decide_eq_true hmay
    obtain ⟨k, rfl⟩ : ∃ k : Nat, i = k := ⟨i.toNat, by omega⟩
    rw [Int.toNat_natCast] at hr0 hfrom
    have he := Rl.ends_of ht hk
    have hkl : k < l.length := by omega
    obtain ⟨q1, q2, q3, q4, q5⟩ := Rl.read_right he lab k hkl hr0
    have hagain := cutOf_from he hkl hr0
    clear hmay hr0 h0 h1 ht hk he
    generalize (Rl.read l lab k).1.out = out at *
    generalize (Rl.read l lab k).1.pos = e at *
    have HA := Lib.hid hagain
    have HF := Lib.hid hfrom
    have Q1 := Lib.hid q1
    have Q2 := Lib.hid q2
    clear hagain hfrom q1 q2
    obtain ⟨i0, hi, hz0, hz1, hz2⟩ := info_parts Try.infoTok
    go_enter Try.func4, Try.ntmps4
    go_wp2_with (fail)
    refine HFW.out.mono ?_
    rintro e1 w1 ⟨v, rfl, ⟨A1, c1, rfl, hrow, hcap⟩, hb1⟩
    have hf := from_any c1 (k : Int) lab w1 hrow (by omega)
    rw [HF.out] at hf
    have HFR := Lib.hid hf
    have HROW := Lib.hid hrow
    have HB1 := Lib.hid hb1
    clear hf hrow hb1
    go_wp2_with (fail)
    refine HFR.out.mono ?_
    rintro e2 w2 ⟨v2, rfl, ⟨A2, c2, rfl, hrow2, hcap2⟩, hb2⟩
    dsimp only at hrow2 hcap2
    have hR1 := right_any c2 lab w2 hrow2 (by omega)
    have hR2 := fun W (hb : Below w2.heap.size w2 W) => right_any c2 (!lab) W ((hrow2.below hb).more hb.size) (by omega)
    rw [Q1.out] at hR1
    rw [Q2.out] at hR2
    have HR1 := Lib.hid hR1
    have HR2 := Lib.hid hR2
    have HROW2 := Lib.hid hrow2
    have HB2 := Lib.hid (HB1.out.trans (hb2.mono HB1.out.size))
    have HB12 := Lib.hid hb2
    clear hR1 hR2 hrow2 hb2
    go_wp2_with (fail)
    refine HR1.out.mono ?_
    rintro e3 w3 ⟨rfl, hb3⟩
    have HB3 := Lib.hid hb3
    clear hb3
    go_wp2_with (fail)
    refine (HR2.out _ HB3.out).mono ?_
    rintro e4 w4 ⟨rfl, hb4⟩
    have hb24 : Below w2.heap.size w2 w4 := HB3.out.trans (hb4.mono HB3.out.size)
    have hb14 : Below w1.heap.size w1 w4 := HB12.out.trans (hb24.mono HB12.out.size)
    have HB24 := Lib.hid hb24
    have HB14 := Lib.hid hb14
    clear hb4 hb24 hb14
    have hkc : k < c1 := by omega
    have hrow4 := HROW.out.below HB14.out
    obtain ⟨ad, t1, hA1, hadb, -⟩ := trow_at hrow4 hkl
    subst hA1
    have hcells : ∀ j u, (tcells ((l.drop k).take (e - k)))[j]? = some u → (w4.alloc (.cells #[] 36)).cell? ((ad.add (k * 3)).add j) = some u := fun j u hu => by
      obtain ⟨ad', ea, hb', hc'⟩ := hrow4 (by intro e0; have := tcells_length l; rw [e0] at this; simp at this; omega)
      injection ea with ea
      subst ea
      rw [tcells_take, List.getElem?_take] at hu
      split at hu
      · rw [tcells_drop, List.getElem?_drop] at hu
        rw [Addr.add_add]
        have h4 : w4.heap.size ≥ w1.heap.size := HB14.out.size
        refine (((Below.refl w4.heap.size w4).alloc (Nat.le_refl _) _).cell ?_).trans (hc' _ _ hu)
        rw [add_block]
        omega
      · cases hu
    have hlen1 : (tcells ((l.drop k).take (e - k))).length = (e - k) * 3 := by rw [tcells_length, List.length_take, List.length_drop]; congr 1; omega
    have hone : ∀ u ∈ tcells ((l.drop k).take (e - k)), u.oneCell' = true := fun u hu => by
      obtain ⟨t, _, ht⟩ := List.mem_flatMap.1 hu
      simp only [List.mem_cons, List.not_mem_nil, or_false] at ht
      rcases ht with rfl | rfl | rfl <;> rfl
    have hown0 : (w4.alloc (.cells #[] 36)).ownsRow w4.heap.size 36 3 (.slice (some ⟨w4.heap.size, 0, none⟩) 0 0) 0 [] := World.ownsRow_made w4 #[] 0 (Nat.le_refl _) (by decide) rfl
    have HCE := Lib.hid hcells
    have HLE := Lib.hid hlen1
    have HON := Lib.hid hone
    have hnx : (tcells ((l.drop k).take (e - k)) ++ [.int .i64 0, .string ByteArray.empty, .int .i64 0]) = tcells (cutOf l k e) := by unfold cutOf; rw [tcells_append]; rfl
    have hnl : (cutOf l k e).length = e - k + 1 := cutOf_length (by omega) (by omega)
    have HNX := Lib.hid hnx
    have HNL := Lib.hid hnl
    clear hcells hlen1 hone hrow4 hadb hnx hnl
    generalize tcells ((l.drop k).take (e - k)) = news at *
    go_wp2_with (at_builtin; refine wpList_append_own _ rfl _ _ 31 rfl w4.heap.size 36 i0 (.agg #[.int .i64 0, .string ByteArray.empty, .int .i64 0]) 3 32 Try.underlying31 hi hz0 hz1 hz2 rfl (by decide) _ _ _ rfl hown0 (ad.add (k * 3)) (e - k) (c1 - k) news rfl HLE.out HCE.out HON.out (by unfold maxLen; omega) (by omega) (by simp) ?_)
    intro v5 w5 hown5 hgrow5 _
    have hb5 : Below w4.heap.size w4 w5 := ((Below.refl _ w4).alloc (Nat.le_refl _) _).grown hgrow5 (by simp) (fun k he => (hown0.lt k he).1)
    have HB5 := Lib.hid hb5
    have hsz5 := hb5.size
    clear hb5 hgrow5 hown0
    go_wp2_with (at_builtin; refine wpList_append_own _ rfl _ _ 31 rfl w4.heap.size 36 i0 (.agg #[.int .i64 0, .string ByteArray.empty, .int .i64 0]) 3 32 Try.underlying31 hi hz0 hz1 hz2 rfl (by decide) _ _ _ rfl (hown5.alloc _) ⟨w5.heap.size, 0, none⟩ 1 1 [.int .i64 0, .string ByteArray.empty, .int .i64 0] rfl rfl (cells_new _ _ _) (by simp [Value.oneCell']) (by unfold maxLen; omega) (by omega) (by simp; omega) ?_)
    intro v6 w6 hown6 hgrow6 _
    rw [HNX.out] at hown6
    obtain ⟨A6, c6, rfl⟩ := ownT_slice hown6
    have hb6 : Below w4.heap.size w4 w6 := (HB5.out.alloc HB5.out.size _).grown hgrow6 (by simp; omega) (fun k he => (hown5.lt k he).1)
    have hf6 := from_any c6 0 lab w6 (l := cutOf l k e) (ownT_row hown6).1 (by rw [HNL.out]; omega)
    rw [HA.out, HNL.out] at hf6
    have HF6 := Lib.hid hf6
    have HB26 := Lib.hid (HB24.out.trans (hb6.mono HB24.out.size))
    clear hb6 hgrow6 hown6 hown5 hf6
    have hcast : ((e - k : Nat) : Int) = (e : Int) - (k : Int) := by omega
    go_wp2_with (fail)
    refine HF6.out.mono ?_
    rintro e7 w7 ⟨v7, rfl, ⟨A7, c7, rfl, hrow7, hcap7⟩, hb7⟩
    dsimp only at hrow7 hcap7
    have HROW7 := Lib.hid hrow7
    have HB27 := Lib.hid (HB26.out.trans (hb7.mono HB26.out.size))
    clear hrow7 hb7
    go_wp2_with (fail)
    refine (rAlive_any _).mono ?_
    rintro e8 w8 ⟨rfl, hb8⟩
    have hb28 := HB27.out.trans (hb8.mono HB27.out.size)
    have hsm := rSame_any c2 c7 w8 ((HROW2.out.below hb28).more hb28.size) ((HROW7.out.below hb8).more hb8.size) (by omega)
    rw [decide_eq_true rfl] at hsm
    have HSM := Lib.hid hsm
    have HB8 := Lib.hid (HB2.out.trans (hb28.mono HB2.out.size))
    clear hb8 hb28 hsm
    go_wp2_with (fail)
    refine HSM.out.mono ?_
    rintro e9 w9 ⟨rfl, hb9⟩
    have HB9 := Lib.hid (HB8.out.trans (hb9.mono HB8.out.size))
    clear hb9
    go_wp2
    go_ret
    exact ⟨retb (by simp), HB9.out⟩
  · obtain ⟨a, n, hfrom, hn⟩ : ∃ a n, Rl.from_ l i lab = ([], a, n) ∧ n ≠ 0 := by
      cases hm : Rl.may l i
      · exact ⟨0, 1, may_no hm, by decide⟩
      · refine ⟨(Rl.read l lab i.toNat).1.pos, (Rl.read l lab i.toNat).2, ?_, fun h => hgood ⟨hm, h⟩⟩
        rw [may_yes hm]
        unfold Rl.told
        rw [if_neg (fun h => hgood ⟨hm, h⟩)]
    have HF := Lib.hid hfrom
    have hn1 : ((n : Int) != 0) = true := by rw [bne_iff_ne]; omega
    clear hgood hfrom hn
    go_enter Try.func4, Try.ntmps4
    go_wp2_with (fail)
    refine HFW.out.mono ?_
    rintro e1 w1 ⟨v, rfl, ⟨A1, c1, rfl, hrow, hcap⟩, hb1⟩
    have hf := from_any c1 i lab w1 hrow (by omega)
    rw [HF.out] at hf
    have HFR := Lib.hid hf
    have HB1 := Lib.hid hb1
    clear hf hrow hb1
    go_wp2_with (fail)
    refine HFR.out.mono ?_
    rintro e2 w2 ⟨v2, rfl, ⟨A2, c2, hv2, -, -⟩, hb2⟩
    rw [show ([] : List Int).length = 0 from rfl] at hv2
    subst hv2
    have HB2 := Lib.hid (HB1.out.trans (hb2.mono HB1.out.size))
    clear hb2
    go_wp2_with (fail)
    refine (rAlive_any _).mono ?_
    rintro e3 w3 ⟨rfl, hb3⟩
    have HB3 := Lib.hid (HB2.out.trans (hb3.mono HB2.out.size))
    clear hb3
    go_wp2
    go_ret
    exact ⟨rfl, HB3.out⟩
end Go.Proofs.Ytkndaljfjceipaa
