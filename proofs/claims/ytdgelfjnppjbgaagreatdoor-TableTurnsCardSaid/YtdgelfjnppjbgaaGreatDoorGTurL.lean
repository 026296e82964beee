/- The walk of the law TableTurns. -/
import Derived.Test.YtdgelfjnppjbgaaGreatDoorGTabO
import Derived.Test.YtdgelfjnppjbgaaGreatDoorGTabT
import Derived.Test.YtdgelfjnppjbgaaGreatDoorGTabU
import Derived.Test.YtdgelfjnppjbgaaGreatDoorGTurS
import Derived.Test.YtdgelfjnppjbgaaGreatDoorGTurC
namespace Go.Proofs.YtdgelfjnppjbgaaGreatDoor
set_option maxRecDepth 100000
open Go.RowKit Go.Shelf Go.Sort
attribute [local go_sem] Oper.semAt_some

theorem text_none {l : List Tb.PR} (h : (Tb.text l).2 ≠ 0) : (Tb.text l).1 = ByteArray.empty := by
  unfold Tb.text at h ⊢
  by_cases h1 : (Tb.check l).2 = 0
  · rw [if_pos h1] at h ⊢
    by_cases h2 : l.all Tb.PR.flat = true
    · rw [if_pos h2] at h
      exact absurd rfl h
    · rw [if_neg h2]
  · rw [if_neg h1]
theorem nth_right' {x : Tb.PR} (h : Tb.okRules x = true) (k : Nat) : (x.nth k).length ≤ 40 := by
  have h0 := Tb.right_len (Tb.okRules_all h 0 (by decide))
  have h1 := Tb.right_len (Tb.okRules_all h 1 (by decide))
  have h2 := Tb.right_len (Tb.okRules_all h 2 (by decide))
  unfold Tb.PR.nth at *
  by_cases e0 : k = 0
  · rw [if_pos e0]; exact h0
  · rw [if_neg e0]
    by_cases e1 : k = 1
    · rw [if_pos e1]; exact h1
    · rw [if_neg e1]; exact h2
theorem parse_small (s : List UInt8) : (Tb.parse s).1.length ≤ 13 ∧ ∀ x ∈ (Tb.parse s).1, ∀ k, (x.nth k).length ≤ 100000 := by
  by_cases h : (Tb.parse s).2.2 = 0
  · obtain ⟨h1, h2⟩ := Tb.check_ok (Tb.parse_check h)
    refine ⟨by omega, fun x hx k => ?_⟩
    obtain ⟨j, hj1, hj2⟩ := List.getElem_of_mem hx
    exact Nat.le_trans (nth_right' (Tb.rowE_ok (h2 j x (by rw [List.getElem?_eq_getElem hj1, hj2]))).1 k) (by decide)
  · rw [Tb.parse_none h]
    exact ⟨by simp, fun x hx => by cases hx⟩
theorem join_empty : ∀ (l : List (List UInt8)), Lib.join l [] = l.flatten
  | [] => rfl
  | x :: r => by
    rw [Lib.join_cons]
    simp [Lib.joinTail]
/-- The lines, turned. -/
def linesT (xs : List Tb.Row) (kk : Nat) : List ByteArray := ((Tb.pieces xs).drop kk ++ [[10]] ++ (Tb.pieces xs).take kk).map Lx.pack
theorem linesT_length {xs : List Tb.Row} {kk : Nat} (hp : (Tb.pieces xs).length = 13) (hk : kk < 13) : (linesT xs kk).length = 14 := by
  unfold linesT
  rw [List.length_map, List.length_append, List.length_append, List.length_drop, List.length_take, hp]
  simp
  omega
theorem blk_at5 {W : World} {t : TypeId} {cs : Array Value} {g : Nat} (h : W.heap.size = g) : Blk (W.alloc (.cells cs t)) g t cs := h ▸ Blk.new W t cs
theorem addr_plain (g o j : Nat) : (⟨g, o, none⟩ : Addr).add j = ⟨g, o + j, none⟩ := by unfold Addr.add; split <;> simp_all
theorem turned_any {xs : List Tb.Row} {kk : Nat} (hp : (Tb.pieces xs).length = 13) (hk : kk < 13) (w3 : World) :
    Calls Tryz.prog 23 #[.slice (some ⟨w3.heap.size + 1 + 1, 0, none⟩) 3 3]
      (((w3.alloc (.cells ((Tb.pieces xs).map (Value.string ∘ Lx.pack)).toArray 9)).alloc (.cells #[.string { data := #[10] }] 9)).alloc (.cells #[.slice (some ⟨w3.heap.size, kk, none⟩) (13 - kk) (13 - kk), .slice (some ⟨w3.heap.size + 1, 0, none⟩) 1 1, .slice (some ⟨w3.heap.size, 0, none⟩) kk 13] 47)).drew
      (Joined3 (((w3.alloc (.cells ((Tb.pieces xs).map (Value.string ∘ Lx.pack)).toArray 9)).alloc (.cells #[.string { data := #[10] }] 9)).alloc (.cells #[.slice (some ⟨w3.heap.size, kk, none⟩) (13 - kk) (13 - kk), .slice (some ⟨w3.heap.size + 1, 0, none⟩) 1 1, .slice (some ⟨w3.heap.size, 0, none⟩) kk 13] 47)).drew (linesT xs kk)) := by
  have k0 : Blk _ w3.heap.size 9 ((Tb.pieces xs).map (Value.string ∘ Lx.pack)).toArray := (((Blk.new w3 9 ((Tb.pieces xs).map (Value.string ∘ Lx.pack)).toArray).alloc (.cells #[.string { data := #[10] }] 9)).alloc (.cells #[.slice (some ⟨w3.heap.size, kk, none⟩) (13 - kk) (13 - kk), .slice (some ⟨w3.heap.size + 1, 0, none⟩) 1 1, .slice (some ⟨w3.heap.size, 0, none⟩) kk 13] 47)).drew
  have k1 : Blk _ (w3.heap.size + 1) 9 #[.string { data := #[10] }] := ((blk_at5 (W := w3.alloc (.cells ((Tb.pieces xs).map (Value.string ∘ Lx.pack)).toArray 9)) (t := 9) (cs := #[.string { data := #[10] }]) (g := w3.heap.size + 1) (by simp)).alloc (.cells #[.slice (some ⟨w3.heap.size, kk, none⟩) (13 - kk) (13 - kk), .slice (some ⟨w3.heap.size + 1, 0, none⟩) 1 1, .slice (some ⟨w3.heap.size, 0, none⟩) kk 13] 47)).drew
  have k2 : Blk _ (w3.heap.size + 1 + 1) 47 #[.slice (some ⟨w3.heap.size, kk, none⟩) (13 - kk) (13 - kk), .slice (some ⟨w3.heap.size + 1, 0, none⟩) 1 1, .slice (some ⟨w3.heap.size, 0, none⟩) kk 13] := (blk_at5 (W := (w3.alloc (.cells ((Tb.pieces xs).map (Value.string ∘ Lx.pack)).toArray 9)).alloc (.cells #[.string { data := #[10] }] 9)) (t := 47) (cs := #[.slice (some ⟨w3.heap.size, kk, none⟩) (13 - kk) (13 - kk), .slice (some ⟨w3.heap.size + 1, 0, none⟩) 1 1, .slice (some ⟨w3.heap.size, 0, none⟩) kk 13]) (g := w3.heap.size + 1 + 1) (by simp)).drew
  generalize (((w3.alloc (.cells ((Tb.pieces xs).map (Value.string ∘ Lx.pack)).toArray 9)).alloc (.cells #[.string { data := #[10] }] 9)).alloc (.cells #[.slice (some ⟨w3.heap.size, kk, none⟩) (13 - kk) (13 - kk), .slice (some ⟨w3.heap.size + 1, 0, none⟩) 1 1, .slice (some ⟨w3.heap.size, 0, none⟩) kk 13] 47)).drew = W at *
  have l0 : (((Tb.pieces xs).drop kk).map Lx.pack).length = 13 - kk := by rw [List.length_map, List.length_drop, hp]
  have l1 : ([{ data := #[10] }] : List ByteArray).length = 1 := rfl
  have l2 : (((Tb.pieces xs).take kk).map Lx.pack).length = kk := by rw [List.length_map, List.length_take, hp]; omega
  have e : linesT xs kk = ((Tb.pieces xs).drop kk).map Lx.pack ++ [{ data := #[10] }] ++ ((Tb.pieces xs).take kk).map Lx.pack := by
    unfold linesT
    rw [List.map_append, List.map_append]
    rfl
  rw [e]
  refine concat_any (ad0 := ⟨w3.heap.size, kk, none⟩) (ad1 := ⟨w3.heap.size + 1, 0, none⟩) (ad2 := ⟨w3.heap.size, 0, none⟩) (c0 := 13 - kk) (c1 := 1) (c2 := 13) W (by rw [l0]; exact k2.cell 0) (by rw [l1]; exact k2.cell 1) (by rw [l2]; exact k2.cell 2) k0.lt k1.lt k0.lt (fun j u hu => ?_) (fun j u hu => ?_) (fun j u hu => ?_) (by rw [l0, l1, l2]; omega) (by rw [l0, l1, l2]; omega)
  · rw [addr_plain, k0.cell, List.getElem?_toArray, ← hu]
    unfold strs
    rw [List.map_map, List.map_drop, List.getElem?_drop]
  · rw [addr_plain, k1.cell, ← hu, Nat.zero_add]
    simp [strs]
  · rw [addr_plain, k0.cell, List.getElem?_toArray, Nat.zero_add]
    have hj : j < kk := by
      have := (List.getElem?_eq_some_iff.1 hu).1
      rw [strs_len, l2] at this
      exact this
    rw [← hu]
    unfold strs
    rw [List.map_map, List.map_take, List.getElem?_take, if_pos hj]
theorem joinT {xs : List Tb.Row} {kk : Nat} (hx : kk < xs.length) : Lib.join ((linesT xs kk).map (·.data.toList)) ({ data := #[] } : ByteArray).data.toList = Tb.allTxt (xs.drop kk ++ xs.take kk) := by
  have e : (linesT xs kk).map (·.data.toList) = (Tb.pieces xs).drop kk ++ [[10]] ++ (Tb.pieces xs).take kk := by
    unfold linesT
    rw [List.map_map]
    have e2 : ((fun x : ByteArray => x.data.toList) ∘ Lx.pack) = id := by
      funext x
      exact Lx.pack_list x
    rw [e2, List.map_id]
  rw [e]
  exact (join_empty _).trans (Tb.pieces_turn xs kk hx)
/-- A remainder that is not less than nothing. -/
theorem turn_rem (k : Int) : ∃ n : Nat, n < 13 ∧ Int.tmod (Int.tmod k 13 + 13) 13 = (n : Int) := by
  have h1 := Int.tmod_lt_of_pos k (show (0 : Int) < 13 by decide)
  have h2 : -13 < Int.tmod k 13 := by
    have := Int.tmod_lt_of_pos (-k) (show (0 : Int) < 13 by decide)
    rw [Int.neg_tmod] at this
    omega
  have h3 : 0 ≤ Int.tmod (Int.tmod k 13 + 13) 13 := Int.tmod_nonneg 13 (by omega)
  have h4 := Int.tmod_lt_of_pos (Int.tmod k 13 + 13) (show (0 : Int) < 13 by decide)
  exact ⟨(Int.tmod (Int.tmod k 13 + 13) 13).toNat, by omega, by omega⟩
set_option maxHeartbeats 16000000 in
theorem tableTurns_any {A : Option Addr} {l : List Tb.PR} (c : Nat) (k m : Int) (w : World) (hi : Ins w) (hwd : Wds w) (hml : w.cell? ⟨1, 0, none⟩ = some (.int .i64 m)) (h : RowsIn w w.heap.size A l) (hc : l.length ≤ c) (hm : c ≤ maxLen) :
    Calls Tryz.prog 5 #[.agg #[.slice A l.length c], .int .i64 k] w (Tells w true) := by
  have hbox : Below w.heap.size w (w.alloc (.cells #[.slice A l.length c] 24)) := (Below.refl _ w).alloc (Nat.le_refl _) _
  have hfew := few6_any c (w.alloc (.cells #[.slice A l.length c] 24)) ((h.below hbox).more hbox.size) hc hm
  have hal : ∀ W, Below w.heap.size w W → Calls Tryz.prog 14 #[] W (Tells W true) := fun W hb => tAlive_any m W (hi.below hb hi.lt) (hwd.below hb hwd.lt) ((hb.cell (World.block_lt_of_cell? w ⟨1, 0, none⟩ hml)).trans hml)
  have hmx : ∀ W, Below w.heap.size w W → W.cell? ⟨1, 0, none⟩ = some (.int .i64 m) := fun W hb => (hb.cell (World.block_lt_of_cell? w ⟨1, 0, none⟩ hml)).trans hml
  have hg0 := hi.lt
  have hg1 := hwd.lt
  obtain ⟨fl, hfl⟩ : ∃ fl, fewT l = fl := ⟨_, rfl⟩
  have hsm : ∀ x ∈ fl, Small x := by rw [← hfl]; exact fewT_small l
  unfold Cut at hfew
  rw [hfl] at hfew
  have HBOX := Lib.hid hbox
  have HFEW := Lib.hid hfew
  have HAL := Lib.hid hal
  have HI := Lib.hid hi
  have HW := Lib.hid hwd
  have HSM := Lib.hid hsm
  have HMX := Lib.hid hmx
  clear hbox hfew hal hi hwd h hml hfl hsm hc hm hmx
  go_enter Tryz.func5, Tryz.ntmps5
  go_wp2_with (fail)
  refine HFEW.out.mono ?_
  rintro e w1 ⟨v1, rfl, ht1, hb1⟩
  obtain ⟨A1, c1, rfl, hr1, -⟩ := ht1
  dsimp only
  have hb1' : Below w.heap.size w w1 := HBOX.out.trans (hb1.mono HBOX.out.size)
  have htx := text_any6 c1 w1 (HI.out.below hb1' hg0) (HW.out.below hb1' hg1) hr1 HSM.out
  obtain ⟨⟨s1, n1⟩, hs1⟩ : ∃ r, Tb.text fl = r := ⟨_, rfl⟩
  rw [hs1] at htx
  have HTX := Lib.hid htx
  have HS1 := Lib.hid hs1
  have HB1 := Lib.hid hb1'
  clear hb1' hb1 htx hs1 hr1
  generalize fl.length = fn at *
  go_wp2_with (fail)
  refine HTX.out.mono ?_
  rintro e w2 ⟨rfl, hb2⟩
  have HB2 := Lib.hid (HB1.out.trans (hb2.mono HB1.out.size))
  clear hb2 HTX
  dsimp only
  by_cases hn1 : n1 = 0
  · subst hn1
    have hinv := text_inv HS1.out
    have htg := trees_good hinv.1 hinv.2.1
    have h13 := (Tb.check_ok hinv.1).1
    have hsz1 := text_len HS1.out
    obtain ⟨xs, hxs⟩ : ∃ xs, Tb.trees fl = xs := ⟨_, rfl⟩
    have hx13 : xs.length = 13 := by rw [← hxs]; unfold Tb.trees; rw [List.length_mapIdx, h13]
    have hs1 := hinv.2.2
    rw [hxs] at htg hs1
    have hne : xs ≠ [] := by rintro rfl; simp at hx13
    have hd1 : s1.data.toList = Tb.allTxt xs := by rw [hs1, Lx.pack_list]
    have hcl : (Tb.cutT xs).length ≤ 100000 := by
      have := congrArg List.length (Tb.cut_all xs hne)
      rw [← hd1, ← Lib.size_eq] at this
      simp at this
      omega
    have htr := fun W => strings_TrimSuffix s1 { data := #[10] } W (by omega)
    have etr : (⟨(Lib.trimSuffix s1.data.toList ({ data := #[10] } : ByteArray).data.toList).toArray⟩ : ByteArray) = Lx.pack (Tb.cutT xs) := by
      rw [hd1]
      exact congrArg Lx.pack (Tb.trim_all hne)
    simp only [etr] at htr
    have hsa := fun W hb => splitAfter_any (fun x hx => (htg.1 x hx).1) hx13 m W hcl (HMX.out W hb)
    have hpt := Tb.parse_turn htg.1 htg.2.1 h13 htg.2.2
    have hturn := fun j (hj : j < 13) => Tb.pieces_turn xs j (by rw [hx13]; exact hj)
    have hpl : (Tb.pieces xs).length = 13 := by rw [Tb.pieces_length, hx13]
    obtain ⟨kk, hkk, hrem⟩ := turn_rem k
    have hrem' : Int.tmod (wrap64 (Int.tmod k 13 + 13)) 13 = (kk : Int) := by
      have h1 := Int.tmod_lt_of_pos k (show (0 : Int) < 13 by decide)
      have h2 : -13 < Int.tmod k 13 := by
        have := Int.tmod_lt_of_pos (-k) (show (0 : Int) < 13 by decide)
        rw [Int.neg_tmod] at this
        omega
      rw [show wrap64 (Int.tmod k 13 + 13) = Int.tmod k 13 + 13 by unfold wrap64; omega]
      exact hrem
    have HTR := Lib.hid htr
    have HSA := Lib.hid hsa
    have HPT := Lib.hid hpt
    have HTN := Lib.hid hturn
    have HPL := Lib.hid hpl
    have HD1 := Lib.hid hd1
    clear hinv htg h13 hxs hx13 hs1 hne hd1 hcl htr etr hsa hpt hturn hpl
    go_wp2_with (fail)
    refine (HTR.out w2).mono ?_
    rintro e w3 ⟨rfl, rfl⟩
    have HSA2 := Lib.hid (HSA.out w3 HB2.out)
    dsimp only
    go_wp2_with (fail)
    refine HSA2.out.mono ?_
    rintro e w4 ⟨rfl, rfl⟩
    dsimp only
    go_wp2_with (fail)
    clear hrem hrem'
    have hkI : (kk : Int) ≤ 13 := by omega
    have hkI0 : (0 : Int) ≤ (kk : Int) := by omega
    have h13k : (13 = kk) = False := eq_false (by omega)
    have HB3 := Lib.hid HB2.out
    have hp13 : (Tb.pieces xs).length = 13 := HPL.out
    refine Free.region_seq [3, 7, 8] [] 10 (fun W' => True) (by kernel_rfl) (by kernel_rfl) (by kernel_rfl) (by kernel_rfl) (trivial) (fun ops hops => ?_)
    clear hops
    iterate 3
      refine Free.Seq.quiet (v := ?_) (a' := ?_) rfl rfl (fun W' hW' => ?_) ?_ ?_
      rotate_left 2
      · skip
        go_simp
        try with_reducible rfl
      · simp only [Act.put, List.setIfInBounds_toArray, List.set_cons_zero, List.set_cons_succ]
        try with_reducible rfl
    refine Free.Seq.loud_ rfl (.inl rfl) (fun K hK => ?_)
    go_simp
    refine hK.out _ _ rfl (fun _ => trivial) ?_
    clear hK K
    iterate 3
      refine Free.Seq.quiet (v := ?_) (a' := ?_) rfl rfl (fun W' hW' => ?_) ?_ ?_
      rotate_left 2
      · skip
        go_simp
        try with_reducible rfl
      · simp only [Act.put, List.setIfInBounds_toArray, List.set_cons_zero, List.set_cons_succ]
        try with_reducible rfl
    refine Free.Seq.loud_ rfl (.inl rfl) (fun K hK => ?_)
    go_simp
    refine hK.out _ _ rfl (fun _ => trivial) ?_
    clear hK K
    have hcat := turned_any (xs := xs) (kk := kk) hp13 hkk w3
    have HB5 : Hid (Below w.heap.size w (((w3.alloc (.cells ((Tb.pieces xs).map (Value.string ∘ Lx.pack)).toArray 9)).alloc (.cells #[.string { data := #[10] }] 9)).alloc (.cells #[.slice (some ⟨w3.heap.size, kk, none⟩) (13 - kk) (13 - kk), .slice (some ⟨w3.heap.size + 1, 0, none⟩) 1 1, .slice (some ⟨w3.heap.size, 0, none⟩) kk 13] 47)).drew) :=
      Lib.hid ((((HB2.out.alloc HB2.out.size _).alloc (by have := HB2.out.size; simp; omega) _).alloc (by have := HB2.out.size; simp; omega) _).drew)
    have HCAT := Lib.hid hcat
    clear hcat
    refine Free.Seq.loud_ rfl (.inl rfl) (fun K hK => ?_)
    go_simp
    refine HCAT.out.mono ?_
    rintro e w5 ⟨v5, rfl, hown5, hb5⟩
    have HB6 := Lib.hid (HB5.out.trans (hb5.mono HB5.out.size))
    have HO5 := Lib.hid hown5
    clear hown5 hb5
    dsimp only
    refine hK.out _ _ rfl (fun _ => trivial) ?_
    clear hK K
    have hl14 := linesT_length hp13 hkk
    obtain ⟨g5, cap5, rfl, hg5, hcap5⟩ : ∃ g cap, v5 = .slice (some ⟨g, 0, none⟩) (linesT xs kk).length cap ∧ g < w5.heap.size ∧ (linesT xs kk).length ≤ cap := by
      rcases HO5.out.2 with ⟨_, he⟩ | ⟨g, cap, cur, he, _, hh, hc, _⟩
      · rw [hl14] at he; cases he
      · exact ⟨g, cap, he, (Array.getElem?_eq_some_iff.1 hh).1, hc⟩
    have hrow5 := (ownT_row HO5.out).1
    have hcell5 : ∀ (j : Nat) x, (linesT xs kk)[j]? = some x → w5.cell? ⟨g5, 0 + j, none⟩ = some (.string x) := fun j x hx => by
      have h1 : (strs (linesT xs kk))[j]? = some (.string x) := by unfold strs; rw [List.getElem?_map, hx]; rfl
      obtain ⟨ad, he, _, hc⟩ := hrow5 (by intro e; rw [e] at h1; simp at h1)
      injection he with he
      subst he
      have := hc j _ h1
      rwa [addr_plain] at this
    have hxk : kk < xs.length := by rw [← Tb.pieces_length, hp13]; exact hkk
    have hjl : (Lib.join ((linesT xs kk).map (·.data.toList)) ({ data := #[] } : ByteArray).data.toList).length ≤ 13000 := by
      rw [joinT hxk]
      have hp : (xs.drop kk ++ xs.take kk).Perm xs := by
        have := List.perm_append_comm (l₁ := xs.drop kk) (l₂ := xs.take kk)
        rwa [List.take_append_drop] at this
      have e1 : (Tb.allTxt (xs.drop kk ++ xs.take kk)).length = (Tb.allTxt xs).length := (hp.flatMap_right Tb.rowTxt).length_eq
      rw [e1, ← HD1.out, ← Lib.size_eq]
      exact hsz1
    have hjn : ∀ W, Below w5.heap.size w5 W → Calls Tryz.prog 25 #[.slice (some ⟨g5, 0, none⟩) (linesT xs kk).length cap5, .string { data := #[] }] W fun e w' => e = .returned (.string (Lx.pack (Tb.allTxt (xs.drop kk ++ xs.take kk)))) ∧ Below W.heap.size W w' := fun W hb => by
      have := strings_Join g5 0 cap5 (linesT xs kk) { data := #[] } W (fun j x hx => (hb.cell hg5).trans (hcell5 j x hx)) (Nat.lt_of_lt_of_le hg5 hb.size) (by rw [hl14]; decide) hcap5 (by omega)
      rw [joinT hxk] at this
      exact this
    rw [joinT hxk] at hjl
    have HJN := Lib.hid hjn
    have HJL := Lib.hid hjl
    clear hrow5 hcell5 hjn hjl hl14
    generalize (linesT xs kk).length = nl at *
    iterate 1
      refine Free.Seq.quiet (v := ?_) (a' := ?_) rfl rfl (fun W' hW' => ?_) ?_ ?_
      rotate_left 2
      · skip
        go_simp
        try with_reducible rfl
      · simp only [Act.put, List.setIfInBounds_toArray, List.set_cons_zero, List.set_cons_succ]
        try with_reducible rfl
    refine Free.Seq.nil_ ?_
    obtain ⟨⟨y, at7, e7⟩, hy⟩ : ∃ r, Tb.parse (Tb.allTxt xs) = r := ⟨_, rfl⟩
    have hsm := parse_small (Tb.allTxt xs)
    have hps := parse_any s1 w5 (by unfold maxLen; omega) (HI.out.below HB6.out hg0)
    rw [HD1.out, hy] at hps
    rw [hy] at hsm
    have HSM7 := Lib.hid hsm
    have HPS := Lib.hid hps
    have HY := Lib.hid hy
    have HZ1 := Lib.hid hsz1
    clear hps hy hsm hsz1 h13k hkI hkI0 hp13 hxk
    go_wp2_with (fail)
    refine HPS.out.mono ?_
    rintro e w6 ⟨v6, rfl, ht6, hb6⟩
    obtain ⟨A6, c6, rfl, hr6, -⟩ := ht6
    have hal7 : Below w6.heap.size w6 (w6.alloc (.cells #[.slice A6 y.length c6] 24)) := (Below.refl _ w6).alloc (Nat.le_refl _) _
    have HA7 := Lib.hid (hb6.trans (hal7.mono hb6.size))
    have HR7 := Lib.hid ((hr6.below hal7).more hal7.size)
    have HK7 := Lib.hid (Blk.new w6 24 #[.slice A6 y.length c6])
    dsimp only at HA7 HR7 HK7 ⊢
    obtain ⟨ny, hny⟩ : ∃ ny, y.length = ny := ⟨_, rfl⟩
    have HNY := Lib.hid hny
    rw [hny] at HA7 HR7 HK7 ⊢
    clear hny hb6 hal7 hr6 HPS
    obtain ⟨w7, hw7⟩ : ∃ w7, w6.alloc (.cells #[.slice A6 ny c6] 24) = w7 := ⟨_, rfl⟩
    rw [hw7] at HA7 HR7 HK7
    have HB7 := Lib.hid (HB6.out.trans (HA7.out.mono HB6.out.size))
    have HJ7 := Lib.hid (HJN.out w7 HA7.out)
    go_wp2_with (fail)
    refine HJ7.out.mono ?_
    rintro e w8 ⟨rfl, hb8⟩
    have HB8 := Lib.hid (HB7.out.trans (hb8.mono HB7.out.size))
    have HK8 := Lib.hid (HK7.out.below hb8 HK7.out.lt)
    have HR8 := Lib.hid ((HR7.out.below hb8).more hb8.size)
    have hps := parse_any (Lx.pack (Tb.allTxt (xs.drop kk ++ xs.take kk))) w8 (by rw [Lx.pack_size]; have := HJL.out; unfold maxLen; omega) (HI.out.below HB8.out hg0)
    rw [Lx.pack_list, HPT.out kk, HY.out] at hps
    have HPS := Lib.hid hps
    clear hb8 hps HJ7 hw7
    dsimp only
    go_wp2_with (fail)
    refine HPS.out.mono ?_
    rintro e w9 ⟨v9, rfl, ht9, hb9⟩
    obtain ⟨A9, c9, rfl, hr9, -⟩ := ht9
    have hal10 : Below w9.heap.size w9 (w9.alloc (.cells #[.slice A9 y.length c9] 24)) := (Below.refl _ w9).alloc (Nat.le_refl _) _
    have hA10 := hb9.trans (hal10.mono hb9.size)
    have HR10 := Lib.hid ((hr9.below hal10).more hal10.size)
    have HR10' := Lib.hid ((HR8.out.below hA10).more hA10.size)
    have HK10 := Lib.hid (Blk.new w9 24 #[.slice A9 y.length c9])
    have HK10' := Lib.hid (HK8.out.below hA10 HK8.out.lt)
    have HB10 := Lib.hid (HB8.out.trans (hA10.mono HB8.out.size))
    dsimp only at HR10 HK10 ⊢
    rw [HNY.out] at HR10 HR10' HK10 HK10' HB10 ⊢
    clear hb9 hal10 hA10 hr9 HPS
    obtain ⟨w10, hw10⟩ : ∃ w10, w9.alloc (.cells #[.slice A9 ny c9] 24) = w10 := ⟨_, rfl⟩
    rw [hw10] at HR10 HR10' HK10 HK10' HB10
    have HAL10 := Lib.hid (HAL.out w10 HB10.out)
    go_wp2_with (fail)
    refine HAL10.out.mono ?_
    rintro e w11 ⟨rfl, hb11⟩
    have d0 := (HK10.out.below hb11 HK10.out.lt).cell 0
    have d1 := (HK10'.out.below hb11 HK10'.out.lt).cell 0
    have hlk := rLike_any c6 c9 w11 ((HR10'.out.below hb11).more hb11.size) ((HR10.out.below hb11).more hb11.size) HSM7.out.2 rfl (by have := HSM7.out.1; omega)
    rw [decide_eq_true (rfl : y = y)] at hlk
    rw [HNY.out] at hlk
    have HLK := Lib.hid hlk
    have HB11 := Lib.hid (HB10.out.trans (hb11.mono HB10.out.size))
    clear hb11 hlk hw10 HAL10
    dsimp only
    go_wp2_with (fail)
    refine HLK.out.mono ?_
    rintro e w12 ⟨rfl, hb12⟩
    have HB12 := Lib.hid (HB11.out.trans (hb12.mono HB11.out.size))
    clear hb12 d0 d1
    go_wp2
    go_ret
    exact ⟨rfl, HB12.out⟩
  · have hne : ((n1 : Int) != 0) = true := by rw [bne_iff_ne]; omega
    have hs0 := text_none (l := fl) (by rw [HS1.out]; exact hn1)
    rw [HS1.out] at hs0
    dsimp only at hs0
    subst hs0
    have HAL2 := Lib.hid (HAL.out w2 HB2.out)
    go_wp2_with (fail)
    refine HAL2.out.mono ?_
    rintro e w3 ⟨rfl, hb3⟩
    have HB3 := Lib.hid (HB2.out.trans (hb3.mono HB2.out.size))
    clear hb3
    dsimp only
    go_wp2
    go_ret
    exact ⟨rfl, HB3.out⟩
end Go.Proofs.YtdgelfjnppjbgaaGreatDoor
