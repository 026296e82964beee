/- The walk of the law JudgeParts. By gen_judn.py. -/
import Derived.Test.YtggcmkpafpjnoaaGJudK
import Derived.Test.YtggcmkpafpjnoaaGJudM
namespace Go.Proofs.Ytggcmkpafpjnoaa
set_option maxRecDepth 100000
open Go.RowKit Go.Shelf Go.Sort

theorem jWhy_of {names : List ByteArray} {up : List Nat} {rule labs : List Int} {sort : Bool} (h1 : checkN names up = 0) (h2 : Rl.right rule sort = true) (h3 : labsOk up labs = true) : jWhy names up rule labs sort = 0 := by
  unfold jWhy
  rw [if_pos h1, if_pos h2, if_pos h3]
/-- Two rules with something behind them may be judged, and come to what they come to, taken together. -/
theorem parts_why {names : List ByteArray} {up : List Nat} {r s labs : List Int} {n : Int} {a b : Bool} (hr : jWhy names up r labs a = 0) (hs : jWhy names up s labs a = 0) (hl : r.length ≤ 18) (hl' : s.length ≤ 18) (hn : ((n = 3 ∨ n = 4) ∧ a = false ∧ b = false) ∨ (n = 5 ∧ a = true ∧ b = false) ∨ ((n = 12 ∨ n = 13) ∧ a = true ∧ b = true)) :
    jWhy names up (r ++ s ++ [n]) labs b = 0 ∧ Jg.val (jops up labs) (r ++ s ++ [n]) = Jg.two (jops up labs) n (Jg.val (jops up labs) r) (Jg.val (jops up labs) s) := by
  obtain ⟨h1, h2, h3⟩ := jWhy_zero hr
  obtain ⟨_, h5, _⟩ := jWhy_zero hs
  obtain ⟨g1, g2⟩ := Jg.right_two (o := jops up labs) h2 h5 (by simp; omega) hn
  exact ⟨jWhy_of h1 g1 h3, g2⟩
theorem val_sort {names : List ByteArray} {up : List Nat} {r labs : List Int} {a : Bool} (hr : jWhy names up r labs a = 0) : Jg.sort (Jg.val (jops up labs) r) = a ∧ Jg.Good up.length (Jg.val (jops up labs) r) ∧ r ≠ [] := by
  obtain ⟨h1, h2, h3⟩ := jWhy_zero hr
  obtain ⟨t, ht, hp, -⟩ := Sh.right_tree h2
  subst hp
  rw [Jg.val_tree ht]
  refine ⟨Jg.ev_sort t a ht, Jg.ev_good (fine_of h1 h3) t a ht, fun e => ?_⟩
  have := Sh.post_pos t
  rw [e] at this
  exact absurd this (by decide)
theorem val_c {names : List ByteArray} {up : List Nat} {r labs : List Int} (hr : jWhy names up r labs false = 0) : ∃ x, Jg.val (jops up labs) r = .c x := by
  have h := (val_sort hr).1
  cases e : Jg.val (jops up labs) r with
  | c x => exact ⟨x, rfl⟩
  | l x => rw [e] at h; cases h
theorem val_l {names : List ByteArray} {up : List Nat} {r labs : List Int} (hr : jWhy names up r labs true = 0) : ∃ x, Jg.val (jops up labs) r = .l x ∧ x < up.length := by
  obtain ⟨h, g, -⟩ := val_sort hr
  cases e : Jg.val (jops up labs) r with
  | l x => rw [e] at g; exact ⟨x, rfl, g⟩
  | c x => rw [e] at h; cases h
theorem why_not {names : List ByteArray} {up : List Nat} {r labs : List Int} (hr : jWhy names up r labs true = 0) : jWhy names up r labs false ≠ 0 := fun h => by
  obtain ⟨x, hx⟩ := val_c h
  obtain ⟨y, hy, -⟩ := val_l hr
  rw [hx] at hy
  cases hy
/-- The law's box after few: what it holds. -/
abbrev OneP (w : World) (A1 : Option Addr) (k1 c1 : Nat) (A2 : Option Addr) (k2 c2 : Nat) (names : List ByteArray) (up : List Nat) (W : World) : Prop := One w (.slice A1 k1 c1) (.slice A2 k2 c2) names up W
/-- Two rows and a number, joined, and judged: as a condition. -/
theorem joined_row {w W : World} {A1 A2 : Option Addr} {k1 c1 k2 c2 : Nat} {names : List ByteArray} {up : List Nat} {ra sa : Addr} {rr ss : List Int} (cr cs : Nat) (n : Int) (hW : OneP w A1 k1 c1 A2 k2 c2 names up W) (hr : Row w w.heap.size (some ra) (ints rr)) (hs : Row w w.heap.size (some sa) (ints ss)) (hrn : rr ≠ []) (hsn : ss ≠ []) (h18 : rr.length ≤ 18) (h18' : ss.length ≤ 18) :
    Calls Try.prog 12 #[.slice (some ⟨W.heap.size + 1, 0, none⟩) 3 3] (((W.drew).alloc (.cells #[.int .i64 n] 3)).alloc (.cells #[.slice (some ra) rr.length cr, .slice (some sa) ss.length cs, .slice (some ⟨W.heap.size, 0, none⟩) 1 1] 26)) (IJoined3 (((W.drew).alloc (.cells #[.int .i64 n] 3)).alloc (.cells #[.slice (some ra) rr.length cr, .slice (some sa) ss.length cs, .slice (some ⟨W.heap.size, 0, none⟩) 1 1] 26)) (rr ++ ss ++ [n])) := by
  obtain ⟨ra', e1, hrb, hrc⟩ := hr (by unfold ints; simpa using hrn)
  injection e1 with e1
  subst e1
  obtain ⟨sa', e2, hsb, hsc⟩ := hs (by unfold ints; simpa using hsn)
  injection e2 with e2
  subst e2
  have hsz := hW.below.size
  have hb : Below w.heap.size w (((W.drew).alloc (.cells #[.int .i64 n] 3)).alloc (.cells #[.slice (some ra) rr.length cr, .slice (some sa) ss.length cs, .slice (some ⟨W.heap.size, 0, none⟩) 1 1] 26)) := (hW.below.drew.alloc hsz _).alloc (by simp; omega) _
  have hk1 : Blk (((W.drew).alloc (.cells #[.int .i64 n] 3)).alloc (.cells #[.slice (some ra) rr.length cr, .slice (some sa) ss.length cs, .slice (some ⟨W.heap.size, 0, none⟩) 1 1] 26)) W.heap.size 3 #[.int .i64 n] := (Blk.new W.drew 3 #[.int .i64 n]).alloc _
  have hk2 : Blk (((W.drew).alloc (.cells #[.int .i64 n] 3)).alloc (.cells #[.slice (some ra) rr.length cr, .slice (some sa) ss.length cs, .slice (some ⟨W.heap.size, 0, none⟩) 1 1] 26)) (W.heap.size + 1) 26 #[.slice (some ra) rr.length cr, .slice (some sa) ss.length cs, .slice (some ⟨W.heap.size, 0, none⟩) 1 1] := by
    have := Blk.new ((W.drew).alloc (.cells #[.int .i64 n] 3)) 26 #[.slice (some ra) rr.length cr, .slice (some sa) ss.length cs, .slice (some ⟨W.heap.size, 0, none⟩) 1 1]
    simpa using this
  refine iconcat_any (L2 := [n]) _ (hk2.cell 0) (hk2.cell 1) (hk2.cell 2) (Nat.lt_of_lt_of_le hrb hb.size) (Nat.lt_of_lt_of_le hsb hb.size) hk1.lt (fun j u hj => (hb.cell (by rw [add_block]; exact hrb)).trans (hrc j u hj)) (fun j u hj => (hb.cell (by rw [add_block]; exact hsb)).trans (hsc j u hj)) (fun j u hj => ?_) (by simp) (by simp; omega)
  have hj0 : j = 0 := by have := (List.getElem?_eq_some_iff.1 hj).1; simp [ints] at this; omega
  subst hj0
  have hu : u = .int .i64 n := by simpa [ints] using hj.symm
  subst hu
  exact hk1.cell 0
set_option maxHeartbeats 32000000 in
theorem parts_any {A A' R S L : Option Addr} {n1 : List ByteArray} {u1 : List Nat} {r s labs : List Int} (c c' cr cs cl : Nat) (w : World) (hN : Row w w.heap.size A (strs n1)) (hU : Ups w w.heap.size A' u1) (hR : Row w w.heap.size R (ints r)) (hS : Row w w.heap.size S (ints s)) (hL : Row w w.heap.size L (ints labs)) (hc : n1.length ≤ c) (hc' : u1.length ≤ c') (hcr : r.length ≤ cr) (hcs : s.length ≤ cs) (hcl : labs.length ≤ cl) (hm : c ≤ maxLen) (hm' : c' ≤ maxLen) (hmr : cr ≤ maxLen) (hms : cs ≤ maxLen) (hml : cl ≤ maxLen) (hs : ∀ s ∈ n1, s.size ≤ maxLen) :
    Calls Try.prog 4 #[.agg #[.slice A n1.length c, .slice A' u1.length c'], .slice R r.length cr, .slice S s.length cs, .slice L labs.length cl] w fun e w' => e = .returned (.bool true) ∧ Below w.heap.size w w' := by
  have hfa := fun W (hW : Below w.heap.size w W) => few_any w.heap.size c c' W hW.size (hN.below hW) (hU.below hW) hc hc' hm hm' hs
  have hbk := Blk.new w 25 #[.slice A n1.length c, .slice A' u1.length c']
  have hb0 : Below w.heap.size w (w.alloc (.cells #[.slice A n1.length c, .slice A' u1.length c'] 25)).drew := ((Below.refl _ w).alloc (Nat.le_refl _) _).drew
  have hrr := row_cut hR 18
  obtain ⟨NR, hNRe⟩ : ∃ N, (r.take 18).length = N := ⟨_, rfl⟩
  have hNR1 : min (r.length : Int) 18 = (NR : Int) := by rw [← hNRe, List.length_take]; omega
  have hNRc : (NR ≤ cr) = True := eq_true (by rw [← hNRe, List.length_take]; omega)
  have hNR6 : NR ≤ 18 := by rw [← hNRe, List.length_take]; omega
  have hss := row_cut hS 18
  obtain ⟨NS, hNSe⟩ : ∃ N, (s.take 18).length = N := ⟨_, rfl⟩
  have hNS1 : min (s.length : Int) 18 = (NS : Int) := by rw [← hNSe, List.length_take]; omega
  have hNSc : (NS ≤ cs) = True := eq_true (by rw [← hNSe, List.length_take]; omega)
  have hNS6 : NS ≤ 18 := by rw [← hNSe, List.length_take]; omega
  have hll := row_cut hL 6
  obtain ⟨M, hMe⟩ : ∃ N, (labs.take 6).length = N := ⟨_, rfl⟩
  have hM1 : min (labs.length : Int) 6 = (M : Int) := by rw [← hMe, List.length_take]; omega
  have hMc : (M ≤ cl) = True := eq_true (by rw [← hMe, List.length_take]; omega)
  have hM6 : M ≤ 6 := by rw [← hMe, List.length_take]; omega
  generalize r.take 18 = rr at *
  generalize s.take 18 = ss at *
  generalize labs.take 6 = ll at *
  unfold maxLen at hmr hms hml
  have hrb : (r.length : Int) ≤ 9223372036854775807 := by omega
  have hsb : (s.length : Int) ≤ 9223372036854775807 := by omega
  have hlb : (labs.length : Int) ≤ 9223372036854775807 := by omega
  have HFA := Lib.hid hfa
  have HBK := Lib.hid hbk
  have HB0 := Lib.hid hb0
  have HRR := Lib.hid hrr
  have HSS := Lib.hid hss
  have HLL := Lib.hid hll
  have HNR := Lib.hid hNRe
  have HNS := Lib.hid hNSe
  have HM := Lib.hid hMe
  clear hfa hbk hb0 hrr hss hll hN hU hR hS hL hc hc' hcr hcs hcl hm hm' hmr hms hml hs hNRe hNSe hMe
  generalize r.length = rn at *
  generalize s.length = sn at *
  generalize labs.length = ln at *
  go_enter Try.func4, Try.ntmps4
  go_wp2
  refine Free.region_seq [1, 17, 18, 19, 20] [0] 1 (fun W' => W'.cell? ⟨w.heap.size, 0, none⟩ = some (.slice A n1.length c) ∧ W'.cell? ⟨w.heap.size, 1, none⟩ = some (.slice A' u1.length c')) (by kernel_rfl) (by kernel_rfl) (by kernel_rfl) (by kernel_rfl) (⟨HBK.out.cell 0, HBK.out.cell 1⟩) (fun ops hops => ?_)
  clear hops
  iterate 1
    refine Free.Seq.quiet (v := ?_) (a' := ?_) rfl rfl (fun W' hW' => ?_) ?_ ?_
    rotate_left 2
    · first | obtain ⟨s0, s1⟩ := hW' rfl | skip
      go_simp
      try with_reducible rfl
    · simp only [Act.put, List.setIfInBounds_toArray, List.set_cons_zero, List.set_cons_succ]
      try with_reducible rfl
  refine Free.Seq.loud_ rfl (.inl rfl) (fun K hK => ?_)
  go_simp
  refine (HFA.out _ HB0.out).mono ?_
  rintro e w1 ⟨v, names, up, rfl, hlw, hb1⟩
  have hfw : FewW w w1 v := ⟨names, up, fun W2 k => hlw W2 (k.mono_ (by simp))⟩
  obtain ⟨A1, k1, c1, A2, k2, c2, rfl⟩ := hfw.two
  dsimp only
  have hk1 : Blk w1 w.heap.size 25 #[.slice A n1.length c, .slice A' u1.length c'] := HBK.out.drew.below hb1 HBK.out.drew.lt
  have hc0 := hk1.cell 0
  have hc1 := hk1.cell 1
  have hf0 := hk1.frozen 0
  have hf1 := hk1.frozen 1
  have HB1 := Lib.hid (HB0.out.trans (hb1.mono HB0.out.size))
  refine hK.out _ _ rfl (fun h => absurd h (by decide)) ?_
  clear hK K hb1
  iterate 15
    refine Free.Seq.quiet (v := ?_) (a' := ?_) rfl rfl (fun W' hW' => ?_) ?_ ?_
    rotate_left 2
    · skip
      go_simp
      try with_reducible rfl
    · simp only [Act.put, List.setIfInBounds_toArray, List.set_cons_zero, List.set_cons_succ]
      try with_reducible rfl
  refine Free.Seq.loud_ rfl (.inl rfl) (fun K hK => ?_)
  go_simp
  refine hK.out _ _ rfl (fun h => absurd h (by decide)) ?_
  clear hK K
  refine Free.Seq.loud_ rfl (.inl rfl) (fun K hK => ?_)
  go_simp
  refine hK.out _ _ rfl (fun h => absurd h (by decide)) ?_
  clear hK K
  refine Free.Seq.loud_ rfl (.inl rfl) (fun K hK => ?_)
  go_simp
  refine hK.out _ _ rfl (fun h => absurd h (by decide)) ?_
  clear hK K
  refine Free.Seq.loud_ rfl (.inl rfl) (fun K hK => ?_)
  go_simp
  refine hK.out _ _ rfl (fun h => absurd h (by decide)) ?_
  clear hK K
  refine Free.Seq.nil_ ?_
  obtain ⟨W2, hW2⟩ : ∃ W2, (w1.setCell ⟨w.heap.size, 0, none⟩ (.slice A1 k1 c1)).setCell ⟨w.heap.size, 1, none⟩ (.slice A2 k2 c2) = W2 := ⟨_, rfl⟩
  have hone : One w (.slice A1 k1 c1) (.slice A2 k2 c2) names up W2 := by
    rw [← hW2]
    refine ⟨(hk1.set_ 0 _).set_ 1 _, hlw _ ?_, (HB1.out.setCell (p := ⟨w.heap.size, 0, none⟩) (Nat.le_refl _) _).setCell (p := ⟨w.heap.size, 1, none⟩) (Nat.le_refl _) _⟩
    exact ((Keeps.set_ (p := ⟨w.heap.size, 0, none⟩) (Nat.le_refl _) (by simp)).trans_ (Keeps.set_ (p := ⟨w.heap.size, 1, none⟩) (Nat.le_refl _) (by simp)))
  have hcr := fun W (hW : One w (.slice A1 k1 c1) (.slice A2 k2 c2) names up W) => cond_any (labs := ll) cr cl W hW.la (one_row HRR.out hW) (by rw [HNR.out]; omega) (one_row HLL.out hW) (by rw [HM.out]; omega)
  have hcs := fun W (hW : One w (.slice A1 k1 c1) (.slice A2 k2 c2) names up W) => cond_any (labs := ll) cs cl W hW.la (one_row HSS.out hW) (by rw [HNS.out]; omega) (one_row HLL.out hW) (by rw [HM.out]; omega)
  have hlr := fun W (hW : One w (.slice A1 k1 c1) (.slice A2 k2 c2) names up W) => label_any (labs := ll) cr cl W hW.la (one_row HRR.out hW) (by rw [HNR.out]; omega) (one_row HLL.out hW) (by rw [HM.out]; omega)
  have hls := fun W (hW : One w (.slice A1 k1 c1) (.slice A2 k2 c2) names up W) => label_any (labs := ll) cs cl W hW.la (one_row HSS.out hW) (by rw [HNS.out]; omega) (one_row HLL.out hW) (by rw [HM.out]; omega)
  obtain ⟨p, hp⟩ : ∃ p, jWhy names up rr ll false = p := ⟨_, rfl⟩
  obtain ⟨q, hq⟩ : ∃ p, jWhy names up ss ll false = p := ⟨_, rfl⟩
  obtain ⟨u, hu⟩ : ∃ p, jWhy names up rr ll true = p := ⟨_, rfl⟩
  obtain ⟨v, hv⟩ : ∃ p, jWhy names up ss ll true = p := ⟨_, rfl⟩
  rw [HNR.out, HM.out, hp] at hcr
  rw [HNS.out, HM.out, hq] at hcs
  rw [HNR.out, HM.out, hu] at hlr
  rw [HNS.out, HM.out, hv] at hls
  have hcvr : condV up rr ll p = if p = 0 then Jg.Is (Jg.val (jops up ll) rr) else false := rfl
  have hcvs : condV up ss ll q = if q = 0 then Jg.Is (Jg.val (jops up ll) ss) else false := rfl
  have hlvr : labelV up rr ll u = if u = 0 then Jg.A (Jg.val (jops up ll) rr) else 0 := rfl
  have hlvs : labelV up ss ll v = if v = 0 then Jg.A (Jg.val (jops up ll) ss) else 0 := rfl
  generalize condV up rr ll p = b0 at *
  generalize condV up ss ll q = b1 at *
  generalize labelV up rr ll u = a0 at *
  generalize labelV up ss ll v = a1 at *
  have h00 := hone.a.cell 0
  have h01 := hone.a.cell 1
  rw [hW2]
  clear hW2 hlw hfw hk1 hc0 hc1 hf0 hf1
  have HONE := Lib.hid hone
  have HCR := Lib.hid hcr
  have HCS := Lib.hid hcs
  have HLR := Lib.hid hlr
  have HLS := Lib.hid hls
  have HP := Lib.hid hp
  have HQ := Lib.hid hq
  have HU := Lib.hid hu
  have HV := Lib.hid hv
  have HBR := Lib.hid hcvr
  have HBS := Lib.hid hcvs
  have HAR := Lib.hid hlvr
  have HAS := Lib.hid hlvs
  clear hcr hcs hlr hls hp hq hu hv hcvr hcvs hlvr hlvs hone
  have HN18 : Hid (rr.length ≤ 18) := Lib.hid (by rw [HNR.out]; exact hNR6)
  have HN18s : Hid (ss.length ≤ 18) := Lib.hid (by rw [HNS.out]; exact hNS6)
  have H18 := HN18
  have H18s := HN18s
  by_cases hA : p = 0 ∧ q = 0
  · obtain ⟨rfl, rfl⟩ := hA
    obtain ⟨x, hx⟩ := val_c HP.out
    obtain ⟨y, hy⟩ := val_c HQ.out
    have HRN := Lib.hid (val_sort HP.out).2.2
    have HSN := Lib.hid (val_sort HQ.out).2.2
    have hbx : b0 = x := by rw [HBR.out, if_pos rfl, hx]; rfl
    have hby : b1 = y := by rw [HBS.out, if_pos rfl, hy]; rfl
    obtain ⟨ra, rfl, -, -⟩ := HRR.out (by have := HRN.out; unfold ints; simpa using this)
    obtain ⟨sa, rfl, -, -⟩ := HSS.out (by have := HSN.out; unfold ints; simpa using this)
    have HRA := HRR
    have HSA := HSS
    obtain ⟨ew3, ev3⟩ := parts_why (n := 3) (b := false) HP.out HQ.out HN18.out HN18s.out (by simp)
    have CC3 : Hid (∀ W, OneP w A1 k1 c1 A2 k2 c2 names up W → ∀ (Aj : Option Addr) (m cj : Nat), m = (rr ++ ss ++ [3]).length → Row W W.heap.size Aj (ints (rr ++ ss ++ [3])) → Calls Try.prog 7 #[.agg #[.slice A1 k1 c1, .slice A2 k2 c2], .slice Aj m cj, .slice L M cl] W fun e w' => e = .returned (.tuple #[.bool (x && y), .int .i64 ((0 : Nat) : Int)]) ∧ Below W.heap.size W w') := Lib.hid fun W hW Aj m cj hm hrow => by
      have h18 := HN18.out
      have h18s := HN18s.out
      have := cond_any (rule := rr ++ ss ++ [3]) (labs := ll) cj cl W hW.la hrow (by simp; omega) (one_row HLL.out hW) (by rw [HM.out]; omega)
      rw [ew3, HM.out, ← hm] at this
      unfold condV at this
      rw [if_pos rfl, ev3] at this
      rw [hx, hy] at this
      exact this
    obtain ⟨ew4, ev4⟩ := parts_why (n := 4) (b := false) HP.out HQ.out HN18.out HN18s.out (by simp)
    have CC4 : Hid (∀ W, OneP w A1 k1 c1 A2 k2 c2 names up W → ∀ (Aj : Option Addr) (m cj : Nat), m = (rr ++ ss ++ [4]).length → Row W W.heap.size Aj (ints (rr ++ ss ++ [4])) → Calls Try.prog 7 #[.agg #[.slice A1 k1 c1, .slice A2 k2 c2], .slice Aj m cj, .slice L M cl] W fun e w' => e = .returned (.tuple #[.bool (x || y), .int .i64 ((0 : Nat) : Int)]) ∧ Below W.heap.size W w') := Lib.hid fun W hW Aj m cj hm hrow => by
      have h18 := HN18.out
      have h18s := HN18s.out
      have := cond_any (rule := rr ++ ss ++ [4]) (labs := ll) cj cl W hW.la hrow (by simp; omega) (one_row HLL.out hW) (by rw [HM.out]; omega)
      rw [ew4, HM.out, ← hm] at this
      unfold condV at this
      rw [if_pos rfl, ev4] at this
      rw [hx, hy] at this
      exact this
    subst hbx hby
    clear ew3 ev3 ew4 ev4 hx hy HLR HLS HAR HAS HU HV HBR HBS
    go_wp2_with (fail)
    refine (HCR.out W2 HONE.out).mono ?_
    rintro e w3 ⟨rfl, hbn⟩
    have HX1 := Lib.hid (one_stable _ _ _ _ _ _ _ HONE.out hbn)
    have HX10 := HX1.out.a.cell 0
    have HX11 := HX1.out.a.cell 1
    clear hbn h00 h01 HONE
    go_wp2_with (fail)
    refine (HCS.out w3 HX1.out).mono ?_
    rintro e w4 ⟨rfl, hbn⟩
    have HX2 := Lib.hid (one_stable _ _ _ _ _ _ _ HX1.out hbn)
    have HX20 := HX2.out.a.cell 0
    have HX21 := HX2.out.a.cell 1
    clear hbn HX1 HX10 HX11 HCR HCS
    go_wp2
    refine Free.region_seq [3, 4, 5, 7] [0] 7 (fun W' => W'.cell? ⟨w.heap.size, 0, none⟩ = some (.slice A1 k1 c1) ∧ W'.cell? ⟨w.heap.size, 1, none⟩ = some (.slice A2 k2 c2)) (by kernel_rfl) (by kernel_rfl) (by kernel_rfl) (by kernel_rfl) (⟨HX2.out.a.cell 0, HX2.out.a.cell 1⟩) (fun ops hops => ?_)
    clear hops
    iterate 3
      refine Free.Seq.quiet (v := ?_) (a' := ?_) rfl rfl (fun W' hW' => ?_) ?_ ?_
      rotate_left 2
      · first | obtain ⟨s0, s1⟩ := hW' rfl | skip
        go_simp
        try with_reducible rfl
      · simp only [Act.put, List.setIfInBounds_toArray, List.set_cons_zero, List.set_cons_succ]
        try with_reducible rfl
    refine Free.Seq.loud_ rfl (.inl rfl) (fun K hK => ?_)
    go_simp
    refine hK.out _ _ rfl (fun _ => ⟨(HX2.out.a.drew.alloc _).cell 0, (HX2.out.a.drew.alloc _).cell 1⟩) ?_
    clear hK K
    refine Free.Seq.loud_ rfl (.inl rfl) (fun K hK => ?_)
    go_simp
    refine hK.out _ _ rfl (fun _ => ⟨((HX2.out.a.drew.alloc _).alloc _).cell 0, ((HX2.out.a.drew.alloc _).alloc _).cell 1⟩) ?_
    clear hK K
    refine Free.Seq.loud_ rfl (.inl rfl) (fun K hK => ?_)
    go_simp
    have hjr := joined_row cr cs 3 HX2.out HRA.out HSA.out HRN.out HSN.out H18.out H18s.out
    rw [HNR.out, HNS.out] at hjr
    refine hjr.mono ?_
    clear hjr
    rintro e w5 ⟨vj, rfl, hown, hbj⟩
    obtain ⟨m, hm⟩ : ∃ m, m = (rr ++ ss ++ [3]).length := ⟨_, rfl⟩
    rw [← hm] at hown
    obtain ⟨Aj, cj, rfl⟩ := ownT_slice hown
    have HOJ := Lib.hid ((ownT_row hown).1)
    have HMJ := Lib.hid hm
    have HJ := Lib.hid (one_stable _ _ _ _ _ _ _ HX2.out ((((Below.refl _ w4).drew.alloc (Nat.le_refl _) (.cells #[.int .i64 3] 3)).alloc (by simp) (.cells #[.slice (some ra) NR cr, .slice (some sa) NS cs, .slice (some ⟨w4.heap.size, 0, none⟩) 1 1] 26)).trans (hbj.mono (by simp; omega))))
    dsimp only
    refine hK.out _ _ rfl (fun _ => ⟨HJ.out.a.cell 0, HJ.out.a.cell 1⟩) ?_
    clear hK K hown hbj hm
    iterate 1
      refine Free.Seq.quiet (v := ?_) (a' := ?_) rfl rfl (fun W' hW' => ?_) ?_ ?_
      rotate_left 2
      · first | obtain ⟨s0, s1⟩ := hW' rfl | skip
        go_simp
        try with_reducible rfl
      · simp only [Act.put, List.setIfInBounds_toArray, List.set_cons_zero, List.set_cons_succ]
        try with_reducible rfl
    refine Free.Seq.loud_ rfl (.inl rfl) (fun K hK => ?_)
    go_simp
    refine (CC3.out w5 HJ.out Aj m cj HMJ.out HOJ.out).mono ?_
    rintro e w6 ⟨rfl, hbn⟩
    have HX3 := Lib.hid (one_stable _ _ _ _ _ _ _ HJ.out hbn)
    have HX30 := HX3.out.a.cell 0
    have HX31 := HX3.out.a.cell 1
    refine hK.out _ _ rfl (fun h => absurd h (by decide)) ?_
    clear hK K hbn HJ HOJ HMJ HX2 HX20 HX21 CC3
    iterate 5
      refine Free.Seq.quiet (v := ?_) (a' := ?_) rfl rfl (fun W' hW' => ?_) ?_ ?_
      rotate_left 2
      · skip
        go_simp
        try with_reducible rfl
      · simp only [Act.put, List.setIfInBounds_toArray, List.set_cons_zero, List.set_cons_succ]
        try with_reducible rfl
    refine Free.Seq.nil_ ?_
    go_wp2
    refine Free.region_seq [3, 4, 5, 7] [0] 7 (fun W' => W'.cell? ⟨w.heap.size, 0, none⟩ = some (.slice A1 k1 c1) ∧ W'.cell? ⟨w.heap.size, 1, none⟩ = some (.slice A2 k2 c2)) (by kernel_rfl) (by kernel_rfl) (by kernel_rfl) (by kernel_rfl) (⟨HX3.out.a.cell 0, HX3.out.a.cell 1⟩) (fun ops hops => ?_)
    clear hops
    iterate 3
      refine Free.Seq.quiet (v := ?_) (a' := ?_) rfl rfl (fun W' hW' => ?_) ?_ ?_
      rotate_left 2
      · first | obtain ⟨s0, s1⟩ := hW' rfl | skip
        go_simp
        try with_reducible rfl
      · simp only [Act.put, List.setIfInBounds_toArray, List.set_cons_zero, List.set_cons_succ]
        try with_reducible rfl
    refine Free.Seq.loud_ rfl (.inl rfl) (fun K hK => ?_)
    go_simp
    refine hK.out _ _ rfl (fun _ => ⟨(HX3.out.a.drew.alloc _).cell 0, (HX3.out.a.drew.alloc _).cell 1⟩) ?_
    clear hK K
    refine Free.Seq.loud_ rfl (.inl rfl) (fun K hK => ?_)
    go_simp
    refine hK.out _ _ rfl (fun _ => ⟨((HX3.out.a.drew.alloc _).alloc _).cell 0, ((HX3.out.a.drew.alloc _).alloc _).cell 1⟩) ?_
    clear hK K
    refine Free.Seq.loud_ rfl (.inl rfl) (fun K hK => ?_)
    go_simp
    have hjr := joined_row cr cs 4 HX3.out HRA.out HSA.out HRN.out HSN.out H18.out H18s.out
    rw [HNR.out, HNS.out] at hjr
    refine hjr.mono ?_
    clear hjr
    rintro e w7 ⟨vj, rfl, hown, hbj⟩
    obtain ⟨m, hm⟩ : ∃ m, m = (rr ++ ss ++ [4]).length := ⟨_, rfl⟩
    rw [← hm] at hown
    obtain ⟨Aj, cj, rfl⟩ := ownT_slice hown
    have HOJ := Lib.hid ((ownT_row hown).1)
    have HMJ := Lib.hid hm
    have HJ := Lib.hid (one_stable _ _ _ _ _ _ _ HX3.out ((((Below.refl _ w6).drew.alloc (Nat.le_refl _) (.cells #[.int .i64 4] 3)).alloc (by simp) (.cells #[.slice (some ra) NR cr, .slice (some sa) NS cs, .slice (some ⟨w6.heap.size, 0, none⟩) 1 1] 26)).trans (hbj.mono (by simp; omega))))
    dsimp only
    refine hK.out _ _ rfl (fun _ => ⟨HJ.out.a.cell 0, HJ.out.a.cell 1⟩) ?_
    clear hK K hown hbj hm
    iterate 1
      refine Free.Seq.quiet (v := ?_) (a' := ?_) rfl rfl (fun W' hW' => ?_) ?_ ?_
      rotate_left 2
      · first | obtain ⟨s0, s1⟩ := hW' rfl | skip
        go_simp
        try with_reducible rfl
      · simp only [Act.put, List.setIfInBounds_toArray, List.set_cons_zero, List.set_cons_succ]
        try with_reducible rfl
    refine Free.Seq.loud_ rfl (.inl rfl) (fun K hK => ?_)
    go_simp
    refine (CC4.out w7 HJ.out Aj m cj HMJ.out HOJ.out).mono ?_
    rintro e w8 ⟨rfl, hbn⟩
    have HX4 := Lib.hid (one_stable _ _ _ _ _ _ _ HJ.out hbn)
    have HX40 := HX4.out.a.cell 0
    have HX41 := HX4.out.a.cell 1
    refine hK.out _ _ rfl (fun h => absurd h (by decide)) ?_
    clear hK K hbn HJ HOJ HMJ HX3 HX30 HX31 CC4
    iterate 5
      refine Free.Seq.quiet (v := ?_) (a' := ?_) rfl rfl (fun W' hW' => ?_) ?_ ?_
      rotate_left 2
      · skip
        go_simp
        try with_reducible rfl
      · simp only [Act.put, List.setIfInBounds_toArray, List.set_cons_zero, List.set_cons_succ]
        try with_reducible rfl
    refine Free.Seq.nil_ ?_
    cases b0 <;> cases b1
    all_goals
      go_wp2_with (fail)
      refine (alive7_any w8).mono ?_
      rintro e w9 ⟨rfl, hb9⟩
      have HX5 := Lib.hid (one_stable _ _ _ _ _ _ _ HX4.out hb9)
      clear hb9
      go_wp2
      go_ret
      exact ⟨rfl, HX5.out.below⟩
  · by_cases hB : u = 0 ∧ v = 0
    · obtain ⟨rfl, rfl⟩ := hB
      have hpn : p ≠ 0 := HP.out ▸ why_not HU.out
      have hqn : q ≠ 0 := HQ.out ▸ why_not HV.out
      have hp1 : ((p : Int) == 0) = false := zero_some hpn
      have hq1 : ((q : Int) == 0) = false := zero_some hqn
      obtain ⟨x, hx, hxl⟩ := val_l HU.out
      obtain ⟨y, hy, hyl⟩ := val_l HV.out
      have HRN := Lib.hid (val_sort HU.out).2.2
      have HSN := Lib.hid (val_sort HV.out).2.2
      have hax : a0 = x := by rw [HAR.out, if_pos rfl, hx]; rfl
      have hay : a1 = y := by rw [HAS.out, if_pos rfl, hy]; rfl
      obtain ⟨ra, rfl, -, -⟩ := HRR.out (by have := HRN.out; unfold ints; simpa using this)
      obtain ⟨sa, rfl, -, -⟩ := HSS.out (by have := HSN.out; unfold ints; simpa using this)
      have HRA := HRR
      have HSA := HSS
      have hz1 := (jWhy_zero HU.out).1
      have hfl := fun W (hW : OneP w A1 k1 c1 A2 k2 c2 names up W) => Flows_any x y W hW.la
      have hjo := fun W (hW : OneP w A1 k1 c1 A2 k2 c2 names up W) => Join_any x y W hW.la
      have hme := fun W (hW : OneP w A1 k1 c1 A2 k2 c2 names up W) => Meet_any x y W hW.la
      rw [flowsR_ok hz1 hxl hyl, labN_ok hz1 hxl hyl] at hfl
      rw [joinR_ok hz1 hxl hyl, labN_ok hz1 hxl hyl] at hjo
      rw [meetR_ok hz1 hxl hyl, labN_ok hz1 hxl hyl] at hme
      obtain ⟨f, hf⟩ : ∃ f, Lat.fl up x y = f := ⟨_, rfl⟩
      obtain ⟨jn, hjn⟩ : ∃ f, Lat.leastN up (Lat.joinS up x y) = f := ⟨_, rfl⟩
      obtain ⟨mt, hmt⟩ : ∃ f, Lat.leastN (Lat.turned up) (Lat.joinS (Lat.turned up) x y) = f := ⟨_, rfl⟩
      rw [hf] at hfl
      rw [hjn] at hjo
      rw [hmt] at hme
      obtain ⟨ew5, ev5⟩ := parts_why (n := 5) (b := false) HU.out HV.out HN18.out HN18s.out (by simp)
      have CC5 : Hid (∀ W, OneP w A1 k1 c1 A2 k2 c2 names up W → ∀ (Aj : Option Addr) (m cj : Nat), m = (rr ++ ss ++ [5]).length → Row W W.heap.size Aj (ints (rr ++ ss ++ [5])) → Calls Try.prog 7 #[.agg #[.slice A1 k1 c1, .slice A2 k2 c2], .slice Aj m cj, .slice L M cl] W fun e w' => e = .returned (.tuple #[.bool f, .int .i64 ((0 : Nat) : Int)]) ∧ Below W.heap.size W w') := Lib.hid fun W hW Aj m cj hm hrow => by
        have h18 := HN18.out
        have h18s := HN18s.out
        have := cond_any (rule := rr ++ ss ++ [5]) (labs := ll) cj cl W hW.la hrow (by simp; omega) (one_row HLL.out hW) (by rw [HM.out]; omega)
        rw [ew5, HM.out, ← hm] at this
        unfold condV at this
        rw [if_pos rfl, ev5] at this
        rw [hx, hy, show Jg.Is (Jg.two (jops up ll) 5 (.l x) (.l y)) = f from hf] at this
        exact this
      obtain ⟨ew12, ev12⟩ := parts_why (n := 12) (b := true) HU.out HV.out HN18.out HN18s.out (by simp)
      have CC12 : Hid (∀ W, OneP w A1 k1 c1 A2 k2 c2 names up W → ∀ (Aj : Option Addr) (m cj : Nat), m = (rr ++ ss ++ [12]).length → Row W W.heap.size Aj (ints (rr ++ ss ++ [12])) → Calls Try.prog 8 #[.agg #[.slice A1 k1 c1, .slice A2 k2 c2], .slice Aj m cj, .slice L M cl] W fun e w' => e = .returned (.tuple #[.int .i64 (jn : Int), .int .i64 ((0 : Nat) : Int)]) ∧ Below W.heap.size W w') := Lib.hid fun W hW Aj m cj hm hrow => by
        have h18 := HN18.out
        have h18s := HN18s.out
        have := label_any (rule := rr ++ ss ++ [12]) (labs := ll) cj cl W hW.la hrow (by simp; omega) (one_row HLL.out hW) (by rw [HM.out]; omega)
        rw [ew12, HM.out, ← hm] at this
        unfold labelV at this
        rw [if_pos rfl, ev12] at this
        rw [hx, hy, show Jg.A (Jg.two (jops up ll) 12 (.l x) (.l y)) = jn from hjn] at this
        exact this
      obtain ⟨ew13, ev13⟩ := parts_why (n := 13) (b := true) HU.out HV.out HN18.out HN18s.out (by simp)
      have CC13 : Hid (∀ W, OneP w A1 k1 c1 A2 k2 c2 names up W → ∀ (Aj : Option Addr) (m cj : Nat), m = (rr ++ ss ++ [13]).length → Row W W.heap.size Aj (ints (rr ++ ss ++ [13])) → Calls Try.prog 8 #[.agg #[.slice A1 k1 c1, .slice A2 k2 c2], .slice Aj m cj, .slice L M cl] W fun e w' => e = .returned (.tuple #[.int .i64 (mt : Int), .int .i64 ((0 : Nat) : Int)]) ∧ Below W.heap.size W w') := Lib.hid fun W hW Aj m cj hm hrow => by
        have h18 := HN18.out
        have h18s := HN18s.out
        have := label_any (rule := rr ++ ss ++ [13]) (labs := ll) cj cl W hW.la hrow (by simp; omega) (one_row HLL.out hW) (by rw [HM.out]; omega)
        rw [ew13, HM.out, ← hm] at this
        unfold labelV at this
        rw [if_pos rfl, ev13] at this
        rw [hx, hy, show Jg.A (Jg.two (jops up ll) 13 (.l x) (.l y)) = mt from hmt] at this
        exact this
      have HFL := Lib.hid hfl
      have HJO := Lib.hid hjo
      have HME := Lib.hid hme
      subst hax hay
      clear ew5 ev5 ew12 ev12 ew13 ev13 hx hy hf hjn hmt hfl hjo hme hz1 hxl hyl hpn hqn hA HAR HAS HU HV HBR HBS HP HQ
      go_wp2_with (fail)
      refine (HCR.out W2 HONE.out).mono ?_
      rintro e w3 ⟨rfl, hbn⟩
      have HX1 := Lib.hid (one_stable _ _ _ _ _ _ _ HONE.out hbn)
      have HX10 := HX1.out.a.cell 0
      have HX11 := HX1.out.a.cell 1
      clear hbn h00 h01 HONE
      go_wp2_with (fail)
      refine (HCS.out w3 HX1.out).mono ?_
      rintro e w4 ⟨rfl, hbn⟩
      have HX2 := Lib.hid (one_stable _ _ _ _ _ _ _ HX1.out hbn)
      have HX20 := HX2.out.a.cell 0
      have HX21 := HX2.out.a.cell 1
      clear hbn HX1 HX10 HX11 HCR HCS
      go_wp2_with (fail)
      refine (HLR.out w4 HX2.out).mono ?_
      rintro e w5 ⟨rfl, hbn⟩
      have HX3 := Lib.hid (one_stable _ _ _ _ _ _ _ HX2.out hbn)
      have HX30 := HX3.out.a.cell 0
      have HX31 := HX3.out.a.cell 1
      clear hbn HX2 HX20 HX21 HLR
      go_wp2_with (fail)
      refine (HLS.out w5 HX3.out).mono ?_
      rintro e w6 ⟨rfl, hbn⟩
      have HX4 := Lib.hid (one_stable _ _ _ _ _ _ _ HX3.out hbn)
      have HX40 := HX4.out.a.cell 0
      have HX41 := HX4.out.a.cell 1
      clear hbn HX3 HX30 HX31 HLS
      go_wp2
      refine Free.region_seq [3, 4, 5, 7] [0] 7 (fun W' => W'.cell? ⟨w.heap.size, 0, none⟩ = some (.slice A1 k1 c1) ∧ W'.cell? ⟨w.heap.size, 1, none⟩ = some (.slice A2 k2 c2)) (by kernel_rfl) (by kernel_rfl) (by kernel_rfl) (by kernel_rfl) (⟨HX4.out.a.cell 0, HX4.out.a.cell 1⟩) (fun ops hops => ?_)
      clear hops
      iterate 3
        refine Free.Seq.quiet (v := ?_) (a' := ?_) rfl rfl (fun W' hW' => ?_) ?_ ?_
        rotate_left 2
        · first | obtain ⟨s0, s1⟩ := hW' rfl | skip
          go_simp
          try with_reducible rfl
        · simp only [Act.put, List.setIfInBounds_toArray, List.set_cons_zero, List.set_cons_succ]
          try with_reducible rfl
      refine Free.Seq.loud_ rfl (.inl rfl) (fun K hK => ?_)
      go_simp
      refine hK.out _ _ rfl (fun _ => ⟨(HX4.out.a.drew.alloc _).cell 0, (HX4.out.a.drew.alloc _).cell 1⟩) ?_
      clear hK K
      refine Free.Seq.loud_ rfl (.inl rfl) (fun K hK => ?_)
      go_simp
      refine hK.out _ _ rfl (fun _ => ⟨((HX4.out.a.drew.alloc _).alloc _).cell 0, ((HX4.out.a.drew.alloc _).alloc _).cell 1⟩) ?_
      clear hK K
      refine Free.Seq.loud_ rfl (.inl rfl) (fun K hK => ?_)
      go_simp
      have hjr := joined_row cr cs 5 HX4.out HRA.out HSA.out HRN.out HSN.out H18.out H18s.out
      rw [HNR.out, HNS.out] at hjr
      refine hjr.mono ?_
      clear hjr
      rintro e w7 ⟨vj, rfl, hown, hbj⟩
      obtain ⟨m, hm⟩ : ∃ m, m = (rr ++ ss ++ [5]).length := ⟨_, rfl⟩
      rw [← hm] at hown
      obtain ⟨Aj, cj, rfl⟩ := ownT_slice hown
      have HOJ := Lib.hid ((ownT_row hown).1)
      have HMJ := Lib.hid hm
      have HJ := Lib.hid (one_stable _ _ _ _ _ _ _ HX4.out ((((Below.refl _ w6).drew.alloc (Nat.le_refl _) (.cells #[.int .i64 5] 3)).alloc (by simp) (.cells #[.slice (some ra) NR cr, .slice (some sa) NS cs, .slice (some ⟨w6.heap.size, 0, none⟩) 1 1] 26)).trans (hbj.mono (by simp; omega))))
      dsimp only
      refine hK.out _ _ rfl (fun _ => ⟨HJ.out.a.cell 0, HJ.out.a.cell 1⟩) ?_
      clear hK K hown hbj hm
      iterate 1
        refine Free.Seq.quiet (v := ?_) (a' := ?_) rfl rfl (fun W' hW' => ?_) ?_ ?_
        rotate_left 2
        · first | obtain ⟨s0, s1⟩ := hW' rfl | skip
          go_simp
          try with_reducible rfl
        · simp only [Act.put, List.setIfInBounds_toArray, List.set_cons_zero, List.set_cons_succ]
          try with_reducible rfl
      refine Free.Seq.loud_ rfl (.inl rfl) (fun K hK => ?_)
      go_simp
      refine (CC5.out w7 HJ.out Aj m cj HMJ.out HOJ.out).mono ?_
      rintro e w8 ⟨rfl, hbn⟩
      have HX5 := Lib.hid (one_stable _ _ _ _ _ _ _ HJ.out hbn)
      have HX50 := HX5.out.a.cell 0
      have HX51 := HX5.out.a.cell 1
      refine hK.out _ _ rfl (fun h => absurd h (by decide)) ?_
      clear hK K hbn HJ HOJ HMJ HX4 HX40 HX41 CC5
      iterate 5
        refine Free.Seq.quiet (v := ?_) (a' := ?_) rfl rfl (fun W' hW' => ?_) ?_ ?_
        rotate_left 2
        · skip
          go_simp
          try with_reducible rfl
        · simp only [Act.put, List.setIfInBounds_toArray, List.set_cons_zero, List.set_cons_succ]
          try with_reducible rfl
      refine Free.Seq.nil_ ?_
      go_wp2
      refine Free.region_seq [3, 4, 5, 7] [0] 7 (fun W' => W'.cell? ⟨w.heap.size, 0, none⟩ = some (.slice A1 k1 c1) ∧ W'.cell? ⟨w.heap.size, 1, none⟩ = some (.slice A2 k2 c2)) (by kernel_rfl) (by kernel_rfl) (by kernel_rfl) (by kernel_rfl) (⟨HX5.out.a.cell 0, HX5.out.a.cell 1⟩) (fun ops hops => ?_)
      clear hops
      iterate 3
        refine Free.Seq.quiet (v := ?_) (a' := ?_) rfl rfl (fun W' hW' => ?_) ?_ ?_
        rotate_left 2
        · first | obtain ⟨s0, s1⟩ := hW' rfl | skip
          go_simp
          try with_reducible rfl
        · simp only [Act.put, List.setIfInBounds_toArray, List.set_cons_zero, List.set_cons_succ]
          try with_reducible rfl
      refine Free.Seq.loud_ rfl (.inl rfl) (fun K hK => ?_)
      go_simp
      refine hK.out _ _ rfl (fun _ => ⟨(HX5.out.a.drew.alloc _).cell 0, (HX5.out.a.drew.alloc _).cell 1⟩) ?_
      clear hK K
      refine Free.Seq.loud_ rfl (.inl rfl) (fun K hK => ?_)
      go_simp
      refine hK.out _ _ rfl (fun _ => ⟨((HX5.out.a.drew.alloc _).alloc _).cell 0, ((HX5.out.a.drew.alloc _).alloc _).cell 1⟩) ?_
      clear hK K
      refine Free.Seq.loud_ rfl (.inl rfl) (fun K hK => ?_)
      go_simp
      have hjr := joined_row cr cs 12 HX5.out HRA.out HSA.out HRN.out HSN.out H18.out H18s.out
      rw [HNR.out, HNS.out] at hjr
      refine hjr.mono ?_
      clear hjr
      rintro e w9 ⟨vj, rfl, hown, hbj⟩
      obtain ⟨m, hm⟩ : ∃ m, m = (rr ++ ss ++ [12]).length := ⟨_, rfl⟩
      rw [← hm] at hown
      obtain ⟨Aj, cj, rfl⟩ := ownT_slice hown
      have HOJ := Lib.hid ((ownT_row hown).1)
      have HMJ := Lib.hid hm
      have HJ := Lib.hid (one_stable _ _ _ _ _ _ _ HX5.out ((((Below.refl _ w8).drew.alloc (Nat.le_refl _) (.cells #[.int .i64 12] 3)).alloc (by simp) (.cells #[.slice (some ra) NR cr, .slice (some sa) NS cs, .slice (some ⟨w8.heap.size, 0, none⟩) 1 1] 26)).trans (hbj.mono (by simp; omega))))
      dsimp only
      refine hK.out _ _ rfl (fun _ => ⟨HJ.out.a.cell 0, HJ.out.a.cell 1⟩) ?_
      clear hK K hown hbj hm
      iterate 1
        refine Free.Seq.quiet (v := ?_) (a' := ?_) rfl rfl (fun W' hW' => ?_) ?_ ?_
        rotate_left 2
        · first | obtain ⟨s0, s1⟩ := hW' rfl | skip
          go_simp
          try with_reducible rfl
        · simp only [Act.put, List.setIfInBounds_toArray, List.set_cons_zero, List.set_cons_succ]
          try with_reducible rfl
      refine Free.Seq.loud_ rfl (.inl rfl) (fun K hK => ?_)
      go_simp
      refine (CC12.out w9 HJ.out Aj m cj HMJ.out HOJ.out).mono ?_
      rintro e w10 ⟨rfl, hbn⟩
      have HX6 := Lib.hid (one_stable _ _ _ _ _ _ _ HJ.out hbn)
      have HX60 := HX6.out.a.cell 0
      have HX61 := HX6.out.a.cell 1
      refine hK.out _ _ rfl (fun h => absurd h (by decide)) ?_
      clear hK K hbn HJ HOJ HMJ HX5 HX50 HX51 CC12
      iterate 5
        refine Free.Seq.quiet (v := ?_) (a' := ?_) rfl rfl (fun W' hW' => ?_) ?_ ?_
        rotate_left 2
        · skip
          go_simp
          try with_reducible rfl
        · simp only [Act.put, List.setIfInBounds_toArray, List.set_cons_zero, List.set_cons_succ]
          try with_reducible rfl
      refine Free.Seq.nil_ ?_
      go_wp2
      refine Free.region_seq [3, 4, 5, 7] [0] 7 (fun W' => W'.cell? ⟨w.heap.size, 0, none⟩ = some (.slice A1 k1 c1) ∧ W'.cell? ⟨w.heap.size, 1, none⟩ = some (.slice A2 k2 c2)) (by kernel_rfl) (by kernel_rfl) (by kernel_rfl) (by kernel_rfl) (⟨HX6.out.a.cell 0, HX6.out.a.cell 1⟩) (fun ops hops => ?_)
      clear hops
      iterate 3
        refine Free.Seq.quiet (v := ?_) (a' := ?_) rfl rfl (fun W' hW' => ?_) ?_ ?_
        rotate_left 2
        · first | obtain ⟨s0, s1⟩ := hW' rfl | skip
          go_simp
          try with_reducible rfl
        · simp only [Act.put, List.setIfInBounds_toArray, List.set_cons_zero, List.set_cons_succ]
          try with_reducible rfl
      refine Free.Seq.loud_ rfl (.inl rfl) (fun K hK => ?_)
      go_simp
      refine hK.out _ _ rfl (fun _ => ⟨(HX6.out.a.drew.alloc _).cell 0, (HX6.out.a.drew.alloc _).cell 1⟩) ?_
      clear hK K
      refine Free.Seq.loud_ rfl (.inl rfl) (fun K hK => ?_)
      go_simp
      refine hK.out _ _ rfl (fun _ => ⟨((HX6.out.a.drew.alloc _).alloc _).cell 0, ((HX6.out.a.drew.alloc _).alloc _).cell 1⟩) ?_
      clear hK K
      refine Free.Seq.loud_ rfl (.inl rfl) (fun K hK => ?_)
      go_simp
      have hjr := joined_row cr cs 13 HX6.out HRA.out HSA.out HRN.out HSN.out H18.out H18s.out
      rw [HNR.out, HNS.out] at hjr
      refine hjr.mono ?_
      clear hjr
      rintro e w11 ⟨vj, rfl, hown, hbj⟩
      obtain ⟨m, hm⟩ : ∃ m, m = (rr ++ ss ++ [13]).length := ⟨_, rfl⟩
      rw [← hm] at hown
      obtain ⟨Aj, cj, rfl⟩ := ownT_slice hown
      have HOJ := Lib.hid ((ownT_row hown).1)
      have HMJ := Lib.hid hm
      have HJ := Lib.hid (one_stable _ _ _ _ _ _ _ HX6.out ((((Below.refl _ w10).drew.alloc (Nat.le_refl _) (.cells #[.int .i64 13] 3)).alloc (by simp) (.cells #[.slice (some ra) NR cr, .slice (some sa) NS cs, .slice (some ⟨w10.heap.size, 0, none⟩) 1 1] 26)).trans (hbj.mono (by simp; omega))))
      dsimp only
      refine hK.out _ _ rfl (fun _ => ⟨HJ.out.a.cell 0, HJ.out.a.cell 1⟩) ?_
      clear hK K hown hbj hm
      iterate 1
        refine Free.Seq.quiet (v := ?_) (a' := ?_) rfl rfl (fun W' hW' => ?_) ?_ ?_
        rotate_left 2
        · first | obtain ⟨s0, s1⟩ := hW' rfl | skip
          go_simp
          try with_reducible rfl
        · simp only [Act.put, List.setIfInBounds_toArray, List.set_cons_zero, List.set_cons_succ]
          try with_reducible rfl
      refine Free.Seq.loud_ rfl (.inl rfl) (fun K hK => ?_)
      go_simp
      refine (CC13.out w11 HJ.out Aj m cj HMJ.out HOJ.out).mono ?_
      rintro e w12 ⟨rfl, hbn⟩
      have HX7 := Lib.hid (one_stable _ _ _ _ _ _ _ HJ.out hbn)
      have HX70 := HX7.out.a.cell 0
      have HX71 := HX7.out.a.cell 1
      refine hK.out _ _ rfl (fun h => absurd h (by decide)) ?_
      clear hK K hbn HJ HOJ HMJ HX6 HX60 HX61 CC13
      iterate 5
        refine Free.Seq.quiet (v := ?_) (a' := ?_) rfl rfl (fun W' hW' => ?_) ?_ ?_
        rotate_left 2
        · skip
          go_simp
          try with_reducible rfl
        · simp only [Act.put, List.setIfInBounds_toArray, List.set_cons_zero, List.set_cons_succ]
          try with_reducible rfl
      refine Free.Seq.nil_ ?_
      go_wp2_with (fail)
      refine (HFL.out w12 HX7.out).mono ?_
      rintro e w13 ⟨rfl, hbn⟩
      have HX8 := Lib.hid (one_stable _ _ _ _ _ _ _ HX7.out hbn)
      have HX80 := HX8.out.a.cell 0
      have HX81 := HX8.out.a.cell 1
      clear hbn HX7 HX70 HX71 HFL
      go_wp2_with (fail)
      refine (HJO.out w13 HX8.out).mono ?_
      rintro e w14 ⟨rfl, hbn⟩
      have HX9 := Lib.hid (one_stable _ _ _ _ _ _ _ HX8.out hbn)
      have HX90 := HX9.out.a.cell 0
      have HX91 := HX9.out.a.cell 1
      clear hbn HX8 HX80 HX81 HJO
      go_wp2_with (fail)
      refine (HME.out w14 HX9.out).mono ?_
      rintro e w15 ⟨rfl, hbn⟩
      have HXA := Lib.hid (one_stable _ _ _ _ _ _ _ HX9.out hbn)
      have HXA0 := HXA.out.a.cell 0
      have HXA1 := HXA.out.a.cell 1
      clear hbn HX9 HX90 HX91 HME
      cases f
      all_goals
        go_wp2_with (fail)
        refine (alive7_any w15).mono ?_
        rintro e w16 ⟨rfl, hb9⟩
        have HXB := Lib.hid (one_stable _ _ _ _ _ _ _ HXA.out hb9)
        clear hb9
        go_wp2
        go_ret
        exact ⟨rfl, HXB.out.below⟩
    · clear HP HQ HU HV HBR HBS HAR HAS
      by_cases zp : p = 0
      · subst zp
        have zq : q ≠ 0 := fun e => hA ⟨rfl, e⟩
        have hq1 : ((q : Int) == 0) = false := zero_some zq
        have hq2 : ((q : Int) != 0) = true := by rw [bne_iff_ne]; omega
        clear hA
        by_cases zu : u = 0
        · subst zu
          have zv : v ≠ 0 := fun e => hB ⟨rfl, e⟩
          have hv1 : ((v : Int) == 0) = false := zero_some zv
          have hv2 : ((v : Int) != 0) = true := by rw [bne_iff_ne]; omega
          clear hB
          go_wp2_with (fail)
          refine (HCR.out W2 HONE.out).mono ?_
          rintro e w3 ⟨rfl, hbn⟩
          have HX1 := Lib.hid (one_stable _ _ _ _ _ _ _ HONE.out hbn)
          have HX10 := HX1.out.a.cell 0
          have HX11 := HX1.out.a.cell 1
          clear hbn h00 h01 HONE
          go_wp2_with (fail)
          refine (HCS.out w3 HX1.out).mono ?_
          rintro e w4 ⟨rfl, hbn⟩
          have HX2 := Lib.hid (one_stable _ _ _ _ _ _ _ HX1.out hbn)
          have HX20 := HX2.out.a.cell 0
          have HX21 := HX2.out.a.cell 1
          clear hbn HX1 HX10 HX11 HCR HCS
          go_wp2_with (fail)
          refine (HLR.out w4 HX2.out).mono ?_
          rintro e w5 ⟨rfl, hbn⟩
          have HX3 := Lib.hid (one_stable _ _ _ _ _ _ _ HX2.out hbn)
          have HX30 := HX3.out.a.cell 0
          have HX31 := HX3.out.a.cell 1
          clear hbn HX2 HX20 HX21 HLR
          go_wp2_with (fail)
          refine (HLS.out w5 HX3.out).mono ?_
          rintro e w6 ⟨rfl, hbn⟩
          have HX4 := Lib.hid (one_stable _ _ _ _ _ _ _ HX3.out hbn)
          have HX40 := HX4.out.a.cell 0
          have HX41 := HX4.out.a.cell 1
          clear hbn HX3 HX30 HX31 HLS
          go_wp2_with (fail)
          refine (alive7_any w6).mono ?_
          rintro e w7 ⟨rfl, hb9⟩
          have HXB := Lib.hid (one_stable _ _ _ _ _ _ _ HX4.out hb9)
          clear hb9
          go_wp2
          go_ret
          exact ⟨rfl, HXB.out.below⟩
        · have hu1 : ((u : Int) == 0) = false := zero_some zu
          have hu2 : ((u : Int) != 0) = true := by rw [bne_iff_ne]; omega
          clear hB
          go_wp2_with (fail)
          refine (HCR.out W2 HONE.out).mono ?_
          rintro e w3 ⟨rfl, hbn⟩
          have HX1 := Lib.hid (one_stable _ _ _ _ _ _ _ HONE.out hbn)
          have HX10 := HX1.out.a.cell 0
          have HX11 := HX1.out.a.cell 1
          clear hbn h00 h01 HONE
          go_wp2_with (fail)
          refine (HCS.out w3 HX1.out).mono ?_
          rintro e w4 ⟨rfl, hbn⟩
          have HX2 := Lib.hid (one_stable _ _ _ _ _ _ _ HX1.out hbn)
          have HX20 := HX2.out.a.cell 0
          have HX21 := HX2.out.a.cell 1
          clear hbn HX1 HX10 HX11 HCR HCS
          go_wp2_with (fail)
          refine (HLR.out w4 HX2.out).mono ?_
          rintro e w5 ⟨rfl, hbn⟩
          have HX3 := Lib.hid (one_stable _ _ _ _ _ _ _ HX2.out hbn)
          have HX30 := HX3.out.a.cell 0
          have HX31 := HX3.out.a.cell 1
          clear hbn HX2 HX20 HX21 HLR
          go_wp2_with (fail)
          refine (HLS.out w5 HX3.out).mono ?_
          rintro e w6 ⟨rfl, hbn⟩
          have HX4 := Lib.hid (one_stable _ _ _ _ _ _ _ HX3.out hbn)
          have HX40 := HX4.out.a.cell 0
          have HX41 := HX4.out.a.cell 1
          clear hbn HX3 HX30 HX31 HLS
          go_wp2_with (fail)
          refine (alive7_any w6).mono ?_
          rintro e w7 ⟨rfl, hb9⟩
          have HXB := Lib.hid (one_stable _ _ _ _ _ _ _ HX4.out hb9)
          clear hb9
          go_wp2
          go_ret
          exact ⟨rfl, HXB.out.below⟩
      · have hp1 : ((p : Int) == 0) = false := zero_some zp
        have hp2 : ((p : Int) != 0) = true := by rw [bne_iff_ne]; omega
        clear hA
        by_cases zu : u = 0
        · subst zu
          have zv : v ≠ 0 := fun e => hB ⟨rfl, e⟩
          have hv1 : ((v : Int) == 0) = false := zero_some zv
          have hv2 : ((v : Int) != 0) = true := by rw [bne_iff_ne]; omega
          clear hB
          go_wp2_with (fail)
          refine (HCR.out W2 HONE.out).mono ?_
          rintro e w3 ⟨rfl, hbn⟩
          have HX1 := Lib.hid (one_stable _ _ _ _ _ _ _ HONE.out hbn)
          have HX10 := HX1.out.a.cell 0
          have HX11 := HX1.out.a.cell 1
          clear hbn h00 h01 HONE
          go_wp2_with (fail)
          refine (HCS.out w3 HX1.out).mono ?_
          rintro e w4 ⟨rfl, hbn⟩
          have HX2 := Lib.hid (one_stable _ _ _ _ _ _ _ HX1.out hbn)
          have HX20 := HX2.out.a.cell 0
          have HX21 := HX2.out.a.cell 1
          clear hbn HX1 HX10 HX11 HCR HCS
          go_wp2_with (fail)
          refine (HLR.out w4 HX2.out).mono ?_
          rintro e w5 ⟨rfl, hbn⟩
          have HX3 := Lib.hid (one_stable _ _ _ _ _ _ _ HX2.out hbn)
          have HX30 := HX3.out.a.cell 0
          have HX31 := HX3.out.a.cell 1
          clear hbn HX2 HX20 HX21 HLR
          go_wp2_with (fail)
          refine (HLS.out w5 HX3.out).mono ?_
          rintro e w6 ⟨rfl, hbn⟩
          have HX4 := Lib.hid (one_stable _ _ _ _ _ _ _ HX3.out hbn)
          have HX40 := HX4.out.a.cell 0
          have HX41 := HX4.out.a.cell 1
          clear hbn HX3 HX30 HX31 HLS
          go_wp2_with (fail)
          refine (alive7_any w6).mono ?_
          rintro e w7 ⟨rfl, hb9⟩
          have HXB := Lib.hid (one_stable _ _ _ _ _ _ _ HX4.out hb9)
          clear hb9
          go_wp2
          go_ret
          exact ⟨rfl, HXB.out.below⟩
        · have hu1 : ((u : Int) == 0) = false := zero_some zu
          have hu2 : ((u : Int) != 0) = true := by rw [bne_iff_ne]; omega
          clear hB
          go_wp2_with (fail)
          refine (HCR.out W2 HONE.out).mono ?_
          rintro e w3 ⟨rfl, hbn⟩
          have HX1 := Lib.hid (one_stable _ _ _ _ _ _ _ HONE.out hbn)
          have HX10 := HX1.out.a.cell 0
          have HX11 := HX1.out.a.cell 1
          clear hbn h00 h01 HONE
          go_wp2_with (fail)
          refine (HCS.out w3 HX1.out).mono ?_
          rintro e w4 ⟨rfl, hbn⟩
          have HX2 := Lib.hid (one_stable _ _ _ _ _ _ _ HX1.out hbn)
          have HX20 := HX2.out.a.cell 0
          have HX21 := HX2.out.a.cell 1
          clear hbn HX1 HX10 HX11 HCR HCS
          go_wp2_with (fail)
          refine (HLR.out w4 HX2.out).mono ?_
          rintro e w5 ⟨rfl, hbn⟩
          have HX3 := Lib.hid (one_stable _ _ _ _ _ _ _ HX2.out hbn)
          have HX30 := HX3.out.a.cell 0
          have HX31 := HX3.out.a.cell 1
          clear hbn HX2 HX20 HX21 HLR
          go_wp2_with (fail)
          refine (HLS.out w5 HX3.out).mono ?_
          rintro e w6 ⟨rfl, hbn⟩
          have HX4 := Lib.hid (one_stable _ _ _ _ _ _ _ HX3.out hbn)
          have HX40 := HX4.out.a.cell 0
          have HX41 := HX4.out.a.cell 1
          clear hbn HX3 HX30 HX31 HLS
          go_wp2_with (fail)
          refine (alive7_any w6).mono ?_
          rintro e w7 ⟨rfl, hb9⟩
          have HXB := Lib.hid (one_stable _ _ _ _ _ _ _ HX4.out hb9)
          clear hb9
          go_wp2
          go_ret
          exact ⟨rfl, HXB.out.below⟩
end Go.Proofs.Ytggcmkpafpjnoaa
