/- The reference of stage 13: Right, left, log, Take, Same. -/
import Derived.Test.YtmgaaejghfgbnaaDrwF
import Derived.Test.YtmgaaejghfgbnaaDrwD
namespace Go.Proofs.Ytmgaaejghfgbnaa
set_option maxRecDepth 100000
open Go.RowKit Go.Shelf
attribute [local go_sem] Oper.semAt_some

theorem run_append_none13 {P : Program} {w : World} {base : Nat} (t ty e : TypeId) (i : TypeInfo) (size c : Nat) (ht : P.underlying t = some (.slice e)) (hi : P.info? e = some i)
    (v : Value) (n : Nat) (xs : List Value) (hown : w.ownsRow base e size v n xs) : (Builtin.append_ #[t, t] ty #[v, .slice none 0 c]).run P w = .ok v w := by
  rcases hown.2 with ⟨rfl, rfl⟩ | ⟨g, cap, cur, rfl, _, _, hnc, _⟩
  · simp [Builtin.append_, run_underlying ht, sizeOf, typeInfo, hi, Builtin.lenOf, Builtin.firstCells]
  · simp [Builtin.append_, run_underlying ht, sizeOf, typeInfo, hi, Builtin.lenOf, Builtin.firstCells, hnc, storeCells]
/-- append of a row of numbers, without a place or with one. -/
theorem append_run13 {w : World} (base : Nat) (v : Value) (n : Nat) (l : List Int) (hown : w.ownsRow base 3 1 v n (ints l)) (A : Option Addr) (m c : Nat) (news : List Int) (hn : news.length = m) (hr : Row w w.heap.size A (ints news)) (h63 : n + m ≤ 1000000) (hbase : base ≤ w.heap.size) :
    ∃ v' w', (Builtin.append_ #[22, 22] 22 #[v, .slice A m c]).run Try.prog w = .ok v' w' ∧ w'.ownsRow base 3 1 v' (n + m) (ints (l ++ news)) ∧ Below base w w' ∧ ∀ (g : Nat) (t : TypeId) (cs : Array Value), some g ≠ v.ownBlock → Blk w g t cs → Blk w' g t cs := by
  obtain ⟨i0, hi, hz0, hz1, hz2⟩ := info_parts Try.infoInt
  cases A with
  | some ad =>
    obtain ⟨v', w', h1, h2, h3, _, h5⟩ := run_append_own_at (P := Try.prog) w base 22 22 3 i0 (.int .i64 0) 1 8 Try.underlying22 hi hz0 hz1 hz2 rfl (by decide) v n _ hown ad m c (ints news) (by rw [ints_length, hn, Nat.mul_one])
      (fun j u hu => by
        obtain ⟨ad', e, _, hc⟩ := hr (by rintro e; rw [e] at hu; simp at hu)
        injection e with e
        subst e
        exact hc j u hu) (by intro u hu; obtain ⟨x, _, rfl⟩ := List.mem_map.1 hu; rfl) (by unfold maxLen; omega) (by omega) hbase
    refine ⟨v', w', h1, by unfold ints at h2 ⊢; rw [List.map_append]; exact h2, (Below.refl base w).grown h3 hbase (fun k he => (hown.lt k he).1), fun g t cs hg hb => (h3.block g hb.lt hg).trans hb⟩
  | none =>
    have hn0 : news = [] := by
      cases news with
      | nil => rfl
      | cons y r => obtain ⟨ad, e, _⟩ := hr (by simp [ints]); cases e
    subst hn0
    subst hn
    exact ⟨v, w, run_append_none13 (P := Try.prog) (w := w) 22 22 3 i0 1 c Try.underlying22 hi v n _ hown, by simpa using hown, Below.refl _ _, fun _ _ _ _ h => h⟩
theorem rRight13_any {A L : Option Addr} (n c m d : Nat) (i : Int) (w : World) : Calls Try.prog 34 #[.agg #[.slice A n c, .int .i64 i, .slice L m d]] w (Tells w (Dr.right n i m)) := by
  unfold Dr.right
  have hb := (Below.refl _ w).alloc (Nat.le_refl _) (.cells #[.slice A n c, .int .i64 i, .slice L m d] 24)
  have HB := Lib.hid hb
  clear hb
  by_cases h1 : n ≤ 500
  · by_cases h2 : m ≤ 2000
    · by_cases h3 : 0 ≤ i
      · have h4 : decide (i ≥ 0) = true := decide_eq_true h3
        rw [decide_eq_true (show n ≤ 500 ∧ m ≤ 2000 ∧ 0 ≤ i from ⟨h1, h2, h3⟩)]
        go_enter Try.func34, Try.ntmps34
        go_wp2
        go_ret
        exact ⟨rfl, HB.out⟩
      · have h4 : decide (i ≥ 0) = false := decide_eq_false h3
        rw [decide_eq_false (show ¬ (n ≤ 500 ∧ m ≤ 2000 ∧ 0 ≤ i) from fun h => h3 h.2.2)]
        go_enter Try.func34, Try.ntmps34
        go_wp2
        go_ret
        exact ⟨rfl, HB.out⟩
    · rw [decide_eq_false (show ¬ (n ≤ 500 ∧ m ≤ 2000 ∧ 0 ≤ i) from fun h => h2 h.2.1)]
      go_enter Try.func34, Try.ntmps34
      go_wp2
      go_ret
      exact ⟨rfl, HB.out⟩
  · rw [decide_eq_false (show ¬ (n ≤ 500 ∧ m ≤ 2000 ∧ 0 ≤ i) from fun h => h1 h.1)]
    go_enter Try.func34, Try.ntmps34
    go_wp2
    go_ret
    exact ⟨rfl, HB.out⟩
theorem rLeft13_any (n b : Int) (hb : 0 < b) (hB : b < 9223372036854775808) (w : World) : Calls Try.prog 35 #[.int .i64 n, .int .i64 b] w fun e w' => e = .returned (.int .i64 (n % b)) ∧ w = w' := by
  have he := Dr.left_eq n b hb
  have h1 := Int.lt_tmod_of_pos n hb
  have h2 := Int.tmod_lt_of_pos n hb
  have hw : wrap64 (n.tmod b) = n.tmod b := by unfold wrap64; omega
  have hw2 : n.tmod b < 0 → wrap64 (n.tmod b + b) = n.tmod b + b := fun h => by unfold wrap64; omega
  have hb0 : (b == 0) = false := by rw [beq_eq_false_iff_ne]; omega
  have hb1 : ¬ b = 0 := by omega
  by_cases hn : n.tmod b < 0
  · rw [if_pos hn] at he
    have HE := Lib.hid (he.trans (hw2 hn).symm)
    have hl : decide (n.tmod b < 0) = true := decide_eq_true hn
    clear h1 h2 hw2 he hn
    go_enter Try.func35, Try.ntmps35
    go_wp2
    go_ret
    exact ⟨by rw [HE.out]; rfl, rfl⟩
  · rw [if_neg hn] at he
    have hl : decide (n.tmod b < 0) = false := decide_eq_false hn
    have HE := Lib.hid he
    clear h1 h2 hw2 he hn
    go_enter Try.func35, Try.ntmps35
    go_wp2
    go_ret
    exact ⟨by rw [HE.out]; rfl, rfl⟩
theorem rLog13_any {L : Option Addr} {log : List Int} (m d : Nat) (x : Int) (w : World) (h : Row w w.heap.size L (ints log)) (hm : log.length = m) (hm9 : m ≤ 100000) :
    Calls Try.prog 36 #[.slice L m d, .int .i64 x] w fun e w' => ∃ L' d', e = .returned (.slice L' (m + 1) d') ∧ w'.ownsRow w.heap.size 3 1 (.slice L' (m + 1) d') (m + 1) (ints (log ++ [x])) ∧ Below w.heap.size w w' := by
  have hb0 := (Below.refl _ w).alloc (Nat.le_refl _) (.cells #[] 3)
  obtain ⟨v1, W1, hrun1, hown1, hb1, -⟩ := append_run13 w.heap.size _ 0 [] (own_empty1 w 3) L m d log hm ((h.below hb0).more hb0.size) (by omega) hb0.size
  rw [Nat.zero_add, List.nil_append] at hown1
  have hb2 := hb0.trans hb1
  have hb3 := hb2.alloc hb2.size (.cells #[.int .i64 x] 3)
  have hr3 := (Blk.new W1 3 #[.int .i64 x]).row (cs := [.int .i64 x])
  obtain ⟨v2, W2, hrun2, hown2, hb4, -⟩ := append_run13 w.heap.size _ m log (hown1.alloc (.cells #[.int .i64 x] 3)) (some ⟨W1.heap.size, 0, none⟩) 1 1 [x] rfl (by simp only [World.size_alloc]; exact hr3) (by omega) hb3.size
  obtain ⟨L', d', rfl⟩ := ownT_slice hown2
  have HR1 := Lib.hid hrun1
  have HR2 := Lib.hid hrun2
  have HO := Lib.hid hown2
  have HB := Lib.hid (hb3.trans hb4)
  clear h hb0 hb1 hb2 hb3 hb4 hr3 hrun1 hrun2 hown1 hown2 hm
  go_enter Try.func36, Try.ntmps36
  go_wp2_with (at_builtin; first | (refine wpList_appD rfl _ _ 22 22 rfl _ _ rfl rfl _ _ HR1.out ?_) | (refine wpList_appD rfl _ _ 22 22 rfl _ _ rfl rfl _ _ HR2.out ?_))
  go_ret
  exact ⟨L', d', rfl, HO.out, HB.out⟩
theorem rSame13_any {A B L M : Option Addr} {l1 l2 g1 g2 : List Int} (n1 n2 m1 m2 c1 c2 d1 d2 : Nat) (i j : Int) (w : World) (hA : Row w w.heap.size A (ints l1)) (hB : Row w w.heap.size B (ints l2)) (hL : Row w w.heap.size L (ints g1)) (hM : Row w w.heap.size M (ints g2))
    (e1 : l1.length = n1) (e2 : l2.length = n2) (e3 : g1.length = m1) (e4 : g2.length = m2) (s1 : n1 ≤ 1000000) (s2 : n2 ≤ 1000000) (s3 : m1 ≤ 1000000) (s4 : m2 ≤ 1000000) :
    Calls Try.prog 12 #[.agg #[.slice A n1 c1, .int .i64 i, .slice L m1 d1], .agg #[.slice B n2 c2, .int .i64 j, .slice M m2 d2]] w (Tells w (decide (i = j ∧ l1 = l2 ∧ g1 = g2))) := by
  have hb := ((Below.refl _ w).alloc (Nat.le_refl _) (.cells #[.slice A n1 c1, .int .i64 i, .slice L m1 d1] 24)).alloc (by simp) (.cells #[.slice B n2 c2, .int .i64 j, .slice M m2 d2] 24)
  have hi1 : ∀ W, Below w.heap.size w W → Calls Try.prog 26 #[.slice A n1 c1, .slice B n2 c2] W (Tells W (decide (l1 = l2))) := fun W hW => by
    have h := rInts13_any c1 c2 W ((hA.below hW).more hW.size) ((hB.below hW).more hW.size) (by omega) (by omega)
    rwa [e1, e2] at h
  have hi2 : ∀ W, Below w.heap.size w W → Calls Try.prog 26 #[.slice L m1 d1, .slice M m2 d2] W (Tells W (decide (g1 = g2))) := fun W hW => by
    have h := rInts13_any d1 d2 W ((hL.below hW).more hW.size) ((hM.below hW).more hW.size) (by omega) (by omega)
    rwa [e3, e4] at h
  have hk0 := (Blk.new w 24 #[.slice A n1 c1, .int .i64 i, .slice L m1 d1]).alloc (.cells #[.slice B n2 c2, .int .i64 j, .slice M m2 d2] 24)
  have hk1 := Blk.new (w.alloc (.cells #[.slice A n1 c1, .int .i64 i, .slice L m1 d1] 24)) 24 #[.slice B n2 c2, .int .i64 j, .slice M m2 d2]
  rw [World.size_alloc] at hk1
  have q0 := hk0.cell 0
  have q1 := hk0.cell 1
  have p0 := hk1.cell 0
  have p1 := hk1.cell 1
  have HK0 := Lib.hid hk0
  have HK1 := Lib.hid hk1
  have HB := Lib.hid hb
  have HI1 := Lib.hid hi1
  have HI2 := Lib.hid hi2
  clear hb hk0 hk1 hi1 hi2 hA hB hL hM e1 e2 e3 e4 s1 s2 s3 s4
  by_cases h1 : i = j
  · subst h1
    have ht : (decide (i = i ∧ l1 = l2 ∧ g1 = g2)) = (decide (l1 = l2) && decide (g1 = g2)) := by simp
    rw [ht]
    generalize decide (l1 = l2) = b1 at *
    generalize decide (g1 = g2) = b2 at *
    clear ht
    cases b1
    · go_enter Try.func12, Try.ntmps12
      go_wp2_with (fail)
      refine (HI1.out _ HB.out).mono ?_
      rintro e w1 ⟨rfl, hb1⟩
      have HB1 := Lib.hid (HB.out.trans (hb1.mono HB.out.size))
      clear hb1
      go_wp2
      go_ret
      exact ⟨rfl, HB1.out⟩
    · go_enter Try.func12, Try.ntmps12
      go_wp2_with (fail)
      refine (HI1.out _ HB.out).mono ?_
      rintro e w1 ⟨rfl, hb1⟩
      have HB1 := Lib.hid (HB.out.trans (hb1.mono HB.out.size))
      have x2 := (HK0.out.below hb1 HK0.out.lt).cell 2
      have y2 := (HK1.out.below hb1 HK1.out.lt).cell 2
      clear hb1
      go_wp2_with (fail)
      refine (HI2.out _ HB1.out).mono ?_
      rintro e w2 ⟨rfl, hb2⟩
      have HB2 := Lib.hid (HB1.out.trans (hb2.mono HB1.out.size))
      clear hb2
      go_wp2
      go_ret
      exact ⟨by simp, HB2.out⟩
  · have ht : (decide (i = j ∧ l1 = l2 ∧ g1 = g2)) = false := decide_eq_false fun h => h1 h.1
    have h2 : (i == j) = false := by rw [beq_eq_false_iff_ne]; exact h1
    rw [ht]
    clear h1 ht
    go_enter Try.func12, Try.ntmps12
    go_wp2
    go_ret
    exact ⟨rfl, HB.out⟩
end Go.Proofs.Ytmgaaejghfgbnaa
