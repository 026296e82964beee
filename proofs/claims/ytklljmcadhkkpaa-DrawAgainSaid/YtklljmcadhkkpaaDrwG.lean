/- The law's alive; the walk of the law DrawOrders. -/
import Derived.Test.YtklljmcadhkkpaaDrwF
import Derived.Test.YtklljmcadhkkpaaDrwD
namespace Go.Proofs.Ytklljmcadhkkpaa
set_option maxRecDepth 100000
open Go.RowKit Go.Shelf
attribute [local go_sem] Oper.semAt_some

set_option maxHeartbeats 2000000 in
theorem alive13_any (w : World) : Calls Try.prog 6 #[] w (Tells w true) := by
  have hb := (Below.refl _ w).alloc (Nat.le_refl _) (.cells #[.int .i64 (-1)] 3)
  have hr := (Blk.new w 3 #[.int .i64 (-1)]).row (cs := [.int .i64 (-1)])
  have hnew := new13_any 1 [-1] (w.alloc (.cells #[.int .i64 (-1)] 3)) (A := some ⟨w.heap.size, 0, none⟩) (by simp only [World.size_alloc]; exact hr) (by decide)
  have htk : ∀ (A : Option Addr) (c : Nat) (W : World), Row W W.heap.size A (ints [-1]) → Calls Try.prog 12 #[.agg #[.slice A 1 c, .int .i64 0, .slice none 0 0], .int .i64 3] W (Take13 W 1 0 [-1] [] 2 1) := fun A c W hA => by
    refine take13_yes 1 c 0 0 0 1 3 2 W fun W2 M hb2 hM => ?_
    have h := many13_yes (L := none) (list := [-1]) (log := []) (bounds := [3]) 1 c 0 0 1 1 0 W2 ((hA.below hb2).more hb2.size) Row.nil hM rfl rfl rfl (by decide) (by decide) (by decide) (by decide)
    refine h.mono fun e w' hp => ?_
    rw [if_pos (show Dr.err [3] 0 = 0 by decide)] at hp
    exact hp
  unfold New13 at hnew
  unfold Take13 at htk
  have HN := Lib.hid hnew
  have HT := Lib.hid htk
  have HB := Lib.hid hb
  clear hb hr hnew htk
  go_enter Try.func6, Try.ntmps6
  go_wp2_with (fail)
  refine HN.out.mono ?_
  rintro e w1 ⟨A1, c1, rfl, ho1, hb1⟩
  have HB1 := Lib.hid (HB.out.trans (hb1.mono HB.out.size))
  have HR1 := Lib.hid (ownT_row ho1).1
  clear ho1 hb1
  go_wp2_with (fail)
  refine (HT.out A1 c1 w1 HR1.out).mono ?_
  rintro e w2 ⟨A2, c2, L2, d2, rfl, -, -, hb2⟩
  have hb3 := HB1.out.trans (hb2.mono HB1.out.size)
  have hk := Blk.new w2 27 #[.slice none 0 0, .int .i64 0, .slice none 0 0]
  obtain ⟨Y1, Y2, Y3, e0, e1, e2, f0, f1, f2, g0, g1, g2, r0, r1, r2, -, -, HYB⟩ := n3_steps hk (.slice A2 1 c2) (.int .i64 (1 : Int)) (.slice L2 (0 + 1) d2)
  have HB3 := Lib.hid (HYB.out _ _ hb3.size (hb3.alloc hb3.size (.cells #[.slice none 0 0, .int .i64 0, .slice none 0 0] 27)))
  clear hb2 hb3 hk HYB
  go_wp2
  go_ret
  exact ⟨rfl, HB3.out⟩
theorem ints_take13 (l : List Int) (k : Nat) : (ints l).take k = ints (l.take k) := by simp [ints, List.map_take]
set_option maxHeartbeats 4000000 in
theorem drawOrders_any {A B : Option Addr} {a b : List Int} (c d : Nat) (w : World) (h : Row w w.heap.size A (ints a)) (h2 : Row w w.heap.size B (ints b)) (hc : a.length ≤ c) (hd : b.length ≤ d) (hm : c ≤ maxLen) (hm2 : d ≤ maxLen) :
    Calls Try.prog 3 #[.slice A a.length c, .slice B b.length d] w (Tells w true) := by
  unfold maxLen at hm hm2
  obtain ⟨N, hN⟩ : ∃ N, min a.length 600 = N := ⟨_, rfl⟩
  obtain ⟨M, hM⟩ : ∃ M, min b.length 600 = M := ⟨_, rfl⟩
  have hmin : min (a.length : Int) 600 = (N : Int) := by omega
  have hmin2 : min (b.length : Int) 600 = (M : Int) := by omega
  have hN1 : N ≤ a.length := by omega
  have hM1 : M ≤ b.length := by omega
  have hN2 : N ≤ 600 := by omega
  have hM2 : M ≤ 600 := by omega
  clear hN hM
  obtain ⟨ra, hra⟩ : ∃ ra, a.take N = ra := ⟨_, rfl⟩
  obtain ⟨rb, hrb⟩ : ∃ rb, b.take M = rb := ⟨_, rfl⟩
  have hla : ra.length = N := by rw [← hra, List.length_take]; omega
  have hlb : rb.length = M := by rw [← hrb, List.length_take]; omega
  have h3 : Row w w.heap.size A (ints ra) := by have := h.take N; rwa [ints_take13, hra] at this
  have h4 : Row w w.heap.size B (ints rb) := by have := h2.take M; rwa [ints_take13, hrb] at this
  obtain ⟨r, hr⟩ : ∃ r, Dr.cmp ra rb = r := ⟨_, rfl⟩
  have hrc := Dr.cmp_cases ra rb
  have hc1 : ∀ W, Below w.heap.size w W → Calls Try.prog 5 #[.slice A N c, .slice B M d] W (TellsZ13 W r) := fun W hW => by
    have := drwCmp_any c d W ((h3.below hW).more hW.size) ((h4.below hW).more hW.size) (by omega) (by omega)
    rwa [hla, hlb, hr] at this
  have hc2 : ∀ W, Below w.heap.size w W → Calls Try.prog 5 #[.slice B M d, .slice A N c] W (TellsZ13 W (-r)) := fun W hW => by
    have := drwCmp_any d c W ((h4.below hW).more hW.size) ((h3.below hW).more hW.size) (by omega) (by omega)
    rwa [hla, hlb, Dr.cmp_turn, hr] at this
  have hc3 : ∀ W, Below w.heap.size w W → Calls Try.prog 5 #[.slice A N c, .slice A N c] W (TellsZ13 W 0) := fun W hW => by
    have := drwCmp_any c c W ((h3.below hW).more hW.size) ((h3.below hW).more hW.size) (by omega) (by omega)
    rwa [hla, Dr.cmp_self] at this
  have hc4 : ∀ W, Below w.heap.size w W → Calls Try.prog 7 #[.slice A N c, .slice B M d] W (TellsZ13 W r) := fun W hW => by
    have := rCmp13_any c d W ((h3.below hW).more hW.size) ((h4.below hW).more hW.size) (by omega) (by omega)
    rwa [hla, hlb, hr] at this
  rw [hr] at hrc
  have hw : wrap64 (-r) = -r := by unfold wrap64; omega
  have H1 := Lib.hid hc1
  have H2 := Lib.hid hc2
  have H3 := Lib.hid hc3
  have H4 := Lib.hid hc4
  clear h h2 h3 h4 hra hrb hla hlb hr hrc hc1 hc2 hc3 hc4
  generalize a.length = an at *
  generalize b.length = bn at *
  go_enter Try.func3, Try.ntmps3
  go_wp2
  go_region
  go_wp2_with (fail)
  have HB0 := Lib.hid ((Below.refl w.heap.size w).drew)
  refine (H1.out _ HB0.out).mono ?_
  rintro e w1 ⟨rfl, hb1⟩
  have HB1 := Lib.hid (HB0.out.trans (hb1.mono HB0.out.size))
  clear hb1
  go_wp2_with (fail)
  refine (alive13_any _).mono ?_
  rintro e w2 ⟨rfl, hb2⟩
  have HB2 := Lib.hid (HB1.out.trans (hb2.mono HB1.out.size))
  clear hb2
  go_wp2_with (fail)
  refine (H4.out _ HB2.out).mono ?_
  rintro e w3 ⟨rfl, hb3⟩
  have HB3 := Lib.hid (HB2.out.trans (hb3.mono HB2.out.size))
  clear hb3
  go_wp2_with (fail)
  refine (H2.out _ HB3.out).mono ?_
  rintro e w4 ⟨rfl, hb4⟩
  have HB4 := Lib.hid (HB3.out.trans (hb4.mono HB3.out.size))
  clear hb4
  go_wp2_with (fail)
  refine (H3.out _ HB4.out).mono ?_
  rintro e w5 ⟨rfl, hb5⟩
  have HB5 := Lib.hid (HB4.out.trans (hb5.mono HB4.out.size))
  clear hb5
  go_wp2
  go_ret
  exact ⟨rfl, HB5.out⟩
end Go.Proofs.Ytklljmcadhkkpaa
