/- Package draw's Take of any draws; the law's alive. -/
import Derived.Test.YtmgaaejghfgbnaaPicD
namespace Go.Proofs.Ytmgaaejghfgbnaa
set_option maxRecDepth 100000
open Go.RowKit Go.Shelf
attribute [local go_sem] Oper.semAt_some

theorem dTake14_no {A L : Option Addr} {list log : List Int} (n c m d : Nat) (i b : Int) (w : World) (hA : Row w w.heap.size A (ints list)) (hL : Row w w.heap.size L (ints log)) (hn : list.length = n) (hm : log.length = m) (h1 : 1 ≤ b) (hB : b < 9223372036854775808) (hi : i < 9223372036854775808) (hno : ¬ (Dr.right n i m = true ∧ m ≠ 2000)) :
    Calls Try.prog 19 #[.agg #[.slice A n c, .int .i64 i, .slice L m d], .int .i64 b] w (TakeNo13 w (if Dr.right n i m = true then 8 else 1)) := by
  by_cases hr : Dr.right n i m = true
  · rw [if_pos hr]
    have hm2 : m = 2000 := Decidable.byContradiction fun h => hno ⟨hr, h⟩
    have hi0 : 0 ≤ i := by
      unfold Dr.right at hr
      have := of_decide_eq_true hr
      omega
    obtain ⟨k, rfl⟩ : ∃ k : Nat, i = (k : Int) := ⟨i.toNat, by omega⟩
    refine take13_no n c m d k b 8 w (.inr rfl) fun W M hW hM => ?_
    have h := many13_yes (log := log) (bounds := [b]) n c m d 1 1 k W ((hA.below hW).more hW.size) ((hL.below hW).more hW.size) hM hn hm rfl hr (by decide) (by omega) (fun x hx => by rw [List.mem_singleton.1 hx]; exact hB)
    have he : Dr.err [b] m = 8 := by unfold Dr.err; rw [if_neg (by omega), if_pos hm2]
    refine h.mono fun e w' hp => ?_
    rw [he, if_neg (by decide)] at hp
    exact hp
  · rw [if_neg hr]
    exact take13_no n c m d i b 1 w (.inl rfl) fun W M hW hM => many13_no n c m d 1 1 i W (by simpa using hr)
theorem dTake14_yes {A L : Option Addr} {list log : List Int} (n c m d i : Nat) (b : Int) (w : World) (hA : Row w w.heap.size A (ints list)) (hL : Row w w.heap.size L (ints log)) (hn : list.length = n) (hm : log.length = m) (h1 : 1 ≤ b) (hB : b < 9223372036854775808) (hi : i < 9223372036854775808) (hr : Dr.right n (i : Int) m = true) (hm2 : m ≠ 2000) :
    Calls Try.prog 19 #[.agg #[.slice A n c, .int .i64 (i : Int), .slice L m d], .int .i64 b] w (Take13 w n m list log (Dr.choice list i b) (Dr.next list i)) := by
  refine take13_yes n c m d i (Dr.next list i) b (Dr.choice list i b) w fun W M hW hM => ?_
  have h := many13_yes (log := log) (bounds := [b]) n c m d 1 1 i W ((hA.below hW).more hW.size) ((hL.below hW).more hW.size) hM hn hm rfl hr (by decide) (by omega) (fun x hx => by rw [List.mem_singleton.1 hx]; exact hB)
  have he : Dr.err [b] m = 0 := by unfold Dr.err; rw [if_neg (by omega), if_neg hm2]; rfl
  refine h.mono fun e w' hp => ?_
  rw [if_pos he] at hp
  exact hp
/-- Weighted, of new draws of one number. -/
theorem pWeighted14_new {A Q : Option Addr} {l : List Int} (c q f : Nat) (x : Int) (w : World) (hA : Row w w.heap.size A (ints [x])) (hQ : Row w w.heap.size Q (ints l)) (hq : l.length = q) (hq9 : q ≤ 1000000) (hr : Pk.right l = true) (hx0 : 0 ≤ x) (hx : x < Pk.sum l) :
    Calls Try.prog 7 #[.agg #[.slice A 1 c, .int .i64 0, .slice none 0 0], .slice Q q f] w (PTake14 w 1 0 [x] [] x (Pk.picks l x : Nat) 1) := by
  obtain ⟨hg, h1, h20, hs0⟩ := Pk.right_good hr
  have hlow := (Pk.sum_low hg).2
  have h := pWeighted14_yes (L := none) (list := [x]) (log := []) 1 c 0 0 q f 1 0 x w hQ hq hq9 hr hx0 hx fun W hW => by
    have h := dTake14_yes (L := none) (list := [x]) (log := []) 1 c 0 0 0 (Pk.sum l) W ((hA.below hW).more hW.size) Row.nil rfl rfl (by omega) (by omega) (by decide) (by decide) (by decide)
    have e : Dr.choice [x] 0 (Pk.sum l) = x := by
      unfold Dr.choice
      rw [if_pos (show 0 < [x].length from Nat.one_pos)]
      show x % Pk.sum l = x
      exact Int.emod_eq_of_lt hx0 hx
    rw [e] at h
    exact h
  exact h
/-- Signed, of new draws of one number. -/
theorem pSigned14_new {A : Option Addr} (c k : Nat) (most : Int) (w : World) (hA : Row w w.heap.size A (ints [(k : Int)])) (h0 : 0 ≤ most ∧ most ≤ 20) (hk : (k : Int) ≤ 2 * most) :
    Calls Try.prog 13 #[.agg #[.slice A 1 c, .int .i64 0, .slice none 0 0], .int .i64 most] w (PTake14 w 1 0 [(k : Int)] [] (k : Int) (Pk.made k) 1) := by
  have h := pSigned14_yes (L := none) (list := [(k : Int)]) (log := []) 1 c 0 0 k 1 0 most w h0 (by omega) fun W hW => by
    have h := dTake14_yes (L := none) (list := [(k : Int)]) (log := []) 1 c 0 0 0 (2 * most + 1) W ((hA.below hW).more hW.size) Row.nil rfl rfl (by omega) (by omega) (by decide) (by decide) (by decide)
    have e : Dr.choice [(k : Int)] 0 (2 * most + 1) = (k : Int) := by
      unfold Dr.choice
      rw [if_pos (show 0 < [(k : Int)].length from Nat.one_pos)]
      show (k : Int) % (2 * most + 1) = k
      exact Int.emod_eq_of_lt (by omega) (by omega)
    rw [e] at h
    exact h
  exact h
/-- New, of one number. -/
theorem new14_one (x : Int) (w : World) (B : Nat) (v : World) (hb : Below B v w) (hB : B ≤ w.heap.size) :
    Calls Try.prog 17 #[.slice (some ⟨w.heap.size, 0, none⟩) 1 1] (w.alloc (.cells #[.int .i64 x] 3)) fun e w' => ∃ A c, e = .returned (.agg #[.slice A 1 c, .int .i64 0, .slice none 0 0]) ∧ Row w' w'.heap.size A (ints [x]) ∧ Below B v w' := by
  have hr := (Blk.new w 3 #[.int .i64 x]).row (cs := [.int .i64 x])
  have h := new13_any 1 [x] (w.alloc (.cells #[.int .i64 x] 3)) (A := some ⟨w.heap.size, 0, none⟩) (by simp only [World.size_alloc]; exact hr) (show 1 ≤ 1000000 by decide)
  refine h.mono ?_
  rintro e w' ⟨A, c, rfl, ho, hb1⟩
  have hba := hb.alloc hB (.cells #[.int .i64 x] 3)
  exact ⟨A, c, rfl, (ownT_row ho).1, hba.trans (hb1.mono (Nat.le_trans hB (by simp)))⟩
set_option maxHeartbeats 4000000 in
theorem alive14_any (w : World) : Calls Try.prog 11 #[] w (Tells w true) := by
  have HN := Lib.hid (new14_one 2 w w.heap.size w (Below.refl _ _) (Nat.le_refl _))
  have HN2 := Lib.hid (fun W (hW : Below w.heap.size w W) => new14_one 4 W w.heap.size w hW hW.size)
  have hwt := fun (A Q : Option Addr) (c f : Nat) (W : World) (hA : Row W W.heap.size A (ints [2])) (hQ : Row W W.heap.size Q (ints [2, 0, 3])) => pWeighted14_new (l := [2, 0, 3]) c 3 f 2 W hA hQ rfl (by decide) (by decide) (by decide) (by decide)
  have hsg := fun (A : Option Addr) (c : Nat) (W : World) (hA : Row W W.heap.size A (ints [((4 : Nat) : Int)])) => pSigned14_new c 4 5 W hA (by decide) (by decide)
  unfold PTake14 at hwt hsg
  have HW := Lib.hid hwt
  have HS := Lib.hid hsg
  clear hwt hsg
  go_enter Try.func11, Try.ntmps11
  go_wp2_with (fail)
  refine HN.out.mono ?_
  rintro e w1 ⟨A1, c1, rfl, hr1, hb1⟩
  have hq := (Blk.new w1 3 #[.int .i64 2, .int .i64 0, .int .i64 3]).row (cs := [.int .i64 2, .int .i64 0, .int .i64 3])
  have hb2 := hb1.alloc hb1.size (.cells #[.int .i64 2, .int .i64 0, .int .i64 3] 3)
  have hba := (Below.refl w1.heap.size w1).alloc (Nat.le_refl _) (.cells #[.int .i64 2, .int .i64 0, .int .i64 3] 3)
  have hr2 := (hr1.below hba).more hba.size
  have HC := Lib.hid (HW.out A1 (some ⟨w1.heap.size, 0, none⟩) c1 3 _ hr2 (by simp only [World.size_alloc]; exact hq))
  have HB2 := Lib.hid hb2
  clear hr1 hb1 hq hb2 hba hr2
  go_wp2_with (fail)
  refine HC.out.mono ?_
  rintro e w2 ⟨A2, c2, L2, d2, rfl, -, -, hb2⟩
  have hb3 := HB2.out.trans (hb2.mono HB2.out.size)
  have hk := Blk.new w2 24 #[.slice none 0 0, .int .i64 0, .slice none 0 0]
  obtain ⟨Y1, Y2, Y3, e0, e1, e2, f0, f1, f2, g0, g1, g2, r0, r1, r2, -, -, HYB⟩ := n3_steps hk (.slice A2 1 c2) (.int .i64 (1 : Int)) (.slice L2 (0 + 1) d2)
  have hby := HYB.out _ _ hb3.size (hb3.alloc hb3.size (.cells #[.slice none 0 0, .int .i64 0, .slice none 0 0] 24))
  have HN3 := Lib.hid (HN2.out Y3 hby)
  have hp2 : Pk.picks [2, 0, 3] 2 = 2 := by decide
  clear hb2 hb3 hk HYB hby HC HB2 HN HN2 HW
  rw [hp2]
  go_wp2_with (fail)
  refine HN3.out.mono ?_
  rintro e w3 ⟨A3, c3, rfl, hr3, hb3⟩
  have HC := Lib.hid (HS.out A3 c3 w3 hr3)
  have HB3 := Lib.hid hb3
  clear hr3 hb3 HN3 HS e0 e1 e2 f0 f1 f2 g0 g1 g2 r0 r1 r2
  go_wp2_with (fail)
  refine HC.out.mono ?_
  rintro e w4 ⟨A4, c4, L4, d4, rfl, -, -, hb4⟩
  have hb5 := HB3.out.trans (hb4.mono HB3.out.size)
  have hk := Blk.new w4 24 #[.slice none 0 0, .int .i64 0, .slice none 0 0]
  obtain ⟨X1, X2, X3, e0, e1, e2, f0, f1, f2, g0, g1, g2, r0, r1, r2, -, -, HXB⟩ := n3_steps hk (.slice A4 1 c4) (.int .i64 (1 : Int)) (.slice L4 (0 + 1) d4)
  have HB5 := Lib.hid (HXB.out _ _ hb5.size (hb5.alloc hb5.size (.cells #[.slice none 0 0, .int .i64 0, .slice none 0 0] 24)))
  have hmd : Pk.made 4 = -2 := by decide
  clear hb4 hb5 hk HXB HC HB3
  rw [hmd]
  go_wp2
  go_ret
  exact ⟨rfl, HB5.out⟩
end Go.Proofs.Ytmgaaejghfgbnaa
