/- The walk of first. -/
import Derived.Test.YtflagbglbhmheaaDoorLexC
import Derived.Laws.EntriesVeiled
namespace Go.Proofs.YtflagbglbhmheaaDoor
set_option maxRecDepth 100000
open Go.RowKit Go.Shelf

def Zs (r : List UInt8) (k : Nat) : Prop := (0 < k → Lx.run Lx.blank r = 0) ∧ (1 < k → Lx.comment r = 0) ∧ (2 < k → Lx.run Lx.letter r = 0) ∧ (3 < k → Lx.run Lx.digit r = 0) ∧ (4 < k → Lx.mark r = 0)
theorem first_at0 {r : List UInt8} (_ : Zs r 0) (h : 0 < Lx.run Lx.blank r) : Lx.first r = (-1, Lx.run Lx.blank r) := by
  unfold Lx.first
  rw [if_pos h]
theorem first_at1 {r : List UInt8} (z : Zs r 1) (h : 0 < Lx.comment r) : Lx.first r = (-1, Lx.comment r) := by
  unfold Lx.first
  rw [if_neg (by rw [z.1 (by decide)]; decide), if_pos h]
theorem first_at2 {r : List UInt8} (z : Zs r 2) (h : 0 < Lx.run Lx.letter r) : Lx.first r = (1, Lx.run Lx.letter r) := by
  unfold Lx.first
  rw [if_neg (by rw [z.1 (by decide)]; decide), if_neg (by rw [z.2.1 (by decide)]; decide), if_pos h]
theorem first_at3 {r : List UInt8} (z : Zs r 3) (h : 0 < Lx.run Lx.digit r) : Lx.first r = (2, Lx.run Lx.digit r) := by
  unfold Lx.first
  rw [if_neg (by rw [z.1 (by decide)]; decide), if_neg (by rw [z.2.1 (by decide)]; decide), if_neg (by rw [z.2.2.1 (by decide)]; decide), if_pos h]
theorem first_at4 {r : List UInt8} (z : Zs r 4) (h : 0 < Lx.mark r) : Lx.first r = (3, Lx.mark r) := by
  unfold Lx.first
  rw [if_neg (by rw [z.1 (by decide)]; decide), if_neg (by rw [z.2.1 (by decide)]; decide), if_neg (by rw [z.2.2.1 (by decide)]; decide), if_neg (by rw [z.2.2.2.1 (by decide)]; decide), if_pos h]
theorem first_end {r : List UInt8} (z : Zs r 5) : Lx.first r = (-1, 0) := by
  unfold Lx.first
  rw [if_neg (by rw [z.1 (by decide)]; decide), if_neg (by rw [z.2.1 (by decide)]; decide), if_neg (by rw [z.2.2.1 (by decide)]; decide), if_neg (by rw [z.2.2.2.1 (by decide)]; decide), if_neg (by rw [z.2.2.2.2 (by decide)]; decide)]
theorem zs_next0 {r : List UInt8} (_ : Zs r 0) (h : Lx.run Lx.blank r = 0) : Zs r 1 := ⟨fun _ => h, fun a => absurd a (by decide), fun a => absurd a (by decide), fun a => absurd a (by decide), fun a => absurd a (by decide)⟩
theorem zs_next1 {r : List UInt8} (z : Zs r 1) (h : Lx.comment r = 0) : Zs r 2 := ⟨fun _ => z.1 (by decide), fun _ => h, fun a => absurd a (by decide), fun a => absurd a (by decide), fun a => absurd a (by decide)⟩
theorem zs_next2 {r : List UInt8} (z : Zs r 2) (h : Lx.run Lx.letter r = 0) : Zs r 3 := ⟨fun _ => z.1 (by decide), fun _ => z.2.1 (by decide), fun _ => h, fun a => absurd a (by decide), fun a => absurd a (by decide)⟩
theorem zs_next3 {r : List UInt8} (z : Zs r 3) (h : Lx.run Lx.digit r = 0) : Zs r 4 := ⟨fun _ => z.1 (by decide), fun _ => z.2.1 (by decide), fun _ => z.2.2.1 (by decide), fun _ => h, fun a => absurd a (by decide)⟩
theorem zs_next4 {r : List UInt8} (z : Zs r 4) (h : Lx.mark r = 0) : Zs r 5 := ⟨fun _ => z.1 (by decide), fun _ => z.2.1 (by decide), fun _ => z.2.2.1 (by decide), fun _ => z.2.2.2.1 (by decide), fun _ => h⟩
theorem ret_first {r : List UInt8} {k : Int} {n : Nat} (h : Lx.first r = (k, n)) : Ending.returned (.tuple #[.int .i64 k, .int .i64 (n : Int)]) = .returned (.tuple #[.int .i64 (Lx.first r).1, .int .i64 ((Lx.first r).2 : Nat)]) := by rw [h]
theorem below_drawn {B : Nat} {a w : World} (h : Below B a w) (n : Nat) : Below B a (w.drewN n) := h.trans ⟨rfl, rfl, rfl, Nat.le_refl _, fun _ _ => rfl⟩
theorem addr_next (a : Addr) (m j : Nat) (hj : 0 < j) : a.add (m + j) = ⟨(a.add m).block, (a.add m).off + j, none⟩ := by
  unfold Addr.add
  rw [if_neg (by omega)]
  by_cases hm : m = 0
  · subst hm; simp
  · simp [hm, Nat.add_assoc]

set_option maxRecDepth 100000 in
set_option maxHeartbeats 4000000 in
/-- What a text begins with: the text is not at its end. -/
theorem first_any (s : ByteArray) (c0 : UInt8) (r0 : List UInt8) (ad : Addr) (w : World) (hs : s.data.toList = c0 :: r0) (hsz : s.size ≤ 1000000) (hP : Pieces w w.heap.size ad) :
    Calls Tryd.prog 40 #[.slice (some ad) 5 5, .string s] w fun e w' => e = .returned (.tuple #[.int .i64 (Lx.first s.data.toList).1, .int .i64 ((Lx.first s.data.toList).2 : Nat)]) ∧ Below w.heap.size w w' := by
  obtain ⟨a, b1, b2, b3, c, d, la, lb1, lb2, lb3, lc, ld, ka, kb1, kb2, kb3, kc, kd, hrow⟩ := hP
  have HROW := Lib.hid hrow
  have HS := Lib.hid hs
  have KA := Lib.hid ka
  have KB1 := Lib.hid kb1
  have KB2 := Lib.hid kb2
  have KB3 := Lib.hid kb3
  have KC := Lib.hid kc
  have KD := Lib.hid kd
  clear hrow hs ka kb1 kb2 kb3 kc kd
  go_enter Tryd.func40, Tryd.ntmps40
  go_wp2
  go_loopw [11] (fun i wr => ∃ k : Nat, k ≤ 5 ∧ i = .int .i64 k ∧ Hid (Zs s.data.toList k) ∧ Below w.heap.size w wr) (fun i _ => 5 - (intOf i).toNat)
  case atStart => exact ⟨0, Nat.zero_le _, rfl, ⟨fun h => absurd h (Nat.lt_irrefl 0), fun h => absurd h (by decide), fun h => absurd h (by decide), fun h => absurd h (by decide), fun h => absurd h (by decide)⟩, Below.refl _ _⟩
  case round =>
    obtain ⟨k, hk, rfl, HZ, hb⟩ := hrel
    by_cases hlt : k < 5
    · have hrow2 := HROW.out.below hb
      obtain ⟨ad', e, hadB, hcs⟩ := hrow2 (by simp [piecesL])
      obtain rfl : ad' = ad := by injection e with e; exact e.symm
      have HCS := Lib.hid hcs
      have HB := Lib.hid hb
      clear hrow2 e hcs hb
      have hcases : k = 0 ∨ k = 1 ∨ k = 2 ∨ k = 3 ∨ k = 4 := by omega
      rcases hcases with hk0 | hk0 | hk0 | hk0 | hk0
      · have HK := Lib.hid hk0
        clear hk0
        have h0 : wr.cell? (ad'.add (k * 2)) = some (.int .i64 (-1)) := by rw [HK.out]; exact HCS.out 0 _ rfl
        have h1 : wr.cell? ⟨(ad'.add (k * 2)).block, (ad'.add (k * 2)).off + 1, none⟩ = some (.func (.func 68) #[] #[.pointer (some ⟨a, 0, none⟩)]) := by rw [HK.out, ← addr_next _ _ _ (by decide)]; exact HCS.out 1 _ rfl
        have hcon : ∀ (o : Obj), Calls Tryd.prog 68 #[.string s, .pointer (some ⟨a, 0, none⟩)] (wr.alloc o) fun e w' => e = .returned (.int .i64 (Lx.run Lx.blank s.data.toList : Nat)) ∧ ∃ m, w' = (wr.alloc o).drewN m := fun o => by
          have hb2 := HB.out.alloc HB.out.size o
          exact run1_any Tryd.call55 isBlank_any s a _ hsz ((hb2.cell (p := ⟨a, 0, none⟩) la).trans KA.out)
        have HCON := Lib.hid hcon
        clear hcon
        obtain ⟨n, hn⟩ : ∃ n, Lx.run Lx.blank s.data.toList = n := ⟨_, rfl⟩
        have HN := Lib.hid hn
        rw [hn] at HCON
        clear hn
        rcases Nat.eq_zero_or_pos n with hz | hpos
        · subst hz
          go_wp2_with (fail)
          refine (HCON.out _).mono ?_
          rintro e w' ⟨rfl, m, rfl⟩
          go_wp2
          go_roundw
          case rel => exact ⟨k + 1, by omega, by go_num, by rw [HK.out]; rw [HK.out] at HZ; exact zs_next0 HZ.out HN.out, below_drawn (HB.out.alloc HB.out.size _) _⟩
          case measure => simp [intOf]; omega
        · go_wp2_with (fail)
          refine (HCON.out _).mono ?_
          rintro e w' ⟨rfl, m, rfl⟩
          go_wp2
          go_ret2
          refine ⟨?_, below_drawn (HB.out.alloc HB.out.size _) _⟩
          rw [HK.out] at HZ
          have hfin := first_at0 HZ.out (by rw [HN.out]; exact hpos)
          rw [HN.out] at hfin
          exact ret_first hfin
      · have HK := Lib.hid hk0
        clear hk0
        have h0 : wr.cell? (ad'.add (k * 2)) = some (.int .i64 (-1)) := by rw [HK.out]; exact HCS.out 2 _ rfl
        have h1 : wr.cell? ⟨(ad'.add (k * 2)).block, (ad'.add (k * 2)).off + 1, none⟩ = some (.func (.func 69) #[] #[.pointer (some ⟨b1, 0, none⟩), .pointer (some ⟨b2, 0, none⟩)]) := by rw [HK.out, ← addr_next _ _ _ (by decide)]; exact HCS.out 3 _ rfl
        have hcon : ∀ (o : Obj), Calls Tryd.prog 69 #[.string s, .pointer (some ⟨b1, 0, none⟩), .pointer (some ⟨b2, 0, none⟩)] (wr.alloc o) fun e w' => e = .returned (.int .i64 (Lx.comment s.data.toList : Nat)) ∧ ∃ m, w' = (wr.alloc o).drewN m := fun o => by
          have hb2 := HB.out.alloc HB.out.size o
          exact behind1_any s b1 b2 b3 _ hsz ((hb2.cell (p := ⟨b1, 0, none⟩) lb1).trans KB1.out) ((hb2.cell (p := ⟨b2, 0, none⟩) lb2).trans KB2.out) ((hb2.cell (p := ⟨b3, 0, none⟩) lb3).trans KB3.out)
        have HCON := Lib.hid hcon
        clear hcon
        obtain ⟨n, hn⟩ : ∃ n, Lx.comment s.data.toList = n := ⟨_, rfl⟩
        have HN := Lib.hid hn
        rw [hn] at HCON
        clear hn
        rcases Nat.eq_zero_or_pos n with hz | hpos
        · subst hz
          go_wp2_with (fail)
          refine (HCON.out _).mono ?_
          rintro e w' ⟨rfl, m, rfl⟩
          go_wp2
          go_roundw
          case rel => exact ⟨k + 1, by omega, by go_num, by rw [HK.out]; rw [HK.out] at HZ; exact zs_next1 HZ.out HN.out, below_drawn (HB.out.alloc HB.out.size _) _⟩
          case measure => simp [intOf]; omega
        · go_wp2_with (fail)
          refine (HCON.out _).mono ?_
          rintro e w' ⟨rfl, m, rfl⟩
          go_wp2
          go_ret2
          refine ⟨?_, below_drawn (HB.out.alloc HB.out.size _) _⟩
          rw [HK.out] at HZ
          have hfin := first_at1 HZ.out (by rw [HN.out]; exact hpos)
          rw [HN.out] at hfin
          exact ret_first hfin
      · have HK := Lib.hid hk0
        clear hk0
        have h0 : wr.cell? (ad'.add (k * 2)) = some (.int .i64 (1)) := by rw [HK.out]; exact HCS.out 4 _ rfl
        have h1 : wr.cell? ⟨(ad'.add (k * 2)).block, (ad'.add (k * 2)).off + 1, none⟩ = some (.func (.func 68) #[] #[.pointer (some ⟨c, 0, none⟩)]) := by rw [HK.out, ← addr_next _ _ _ (by decide)]; exact HCS.out 5 _ rfl
        have hcon : ∀ (o : Obj), Calls Tryd.prog 68 #[.string s, .pointer (some ⟨c, 0, none⟩)] (wr.alloc o) fun e w' => e = .returned (.int .i64 (Lx.run Lx.letter s.data.toList : Nat)) ∧ ∃ m, w' = (wr.alloc o).drewN m := fun o => by
          have hb2 := HB.out.alloc HB.out.size o
          exact run1_any Tryd.call58 isLetter_any s c _ hsz ((hb2.cell (p := ⟨c, 0, none⟩) lc).trans KC.out)
        have HCON := Lib.hid hcon
        clear hcon
        obtain ⟨n, hn⟩ : ∃ n, Lx.run Lx.letter s.data.toList = n := ⟨_, rfl⟩
        have HN := Lib.hid hn
        rw [hn] at HCON
        clear hn
        rcases Nat.eq_zero_or_pos n with hz | hpos
        · subst hz
          go_wp2_with (fail)
          refine (HCON.out _).mono ?_
          rintro e w' ⟨rfl, m, rfl⟩
          go_wp2
          go_roundw
          case rel => exact ⟨k + 1, by omega, by go_num, by rw [HK.out]; rw [HK.out] at HZ; exact zs_next2 HZ.out HN.out, below_drawn (HB.out.alloc HB.out.size _) _⟩
          case measure => simp [intOf]; omega
        · go_wp2_with (fail)
          refine (HCON.out _).mono ?_
          rintro e w' ⟨rfl, m, rfl⟩
          go_wp2
          go_ret2
          refine ⟨?_, below_drawn (HB.out.alloc HB.out.size _) _⟩
          rw [HK.out] at HZ
          have hfin := first_at2 HZ.out (by rw [HN.out]; exact hpos)
          rw [HN.out] at hfin
          exact ret_first hfin
      · have HK := Lib.hid hk0
        clear hk0
        have h0 : wr.cell? (ad'.add (k * 2)) = some (.int .i64 (2)) := by rw [HK.out]; exact HCS.out 6 _ rfl
        have h1 : wr.cell? ⟨(ad'.add (k * 2)).block, (ad'.add (k * 2)).off + 1, none⟩ = some (.func (.func 68) #[] #[.pointer (some ⟨d, 0, none⟩)]) := by rw [HK.out, ← addr_next _ _ _ (by decide)]; exact HCS.out 7 _ rfl
        have hcon : ∀ (o : Obj), Calls Tryd.prog 68 #[.string s, .pointer (some ⟨d, 0, none⟩)] (wr.alloc o) fun e w' => e = .returned (.int .i64 (Lx.run Lx.digit s.data.toList : Nat)) ∧ ∃ m, w' = (wr.alloc o).drewN m := fun o => by
          have hb2 := HB.out.alloc HB.out.size o
          exact run1_any Tryd.call59 isDigit_any s d _ hsz ((hb2.cell (p := ⟨d, 0, none⟩) ld).trans KD.out)
        have HCON := Lib.hid hcon
        clear hcon
        obtain ⟨n, hn⟩ : ∃ n, Lx.run Lx.digit s.data.toList = n := ⟨_, rfl⟩
        have HN := Lib.hid hn
        rw [hn] at HCON
        clear hn
        rcases Nat.eq_zero_or_pos n with hz | hpos
        · subst hz
          go_wp2_with (fail)
          refine (HCON.out _).mono ?_
          rintro e w' ⟨rfl, m, rfl⟩
          go_wp2
          go_roundw
          case rel => exact ⟨k + 1, by omega, by go_num, by rw [HK.out]; rw [HK.out] at HZ; exact zs_next3 HZ.out HN.out, below_drawn (HB.out.alloc HB.out.size _) _⟩
          case measure => simp [intOf]; omega
        · go_wp2_with (fail)
          refine (HCON.out _).mono ?_
          rintro e w' ⟨rfl, m, rfl⟩
          go_wp2
          go_ret2
          refine ⟨?_, below_drawn (HB.out.alloc HB.out.size _) _⟩
          rw [HK.out] at HZ
          have hfin := first_at3 HZ.out (by rw [HN.out]; exact hpos)
          rw [HN.out] at hfin
          exact ret_first hfin
      · have HK := Lib.hid hk0
        clear hk0
        have h0 : wr.cell? (ad'.add (k * 2)) = some (.int .i64 (3)) := by rw [HK.out]; exact HCS.out 8 _ rfl
        have h1 : wr.cell? ⟨(ad'.add (k * 2)).block, (ad'.add (k * 2)).off + 1, none⟩ = some (.func (.func 60) #[] #[]) := by rw [HK.out, ← addr_next _ _ _ (by decide)]; exact HCS.out 9 _ rfl
        have hcon : ∀ (o : Obj), Calls Tryd.prog 60 #[.string s] (wr.alloc o) fun e w' => e = .returned (.int .i64 (Lx.mark s.data.toList : Nat)) ∧ ∃ m, w' = (wr.alloc o).drewN m := fun o => by
          have hb2 := HB.out.alloc HB.out.size o
          exact mark_any s c0 r0 _ HS.out
        have HCON := Lib.hid hcon
        clear hcon
        obtain ⟨n, hn⟩ : ∃ n, Lx.mark s.data.toList = n := ⟨_, rfl⟩
        have HN := Lib.hid hn
        rw [hn] at HCON
        clear hn
        rcases Nat.eq_zero_or_pos n with hz | hpos
        · subst hz
          go_wp2_with (fail)
          refine (HCON.out _).mono ?_
          rintro e w' ⟨rfl, m, rfl⟩
          go_wp2
          go_roundw
          case rel => exact ⟨k + 1, by omega, by go_num, by rw [HK.out]; rw [HK.out] at HZ; exact zs_next4 HZ.out HN.out, below_drawn (HB.out.alloc HB.out.size _) _⟩
          case measure => simp [intOf]; omega
        · go_wp2_with (fail)
          refine (HCON.out _).mono ?_
          rintro e w' ⟨rfl, m, rfl⟩
          go_wp2
          go_ret2
          refine ⟨?_, below_drawn (HB.out.alloc HB.out.size _) _⟩
          rw [HK.out] at HZ
          have hfin := first_at4 HZ.out (by rw [HN.out]; exact hpos)
          rw [HN.out] at hfin
          exact ret_first hfin
    · have HK : Hid (k = 5) := by unfold Hid; omega
      have HB := Lib.hid hb
      clear hb
      go_wp2
      go_ret2
      refine ⟨?_, HB.out⟩
      rw [HK.out] at HZ
      exact ret_first (first_end HZ.out)
end Go.Proofs.YtflagbglbhmheaaDoor
