/- Walks of lattice's Flows, Join, Meet, Bottom, Top. -/
import Derived.Test.YtgplnlpbpcpacaaCheck
import Derived.Deep.RegionWith
namespace Go.Proofs.Ytgplnlpbpcpacaa
open Go.RowKit

theorem checkN_zero {names : List ByteArray} {up : List Nat} (h : checkN names up = 0) : mayB names up = true ∧ Lat.isOrder up = true ∧ Lat.isLattice up = true := by
  unfold checkN at h
  cases h1 : mayB names up <;> rw [h1] at h <;> simp at h
  cases h2 : Lat.isOrder up <;> rw [h2] at h <;> simp at h
  cases h3 : Lat.isLattice up <;> rw [h3] at h <;> simp at h
  exact ⟨rfl, rfl, rfl⟩
theorem labN_zero {names : List ByteArray} {up : List Nat} {a b : Int} (h : labN names up a b = 0) : checkN names up = 0 ∧ (∃ a' : Nat, a = a' ∧ a' < up.length) ∧ (∃ b' : Nat, b = b' ∧ b' < up.length) := by
  unfold labN at h
  by_cases h1 : checkN names up = 0
  · rw [if_pos h1] at h
    by_cases h2 : (isLab up a && isLab up b) = true
    · simp only [Bool.and_eq_true, isLab, decide_eq_true_eq] at h2
      exact ⟨h1, ⟨a.toNat, by omega, by omega⟩, ⟨b.toNat, by omega, by omega⟩⟩
    · rw [if_neg h2] at h; omega
  · rw [if_neg h1] at h; exact absurd h h1
theorem len_of_checkN {names : List ByteArray} {up : List Nat} (h : checkN names up = 0) : 1 ≤ up.length ∧ up.length ≤ 8 := by
  have := mayB_len (checkN_zero h).1
  exact ⟨this.1, this.2.1⟩

theorem ret_bi {x y : Int} {a b : Bool} (h' : a = b) (h : x = y) : Ending.returned (.tuple #[.bool a, .int .i64 x]) = .returned (.tuple #[.bool b, .int .i64 y]) := by rw [h, h']
theorem ret_ii {x y a b : Int} (h' : a = b) (h : x = y) : Ending.returned (.tuple #[.int .i64 a, .int .i64 x]) = .returned (.tuple #[.int .i64 b, .int .i64 y]) := by rw [h, h']

def flowsR (names : List ByteArray) (up : List Nat) (a b : Int) : Bool := if labN names up a b = 0 then Lat.fl up a.toNat b.toNat else false
def joinR (names : List ByteArray) (up : List Nat) (a b : Int) : Nat := if labN names up a b = 0 then Lat.leastN up (Lat.joinS up a.toNat b.toNat) else 0
def meetR (names : List ByteArray) (up : List Nat) (a b : Int) : Nat := if labN names up a b = 0 then Lat.leastN (Lat.turned up) (Lat.joinS (Lat.turned up) a.toNat b.toNat) else 0
def bottomR (names : List ByteArray) (up : List Nat) : Nat := if checkN names up = 0 then Lat.leastN up (Lat.allS up.length) else 0
def topR (names : List ByteArray) (up : List Nat) : Nat := if checkN names up = 0 then Lat.leastN (Lat.turned up) (Lat.allS up.length) else 0

set_option maxHeartbeats 1000000 in
theorem Flows_any {v : Value} {names : List ByteArray} {up : List Nat} (a b : Int) (w : World) (h : IsLat w w.heap.size v names up) :
    Calls Try.prog 14 #[v, .int .i64 a, .int .i64 b] w fun e w' => e = .returned (.tuple #[.bool (flowsR names up a b), .int .i64 (labN names up a b : Nat)]) ∧ Below w.heap.size w w' := by
  have h' := h
  obtain ⟨⟨A, A', c, c', rfl, hN, hU⟩, hshort, ⟨hf1, hf2⟩, -⟩ := h'
  have hb0 : Below w.heap.size w (w.alloc (.cells #[.slice A names.length c, .slice A' up.length c'] 25)) := (Below.refl _ w).alloc (Nat.le_refl _) _
  have p0 : Blk (w.alloc (.cells #[.slice A names.length c, .slice A' up.length c'] 25)) w.heap.size 25 #[.slice A names.length c, .slice A' up.length c'] := Blk.new _ _ _
  have HP0 := Lib.hid p0
  have hch := checkLabels_any a b _ (h.boxed (.cells #[.slice A names.length c, .slice A' up.length c'] 25))
  have HR : Hid (flowsR names up a b = if labN names up a b = 0 then Lat.fl up a.toNat b.toNat else false) := rfl
  clear p0 h
  obtain ⟨n, hn⟩ : ∃ n, labN names up a b = n := ⟨_, rfl⟩
  rw [hn] at hch
  have HN := Lib.hid hn
  rw [hn]
  clear hn
  by_cases hz : n = 0
  · subst hz
    obtain ⟨hz1, ⟨a, rfl, ha⟩, ⟨b, rfl, hb⟩⟩ := labN_zero HN.out
    obtain ⟨l1, l2⟩ := len_of_checkN hz1
    have HCH := Lib.hid hch
    clear hch hz1
    go_enter Try.func14, Try.ntmps14
    go_wp2_with (go_at_call 33; refine HCH.out.mono ?_)
    rintro e w1 ⟨rfl, hb1⟩
    have hp1 := HP0.out.below hb1 (by simp)
    have hbw1 : Below w.heap.size w w1 := hb0.trans (hb1.mono (by simp))
    have hc1 : w1.cell? ⟨w.heap.size, 1, none⟩ = some (.slice A' up.length c') := by rw [hp1.cell]; rfl
    have hfl := flows_any c' a b w1 (hU.below hbw1) ha (by omega)
    have HFL := Lib.hid hfl
    clear hfl hb1 HCH
    go_wp2_with (go_at_call 34; refine HFL.out.mono ?_)
    rintro e w2 ⟨rfl, rfl⟩
    go_wp2
    go_ret2
    exact ⟨ret_bi (by rw [HR.out, HN.out]; simp) rfl, hbw1⟩
  · have hz1 : ((n : Int) == 0) = false := by rw [beq_eq_false_iff_ne]; omega
    have hz2 : ((n : Int) != 0) = true := by rw [bne_iff_ne]; omega
    have HCH := Lib.hid hch
    clear hch
    go_enter Try.func14, Try.ntmps14
    go_wp2_with (go_at_call 33; refine HCH.out.mono ?_)
    rintro e w1 ⟨rfl, hb1⟩
    go_wp2
    go_ret2
    exact ⟨ret_bi (by rw [HR.out, HN.out, if_neg hz]) rfl, hb0.trans (hb1.mono (by simp))⟩

set_option maxHeartbeats 1000000 in
theorem Join_any {v : Value} {names : List ByteArray} {up : List Nat} (a b : Int) (w : World) (h : IsLat w w.heap.size v names up) :
    Calls Try.prog 15 #[v, .int .i64 a, .int .i64 b] w fun e w' => e = .returned (.tuple #[.int .i64 (joinR names up a b : Nat), .int .i64 (labN names up a b : Nat)]) ∧ Below w.heap.size w w' := by
  have h' := h
  obtain ⟨⟨A, A', c, c', rfl, hN, hU⟩, hshort, ⟨hf1, hf2⟩, -⟩ := h'
  have hb0 : Below w.heap.size w (w.alloc (.cells #[.slice A names.length c, .slice A' up.length c'] 25)) := (Below.refl _ w).alloc (Nat.le_refl _) _
  have p0 : Blk (w.alloc (.cells #[.slice A names.length c, .slice A' up.length c'] 25)) w.heap.size 25 #[.slice A names.length c, .slice A' up.length c'] := Blk.new _ _ _
  have HP0 := Lib.hid p0
  have hch := checkLabels_any a b _ (h.boxed (.cells #[.slice A names.length c, .slice A' up.length c'] 25))
  have HR : Hid (joinR names up a b = if labN names up a b = 0 then Lat.leastN up (Lat.joinS up a.toNat b.toNat) else 0) := rfl
  clear p0 h
  obtain ⟨n, hn⟩ : ∃ n, labN names up a b = n := ⟨_, rfl⟩
  rw [hn] at hch
  have HN := Lib.hid hn
  rw [hn]
  clear hn
  by_cases hz : n = 0
  · subst hz
    obtain ⟨hz1, ⟨a, rfl, ha⟩, ⟨b, rfl, hb⟩⟩ := labN_zero HN.out
    obtain ⟨l1, l2⟩ := len_of_checkN hz1
    have HCH := Lib.hid hch
    clear hch hz1
    go_enter Try.func15, Try.ntmps15
    go_wp2_with (go_at_call 33; refine HCH.out.mono ?_)
    rintro e w1 ⟨rfl, hb1⟩
    have hp1 := HP0.out.below hb1 (by simp)
    have hbw1 : Below w.heap.size w w1 := hb0.trans (hb1.mono (by simp))
    have hc1 : w1.cell? ⟨w.heap.size, 1, none⟩ = some (.slice A' up.length c') := by rw [hp1.cell]; rfl
    have hjn := join_any c' a b w1 (hU.below hbw1) (by omega) ha hb
    have HJN := Lib.hid hjn
    clear hjn hb1 HCH
    go_wp2_with (go_at_call 35; refine HJN.out.mono ?_)
    rintro e w2 ⟨rfl, nq, rfl⟩
    go_wp2
    go_ret2
    exact ⟨ret_ii (by rw [HR.out, HN.out]; simp) rfl, below_drewN_ hbw1 nq⟩
  · have hz1 : ((n : Int) == 0) = false := by rw [beq_eq_false_iff_ne]; omega
    have hz2 : ((n : Int) != 0) = true := by rw [bne_iff_ne]; omega
    have HCH := Lib.hid hch
    clear hch
    go_enter Try.func15, Try.ntmps15
    go_wp2_with (go_at_call 33; refine HCH.out.mono ?_)
    rintro e w1 ⟨rfl, hb1⟩
    go_wp2
    go_ret2
    exact ⟨ret_ii (by rw [HR.out, HN.out, if_neg hz]; rfl) rfl, hb0.trans (hb1.mono (by simp))⟩

set_option maxHeartbeats 1000000 in
theorem Meet_any {v : Value} {names : List ByteArray} {up : List Nat} (a b : Int) (w : World) (h : IsLat w w.heap.size v names up) :
    Calls Try.prog 16 #[v, .int .i64 a, .int .i64 b] w fun e w' => e = .returned (.tuple #[.int .i64 (meetR names up a b : Nat), .int .i64 (labN names up a b : Nat)]) ∧ Below w.heap.size w w' := by
  have h' := h
  obtain ⟨⟨A, A', c, c', rfl, hN, hU⟩, hshort, ⟨hf1, hf2⟩, -⟩ := h'
  have hb0 : Below w.heap.size w (w.alloc (.cells #[.slice A names.length c, .slice A' up.length c'] 25)) := (Below.refl _ w).alloc (Nat.le_refl _) _
  have p0 : Blk (w.alloc (.cells #[.slice A names.length c, .slice A' up.length c'] 25)) w.heap.size 25 #[.slice A names.length c, .slice A' up.length c'] := Blk.new _ _ _
  have HP0 := Lib.hid p0
  have hch := checkLabels_any a b _ (h.boxed (.cells #[.slice A names.length c, .slice A' up.length c'] 25))
  have HR : Hid (meetR names up a b = if labN names up a b = 0 then Lat.leastN (Lat.turned up) (Lat.joinS (Lat.turned up) a.toNat b.toNat) else 0) := rfl
  clear p0 h
  obtain ⟨n, hn⟩ : ∃ n, labN names up a b = n := ⟨_, rfl⟩
  rw [hn] at hch
  have HN := Lib.hid hn
  rw [hn]
  clear hn
  by_cases hz : n = 0
  · subst hz
    obtain ⟨hz1, ⟨a, rfl, ha⟩, ⟨b, rfl, hb⟩⟩ := labN_zero HN.out
    obtain ⟨l1, l2⟩ := len_of_checkN hz1
    have HCH := Lib.hid hch
    clear hch hz1
    go_enter Try.func16, Try.ntmps16
    go_wp2_with (go_at_call 33; refine HCH.out.mono ?_)
    rintro e w1 ⟨rfl, hb1⟩
    have hp1 := HP0.out.below hb1 (by simp)
    have hbw1 : Below w.heap.size w w1 := hb0.trans (hb1.mono (by simp))
    have hc1 : w1.cell? ⟨w.heap.size, 1, none⟩ = some (.slice A' up.length c') := by rw [hp1.cell]; rfl
    have htn := turned_any c' w1 ((hU.below hbw1).more hbw1.size) (by omega)
    have HTN := Lib.hid htn
    clear htn hb1 HCH
    go_wp2_with (go_at_call 29; refine HTN.out.mono ?_)
    rintro e w2 ⟨g, rfl, hblk, hb2⟩
    have hbw2 := hbw1.trans (hb2.mono hbw1.size)
    have hUd : Ups w2 (g + 1) (some ⟨g, 0, none⟩) (Lat.turned up) := blk_ups hblk (turned_lt (by omega))
    have hjn := join_any up.length a b w2 hUd (by rw [Lat.turned_length]; omega) (by rw [Lat.turned_length]; exact ha) (by rw [Lat.turned_length]; exact hb)
    rw [Lat.turned_length] at hjn
    have HJN := Lib.hid hjn
    clear hjn hb2 HTN
    go_wp2_with (go_at_call 35; refine HJN.out.mono ?_)
    rintro e w3 ⟨rfl, nq, rfl⟩
    go_wp2
    go_ret2
    exact ⟨ret_ii (by rw [HR.out, HN.out]; simp) rfl, below_drewN_ hbw2 nq⟩
  · have hz1 : ((n : Int) == 0) = false := by rw [beq_eq_false_iff_ne]; omega
    have hz2 : ((n : Int) != 0) = true := by rw [bne_iff_ne]; omega
    have HCH := Lib.hid hch
    clear hch
    go_enter Try.func16, Try.ntmps16
    go_wp2_with (go_at_call 33; refine HCH.out.mono ?_)
    rintro e w1 ⟨rfl, hb1⟩
    go_wp2
    go_ret2
    exact ⟨ret_ii (by rw [HR.out, HN.out, if_neg hz]; rfl) rfl, hb0.trans (hb1.mono (by simp))⟩

set_option maxHeartbeats 1000000 in
theorem Bottom_any {v : Value} {names : List ByteArray} {up : List Nat} (w : World) (h : IsLat w w.heap.size v names up) :
    Calls Try.prog 8 #[v] w fun e w' => e = .returned (.tuple #[.int .i64 (bottomR names up : Nat), .int .i64 (checkN names up : Nat)]) ∧ Below w.heap.size w w' := by
  have h' := h
  obtain ⟨⟨A, A', c, c', rfl, hN, hU⟩, hshort, ⟨hf1, hf2⟩, -⟩ := h'
  have hb0 : Below w.heap.size w (w.alloc (.cells #[.slice A names.length c, .slice A' up.length c'] 25)) := (Below.refl _ w).alloc (Nat.le_refl _) _
  have p0 : Blk (w.alloc (.cells #[.slice A names.length c, .slice A' up.length c'] 25)) w.heap.size 25 #[.slice A names.length c, .slice A' up.length c'] := Blk.new _ _ _
  have HP0 := Lib.hid p0
  have hch := check_any _ (h.boxed (.cells #[.slice A names.length c, .slice A' up.length c'] 25))
  have HR : Hid (bottomR names up = if checkN names up = 0 then Lat.leastN up (Lat.allS up.length) else 0) := rfl
  clear p0 h
  obtain ⟨n, hn⟩ : ∃ n, checkN names up = n := ⟨_, rfl⟩
  rw [hn] at hch
  have HN := Lib.hid hn
  rw [hn]
  clear hn
  by_cases hz : n = 0
  · subst hz
    obtain ⟨l1, l2⟩ := len_of_checkN HN.out
    have HCH := Lib.hid hch
    clear hch
    go_enter Try.func8, Try.ntmps8
    go_wp2_with (go_at_call 10; refine HCH.out.mono ?_)
    rintro e w1 ⟨rfl, hb1⟩
    have hp1 := HP0.out.below hb1 (by simp)
    have hbw1 : Below w.heap.size w w1 := hb0.trans (hb1.mono (by simp))
    have hc1 : w1.cell? ⟨w.heap.size, 1, none⟩ = some (.slice A' up.length c') := by rw [hp1.cell]; rfl
    have hall32 : Lat.allS up.length < 4294967296 := by
      unfold Lat.allS
      have : 2 ^ up.length < 2 ^ 32 := Nat.pow_lt_pow_right (by decide) (by omega)
      omega
    have hle := fun nq => least_any c' (Lat.allS up.length) (w1.drewN nq) ((hU.below hbw1).drewN nq) (by omega) hall32
    have HLE := Lib.hid hle
    clear hle hb1 HCH hall32
    go_wp2_with (fail)
    go_quiet (first | (go_at_call 28; exact quiet_eq (all_any _ _ (by omega))) | (go_at_call 27; exact quiet_eq (HLE.out _)))
    go_wp2
    go_ret2
    exact ⟨ret_ii (by rw [HR.out, HN.out]; rfl) rfl, below_drewN_ hbw1 _⟩
  · have hz1 : ((n : Int) == 0) = false := by rw [beq_eq_false_iff_ne]; omega
    have hz2 : ((n : Int) != 0) = true := by rw [bne_iff_ne]; omega
    have HCH := Lib.hid hch
    clear hch
    go_enter Try.func8, Try.ntmps8
    go_wp2_with (go_at_call 10; refine HCH.out.mono ?_)
    rintro e w1 ⟨rfl, hb1⟩
    go_wp2
    go_ret2
    exact ⟨ret_ii (by rw [HR.out, HN.out, if_neg hz]; rfl) rfl, hb0.trans (hb1.mono (by simp))⟩

set_option maxHeartbeats 2000000 in
theorem Top_any {v : Value} {names : List ByteArray} {up : List Nat} (w : World) (h : IsLat w w.heap.size v names up) :
    Calls Try.prog 9 #[v] w fun e w' => e = .returned (.tuple #[.int .i64 (topR names up : Nat), .int .i64 (checkN names up : Nat)]) ∧ Below w.heap.size w w' := by
  have h' := h
  obtain ⟨⟨A, A', c, c', rfl, hN, hU⟩, hshort, ⟨hf1, hf2⟩, -⟩ := h'
  have hb0 : Below w.heap.size w (w.alloc (.cells #[.slice A names.length c, .slice A' up.length c'] 25)) := (Below.refl _ w).alloc (Nat.le_refl _) _
  have p0 : Blk (w.alloc (.cells #[.slice A names.length c, .slice A' up.length c'] 25)) w.heap.size 25 #[.slice A names.length c, .slice A' up.length c'] := Blk.new _ _ _
  have HP0 := Lib.hid p0
  have hch := check_any _ (h.boxed (.cells #[.slice A names.length c, .slice A' up.length c'] 25))
  have HR : Hid (topR names up = if checkN names up = 0 then Lat.leastN (Lat.turned up) (Lat.allS up.length) else 0) := rfl
  clear p0 h
  obtain ⟨n, hn⟩ : ∃ n, checkN names up = n := ⟨_, rfl⟩
  rw [hn] at hch
  have HN := Lib.hid hn
  rw [hn]
  clear hn
  by_cases hz : n = 0
  · subst hz
    obtain ⟨l1, l2⟩ := len_of_checkN HN.out
    have HCH := Lib.hid hch
    clear hch
    go_enter Try.func9, Try.ntmps9
    go_wp2_with (go_at_call 10; refine HCH.out.mono ?_)
    rintro e w1 ⟨rfl, hb1⟩
    have hp1 := HP0.out.below hb1 (by simp)
    have hbw1 : Below w.heap.size w w1 := hb0.trans (hb1.mono (by simp))
    have hlt1 := hp1.lt
    have hc1 : w1.cell? ⟨w.heap.size, 1, none⟩ = some (.slice A' up.length c') := by rw [hp1.cell]; rfl
    have hall32 : Lat.allS up.length < 4294967296 := by
      unfold Lat.allS
      have : 2 ^ up.length < 2 ^ 32 := Nat.pow_lt_pow_right (by decide) (by omega)
      omega
    have htn : ∀ W : World, Below w.heap.size w W → Blk W w.heap.size 25 #[.slice A names.length c, .slice A' up.length c'] → Calls Try.prog 29 #[.slice A' up.length c'] W fun e w' =>
        ∃ g, e = .returned (.slice (some ⟨g, 0, none⟩) up.length up.length) ∧ (∀ s, s < 4294967296 → Calls Try.prog 27 #[.slice (some ⟨g, 0, none⟩) up.length up.length, .int .u32 (s : Nat)] w' fun e w'' => e = .returned (.tuple #[.int .i64 (Lat.leastN (Lat.turned up) s : Nat), .bool (Lat.leastB (Lat.turned up) s)]) ∧ w' = w'') ∧ w'.cell? ⟨w.heap.size, 1, none⟩ = some (.slice A' up.length c') ∧ Below w.heap.size w w' := by
      intro W hW hbl
      refine (turned_any c' W ((hU.below hW).more hW.size) (by omega)).mono ?_
      rintro e w' ⟨g, rfl, hblk, hb⟩
      refine ⟨g, rfl, fun s hs => ?_, ?_, hW.trans (hb.mono hW.size)⟩
      · have := least_any up.length s w' (blk_ups hblk (turned_lt (by omega))) (by rw [Lat.turned_length]; omega) hs
        rw [Lat.turned_length] at this
        exact this
      · have := hbl.below hb hbl.lt
        rw [this.cell]; rfl
    have HTN := Lib.hid htn
    have HBW := Lib.hid hbw1
    clear htn hb1 HCH hU hN
    go_wp2_with (fail)
    go_region_with (first
      | (go_at_call 28; refine (all_any _ _ (by omega)).mono ?_; rintro e w' ⟨rfl, rfl⟩)
      | (go_at_call 29; refine (HTN.out _ HBW.out.drew hp1.drew).mono ?_; rintro e w' ⟨g, rfl, hleast, hc2, hbw2⟩)
      | (go_at_call 27; refine (hleast _ hall32).mono ?_; rintro e w' ⟨rfl, rfl⟩))
    all_goals go_wp2
    all_goals go_ret2
    all_goals exact ⟨ret_ii (by rw [HR.out, HN.out]; rfl) rfl, by first | exact hbw2 | exact hbw2.drew⟩
  · have hz1 : ((n : Int) == 0) = false := by rw [beq_eq_false_iff_ne]; omega
    have hz2 : ((n : Int) != 0) = true := by rw [bne_iff_ne]; omega
    have HCH := Lib.hid hch
    clear hch
    go_enter Try.func9, Try.ntmps9
    go_wp2_with (go_at_call 10; refine HCH.out.mono ?_)
    rintro e w1 ⟨rfl, hb1⟩
    go_wp2
    go_ret2
    exact ⟨ret_ii (by rw [HR.out, HN.out, if_neg hz]; rfl) rfl, hb0.trans (hb1.mono (by simp))⟩
end Go.Proofs.Ytgplnlpbpcpacaa
