/- Walks of the reference's Make. -/
import Derived.Test.YtaingkjleelbfaaOrdS
namespace Go.Proofs.Ytaingkjleelbfaa
open Go.RowKit Go.Shelf

theorem rowTo_add (f : Nat → Nat → Bool) (a k : Nat) : Ordr.rowTo f a k ||| 2 ^ k = Ordr.rowTo f a k + 2 ^ k := by
  have h := Ordr.rowTo_lt f a k
  have := Nat.two_pow_add_eq_or_of_lt h 1
  rw [Nat.mul_one] at this
  rw [Nat.or_comm, ← this, Nat.add_comm]
theorem rowTo_yes {f : Nat → Nat → Bool} {a k : Nat} (h : f a k = true) : Ordr.rowTo f a (k + 1) = Ordr.rowTo f a k + 2 ^ k := by
  conv => lhs; unfold Ordr.rowTo
  rw [if_pos h, rowTo_add]
theorem rowTo_no {f : Nat → Nat → Bool} {a k : Nat} (h : f a k = false) : Ordr.rowTo f a (k + 1) = Ordr.rowTo f a k := by
  conv => lhs; unfold Ordr.rowTo
  rw [if_neg (by rw [h]; decide)]
theorem ups_take_succ {f : Nat → Nat → Bool} {n a : Nat} (h : a < n) : (Ordr.ups f n).take (a + 1) = (Ordr.ups f n).take a ++ [Ordr.rowTo f a n] := by
  rw [List.take_add_one]
  congr 1
  unfold Ordr.ups
  rw [List.getElem?_map, List.getElem?_range h]
  rfl

/-- The reference's T. -/
def TRes (w : World) (n : Nat) (names : List ByteArray) (up : List Nat) (e : Ending) (w' : World) : Prop :=
  ∃ x0 x1, e = .returned (.agg #[x0, x1, .int .i64 (n : Int)]) ∧ IsLat w' w'.heap.size (.agg #[x0, x1]) names up ∧ Below w.heap.size w w'
theorem TRes.none_ {w w' : World} {n : Nat} (hb : Below w.heap.size w w') : TRes w n [] [] (.returned (.agg #[.slice none 0 0, .slice none 0 0, .int .i64 (n : Int)])) w' := ⟨_, _, rfl, IsLat.none_ _ _, hb⟩

/-- What holds in the reference's loop over the rows. -/
def RMakeAt (w : World) (f : Nat → Nat → Bool) (m a : Nat) (v : Value) (wr : World) : Prop :=
  wr.ownsRow (w.heap.size + 3) 62 1 v a (u32s ((Ordr.ups f m).take a)) ∧ Blk wr w.heap.size 31 #[.slice none 0 0, .slice none 0 0, .int .i64 0] ∧
  Blk wr (w.heap.size + 1) 9 (strs (named 8)).toArray ∧ Blk wr (w.heap.size + 2) 31 #[.slice (some ⟨w.heap.size + 1, 0, none⟩) m 8, v, .int .i64 0] ∧ Below w.heap.size w wr
theorem RMakeAt.fin {w wr : World} {f : Nat → Nat → Bool} {m : Nat} {v : Value} (h : RMakeAt w f m m v wr) (hm : m ≤ 8) : TRes w 0 (named m) (Ordr.ups f m) (.returned (.agg #[.slice (some ⟨w.heap.size + 1, 0, none⟩) m 8, v, .int .i64 0]))
    (((wr.setCell ⟨w.heap.size, 0, none⟩ (.slice (some ⟨w.heap.size + 1, 0, none⟩) m 8)).setCell ⟨w.heap.size, 1, none⟩ v).setCell ⟨w.heap.size, 2, none⟩ (.int .i64 0)) := by
  obtain ⟨h1, -, h3, -, h5⟩ := h
  obtain ⟨A, c, rfl⟩ := own_slice h1
  have k1 := ownsRow_setCell_below (ownsRow_setCell_below (ownsRow_setCell_below h1 (a := ⟨w.heap.size, 0, none⟩) (by simp) (.slice (some ⟨w.heap.size + 1, 0, none⟩) m 8)) (a := ⟨w.heap.size, 1, none⟩) (by simp) (.slice A m c)) (a := ⟨w.heap.size, 2, none⟩) (by simp) (.int .i64 0)
  have k3 := ((h3.other (p := ⟨w.heap.size, 0, none⟩) (by simp) (.slice (some ⟨w.heap.size + 1, 0, none⟩) m 8)).other (p := ⟨w.heap.size, 1, none⟩) (by simp) (.slice A m c)).other (p := ⟨w.heap.size, 2, none⟩) (by simp) (.int .i64 0)
  have k5 := ((h5.setCell (p := ⟨w.heap.size, 0, none⟩) (Nat.le_refl _) (.slice (some ⟨w.heap.size + 1, 0, none⟩) m 8)).setCell (p := ⟨w.heap.size, 1, none⟩) (Nat.le_refl _) (.slice A m c)).setCell (p := ⟨w.heap.size, 2, none⟩) (Nat.le_refl _) (.int .i64 0)
  obtain ⟨hr, hc⟩ := own_rowN k1
  have hlen := Ordr.ups_length (f := f) (n := m)
  have ht : (Ordr.ups f m).take m = Ordr.ups f m := List.take_of_length_le (by omega)
  rw [ht] at hr
  have hrow := (k3.row.more (B' := ((((wr.setCell ⟨w.heap.size, 0, none⟩ (.slice (some ⟨w.heap.size + 1, 0, none⟩) m 8)).setCell ⟨w.heap.size, 1, none⟩ (.slice A m c)).setCell ⟨w.heap.size, 2, none⟩ (.int .i64 0))).heap.size) (by have := k3.lt; omega)).take m
  have hst : (strs (named 8)).take m = strs (named m) := by unfold strs; rw [← List.map_take, ← named_take hm]
  rw [hst] at hrow
  refine ⟨_, _, rfl, ⟨⟨_, _, 8, c, by rw [named_length, hlen], hrow, ⟨hr, Ordr.ups_u32 (by omega)⟩⟩, named_short, ⟨by rw [named_length]; omega, by rw [hlen]; omega⟩, fun A n c A' n' c' h => ?_⟩, k5⟩
  injection h with h; injection h with h; injection h with e1 h; injection h with e2 h
  injection e1 with _ a b; injection e2 with _ c d; omega
theorem RMakeAt.step {w wr w' : World} {f : Nat → Nat → Bool} {m a : Nat} {v v' : Value} {o : Obj} (h : RMakeAt w f m a v wr) (ha : a < m) (hown : w'.ownsRow (w.heap.size + 3) 62 1 v' (a + 1) (u32s ((Ordr.ups f m).take a) ++ [.int .u32 (Ordr.rowTo f a m : Nat)]))
    (hg : (wr.alloc o).grownBy w' v.ownBlock) : RMakeAt w f m (a + 1) v' (w'.setCell ⟨w.heap.size + 2, 1, none⟩ v') ∧ w'.frozen? ⟨w.heap.size + 2, 1, none⟩ = false ∧ w'.cell? ⟨w.heap.size + 2, 1, none⟩ = some v := by
  obtain ⟨h1, h2, h3, h4, h5⟩ := h
  have hk : ∀ g, g < w.heap.size + 3 → g < wr.heap.size → some g ≠ v.ownBlock := fun g hg _ he => by have := (h1.lt g he.symm).1; omega
  have hb : ∀ g t cs, g < w.heap.size + 3 → Blk wr g t cs → Blk w' g t cs := fun g t cs hgl hb => (hg.block g (by have := hb.lt; simp; omega) (hk g hgl hb.lt)).trans (hb.alloc o)
  have k4 := hb _ _ _ (by omega) h4
  refine ⟨⟨?_, (hb _ _ _ (by omega) h2).other (p := ⟨w.heap.size + 2, 1, none⟩) (by simp) _, (hb _ _ _ (by omega) h3).other (p := ⟨w.heap.size + 2, 1, none⟩) (by simp) _, k4.set_ 1 v', ?_⟩, k4.frozen 1, by rw [k4.cell]; rfl⟩
  · rw [ups_take_succ ha, show u32s ((Ordr.ups f m).take a ++ [Ordr.rowTo f a m]) = u32s ((Ordr.ups f m).take a) ++ [.int .u32 (Ordr.rowTo f a m : Nat)] by simp [u32s]]
    exact ownsRow_setCell_below hown (by simp) _
  · exact ((h5.alloc h5.size o).grown hg (by have := h5.size; simp; omega) (fun k he => by have := (h1.lt k he).1; omega)).setCell (by simp) _
theorem rmake_len {f : Nat → Nat → Bool} {m a : Nat} (h : a ≤ m) : ((Ordr.ups f m).take a).length = a := by rw [List.length_take, Ordr.ups_length]; omega

set_option maxRecDepth 100000 in
set_option maxHeartbeats 4000000 in
theorem rMake_chain (k m : Nat) (w : World) (h1 : 1 ≤ k) (hm8 : m ≤ 8) (hkm : m = k) :
    Calls Try.prog 9 #[.string ⟨#[99, 104, 97, 105, 110]⟩, .int .i64 (k : Int)] w (TRes w 0 (named m) (Ordr.ups chainF m)) := by
  obtain ⟨i0, hi, hz0, hz1, hz2⟩ := info_parts Try.infoU32
  subst hkm
  have hnm := rNames_any m (w.alloc (.cells #[.slice none 0 0, .slice none 0 0, .int .i64 0] 31)) hm8
  have HNM := Lib.hid hnm
  clear hnm
  have hst : RMakeAt w chainF m 0 (.slice none 0 0) (((w.alloc (.cells #[.slice none 0 0, .slice none 0 0, .int .i64 0] 31)).alloc (.cells (strs (named 8)).toArray 9)).alloc (.cells #[.slice (some ⟨w.heap.size + 1, 0, none⟩) m 8, .slice none 0 0, .int .i64 0] 31)) :=
    ⟨World.ownsRow_nil _ _ _ _, ((Blk.new _ _ _).alloc _).alloc _, (Blk.new' _ _ _ _ (by simp)).alloc _, Blk.new' _ _ _ _ (by simp), (((Below.refl _ w).alloc (Nat.le_refl _) _).alloc (by simp) _).alloc (by simp; omega) _⟩
  have HST := Lib.hid hst
  clear hst
  go_enter Try.func9, Try.ntmps9
  go_wp2_with (first
    | (go_at_call 27; refine HNM.out.mono ?_; rintro e w' ⟨rfl, rfl⟩))
  go_loopw [7] (fun i wr => ∃ (a : Nat) (v : Value), a ≤ m ∧ i = .int .i64 a ∧ RMakeAt w chainF m a v wr) (fun i _ => m - (intOf i).toNat)
  case atStart => exact ⟨0, _, Nat.zero_le _, rfl, HST.out⟩
  case round =>
    clear HST HNM
    obtain ⟨a, v, ha, rfl, hat⟩ := hrel
    by_cases hlt : a < m
    · have hown := hat.1
      have hct : wr.cell? ⟨w.heap.size + 1 + 1, 1, none⟩ = some v := by have := hat.2.2.2.1.cell 1; exact this
      have hszr : w.heap.size + 3 ≤ wr.heap.size := by have := hat.2.2.2.1.lt; omega
      have HAT := Lib.hid hat
      have HOWN := Lib.hid hown
      clear hat hown
      obtain ⟨wo, rfl⟩ : ∃ wo : World, wo = wr := ⟨_, rfl⟩
      go_wp2
      go_loop [8, 9] (fun u j => ∃ (b x : Nat), b ≤ m ∧ j = .int .i64 b ∧ x < 256 ∧ x = Ordr.rowTo chainF a b ∧ u = .int .i64 x) (fun _ j => m - (intOf j).toNat)
      case atStart => exact ⟨0, 0, Nat.zero_le _, rfl, by decide, rfl, rfl⟩
      case round =>
        obtain ⟨b, x, hb, rfl, hx, he, rfl⟩ := hrel
        have HE := Lib.hid he
        clear he
        by_cases hlt2 : b < m
        · have hpw := rPower_any b wo (by omega)
          obtain ⟨q, hq⟩ : ∃ q, 2 ^ b = q := ⟨_, rfl⟩
          have hq8 : q ≤ 128 := by rw [← hq]; exact Nat.pow_le_pow_right (n := 2) (j := 7) (by decide) (by omega)
          rw [hq] at hpw
          have hx2 : Ordr.rowTo chainF a (b + 1) < 256 := Nat.lt_of_lt_of_le (Ordr.rowTo_lt _ _ _) (Nat.pow_le_pow_right (n := 2) (j := 8) (by decide) (by omega))
          have HQ := Lib.hid hq
          have HX2 := Lib.hid hx2
          have HPW := Lib.hid hpw
          clear hq hpw hx2 hct
          by_cases hf : a ≤ b
          · have HF : Hid (chainF a b = true) := by unfold Hid chainF; simp [hf]
            go_wp2_with (first | (go_at_call 26; refine HPW.out.mono ?_; rintro e w' ⟨rfl, rfl⟩))
            go_round
            case rel =>
              have hr := rowTo_yes HF.out
              rw [← HE.out, HQ.out] at hr
              exact ⟨b + 1, x + q, by omega, by go_num, by rw [← hr]; exact HX2.out, hr.symm, by go_num⟩
            case measure => simp [intOf]; omega
          · have HF : Hid (chainF a b = false) := by unfold Hid chainF; simp; omega
            go_wp2
            go_round
            case rel => exact ⟨b + 1, x, by omega, by go_num, hx, by rw [HE.out]; exact (rowTo_no HF.out).symm, rfl⟩
            case measure => simp [intOf]; omega

        · obtain rfl : b = m := by omega
          have hcv : (x : Int) % 4294967296 = x := by omega
          go_wp2_with (at_builtin; refine wpList_append_own _ rfl _ _ 23 rfl (w.heap.size + 3) 62 i0 (.int .u32 0) 1 4 Try.underlying23 hi hz0 hz1 hz2 rfl (by decide) v a _ rfl (HOWN.out.alloc _) ⟨wo.heap.size, 0, none⟩ 1 1 [.int .u32 (x : Int)] rfl rfl ?c1 ?c2 ?c3 ?c4 ?c5 ?_)
          case c2 => simp [Value.oneCell']
          case c3 => unfold maxLen; omega
          case c4 => omega
          case c5 => first | omega | (simp; omega)
          intro v' w' hown' hgrow _
          obtain ⟨g', cap', rfl⟩ := ownsRow_succ hown'
          have hst := HAT.out.step hlt (by rw [← HE.out]; exact hown') hgrow
          obtain ⟨hst1, hfz, hc0⟩ := hst
          have hfz' : w'.frozen? ⟨w.heap.size + 1 + 1, 1, none⟩ = false := hfz
          have hc0' : w'.cell? ⟨w.heap.size + 1 + 1, 1, none⟩ = some v := hc0
          have HST := Lib.hid hst1
          clear hst1 hown' hgrow hfz hc0 hct
          go_wp2
          go_roundw
          case rel => exact ⟨a + 1, _, by omega, by go_num, HST.out⟩
          case measure => simp [intOf]; omega
    · obtain rfl : a = m := by omega
      have hfin := hat.fin hm8
      have hd0 : wr.cell? ⟨w.heap.size, 0, none⟩ = some (.slice none 0 0) := by rw [hat.2.1.cell]; rfl
      have hd1 : wr.cell? ⟨w.heap.size, 1, none⟩ = some (.slice none 0 0) := by rw [hat.2.1.cell]; rfl
      have hd2 : wr.cell? ⟨w.heap.size, 2, none⟩ = some (.int .i64 0) := by rw [hat.2.1.cell]; rfl
      have hf0 := hat.2.1.frozen 0
      have hf1 := hat.2.1.frozen 1
      have hf2 := hat.2.1.frozen 2
      have hct0 : wr.cell? ⟨w.heap.size + 1 + 1, 0, none⟩ = some (.slice (some ⟨w.heap.size + 1, 0, none⟩) a 8) := by have := hat.2.2.2.1.cell 0; exact this
      have hct1 : wr.cell? ⟨w.heap.size + 1 + 1, 1, none⟩ = some v := by have := hat.2.2.2.1.cell 1; exact this
      have hct2 : wr.cell? ⟨w.heap.size + 1 + 1, 2, none⟩ = some (.int .i64 0) := by have := hat.2.2.2.1.cell 2; exact this
      obtain ⟨A, c, rfl⟩ := own_slice hat.1
      have HFIN := Lib.hid hfin
      clear hat hfin
      go_wp2
      exact bodyPost_ret (v := .agg #[.slice (some ⟨w.heap.size + 1, 0, none⟩) a 8, .slice A a c, .int .i64 0]) (by simp [results, Try.results9, go_sem, hd0, hd1, hd2]) rfl HFIN.out
end Go.Proofs.Ytaingkjleelbfaa
