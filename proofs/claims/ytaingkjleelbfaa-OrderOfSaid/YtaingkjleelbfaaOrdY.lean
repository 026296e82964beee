/- Walk of the reference's Of. -/
import Derived.Test.YtaingkjleelbfaaOrdX
import Derived.Test.YtaingkjleelbfaaRefCheck
import Derived.Test.YtaingkjleelbfaaSame
namespace Go.Proofs.Ytaingkjleelbfaa
open Go.RowKit Go.Shelf

theorem own_base {W : World} {base base' sz n : Nat} {e : TypeId} {v : Value} {xs : List Value} (h : W.ownsRow base e sz v n xs) (hb : base' ≤ base) : W.ownsRow base' e sz v n xs := by
  refine ⟨h.1, ?_⟩
  rcases h.2 with hn | ⟨g, cap, cur, he, hg, hr⟩
  · exact .inl hn
  · exact .inr ⟨g, cap, cur, he, Nat.le_trans hb hg, hr⟩

theorem own_some {W : World} {base sz n : Nat} {e : TypeId} {v : Value} {xs : List Value} (h : W.ownsRow base e sz v n xs) (hn : 1 ≤ n) : ∃ g cap, v = .slice (some ⟨g, 0, none⟩) n cap := by
  rcases h.2 with ⟨_, h0⟩ | ⟨g, cap, _, he, _⟩
  · omega
  · exact ⟨g, cap, he⟩

theorem edge_bad {n : Nat} {x y : Int} (h : x < 0 ∨ (n : Int) ≤ x ∨ y < 0 ∨ (n : Int) ≤ y) : edgeOk n (x, y) = false := by
  cases e : edgeOk n (x, y) with
  | false => rfl
  | true =>
    exfalso
    simp only [edgeOk, isPl, Bool.and_eq_true, decide_eq_true_eq] at e
    omega
theorem edge_good {n : Nat} {x y : Int} (h1 : 0 ≤ x) (h2 : x < n) (h3 : 0 ≤ y) (h4 : y < n) : edgeOk n (x, y) = true := by
  simp only [edgeOk, isPl, Bool.and_eq_true, decide_eq_true_eq]
  exact ⟨⟨h1, h2⟩, h3, h4⟩

/-- What Of answers, as the reference says it. -/
noncomputable def ROfRes (w : World) (names : List ByteArray) (es : List (Int × Int)) : Ending → World → Prop := TRes w (ofN names es) (ofNames names es) (ofUp names es)
theorem ROfRes.no {w w' : World} {names : List ByteArray} {es : List (Int × Int)} {n : Nat} (hn : ofN names es = n) (hz : n ≠ 0) (hb : Below w.heap.size w w') : ROfRes w names es (.returned (.agg #[.slice none 0 0, .slice none 0 0, .int .i64 (n : Int)])) w' := by
  unfold ROfRes ofNames ofUp
  rw [hn, if_neg hz, if_neg hz]
  exact TRes.none_ hb
theorem ROfRes.yes {w w' : World} {names : List ByteArray} {es : List (Int × Int)} {x0 x1 : Value} (hn : ofN names es = 0) (h : IsLat w' w'.heap.size (.agg #[x0, x1]) names (Ordr.madeL names.length (natE es))) (hb : Below w.heap.size w w') : ROfRes w names es (.returned (.agg #[x0, x1, .int .i64 0])) w' := by
  unfold ROfRes ofNames ofUp
  rw [hn, if_pos rfl, if_pos rfl]
  exact ⟨_, _, rfl, h, hb⟩

/-- What holds in the loop over the rows. -/
def ROfAt (w : World) (f : Nat → Nat → Bool) (n a : Nat) (v : Value) (wr : World) : Prop :=
  wr.ownsRow (w.heap.size + 1) 62 1 v a (u32s ((Ordr.ups f n).take a)) ∧ Blk wr w.heap.size 31 #[.slice none 0 0, .slice none 0 0, .int .i64 0] ∧ Below w.heap.size w wr
theorem ROfAt.next {w wr w' : World} {f : Nat → Nat → Bool} {n a : Nat} {v : Value} (h : ROfAt w f n a v wr) (hb : Below wr.heap.size wr w') : ROfAt w f n a v w' :=
  ⟨own_below h.1 hb (Nat.le_refl _), h.2.1.below hb h.2.1.lt, h.2.2.trans (hb.mono h.2.2.size)⟩
theorem ROfAt.step {w wr w' : World} {f : Nat → Nat → Bool} {n a : Nat} {v v' : Value} {o : Obj} (h : ROfAt w f n a v wr) (ha : a < n) (hown : w'.ownsRow (w.heap.size + 1) 62 1 v' (a + 1) (u32s ((Ordr.ups f n).take a) ++ [.int .u32 (Ordr.rowTo f a n : Nat)]))
    (hg : (wr.alloc o).grownBy w' v.ownBlock) : ROfAt w f n (a + 1) v' w' := by
  obtain ⟨h1, h2, h3⟩ := h
  have hl := h2.lt
  refine ⟨?_, ?_, ?_⟩
  · rw [ups_take_succ ha, show u32s ((Ordr.ups f n).take a ++ [Ordr.rowTo f a n]) = u32s ((Ordr.ups f n).take a) ++ [.int .u32 (Ordr.rowTo f a n : Nat)] by simp [u32s]]
    exact hown
  · exact (hg.block w.heap.size (by simp; omega) (fun he => by have := (h1.lt _ he.symm).1; omega)).trans (h2.alloc o)
  · exact (h3.alloc h3.size o).grown hg (by simp; omega) (fun k he => by have := (h1.lt k he).1; omega)
theorem bools_snoc (l : List Bool) (b : Bool) : bools (l ++ [b]) = bools l ++ [.bool b] := by simp [bools]
theorem ind_take_succ {n a b : Nat} (hb : b < n) : (Ordr.ind n a).take (b + 1) = (Ordr.ind n a).take b ++ [decide (a = b)] := by
  rw [List.take_add_one]
  congr 1
  unfold Ordr.ind
  rw [List.getElem?_map, List.getElem?_range hb]
  rfl
theorem dec_cast (a b : Nat) : ((a : Int) == (b : Int)) = decide (a = b) := by rw [Bool.eq_iff_iff, beq_iff_eq, decide_eq_true_eq]; omega

set_option maxRecDepth 100000 in
set_option maxHeartbeats 8000000 in
theorem rOfMain_any {A : Option Addr} {D : Option Addr} {names : List ByteArray} {es : List (Int × Int)} (c d : Nat) (w : World) (hN : Row w w.heap.size A (strs names)) (hE : Row w w.heap.size D (ecells es)) (hs : ∀ s ∈ names, s.size ≤ maxLen) (hcn : names.length ≤ c)
    (n1 : 1 ≤ names.length) (n8 : names.length ≤ 8) (h64 : es.length ≤ 64) :
    Calls Try.prog 14 #[.slice A names.length c, .slice D es.length d] w (ROfRes w names es) := by
  have hO : ofN names es = if eN names.length es = 0 then checkN names (Ordr.madeL names.length (natE es)) else eN names.length es := rfl
  have hE0 : eN names.length es = if es.all (edgeOk names.length) then 0 else 9 := by unfold eN; rw [if_pos ⟨n1, n8⟩, if_pos h64]
  have HO := Lib.hid (And.intro hO hE0)
  have H := Lib.hid (And.intro hN hE)
  have HS := Lib.hid hs
  have hb0 : Below w.heap.size w (w.alloc (.cells #[.slice none 0 0, .slice none 0 0, .int .i64 0] 31)) := (Below.refl _ w).alloc (Nat.le_refl _) _
  have HST : Hid (Blk (w.alloc (.cells #[.slice none 0 0, .slice none 0 0, .int .i64 0] 31)) w.heap.size 31 #[.slice none 0 0, .slice none 0 0, .int .i64 0] ∧ Below w.heap.size w (w.alloc (.cells #[.slice none 0 0, .slice none 0 0, .int .i64 0] 31))) := ⟨Blk.new _ _ _, hb0⟩
  clear hO hE0 hN hE hs hb0
  go_enter Try.func14, Try.ntmps14
  go_wp2
  go_loopw [32] (fun i wr => ∃ k : Nat, k ≤ es.length ∧ i = .int .i64 k ∧ (∀ j e, j < k → es[j]? = some e → edgeOk names.length e = true) ∧ Blk wr w.heap.size 31 #[.slice none 0 0, .slice none 0 0, .int .i64 0] ∧ Below w.heap.size w wr) (fun i _ => es.length - (intOf i).toNat)
  case atStart => exact ⟨0, Nat.zero_le _, rfl, fun j p h => absurd h (Nat.not_lt_zero j), HST.out.1, HST.out.2⟩
  case round =>
    clear HST
    obtain ⟨k, hk, rfl, hok, hblk, hb⟩ := hrel
    by_cases hlt : k < es.length
    · obtain ⟨ad, ⟨x, y⟩, rfl, _, he, hc0, hc1⟩ := erow_at (H.out.2.below hb) hlt
      dsimp only at hc0 hc1
      have hg0 : wr.cell? ⟨w.heap.size, 0, none⟩ = some (.slice none 0 0) := by rw [hblk.cell]; rfl
      have hg1 : wr.cell? ⟨w.heap.size, 1, none⟩ = some (.slice none 0 0) := by rw [hblk.cell]; rfl
      have hg2 : wr.cell? ⟨w.heap.size, 2, none⟩ = some (.int .i64 0) := by rw [hblk.cell]; rfl
      have hf0 := hblk.frozen 0
      have hf1 := hblk.frozen 1
      have hf2 := hblk.frozen 2
      have hlg := hblk.lt
      have HX := Lib.hid he
      have HOK := Lib.hid hok
      have HB := Lib.hid (And.intro hblk hb)
      clear hok hb hblk he
      have hbad : edgeOk names.length (x, y) = false → ofN names es = 9 := fun h => by
        have hn : es.all (edgeOk names.length) = false := by rw [List.all_eq_false]; exact ⟨_, List.mem_of_getElem? HX.out, by rw [h]; simp⟩
        rw [HO.out.1, HO.out.2, hn]
        rfl
      have HBAD := Lib.hid hbad
      clear hbad
      have hbw : ∀ o : Obj, Below w.heap.size w ((((wr.setCell ⟨w.heap.size, 0, none⟩ (.slice none 0 0)).setCell ⟨w.heap.size, 1, none⟩ (.slice none 0 0)).setCell ⟨w.heap.size, 2, none⟩ (.int .i64 9)).alloc o) := fun o => by
        have h3 := ((HB.out.2.setCell (p := ⟨w.heap.size, 0, none⟩) (Nat.le_refl _) (.slice none 0 0)).setCell (p := ⟨w.heap.size, 1, none⟩) (Nat.le_refl _) (.slice none 0 0)).setCell (p := ⟨w.heap.size, 2, none⟩) (Nat.le_refl _) (.int .i64 9)
        exact h3.alloc h3.size o
      have HBW := Lib.hid hbw
      clear hbw
      by_cases x0 : x < 0
      · go_wp2
        exact bodyPost_ret (v := .agg #[.slice none 0 0, .slice none 0 0, .int .i64 9]) (by simp [results, Try.results14, go_sem, hg0, hg1, hg2, hlg]) rfl (ROfRes.no (HBAD.out (edge_bad (by omega))) (by decide) (HBW.out _))
      · by_cases x1 : (names.length : Int) ≤ x
        · go_wp2
          exact bodyPost_ret (v := .agg #[.slice none 0 0, .slice none 0 0, .int .i64 9]) (by simp [results, Try.results14, go_sem, hg0, hg1, hg2, hlg]) rfl (ROfRes.no (HBAD.out (edge_bad (by omega))) (by decide) (HBW.out _))
        · by_cases y0 : y < 0
          · go_wp2
            exact bodyPost_ret (v := .agg #[.slice none 0 0, .slice none 0 0, .int .i64 9]) (by simp [results, Try.results14, go_sem, hg0, hg1, hg2, hlg]) rfl (ROfRes.no (HBAD.out (edge_bad (by omega))) (by decide) (HBW.out _))
          · by_cases y1 : (names.length : Int) ≤ y
            · go_wp2
              exact bodyPost_ret (v := .agg #[.slice none 0 0, .slice none 0 0, .int .i64 9]) (by simp [results, Try.results14, go_sem, hg0, hg1, hg2, hlg]) rfl (ROfRes.no (HBAD.out (edge_bad (by omega))) (by decide) (HBW.out _))
            · have HXY : Hid (edgeOk names.length (x, y) = true) := by exact edge_good (by omega) (by omega) (by omega) (by omega)
              clear hg0 hg1 hg2 hf0 hf1 hf2 HBW
              go_wp2
              go_roundw
              case rel =>
                refine ⟨k + 1, by omega, by go_num, fun j p hj hp => ?_, HB.out.1.alloc _, HB.out.2.alloc HB.out.2.size _⟩
                rcases Nat.lt_or_eq_of_le (Nat.le_of_lt_succ hj) with h | rfl
                · exact HOK.out j p h hp
                · rw [HX.out] at hp; injection hp with hp; rw [← hp]; exact HXY.out
              case measure => simp [intOf]; omega
    · obtain rfl : k = es.length := by omega
      have hall : es.all (edgeOk names.length) = true := by
        rw [List.all_eq_true]
        intro e he
        obtain ⟨j, hj, rfl⟩ := List.getElem_of_mem he
        exact hok j _ hj (List.getElem?_eq_getElem hj)
      have HALL : Hid (toIs (natE es) = es ∧ (∀ p ∈ natE es, p.1 < names.length ∧ p.2 < names.length) ∧ ofN names es = checkN names (Ordr.madeL names.length (natE es))) := ⟨toIs_natE hall, natE_lt hall, by rw [HO.out.1, HO.out.2, if_pos hall, if_pos rfl]⟩
      have hst : ROfAt w (Ordr.reachF (natE es)) names.length 0 (.slice (some ⟨wr.heap.size, 0, none⟩) 0 0) (wr.alloc (.cells #[] 62)) :=
        ⟨own_base (own_emptyN wr 62 1) (by have := hblk.lt; omega), hblk.alloc _, hb.alloc hb.size _⟩
      have HST := Lib.hid hst
      clear hok hblk hb hall hst HO
      obtain ⟨i0, hi, hz0, hz1, hz2⟩ := info_parts Try.infoU32
      obtain ⟨i1, gi, gz0, gz1, gz2⟩ := info_parts Try.infoBool
      go_wp2
      go_loopw [8, 9] (fun v i wr => ∃ a : Nat, a ≤ names.length ∧ i = .int .i64 a ∧ ROfAt w (Ordr.reachF (natE es)) names.length a v wr) (fun _ i _ => names.length - (intOf i).toNat)
      case atStart => exact ⟨0, Nat.zero_le _, rfl, HST.out⟩
      case round =>
        clear HST
        obtain ⟨a, ha, rfl, hat⟩ := hrel
        by_cases hla : a < names.length
        · obtain ⟨wo, rfl⟩ : ∃ wo : World, wo = wr := ⟨_, rfl⟩
          have HAT := Lib.hid hat
          have hfst : (wo.alloc (.cells #[] 4)).ownsRow wo.heap.size 4 1 (.slice (some ⟨wo.heap.size, 0, none⟩) 0 0) 0 (bools ((Ordr.ind names.length a).take 0)) := own_emptyN wo 4 1
          have HFST := Lib.hid hfst
          clear hat hfst
          go_wp2
          go_loopw [10, 11] (fun v i wr => ∃ b : Nat, b ≤ names.length ∧ i = .int .i64 b ∧ wr.ownsRow wo.heap.size 4 1 v b (bools ((Ordr.ind names.length a).take b)) ∧ Below wo.heap.size wo wr) (fun _ i _ => names.length - (intOf i).toNat)
          case atStart => exact ⟨0, Nat.zero_le _, rfl, HFST.out, (Below.refl _ _).alloc (Nat.le_refl _) _⟩
          case round =>
            clear HFST
            obtain ⟨b, hbn, rfl, hown, hbw⟩ := hrel
            by_cases hlb : b < names.length
            · have hdc := dec_cast a b
              obtain ⟨q, hq⟩ : ∃ q, decide (a = b) = q := ⟨_, rfl⟩
              rw [hq] at hdc
              have HQ := Lib.hid hq
              have HOWN := Lib.hid (And.intro hown hbw)
              have hsz := hbw.size
              clear hq hbw
              go_wp2_with (at_builtin; refine wpList_append_own _ rfl _ _ 68 rfl wo.heap.size 4 i1 (.bool false) 1 1 Try.underlying68 gi gz0 gz1 gz2 rfl (by decide) _ _ _ rfl (hown.alloc _) ⟨wr.heap.size, 0, none⟩ 1 1 [.bool q] rfl rfl ?c1 ?c2 ?c3 ?c4 ?c5 ?_)
              case c1 => exact cell_one_new _ _ _
              case c2 => simp [Value.oneCell']
              case c3 => unfold maxLen; omega
              case c4 => omega
              case c5 => first | omega | (simp; omega)
              intro v' w' hown' hgrow _
              have h1 : w'.ownsRow wo.heap.size 4 1 v' (b + 1) (bools ((Ordr.ind names.length a).take (b + 1))) := by rw [ind_take_succ hlb, bools_snoc, HQ.out]; exact hown'
              have h2 := (HOWN.out.2.alloc HOWN.out.2.size (.cells #[.bool q] 4)).grown hgrow (by simp; omega) (fun k he => (HOWN.out.1.lt k he).1)
              have H12 := Lib.hid (And.intro h1 h2)
              clear h1 h2 hown' hgrow hown hdc
              go_wp2
              go_roundw
              case rel => exact ⟨b + 1, by omega, by go_num, H12.out.1, H12.out.2⟩
              case measure => simp [intOf]; omega
            · obtain rfl : b = names.length := by omega
              rw [show (Ordr.ind names.length a).take names.length = Ordr.ind names.length a from List.take_of_length_le (by rw [Ordr.ind_length]; exact Nat.le_refl _)] at hown
              obtain ⟨g, cap, rfl⟩ := own_some hown n1
              have hat1 := HAT.out.next hbw
              have hre := rReach_any d cap names.length ⟨g, 0, none⟩ (natE es) (Ordr.ind names.length a) wr (by rw [HALL.out.1]; exact (H.out.2.below hat1.2.2).more hat1.2.2.size) (own_rowN hown).1 (Ordr.ind_length _ _) n1 n8 (by rw [natE_length]; omega) HALL.out.2.1
              rw [natE_length, Ordr.rounds_reach hla HALL.out.2.1] at hre
              have HRE := Lib.hid hre
              have HAT1 := Lib.hid hat1
              clear hown hbw hre hat1
              go_wp2_with (fail)
              refine HRE.out.mono ?_
              rintro e w2 ⟨g2, cap2, rfl, hown2, hb2⟩
              have hat2 := HAT1.out.next hb2
              have hcells : ∀ b, b < names.length → w2.cell? ⟨g2, b, none⟩ = some (.bool (Ordr.reachF (natE es) a b)) := fun b hb => by
                rw [hown2.cellAt b (by omega)]
                unfold bools
                rw [List.getElem?_map, List.getElem?_map, List.getElem?_range hb]
                rfl
              have HC := Lib.hid hcells
              have HAT2 := Lib.hid hat2
              have hsz2 := hat2.2.1.lt
              have hown3 := hat2.1
              have HOWN3 := Lib.hid hown3
              clear hcells hown2 hb2 HRE HAT1 HAT hat2 hown3
              go_wp2
              go_loop [12, 80] (fun u j => ∃ (b x : Nat), b ≤ names.length ∧ j = .int .i64 b ∧ x < 256 ∧ x = Ordr.rowTo (Ordr.reachF (natE es)) a b ∧ u = .int .i64 x) (fun _ j => names.length - (intOf j).toNat)
              case atStart => exact ⟨0, 0, Nat.zero_le _, rfl, by decide, rfl, rfl⟩
              case round =>
                obtain ⟨b, x, hb, rfl, hx, he, rfl⟩ := hrel
                have HE := Lib.hid he
                clear he
                by_cases hlt2 : b < names.length
                · have hpw := rPower_any b w2 (by omega)
                  obtain ⟨q, hq⟩ : ∃ q, 2 ^ b = q := ⟨_, rfl⟩
                  have hq8 : q ≤ 128 := by rw [← hq]; exact Nat.pow_le_pow_right (n := 2) (j := 7) (by decide) (by omega)
                  rw [hq] at hpw
                  have hx2 : Ordr.rowTo (Ordr.reachF (natE es)) a (b + 1) < 256 := Nat.lt_of_lt_of_le (Ordr.rowTo_lt _ _ _) (Nat.pow_le_pow_right (n := 2) (j := 8) (by decide) (by omega))
                  have hcb := HC.out b hlt2
                  have HQ := Lib.hid hq
                  have HX2 := Lib.hid hx2
                  have HPW := Lib.hid hpw
                  clear hq hpw hx2
                  cases ef : Ordr.reachF (natE es) a b
                  · rw [ef] at hcb
                    have HF := Lib.hid ef
                    clear ef
                    go_wp2
                    go_round
                    case rel => exact ⟨b + 1, x, by omega, by go_num, hx, by rw [HE.out]; exact (rowTo_no HF.out).symm, rfl⟩
                    case measure => simp [intOf]; omega
                  · rw [ef] at hcb
                    have HF := Lib.hid ef
                    clear ef
                    go_wp2_with (go_at_call 26; refine HPW.out.mono ?_; rintro e w' ⟨rfl, rfl⟩)
                    go_round
                    case rel =>
                      have hr := rowTo_yes HF.out
                      rw [← HE.out, HQ.out] at hr
                      exact ⟨b + 1, x + q, by omega, by go_num, by rw [← hr]; exact HX2.out, hr.symm, by go_num⟩
                    case measure => simp [intOf]; omega
                · obtain rfl : b = names.length := by omega
                  have hcv : (x : Int) % 4294967296 = x := by omega
                  go_wp2_with (at_builtin; refine wpList_append_own _ rfl _ _ 23 rfl (w.heap.size + 1) 62 i0 (.int .u32 0) 1 4 Try.underlying23 hi hz0 hz1 hz2 rfl (by decide) _ a _ rfl (HOWN3.out.alloc _) ⟨w2.heap.size, 0, none⟩ 1 1 [.int .u32 (x : Int)] rfl rfl ?c1 ?c2 ?c3 ?c4 ?c5 ?_)
                  case c2 => simp [Value.oneCell']
                  case c3 => unfold maxLen; omega
                  case c4 => omega
                  case c5 => first | omega | (simp; omega)
                  intro v' w' hown' hgrow _
                  have hst := HAT2.out.step hla (by rw [← HE.out]; exact hown') hgrow
                  have HST := Lib.hid hst
                  clear hst hown' hgrow
                  go_wp2
                  go_roundw
                  case rel => exact ⟨a + 1, by omega, by go_num, HST.out⟩
                  case measure => simp [intOf]; omega
        · obtain rfl : a = names.length := by omega
          obtain ⟨g, cap, rfl⟩ := own_some hat.1 n1
          have hown := hat.1
          rw [show (Ordr.ups (Ordr.reachF (natE es)) names.length).take names.length = Ordr.madeL names.length (natE es) from List.take_of_length_le (by rw [Ordr.ups_length]; exact Nat.le_refl _)] at hown
          have hla : ∀ W : World, W.ownsRow (w.heap.size + 1) 62 1 (.slice (some ⟨g, 0, none⟩) names.length cap) names.length (u32s (Ordr.madeL names.length (natE es))) → Below w.heap.size w W → IsLat W W.heap.size (.agg #[.slice A names.length c, .slice (some ⟨g, 0, none⟩) names.length cap]) names (Ordr.madeL names.length (natE es)) := fun W h1 h2 => by
            obtain ⟨hr, hcc⟩ := own_rowN h1
            have hml : (Ordr.madeL names.length (natE es)).length = names.length := Ordr.ups_length
            refine ⟨⟨A, some ⟨g, 0, none⟩, c, cap, by rw [hml], (H.out.1.below h2).more h2.size, ⟨hr, Ordr.ups_u32 (by omega)⟩⟩, HS.out, ⟨by omega, by omega⟩, fun A1 k1 c1 A2 k2 c2 he => ?_⟩
            injection he with he; injection he with he; injection he with e1 he; injection he with e2 he
            injection e1 with _ a1 b1; injection e2 with _ a2 b2; omega
          have hb4 : Below wr.heap.size wr (wr.alloc (.cells #[.slice A names.length c, .slice (some ⟨g, 0, none⟩) names.length cap, .int .i64 0] 31)) := (Below.refl _ _).alloc (Nat.le_refl _) _
          have p4 := Lib.hid (Blk.new wr 31 #[.slice A names.length c, .slice (some ⟨g, 0, none⟩) names.length cap, .int .i64 0])
          have hck := rCheck_any _ (hla _ (own_below hown hb4 (Nat.le_refl _)) (hat.2.2.trans (hb4.mono hat.2.2.size)))
          rw [← check_same] at hck
          obtain ⟨m, hm⟩ : ∃ m, checkN names (Ordr.madeL names.length (natE es)) = m := ⟨_, rfl⟩
          rw [hm] at hck
          have HM := Lib.hid hm
          have HCK := Lib.hid hck
          have HLA := Lib.hid hla
          have HB4 := Lib.hid hb4
          have HP := Lib.hid (And.intro hat.2.1 hat.2.2)
          have HOWN := Lib.hid hown
          clear hm hck hla hb4 hat hown
          go_wp2_with (go_at_call 17; refine HCK.out.mono ?_)
          rintro e w5 ⟨rfl, hb5⟩
          have hb35 : Below wr.heap.size wr w5 := HB4.out.trans (hb5.mono (by simp))
          have hp5 := HP.out.1.below hb35 HP.out.1.lt
          have hbw5 : Below w.heap.size w w5 := HP.out.2.trans (hb35.mono HP.out.2.size)
          have q5 := p4.out.below hb5 (by simp)
          have hg0 : w5.cell? ⟨w.heap.size, 0, none⟩ = some (.slice none 0 0) := by rw [hp5.cell]; rfl
          have hg1 : w5.cell? ⟨w.heap.size, 1, none⟩ = some (.slice none 0 0) := by rw [hp5.cell]; rfl
          have hg2 : w5.cell? ⟨w.heap.size, 2, none⟩ = some (.int .i64 0) := by rw [hp5.cell]; rfl
          have hf0 := hp5.frozen 0
          have hf1 := hp5.frozen 1
          have hf2 := hp5.frozen 2
          have hd0 : w5.cell? ⟨wr.heap.size, 0, none⟩ = some (.slice A names.length c) := by rw [q5.cell]; rfl
          have hd1 : w5.cell? ⟨wr.heap.size, 1, none⟩ = some (.slice (some ⟨g, 0, none⟩) names.length cap) := by rw [q5.cell]; rfl
          have hd2 : w5.cell? ⟨wr.heap.size, 2, none⟩ = some (.int .i64 0) := by rw [q5.cell]; rfl
          have hne : wr.heap.size ≠ w.heap.size := by have := HP.out.1.lt; omega
          have HBW := Lib.hid hbw5
          have HB35 := Lib.hid hb35
          clear HCK hb5 hb35 hp5 q5 hbw5
          by_cases hz : m = 0
          · subst hz
            have hfin : ∀ u0 u1 u2, IsLat (((w5.setCell ⟨w.heap.size, 0, none⟩ u0).setCell ⟨w.heap.size, 1, none⟩ u1).setCell ⟨w.heap.size, 2, none⟩ u2) (((w5.setCell ⟨w.heap.size, 0, none⟩ u0).setCell ⟨w.heap.size, 1, none⟩ u1).setCell ⟨w.heap.size, 2, none⟩ u2).heap.size (.agg #[.slice A names.length c, .slice (some ⟨g, 0, none⟩) names.length cap]) names (Ordr.madeL names.length (natE es)) := by
              intro u0 u1 u2
              have h5 := own_below HOWN.out HB35.out (Nat.le_refl _)
              exact HLA.out _ (ownsRow_setCell_below (ownsRow_setCell_below (ownsRow_setCell_below h5 (a := ⟨w.heap.size, 0, none⟩) (Nat.lt_succ_self _) _) (a := ⟨w.heap.size, 1, none⟩) (Nat.lt_succ_self _) _) (a := ⟨w.heap.size, 2, none⟩) (Nat.lt_succ_self _) _)
                (((HBW.out.setCell (p := ⟨w.heap.size, 0, none⟩) (Nat.le_refl _) _).setCell (p := ⟨w.heap.size, 1, none⟩) (Nat.le_refl _) _).setCell (p := ⟨w.heap.size, 2, none⟩) (Nat.le_refl _) _)
            have HFIN := Lib.hid hfin
            clear hfin
            go_wp2
            refine bodyPost_ret (v := .agg #[.slice A names.length c, .slice (some ⟨g, 0, none⟩) names.length cap, .int .i64 0]) (by simp [results, Try.results14, go_sem, hg0, hg1, hg2]) rfl (ROfRes.yes (by rw [HALL.out.2.2, HM.out]) (HFIN.out _ _ _) ?_)
            exact ((HBW.out.setCell (p := ⟨w.heap.size, 0, none⟩) (Nat.le_refl _) _).setCell (p := ⟨w.heap.size, 1, none⟩) (Nat.le_refl _) _).setCell (p := ⟨w.heap.size, 2, none⟩) (Nat.le_refl _) _
          · have hz1 : ((m : Int) == 0) = false := by rw [beq_eq_false_iff_ne]; omega
            have hz2 : ((m : Int) != 0) = true := by rw [bne_iff_ne]; omega
            have HZ := Lib.hid hz
            clear hz
            go_wp2
            refine bodyPost_ret (v := .agg #[.slice none 0 0, .slice none 0 0, .int .i64 (m : Int)]) (by simp [results, Try.results14, go_sem, hg0, hg1, hg2]) rfl (ROfRes.no (by rw [HALL.out.2.2, HM.out]) HZ.out ?_)
            exact ((HBW.out.setCell (p := ⟨w.heap.size, 0, none⟩) (Nat.le_refl _) _).setCell (p := ⟨w.heap.size, 1, none⟩) (Nat.le_refl _) _).setCell (p := ⟨w.heap.size, 2, none⟩) (Nat.le_refl _) _

set_option maxHeartbeats 1000000 in
theorem rOf_any {A : Option Addr} {v : Value} {names : List ByteArray} {es : List (Int × Int)} (c : Nat) (w : World) (hN : Row w w.heap.size A (strs names)) (hv : IsEdges w w.heap.size v es) (hs : ∀ s ∈ names, s.size ≤ maxLen) (hcn : names.length ≤ c) (hnl : names.length ≤ 1000) :
    Calls Try.prog 14 #[.slice A names.length c, v] w (ROfRes w names es) := by
  obtain ⟨D, d, rfl, hE, hd, hel⟩ := hv
  by_cases hn : 1 ≤ names.length ∧ names.length ≤ 8
  · by_cases h64 : es.length ≤ 64
    · exact rOfMain_any c d w hN hE hs hcn hn.1 hn.2 h64
    · have HO : Hid (ofN names es = 8) := by
        have : eN names.length es = 8 := by unfold eN; rw [if_pos hn, if_neg h64]
        unfold Hid ofN; rw [this, if_neg (by decide)]
      have hb0 := Lib.hid ((Below.refl w.heap.size w).alloc (Nat.le_refl _) (.cells #[.slice none 0 0, .slice none 0 0, .int .i64 8] 31))
      obtain ⟨hn1, hn8⟩ := hn
      go_enter Try.func14, Try.ntmps14
      go_wp2
      exact bodyPost_ret (v := .agg #[.slice none 0 0, .slice none 0 0, .int .i64 8]) (by simp [results, Try.results14, go_sem]) rfl (ROfRes.no HO.out (by decide) hb0.out)
  · have HO : Hid (ofN names es = 1) := by
      have : eN names.length es = 1 := by unfold eN; rw [if_neg hn]
      unfold Hid ofN; rw [this, if_neg (by decide)]
    have hb0 := Lib.hid ((Below.refl w.heap.size w).alloc (Nat.le_refl _) (.cells #[.slice none 0 0, .slice none 0 0, .int .i64 1] 31))
    by_cases hn1 : names.length < 1
    · go_enter Try.func14, Try.ntmps14
      go_wp2
      exact bodyPost_ret (v := .agg #[.slice none 0 0, .slice none 0 0, .int .i64 1]) (by simp [results, Try.results14, go_sem]) rfl (ROfRes.no HO.out (by decide) hb0.out)
    · have hn8 : 8 < names.length := by omega
      clear hn
      go_enter Try.func14, Try.ntmps14
      go_wp2
      exact bodyPost_ret (v := .agg #[.slice none 0 0, .slice none 0 0, .int .i64 1]) (by simp [results, Try.results14, go_sem]) rfl (ROfRes.no HO.out (by decide) hb0.out)
end Go.Proofs.Ytaingkjleelbfaa
