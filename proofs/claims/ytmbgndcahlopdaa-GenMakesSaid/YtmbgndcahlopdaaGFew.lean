/- Walks of the law's few and alive. -/
import Derived.Deep.RegionLaw
import Derived.Maps.AppendAt
import Derived.Test.YtmbgndcahlopdaaGPub
namespace Go.Proofs.Ytmbgndcahlopdaa
set_option maxRecDepth 100000
open Go.RowKit

theorem step_append_own {P : Program} {ops : Array Oper} {o : Oper} {a : Act} {w : World} {K : Act → World → Prop} {Q : Exit → Act → World → Prop} {E : Prop} (hgd : o.guard = none) (s x : Operand) (t : TypeId)
    (ho : o.op = .call { callee := .builtin .append, args := #[s, x], argTypes := #[t, t] })
    (base : Nat) (e : TypeId) (i : TypeInfo) (z : Value) (size bytes : Nat) (ht : P.underlying t = some (.slice e)) (hi : P.info? e = some i) (hz : i.zero = some z)
    (hsize : i.size = size) (hby : i.bytes = bytes) (hzs : z.cells.size = size) (hsz : 0 < size)
    (v : Value) (n : Nat) (xs : List Value) (hs : a.eval s = v) (hown : w.ownsRow base e size v n xs)
    (ad : Addr) (m c : Nat) (news : List Value) (hx : a.eval x = .slice (some ad) m c) (hn : news.length = m * size) (hc : ∀ j u, news[j]? = some u → w.cell? (ad.add j) = some u) (h1 : ∀ u ∈ news, u.oneCell' = true)
    (h63 : n + m ≤ maxLen) (hbytes : (n + m) * bytes ≤ 140737488355328) (hbase : base ≤ w.heap.size)
    (h : ∀ v' w', w'.ownsRow base e size v' (n + m) (xs ++ news) → w.grownBy w' v.ownBlock → K (a.put o.dst v') w') :
    if Region.wanted o (yielded ops a.tmps) = true then Oper.wp P o a w K Q else E := by
  have hw : Region.wanted o (yielded ops a.tmps) = true := by simp [Region.wanted, hgd]
  rw [if_pos hw]
  obtain ⟨v', w', hrun, h2, h3, _, _⟩ := run_append_own_at (P := P) w base t o.type e i z size bytes ht hi hz hsize hby hzs hsz v n xs hown ad m c news hn hc h1 h63 hbytes hbase
  unfold Oper.wp execOp
  simp only [ho, resolve, invoke, builtin, Sem.run_bind, Sem.run_pure, Result.andThen_ok, List.map_toArray, List.map_cons, List.map_nil, hs, hx, hrun]
  exact h v' w' h2 h3

theorem Try.infoStr : (Try.prog.info? 9).map (fun i => (i.zero, i.size, i.bytes)) = some (some (.string ByteArray.empty), 1, 16) := by kernel_rfl

def cut (s : ByteArray) : ByteArray := s.extract 0 (min s.size 15)
theorem cut_long {s : ByteArray} (h : (15 : Int) < s.size) : cut s = s.extract 0 15 := by unfold cut; rw [show min s.size 15 = 15 by omega]
theorem cut_short {s : ByteArray} (h : ¬ (15 : Int) < s.size) : cut s = s := by unfold cut; rw [show min s.size 15 = s.size by omega]; simp
theorem strs_snoc (l : List ByteArray) (s : ByteArray) : strs (l ++ [s]) = strs l ++ [.string s] := by simp [strs]
def fewTo (names : List ByteArray) (k : Nat) : List ByteArray := (names.take k).map cut
theorem fewTo_succ {names : List ByteArray} {k : Nat} {s : ByteArray} (h : names[k]? = some s) : fewTo names (k + 1) = fewTo names k ++ [cut s] := by
  unfold fewTo
  rw [List.take_add_one, List.map_append, h]
  rfl
theorem Blk.new' (W : World) (t : TypeId) (cs : Array Value) (g : Nat) (h : W.heap.size = g) : Blk (W.alloc (.cells cs t)) g t cs := h ▸ Blk.new W t cs

theorem few_ne {W : World} {v : Value} {base g n : Nat} {e : TypeId} {xs : List Value} (hown : W.ownsRow base e 1 v n xs) (hlt : g < base) : some g ≠ v.ownBlock := fun he => by
  have := (hown.lt g he.symm).1
  omega
theorem few_grow {W W' : World} {v : Value} {o : Obj} {base g n : Nat} {e t : TypeId} {xs : List Value} {cs : Array Value} (hb : Blk W g t cs) (hown : W.ownsRow base e 1 v n xs) (hlt : g < base) (hgr : ((W.alloc o).drew).grownBy W' v.ownBlock) : Blk W' g t cs :=
  (hgr.block g (hb.alloc o).lt (few_ne hown hlt)).trans (hb.alloc o)
theorem few_below {W0 W W' : World} {v : Value} {o : Obj} {base n : Nat} {e : TypeId} {xs : List Value} (hB : Below W0.heap.size W0 W) (hown : W.ownsRow base e 1 v n xs) (hlt : W0.heap.size ≤ base) (hgr : ((W.alloc o).drew).grownBy W' v.ownBlock) : Below W0.heap.size W0 W' :=
  ((hB.alloc hB.size o).drew).grown hgr (by have := hB.size; simp; omega) (fun k he => by have := (hown.lt k he).1; omega)

/-- The cells of old blocks below B0, and of blocks from base on, are there in W2 as in W. -/
def Keeps (B0 base : Nat) (W W2 : World) : Prop := W.heap.size ≤ W2.heap.size ∧ ∀ p : Addr, p.block < W.heap.size → (p.block < B0 ∨ base ≤ p.block) → W2.cell? p = W.cell? p
theorem own_row {W W2 : World} {B0 b0 base k cn : Nat} {e : TypeId} {An : Option Addr} {xs : List Value} (h : W.ownsRow base e 1 (.slice An k cn) k xs) (hb0 : b0 ≤ base) (hk : Keeps B0 b0 W W2) : Row W2 W2.heap.size An xs ∧ k ≤ cn := by
  have hown := h
  obtain ⟨h1, h2⟩ := h
  rcases h2 with ⟨he, hk0⟩ | ⟨g, cap, cur, he, hb, hh, hkc, hcm, hcs, ht⟩
  · injection he with e1 e2 e3
    subst hk0
    have : xs = [] := List.eq_nil_of_length_eq_zero (by simpa using h1)
    subst this
    exact ⟨Row.nil, by omega⟩
  · injection he with e1 e2 e3
    subst e1 e3
    have hg := (Array.getElem?_eq_some_iff.1 hh).1
    refine ⟨fun _ => ⟨_, rfl, by have := hk.1; show g < _; omega, fun j u hu => ?_⟩, hkc⟩
    exact (hk.2 _ (by rw [add_block]; exact hg) (.inr (by rw [add_block]; show b0 ≤ g; omega))).trans (hown.cells rfl j u hu)
theorem cut_size (s : ByteArray) : (cut s).size ≤ 15 := by
  unfold cut
  rw [ByteArray.size_extract]
  omega
theorem few_lat {W : World} {B0 b0 : Nat} {An A' : Option Addr} {names : List ByteArray} {up : List Nat} {k n cn c' base : Nat} {e : TypeId} (hown : W.ownsRow base e 1 (.slice An k cn) k (strs (fewTo names k))) (hk : k ≤ names.length) (hk10 : k ≤ 10) (hb0 : b0 ≤ base)
    (hU : Ups W B0 A' up) (hB0 : B0 ≤ W.heap.size) (hn : n ≤ up.length) (hn10 : n ≤ 10) (hnc : n ≤ c') : ∀ W2 : World, Keeps B0 b0 W W2 → IsLat W2 W2.heap.size (.agg #[.slice An k cn, .slice A' n c']) (fewTo names k) (up.take n) := by
  intro W2 hkeep
  obtain ⟨hr, hkc⟩ := own_row hown hb0 hkeep
  have l1 : (fewTo names k).length = k := by simp [fewTo]; omega
  have l2 : (up.take n).length = n := by simp; omega
  have hU2 : Ups W2 W2.heap.size A' up := ⟨fun hne => by
    obtain ⟨ad, ha, hb, hc⟩ := hU.1 hne
    refine ⟨ad, ha, by have := hkeep.1; omega, fun j u hu => ?_⟩
    exact (hkeep.2 _ (by rw [add_block]; omega) (.inl (by rw [add_block]; exact hb))).trans (hc j u hu), hU.2⟩
  refine ⟨⟨An, A', cn, c', by rw [l1, l2], hr, ?_, ?_⟩, ?_, ⟨by omega, by omega⟩, ?_⟩
  · have := hU2.1.take n
    rwa [show (u32s up).take n = u32s (up.take n) by simp [u32s, List.map_take]] at this
  · intro i x hx
    rw [List.getElem?_take] at hx
    split at hx
    · exact hU.2 i x hx
    · cases hx
  · intro s hs
    unfold fewTo at hs
    obtain ⟨t, _, rfl⟩ := List.mem_map.1 hs
    have := cut_size t
    unfold maxLen
    omega
  · intro A1 n1 c1 A2 n2 c2 he
    injection he with he
    injection he with he
    injection he with e1 he
    injection he with e2 he
    injection e1 with _ e11 e12
    injection e2 with _ e21 e22
    omega

set_option maxHeartbeats 4000000 in
theorem few_any {A A' : Option Addr} {names : List ByteArray} {up : List Nat} (B0 c c' : Nat) (w : World) (hB00 : B0 ≤ w.heap.size) (hN0 : Row w B0 A (strs names)) (hU0 : Ups w B0 A' up) (hc : names.length ≤ c) (hc' : up.length ≤ c') (hm : c ≤ maxLen) (hm' : c' ≤ maxLen) (hs : ∀ s ∈ names, s.size ≤ maxLen) :
    Calls Try.prog 5 #[.agg #[.slice A names.length c, .slice A' up.length c']] w fun e w' => ∃ v names' up', e = .returned v ∧ (∀ W2, Keeps B0 w.heap.size w' W2 → IsLat W2 W2.heap.size v names' up') ∧ Below w.heap.size w w' := by
  have hN : Row w w.heap.size A (strs names) := hN0.more hB00
  have HU0 : Hid (∀ W, Below w.heap.size w W → Ups W B0 A' up) := fun W hb => ⟨hU0.1.keep fun p hp => hb.cell (by omega), hU0.2⟩
  clear hN0 hU0
  unfold maxLen at hm hm' hs
  obtain ⟨i0, hi, hz0, hz1, hz2⟩ := info_parts Try.infoStr
  have hmx : max (10 : Int) 0 = 10 := rfl
  by_cases h1 : up.length ≤ 10
  · by_cases h2 : names.length ≤ 10
    · skip
      have hst := (Blk.new w 25 #[.slice A names.length c, .slice A' up.length c']).alloc (.cells #[.slice none 0 0, .slice none 0 0] 25)
      have hst0 := hst.alloc (.cells #[.slice none 0 0, .slice A' up.length c'] 25)
      have hst1 := (Blk.new' (w.alloc (.cells #[.slice A names.length c, .slice A' up.length c'] 25)) 25 #[.slice none 0 0, .slice none 0 0] (w.heap.size + 1) (by simp)).alloc (.cells #[.slice none 0 0, .slice A' up.length c'] 25)
      have hst2 := Blk.new' ((w.alloc (.cells #[.slice A names.length c, .slice A' up.length c'] 25)).alloc (.cells #[.slice none 0 0, .slice none 0 0] 25)) 25 #[.slice none 0 0, .slice A' up.length c'] (w.heap.size + 1 + 1) (by simp)
      have hB0 : Below w.heap.size w (((w.alloc (.cells #[.slice A names.length c, .slice A' up.length c'] 25)).alloc (.cells #[.slice none 0 0, .slice none 0 0] 25)).alloc (.cells #[.slice none 0 0, .slice A' up.length c'] 25)) :=
        (((Below.refl _ w).alloc (Nat.le_refl _) _).alloc (by simp) _).alloc (by simp; omega) _
      have hz3 : (((w.alloc (.cells #[.slice A names.length c, .slice A' up.length c'] 25)).alloc (.cells #[.slice none 0 0, .slice none 0 0] 25)).alloc (.cells #[.slice none 0 0, .slice A' up.length c'] 25)).heap.size = w.heap.size + 3 := by simp
      have H0 := Lib.hid hst0
      have H1 := Lib.hid hst1
      have H2 := Lib.hid hst2
      have HB0 := Lib.hid hB0
      have HZ3 := Lib.hid hz3
      clear hst hst0 hst1 hst2 hB0 hz3
      go_enter Try.func5, Try.ntmps5
      go_wp2
      go_loopw [22] (fun i wr => ∃ (k : Nat) (An : Option Addr) (cn : Nat), k ≤ 10 ∧ k ≤ names.length ∧ i = .int .i64 k ∧ Blk wr w.heap.size 25 #[.slice A names.length c, .slice A' up.length c'] ∧ Blk wr (w.heap.size + 1) 25 #[.slice none 0 0, .slice none 0 0] ∧ Blk wr (w.heap.size + 1 + 1) 25 #[.slice An k cn, .slice A' up.length c'] ∧ wr.ownsRow (w.heap.size + 3) 9 1 (.slice An k cn) k (strs (fewTo names k)) ∧ w.heap.size + 3 ≤ wr.heap.size ∧ Below w.heap.size w wr) (fun i _ => 10 - (intOf i).toNat)
      case atStart => exact ⟨0, none, 0, Nat.zero_le _, Nat.zero_le _, rfl, H0.out, H1.out, H2.out, World.ownsRow_nil _ _ _ _, by rw [HZ3.out]; exact Nat.le_refl _, HB0.out⟩
      case round =>
        obtain ⟨k, An, cn, hk, hkn, rfl, hb0, hb1, hb2, hown, hsz, hB⟩ := hrel
        have hc00 : wr.cell? ⟨w.heap.size, 0, none⟩ = some (.slice A names.length c) := by rw [hb0.cell]; rfl
        have hc01 : wr.cell? ⟨w.heap.size, 1, none⟩ = some (.slice A' up.length c') := by rw [hb0.cell]; rfl
        have hc20 : wr.cell? ⟨w.heap.size + 1 + 1, 0, none⟩ = some (.slice An k cn) := by rw [hb2.cell]; rfl
        have hc21 : wr.cell? ⟨w.heap.size + 1 + 1, 1, none⟩ = some (.slice A' up.length c') := by rw [hb2.cell]; rfl
        have hc10 : wr.cell? ⟨w.heap.size + 1, 0, none⟩ = some (.slice none 0 0) := by rw [hb1.cell]; rfl
        have hc11 : wr.cell? ⟨w.heap.size + 1, 1, none⟩ = some (.slice none 0 0) := by rw [hb1.cell]; rfl
        have hf10 := hb1.frozen 0
        have hf11 := hb1.frozen 1
        have hf20 := hb2.frozen 0
        have hl2 := hb2.lt
        by_cases hlt : k < names.length ∧ k < 10
        · obtain ⟨hlt1, hlt2⟩ := hlt
          obtain ⟨ad, s, rfl, _, hsk, hcs⟩ := strs_at (hN.below hB) hlt1
          have hsl := hs s (List.mem_of_getElem? hsk)
          have HSK := Lib.hid hsk
          clear hsk
          by_cases hs15 : (15 : Int) < s.size
          · have hs16 : (15 : Int) ≤ s.size := by omega
            go_wp2
            have HCUT : Hid (cut s = s.extract 0 15) := cut_long hs15
            go_region_law (refine step_append_own rfl (.tmp 27) (.tmp 33) 22 rfl (w.heap.size + 3) 9 i0 (.string ByteArray.empty) 1 16 Try.underlying22 hi hz0 hz1 hz2 rfl (by decide) (.slice An k cn) k (strs (fewTo names k)) (by simp [Act.eval, Act.put]) (by exact hown.alloc _) ⟨wr.heap.size, 0, none⟩ 1 1 [.string (s.extract 0 15)] (by simp [Act.eval, Act.put]) rfl (by exact cell_one_new _ _ _) (by simp [Value.oneCell']) (by unfold maxLen; omega) (by omega) (by simp; omega) ?_; intro v' w' hown' hgrow; obtain ⟨g', cap', rfl⟩ := ownsRow_succ hown'; have hb2' := few_grow hb2 hown (by omega) hgrow; have hcz : w'.cell? ⟨w.heap.size + 1 + 1, 0, none⟩ = some (.slice An k cn) := (by rw [hb2'.cell]; rfl); have hfz := hb2'.frozen 0)
            all_goals go_wp2
            all_goals
              go_roundw
              case rel => exact ⟨k + 1, _, _, by omega, by omega, by go_num, (few_grow hb0 hown (by omega) hgrow).other (p := ⟨w.heap.size + 1 + 1, 0, none⟩) (by simp; omega) _, (few_grow hb1 hown (by omega) hgrow).other (p := ⟨w.heap.size + 1 + 1, 0, none⟩) (by simp) _, hb2'.set_ 0 _, by rw [fewTo_succ HSK.out, strs_snoc, HCUT.out]; exact ownsRow_setCell_below hown' (by simp) _, by have := hgrow.size; simp at this ⊢; omega, (few_below hB hown (by omega) hgrow).setCell (p := ⟨w.heap.size + 1 + 1, 0, none⟩) (by simp; omega) _⟩
              case measure => simp [intOf]; omega
          · have HCUT : Hid (cut s = s) := cut_short hs15
            have hp15 : ((15 : Int) < s.size) = False := eq_false hs15
            clear hs15
            go_wp2
            go_region_law (refine step_append_own rfl (.tmp 27) (.tmp 33) 22 rfl (w.heap.size + 3) 9 i0 (.string ByteArray.empty) 1 16 Try.underlying22 hi hz0 hz1 hz2 rfl (by decide) (.slice An k cn) k (strs (fewTo names k)) (by simp [Act.eval, Act.put]) (by exact hown.alloc _) ⟨wr.heap.size, 0, none⟩ 1 1 [.string s] (by simp [Act.eval, Act.put]) rfl (by exact cell_one_new _ _ _) (by simp [Value.oneCell']) (by unfold maxLen; omega) (by omega) (by simp; omega) ?_; intro v' w' hown' hgrow; obtain ⟨g', cap', rfl⟩ := ownsRow_succ hown'; have hb2' := few_grow hb2 hown (by omega) hgrow; have hcz : w'.cell? ⟨w.heap.size + 1 + 1, 0, none⟩ = some (.slice An k cn) := (by rw [hb2'.cell]; rfl); have hfz := hb2'.frozen 0)
            all_goals go_wp2
            all_goals
              go_roundw
              case rel => exact ⟨k + 1, _, _, by omega, by omega, by go_num, (few_grow hb0 hown (by omega) hgrow).other (p := ⟨w.heap.size + 1 + 1, 0, none⟩) (by simp; omega) _, (few_grow hb1 hown (by omega) hgrow).other (p := ⟨w.heap.size + 1 + 1, 0, none⟩) (by simp) _, hb2'.set_ 0 _, by rw [fewTo_succ HSK.out, strs_snoc, HCUT.out]; exact ownsRow_setCell_below hown' (by simp) _, by have := hgrow.size; simp at this ⊢; omega, (few_below hB hown (by omega) hgrow).setCell (p := ⟨w.heap.size + 1 + 1, 0, none⟩) (by simp; omega) _⟩
              case measure => simp [intOf]; omega
        · obtain rfl : k = names.length := by omega
          have hown2 := ownsRow_setCell_below (ownsRow_setCell_below hown (a := ⟨w.heap.size + 1, 0, none⟩) (by simp) (.slice An names.length cn)) (a := ⟨w.heap.size + 1, 1, none⟩) (by simp) (.slice A' up.length c')
          have hBf := (hB.setCell (p := ⟨w.heap.size + 1, 0, none⟩) (by simp) (.slice An names.length cn)).setCell (p := ⟨w.heap.size + 1, 1, none⟩) (by simp) (.slice A' up.length c')
          have hla := few_lat (b0 := w.heap.size) hown2 (by omega) (by omega) (by omega) (HU0.out _ hBf) (Nat.le_trans hB00 hBf.size) (c' := c') (n := up.length) (by omega) (by omega) (by omega)
          have HLA := Lib.hid hla
          have HBF := Lib.hid hBf
          clear hla hBf hown2
          go_wp2
          exact bodyPost_ret (v := .agg #[.slice An names.length cn, .slice A' up.length c']) (by simp [results, Try.results5, go_sem, hc10, hc11]) rfl ⟨_, _, _, rfl, HLA.out, HBF.out⟩
    · skip
      have hst := (Blk.new w 25 #[.slice A names.length c, .slice A' up.length c']).alloc (.cells #[.slice none 0 0, .slice none 0 0] 25)
      have hst0 := hst.alloc (.cells #[.slice none 0 0, .slice A' up.length c'] 25)
      have hst1 := (Blk.new' (w.alloc (.cells #[.slice A names.length c, .slice A' up.length c'] 25)) 25 #[.slice none 0 0, .slice none 0 0] (w.heap.size + 1) (by simp)).alloc (.cells #[.slice none 0 0, .slice A' up.length c'] 25)
      have hst2 := Blk.new' ((w.alloc (.cells #[.slice A names.length c, .slice A' up.length c'] 25)).alloc (.cells #[.slice none 0 0, .slice none 0 0] 25)) 25 #[.slice none 0 0, .slice A' up.length c'] (w.heap.size + 1 + 1) (by simp)
      have hB0 : Below w.heap.size w (((w.alloc (.cells #[.slice A names.length c, .slice A' up.length c'] 25)).alloc (.cells #[.slice none 0 0, .slice none 0 0] 25)).alloc (.cells #[.slice none 0 0, .slice A' up.length c'] 25)) :=
        (((Below.refl _ w).alloc (Nat.le_refl _) _).alloc (by simp) _).alloc (by simp; omega) _
      have hz3 : (((w.alloc (.cells #[.slice A names.length c, .slice A' up.length c'] 25)).alloc (.cells #[.slice none 0 0, .slice none 0 0] 25)).alloc (.cells #[.slice none 0 0, .slice A' up.length c'] 25)).heap.size = w.heap.size + 3 := by simp
      have H0 := Lib.hid hst0
      have H1 := Lib.hid hst1
      have H2 := Lib.hid hst2
      have HB0 := Lib.hid hB0
      have HZ3 := Lib.hid hz3
      clear hst hst0 hst1 hst2 hB0 hz3
      go_enter Try.func5, Try.ntmps5
      go_wp2
      go_loopw [22] (fun i wr => ∃ (k : Nat) (An : Option Addr) (cn : Nat), k ≤ 10 ∧ k ≤ names.length ∧ i = .int .i64 k ∧ Blk wr w.heap.size 25 #[.slice A names.length c, .slice A' up.length c'] ∧ Blk wr (w.heap.size + 1) 25 #[.slice none 0 0, .slice none 0 0] ∧ Blk wr (w.heap.size + 1 + 1) 25 #[.slice An k cn, .slice A' up.length c'] ∧ wr.ownsRow (w.heap.size + 3) 9 1 (.slice An k cn) k (strs (fewTo names k)) ∧ w.heap.size + 3 ≤ wr.heap.size ∧ Below w.heap.size w wr) (fun i _ => 10 - (intOf i).toNat)
      case atStart => exact ⟨0, none, 0, Nat.zero_le _, Nat.zero_le _, rfl, H0.out, H1.out, H2.out, World.ownsRow_nil _ _ _ _, by rw [HZ3.out]; exact Nat.le_refl _, HB0.out⟩
      case round =>
        obtain ⟨k, An, cn, hk, hkn, rfl, hb0, hb1, hb2, hown, hsz, hB⟩ := hrel
        have hc00 : wr.cell? ⟨w.heap.size, 0, none⟩ = some (.slice A names.length c) := by rw [hb0.cell]; rfl
        have hc01 : wr.cell? ⟨w.heap.size, 1, none⟩ = some (.slice A' up.length c') := by rw [hb0.cell]; rfl
        have hc20 : wr.cell? ⟨w.heap.size + 1 + 1, 0, none⟩ = some (.slice An k cn) := by rw [hb2.cell]; rfl
        have hc21 : wr.cell? ⟨w.heap.size + 1 + 1, 1, none⟩ = some (.slice A' up.length c') := by rw [hb2.cell]; rfl
        have hc10 : wr.cell? ⟨w.heap.size + 1, 0, none⟩ = some (.slice none 0 0) := by rw [hb1.cell]; rfl
        have hc11 : wr.cell? ⟨w.heap.size + 1, 1, none⟩ = some (.slice none 0 0) := by rw [hb1.cell]; rfl
        have hf10 := hb1.frozen 0
        have hf11 := hb1.frozen 1
        have hf20 := hb2.frozen 0
        have hl2 := hb2.lt
        by_cases hlt : k < names.length ∧ k < 10
        · obtain ⟨hlt1, hlt2⟩ := hlt
          obtain ⟨ad, s, rfl, _, hsk, hcs⟩ := strs_at (hN.below hB) hlt1
          have hsl := hs s (List.mem_of_getElem? hsk)
          have HSK := Lib.hid hsk
          clear hsk
          by_cases hs15 : (15 : Int) < s.size
          · have hs16 : (15 : Int) ≤ s.size := by omega
            go_wp2
            have HCUT : Hid (cut s = s.extract 0 15) := cut_long hs15
            go_region_law (refine step_append_own rfl (.tmp 27) (.tmp 33) 22 rfl (w.heap.size + 3) 9 i0 (.string ByteArray.empty) 1 16 Try.underlying22 hi hz0 hz1 hz2 rfl (by decide) (.slice An k cn) k (strs (fewTo names k)) (by simp [Act.eval, Act.put]) (by exact hown.alloc _) ⟨wr.heap.size, 0, none⟩ 1 1 [.string (s.extract 0 15)] (by simp [Act.eval, Act.put]) rfl (by exact cell_one_new _ _ _) (by simp [Value.oneCell']) (by unfold maxLen; omega) (by omega) (by simp; omega) ?_; intro v' w' hown' hgrow; obtain ⟨g', cap', rfl⟩ := ownsRow_succ hown'; have hb2' := few_grow hb2 hown (by omega) hgrow; have hcz : w'.cell? ⟨w.heap.size + 1 + 1, 0, none⟩ = some (.slice An k cn) := (by rw [hb2'.cell]; rfl); have hfz := hb2'.frozen 0)
            all_goals go_wp2
            all_goals
              go_roundw
              case rel => exact ⟨k + 1, _, _, by omega, by omega, by go_num, (few_grow hb0 hown (by omega) hgrow).other (p := ⟨w.heap.size + 1 + 1, 0, none⟩) (by simp; omega) _, (few_grow hb1 hown (by omega) hgrow).other (p := ⟨w.heap.size + 1 + 1, 0, none⟩) (by simp) _, hb2'.set_ 0 _, by rw [fewTo_succ HSK.out, strs_snoc, HCUT.out]; exact ownsRow_setCell_below hown' (by simp) _, by have := hgrow.size; simp at this ⊢; omega, (few_below hB hown (by omega) hgrow).setCell (p := ⟨w.heap.size + 1 + 1, 0, none⟩) (by simp; omega) _⟩
              case measure => simp [intOf]; omega
          · have HCUT : Hid (cut s = s) := cut_short hs15
            have hp15 : ((15 : Int) < s.size) = False := eq_false hs15
            clear hs15
            go_wp2
            go_region_law (refine step_append_own rfl (.tmp 27) (.tmp 33) 22 rfl (w.heap.size + 3) 9 i0 (.string ByteArray.empty) 1 16 Try.underlying22 hi hz0 hz1 hz2 rfl (by decide) (.slice An k cn) k (strs (fewTo names k)) (by simp [Act.eval, Act.put]) (by exact hown.alloc _) ⟨wr.heap.size, 0, none⟩ 1 1 [.string s] (by simp [Act.eval, Act.put]) rfl (by exact cell_one_new _ _ _) (by simp [Value.oneCell']) (by unfold maxLen; omega) (by omega) (by simp; omega) ?_; intro v' w' hown' hgrow; obtain ⟨g', cap', rfl⟩ := ownsRow_succ hown'; have hb2' := few_grow hb2 hown (by omega) hgrow; have hcz : w'.cell? ⟨w.heap.size + 1 + 1, 0, none⟩ = some (.slice An k cn) := (by rw [hb2'.cell]; rfl); have hfz := hb2'.frozen 0)
            all_goals go_wp2
            all_goals
              go_roundw
              case rel => exact ⟨k + 1, _, _, by omega, by omega, by go_num, (few_grow hb0 hown (by omega) hgrow).other (p := ⟨w.heap.size + 1 + 1, 0, none⟩) (by simp; omega) _, (few_grow hb1 hown (by omega) hgrow).other (p := ⟨w.heap.size + 1 + 1, 0, none⟩) (by simp) _, hb2'.set_ 0 _, by rw [fewTo_succ HSK.out, strs_snoc, HCUT.out]; exact ownsRow_setCell_below hown' (by simp) _, by have := hgrow.size; simp at this ⊢; omega, (few_below hB hown (by omega) hgrow).setCell (p := ⟨w.heap.size + 1 + 1, 0, none⟩) (by simp; omega) _⟩
              case measure => simp [intOf]; omega
        · obtain rfl : k = 10 := by omega
          have hown2 := ownsRow_setCell_below (ownsRow_setCell_below hown (a := ⟨w.heap.size + 1, 0, none⟩) (by simp) (.slice An 10 cn)) (a := ⟨w.heap.size + 1, 1, none⟩) (by simp) (.slice A' up.length c')
          have hBf := (hB.setCell (p := ⟨w.heap.size + 1, 0, none⟩) (by simp) (.slice An 10 cn)).setCell (p := ⟨w.heap.size + 1, 1, none⟩) (by simp) (.slice A' up.length c')
          have hla := few_lat (b0 := w.heap.size) hown2 (by omega) (by omega) (by omega) (HU0.out _ hBf) (Nat.le_trans hB00 hBf.size) (c' := c') (n := up.length) (by omega) (by omega) (by omega)
          have HLA := Lib.hid hla
          have HBF := Lib.hid hBf
          clear hla hBf hown2
          go_wp2
          exact bodyPost_ret (v := .agg #[.slice An 10 cn, .slice A' up.length c']) (by simp [results, Try.results5, go_sem, hc10, hc11]) rfl ⟨_, _, _, rfl, HLA.out, HBF.out⟩
  · by_cases h2 : names.length ≤ 10
    · skip
      have hst := (Blk.new w 25 #[.slice A names.length c, .slice A' up.length c']).alloc (.cells #[.slice none 0 0, .slice none 0 0] 25)
      have hst0 := hst.alloc (.cells #[.slice none 0 0, .slice A' 10 c'] 25)
      have hst1 := (Blk.new' (w.alloc (.cells #[.slice A names.length c, .slice A' up.length c'] 25)) 25 #[.slice none 0 0, .slice none 0 0] (w.heap.size + 1) (by simp)).alloc (.cells #[.slice none 0 0, .slice A' 10 c'] 25)
      have hst2 := Blk.new' ((w.alloc (.cells #[.slice A names.length c, .slice A' up.length c'] 25)).alloc (.cells #[.slice none 0 0, .slice none 0 0] 25)) 25 #[.slice none 0 0, .slice A' 10 c'] (w.heap.size + 1 + 1) (by simp)
      have hB0 : Below w.heap.size w (((w.alloc (.cells #[.slice A names.length c, .slice A' up.length c'] 25)).alloc (.cells #[.slice none 0 0, .slice none 0 0] 25)).alloc (.cells #[.slice none 0 0, .slice A' 10 c'] 25)) :=
        (((Below.refl _ w).alloc (Nat.le_refl _) _).alloc (by simp) _).alloc (by simp; omega) _
      have hz3 : (((w.alloc (.cells #[.slice A names.length c, .slice A' up.length c'] 25)).alloc (.cells #[.slice none 0 0, .slice none 0 0] 25)).alloc (.cells #[.slice none 0 0, .slice A' 10 c'] 25)).heap.size = w.heap.size + 3 := by simp
      have H0 := Lib.hid hst0
      have H1 := Lib.hid hst1
      have H2 := Lib.hid hst2
      have HB0 := Lib.hid hB0
      have HZ3 := Lib.hid hz3
      clear hst hst0 hst1 hst2 hB0 hz3
      go_enter Try.func5, Try.ntmps5
      go_wp2
      go_loopw [22] (fun i wr => ∃ (k : Nat) (An : Option Addr) (cn : Nat), k ≤ 10 ∧ k ≤ names.length ∧ i = .int .i64 k ∧ Blk wr w.heap.size 25 #[.slice A names.length c, .slice A' up.length c'] ∧ Blk wr (w.heap.size + 1) 25 #[.slice none 0 0, .slice none 0 0] ∧ Blk wr (w.heap.size + 1 + 1) 25 #[.slice An k cn, .slice A' 10 c'] ∧ wr.ownsRow (w.heap.size + 3) 9 1 (.slice An k cn) k (strs (fewTo names k)) ∧ w.heap.size + 3 ≤ wr.heap.size ∧ Below w.heap.size w wr) (fun i _ => 10 - (intOf i).toNat)
      case atStart => exact ⟨0, none, 0, Nat.zero_le _, Nat.zero_le _, rfl, H0.out, H1.out, H2.out, World.ownsRow_nil _ _ _ _, by rw [HZ3.out]; exact Nat.le_refl _, HB0.out⟩
      case round =>
        obtain ⟨k, An, cn, hk, hkn, rfl, hb0, hb1, hb2, hown, hsz, hB⟩ := hrel
        have hc00 : wr.cell? ⟨w.heap.size, 0, none⟩ = some (.slice A names.length c) := by rw [hb0.cell]; rfl
        have hc01 : wr.cell? ⟨w.heap.size, 1, none⟩ = some (.slice A' up.length c') := by rw [hb0.cell]; rfl
        have hc20 : wr.cell? ⟨w.heap.size + 1 + 1, 0, none⟩ = some (.slice An k cn) := by rw [hb2.cell]; rfl
        have hc21 : wr.cell? ⟨w.heap.size + 1 + 1, 1, none⟩ = some (.slice A' 10 c') := by rw [hb2.cell]; rfl
        have hc10 : wr.cell? ⟨w.heap.size + 1, 0, none⟩ = some (.slice none 0 0) := by rw [hb1.cell]; rfl
        have hc11 : wr.cell? ⟨w.heap.size + 1, 1, none⟩ = some (.slice none 0 0) := by rw [hb1.cell]; rfl
        have hf10 := hb1.frozen 0
        have hf11 := hb1.frozen 1
        have hf20 := hb2.frozen 0
        have hl2 := hb2.lt
        by_cases hlt : k < names.length ∧ k < 10
        · obtain ⟨hlt1, hlt2⟩ := hlt
          obtain ⟨ad, s, rfl, _, hsk, hcs⟩ := strs_at (hN.below hB) hlt1
          have hsl := hs s (List.mem_of_getElem? hsk)
          have HSK := Lib.hid hsk
          clear hsk
          by_cases hs15 : (15 : Int) < s.size
          · have hs16 : (15 : Int) ≤ s.size := by omega
            go_wp2
            have HCUT : Hid (cut s = s.extract 0 15) := cut_long hs15
            go_region_law (refine step_append_own rfl (.tmp 27) (.tmp 33) 22 rfl (w.heap.size + 3) 9 i0 (.string ByteArray.empty) 1 16 Try.underlying22 hi hz0 hz1 hz2 rfl (by decide) (.slice An k cn) k (strs (fewTo names k)) (by simp [Act.eval, Act.put]) (by exact hown.alloc _) ⟨wr.heap.size, 0, none⟩ 1 1 [.string (s.extract 0 15)] (by simp [Act.eval, Act.put]) rfl (by exact cell_one_new _ _ _) (by simp [Value.oneCell']) (by unfold maxLen; omega) (by omega) (by simp; omega) ?_; intro v' w' hown' hgrow; obtain ⟨g', cap', rfl⟩ := ownsRow_succ hown'; have hb2' := few_grow hb2 hown (by omega) hgrow; have hcz : w'.cell? ⟨w.heap.size + 1 + 1, 0, none⟩ = some (.slice An k cn) := (by rw [hb2'.cell]; rfl); have hfz := hb2'.frozen 0)
            all_goals go_wp2
            all_goals
              go_roundw
              case rel => exact ⟨k + 1, _, _, by omega, by omega, by go_num, (few_grow hb0 hown (by omega) hgrow).other (p := ⟨w.heap.size + 1 + 1, 0, none⟩) (by simp; omega) _, (few_grow hb1 hown (by omega) hgrow).other (p := ⟨w.heap.size + 1 + 1, 0, none⟩) (by simp) _, hb2'.set_ 0 _, by rw [fewTo_succ HSK.out, strs_snoc, HCUT.out]; exact ownsRow_setCell_below hown' (by simp) _, by have := hgrow.size; simp at this ⊢; omega, (few_below hB hown (by omega) hgrow).setCell (p := ⟨w.heap.size + 1 + 1, 0, none⟩) (by simp; omega) _⟩
              case measure => simp [intOf]; omega
          · have HCUT : Hid (cut s = s) := cut_short hs15
            have hp15 : ((15 : Int) < s.size) = False := eq_false hs15
            clear hs15
            go_wp2
            go_region_law (refine step_append_own rfl (.tmp 27) (.tmp 33) 22 rfl (w.heap.size + 3) 9 i0 (.string ByteArray.empty) 1 16 Try.underlying22 hi hz0 hz1 hz2 rfl (by decide) (.slice An k cn) k (strs (fewTo names k)) (by simp [Act.eval, Act.put]) (by exact hown.alloc _) ⟨wr.heap.size, 0, none⟩ 1 1 [.string s] (by simp [Act.eval, Act.put]) rfl (by exact cell_one_new _ _ _) (by simp [Value.oneCell']) (by unfold maxLen; omega) (by omega) (by simp; omega) ?_; intro v' w' hown' hgrow; obtain ⟨g', cap', rfl⟩ := ownsRow_succ hown'; have hb2' := few_grow hb2 hown (by omega) hgrow; have hcz : w'.cell? ⟨w.heap.size + 1 + 1, 0, none⟩ = some (.slice An k cn) := (by rw [hb2'.cell]; rfl); have hfz := hb2'.frozen 0)
            all_goals go_wp2
            all_goals
              go_roundw
              case rel => exact ⟨k + 1, _, _, by omega, by omega, by go_num, (few_grow hb0 hown (by omega) hgrow).other (p := ⟨w.heap.size + 1 + 1, 0, none⟩) (by simp; omega) _, (few_grow hb1 hown (by omega) hgrow).other (p := ⟨w.heap.size + 1 + 1, 0, none⟩) (by simp) _, hb2'.set_ 0 _, by rw [fewTo_succ HSK.out, strs_snoc, HCUT.out]; exact ownsRow_setCell_below hown' (by simp) _, by have := hgrow.size; simp at this ⊢; omega, (few_below hB hown (by omega) hgrow).setCell (p := ⟨w.heap.size + 1 + 1, 0, none⟩) (by simp; omega) _⟩
              case measure => simp [intOf]; omega
        · obtain rfl : k = names.length := by omega
          have hown2 := ownsRow_setCell_below (ownsRow_setCell_below hown (a := ⟨w.heap.size + 1, 0, none⟩) (by simp) (.slice An names.length cn)) (a := ⟨w.heap.size + 1, 1, none⟩) (by simp) (.slice A' 10 c')
          have hBf := (hB.setCell (p := ⟨w.heap.size + 1, 0, none⟩) (by simp) (.slice An names.length cn)).setCell (p := ⟨w.heap.size + 1, 1, none⟩) (by simp) (.slice A' 10 c')
          have hla := few_lat (b0 := w.heap.size) hown2 (by omega) (by omega) (by omega) (HU0.out _ hBf) (Nat.le_trans hB00 hBf.size) (c' := c') (n := 10) (by omega) (by omega) (by omega)
          have HLA := Lib.hid hla
          have HBF := Lib.hid hBf
          clear hla hBf hown2
          go_wp2
          exact bodyPost_ret (v := .agg #[.slice An names.length cn, .slice A' 10 c']) (by simp [results, Try.results5, go_sem, hc10, hc11]) rfl ⟨_, _, _, rfl, HLA.out, HBF.out⟩
    · skip
      have hst := (Blk.new w 25 #[.slice A names.length c, .slice A' up.length c']).alloc (.cells #[.slice none 0 0, .slice none 0 0] 25)
      have hst0 := hst.alloc (.cells #[.slice none 0 0, .slice A' 10 c'] 25)
      have hst1 := (Blk.new' (w.alloc (.cells #[.slice A names.length c, .slice A' up.length c'] 25)) 25 #[.slice none 0 0, .slice none 0 0] (w.heap.size + 1) (by simp)).alloc (.cells #[.slice none 0 0, .slice A' 10 c'] 25)
      have hst2 := Blk.new' ((w.alloc (.cells #[.slice A names.length c, .slice A' up.length c'] 25)).alloc (.cells #[.slice none 0 0, .slice none 0 0] 25)) 25 #[.slice none 0 0, .slice A' 10 c'] (w.heap.size + 1 + 1) (by simp)
      have hB0 : Below w.heap.size w (((w.alloc (.cells #[.slice A names.length c, .slice A' up.length c'] 25)).alloc (.cells #[.slice none 0 0, .slice none 0 0] 25)).alloc (.cells #[.slice none 0 0, .slice A' 10 c'] 25)) :=
        (((Below.refl _ w).alloc (Nat.le_refl _) _).alloc (by simp) _).alloc (by simp; omega) _
      have hz3 : (((w.alloc (.cells #[.slice A names.length c, .slice A' up.length c'] 25)).alloc (.cells #[.slice none 0 0, .slice none 0 0] 25)).alloc (.cells #[.slice none 0 0, .slice A' 10 c'] 25)).heap.size = w.heap.size + 3 := by simp
      have H0 := Lib.hid hst0
      have H1 := Lib.hid hst1
      have H2 := Lib.hid hst2
      have HB0 := Lib.hid hB0
      have HZ3 := Lib.hid hz3
      clear hst hst0 hst1 hst2 hB0 hz3
      go_enter Try.func5, Try.ntmps5
      go_wp2
      go_loopw [22] (fun i wr => ∃ (k : Nat) (An : Option Addr) (cn : Nat), k ≤ 10 ∧ k ≤ names.length ∧ i = .int .i64 k ∧ Blk wr w.heap.size 25 #[.slice A names.length c, .slice A' up.length c'] ∧ Blk wr (w.heap.size + 1) 25 #[.slice none 0 0, .slice none 0 0] ∧ Blk wr (w.heap.size + 1 + 1) 25 #[.slice An k cn, .slice A' 10 c'] ∧ wr.ownsRow (w.heap.size + 3) 9 1 (.slice An k cn) k (strs (fewTo names k)) ∧ w.heap.size + 3 ≤ wr.heap.size ∧ Below w.heap.size w wr) (fun i _ => 10 - (intOf i).toNat)
      case atStart => exact ⟨0, none, 0, Nat.zero_le _, Nat.zero_le _, rfl, H0.out, H1.out, H2.out, World.ownsRow_nil _ _ _ _, by rw [HZ3.out]; exact Nat.le_refl _, HB0.out⟩
      case round =>
        obtain ⟨k, An, cn, hk, hkn, rfl, hb0, hb1, hb2, hown, hsz, hB⟩ := hrel
        have hc00 : wr.cell? ⟨w.heap.size, 0, none⟩ = some (.slice A names.length c) := by rw [hb0.cell]; rfl
        have hc01 : wr.cell? ⟨w.heap.size, 1, none⟩ = some (.slice A' up.length c') := by rw [hb0.cell]; rfl
        have hc20 : wr.cell? ⟨w.heap.size + 1 + 1, 0, none⟩ = some (.slice An k cn) := by rw [hb2.cell]; rfl
        have hc21 : wr.cell? ⟨w.heap.size + 1 + 1, 1, none⟩ = some (.slice A' 10 c') := by rw [hb2.cell]; rfl
        have hc10 : wr.cell? ⟨w.heap.size + 1, 0, none⟩ = some (.slice none 0 0) := by rw [hb1.cell]; rfl
        have hc11 : wr.cell? ⟨w.heap.size + 1, 1, none⟩ = some (.slice none 0 0) := by rw [hb1.cell]; rfl
        have hf10 := hb1.frozen 0
        have hf11 := hb1.frozen 1
        have hf20 := hb2.frozen 0
        have hl2 := hb2.lt
        by_cases hlt : k < names.length ∧ k < 10
        · obtain ⟨hlt1, hlt2⟩ := hlt
          obtain ⟨ad, s, rfl, _, hsk, hcs⟩ := strs_at (hN.below hB) hlt1
          have hsl := hs s (List.mem_of_getElem? hsk)
          have HSK := Lib.hid hsk
          clear hsk
          by_cases hs15 : (15 : Int) < s.size
          · have hs16 : (15 : Int) ≤ s.size := by omega
            go_wp2
            have HCUT : Hid (cut s = s.extract 0 15) := cut_long hs15
            go_region_law (refine step_append_own rfl (.tmp 27) (.tmp 33) 22 rfl (w.heap.size + 3) 9 i0 (.string ByteArray.empty) 1 16 Try.underlying22 hi hz0 hz1 hz2 rfl (by decide) (.slice An k cn) k (strs (fewTo names k)) (by simp [Act.eval, Act.put]) (by exact hown.alloc _) ⟨wr.heap.size, 0, none⟩ 1 1 [.string (s.extract 0 15)] (by simp [Act.eval, Act.put]) rfl (by exact cell_one_new _ _ _) (by simp [Value.oneCell']) (by unfold maxLen; omega) (by omega) (by simp; omega) ?_; intro v' w' hown' hgrow; obtain ⟨g', cap', rfl⟩ := ownsRow_succ hown'; have hb2' := few_grow hb2 hown (by omega) hgrow; have hcz : w'.cell? ⟨w.heap.size + 1 + 1, 0, none⟩ = some (.slice An k cn) := (by rw [hb2'.cell]; rfl); have hfz := hb2'.frozen 0)
            all_goals go_wp2
            all_goals
              go_roundw
              case rel => exact ⟨k + 1, _, _, by omega, by omega, by go_num, (few_grow hb0 hown (by omega) hgrow).other (p := ⟨w.heap.size + 1 + 1, 0, none⟩) (by simp; omega) _, (few_grow hb1 hown (by omega) hgrow).other (p := ⟨w.heap.size + 1 + 1, 0, none⟩) (by simp) _, hb2'.set_ 0 _, by rw [fewTo_succ HSK.out, strs_snoc, HCUT.out]; exact ownsRow_setCell_below hown' (by simp) _, by have := hgrow.size; simp at this ⊢; omega, (few_below hB hown (by omega) hgrow).setCell (p := ⟨w.heap.size + 1 + 1, 0, none⟩) (by simp; omega) _⟩
              case measure => simp [intOf]; omega
          · have HCUT : Hid (cut s = s) := cut_short hs15
            have hp15 : ((15 : Int) < s.size) = False := eq_false hs15
            clear hs15
            go_wp2
            go_region_law (refine step_append_own rfl (.tmp 27) (.tmp 33) 22 rfl (w.heap.size + 3) 9 i0 (.string ByteArray.empty) 1 16 Try.underlying22 hi hz0 hz1 hz2 rfl (by decide) (.slice An k cn) k (strs (fewTo names k)) (by simp [Act.eval, Act.put]) (by exact hown.alloc _) ⟨wr.heap.size, 0, none⟩ 1 1 [.string s] (by simp [Act.eval, Act.put]) rfl (by exact cell_one_new _ _ _) (by simp [Value.oneCell']) (by unfold maxLen; omega) (by omega) (by simp; omega) ?_; intro v' w' hown' hgrow; obtain ⟨g', cap', rfl⟩ := ownsRow_succ hown'; have hb2' := few_grow hb2 hown (by omega) hgrow; have hcz : w'.cell? ⟨w.heap.size + 1 + 1, 0, none⟩ = some (.slice An k cn) := (by rw [hb2'.cell]; rfl); have hfz := hb2'.frozen 0)
            all_goals go_wp2
            all_goals
              go_roundw
              case rel => exact ⟨k + 1, _, _, by omega, by omega, by go_num, (few_grow hb0 hown (by omega) hgrow).other (p := ⟨w.heap.size + 1 + 1, 0, none⟩) (by simp; omega) _, (few_grow hb1 hown (by omega) hgrow).other (p := ⟨w.heap.size + 1 + 1, 0, none⟩) (by simp) _, hb2'.set_ 0 _, by rw [fewTo_succ HSK.out, strs_snoc, HCUT.out]; exact ownsRow_setCell_below hown' (by simp) _, by have := hgrow.size; simp at this ⊢; omega, (few_below hB hown (by omega) hgrow).setCell (p := ⟨w.heap.size + 1 + 1, 0, none⟩) (by simp; omega) _⟩
              case measure => simp [intOf]; omega
        · obtain rfl : k = 10 := by omega
          have hown2 := ownsRow_setCell_below (ownsRow_setCell_below hown (a := ⟨w.heap.size + 1, 0, none⟩) (by simp) (.slice An 10 cn)) (a := ⟨w.heap.size + 1, 1, none⟩) (by simp) (.slice A' 10 c')
          have hBf := (hB.setCell (p := ⟨w.heap.size + 1, 0, none⟩) (by simp) (.slice An 10 cn)).setCell (p := ⟨w.heap.size + 1, 1, none⟩) (by simp) (.slice A' 10 c')
          have hla := few_lat (b0 := w.heap.size) hown2 (by omega) (by omega) (by omega) (HU0.out _ hBf) (Nat.le_trans hB00 hBf.size) (c' := c') (n := 10) (by omega) (by omega) (by omega)
          have HLA := Lib.hid hla
          have HBF := Lib.hid hBf
          clear hla hBf hown2
          go_wp2
          exact bodyPost_ret (v := .agg #[.slice An 10 cn, .slice A' 10 c']) (by simp [results, Try.results5, go_sem, hc10, hc11]) rfl ⟨_, _, _, rfl, HLA.out, HBF.out⟩
end Go.Proofs.Ytmbgndcahlopdaa
