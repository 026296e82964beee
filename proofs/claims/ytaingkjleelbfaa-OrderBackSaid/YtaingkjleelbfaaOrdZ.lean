/- Walks of Clone and Delete of edges. -/
import Derived.Test.YtaingkjleelbfaaOrdI
import Derived.Laws.IdiomCopy
import Derived.Deep.RegionLaw
import Derived.Lib.SlBuf
import Derived.Deep.MidRow
import Derived.KernelRfl
namespace Go.Proofs.Ytaingkjleelbfaa
open Go.RowKit Go.Shelf

theorem own_empty2 (w : World) (e : TypeId) : (w.alloc (.cells #[] e)).ownsRow w.heap.size e 2 (.slice (some ⟨w.heap.size, 0, none⟩) 0 0) 0 [] :=
  ⟨by simp, .inr ⟨w.heap.size, 0, #[], rfl, Nat.le_refl _, World.alloc_heap_new w _, Nat.le_refl _, by unfold maxLen; omega, by simp, by simp⟩⟩
theorem ecells_one (es : List (Int × Int)) : ∀ u ∈ ecells es, u.oneCell' = true := by
  intro u hu
  unfold ecells at hu
  obtain ⟨e, _, he⟩ := List.mem_flatMap.1 hu
  simp at he
  rcases he with rfl | rfl <;> rfl
set_option maxHeartbeats 1000000 in
theorem cloneE_any (c : Nat) (ad : Addr) (es : List (Int × Int)) (w : World) (h : Row w w.heap.size (some ad) (ecells es)) (hl : es.length ≤ 1000) :
    Calls Try.prog 23 #[.slice (some ad) es.length c] w fun e w' => ∃ v, e = .returned v ∧ w'.ownsRow w.heap.size 51 2 v es.length (ecells es) ∧ Below w.heap.size w w' := by
  obtain ⟨i0, hi, hz0, hz1, hz2⟩ := info_parts Try.infoEdge
  have H := Lib.hid h
  clear h
  have hnil := fun (W : World) => Lib.run_eql_slice_nil (P := Try.prog) W 36 51 (some ad) es.length c 0 0 Try.underlying36
  go_enter Try.func23, Try.ntmps23
  go_wp2_with (at_builtin; refine wpList_append_own _ rfl _ _ 36 rfl w.heap.size 51 i0 (.agg #[.int .i64 0, .int .i64 0]) 2 16 Try.underlying36 hi hz0 hz1 hz2 rfl (by decide) (.slice (some ⟨w.heap.size, 0, none⟩) 0 0) 0 [] rfl ?c0 ad es.length c (ecells es) rfl ?c1 ?c2 ?c3 ?c4 ?c5 ?c6 ?_)
  case c0 => exact own_empty2 w 51
  case c1 => exact ecells_length es
  case c2 => exact fun j u hu => (Row.below H.out ((Below.refl _ w).alloc (Nat.le_refl _) _)).cells_ hu
  case c3 => exact ecells_one es
  case c4 => unfold maxLen; omega
  case c5 => omega
  case c6 => simp
  intro v' w' hown hg _
  have HO := Lib.hid hown
  have HG := Lib.hid hg
  clear hown hg
  go_wp2
  go_ret
  exact ⟨v', rfl, HO.out, ((Below.refl _ w).alloc (Nat.le_refl _) _).grown HG.out (by simp) (fun k he => by cases he; exact Nat.le_refl _)⟩

theorem cells_setCell {W : World} {g : Nat} {cur : Array Value} {e : TypeId} {fr : Nat × Nat} (h : W.heap[g]? = some (.cells cur e fr)) (p : Addr) (u : Value) : ∃ cur', (W.setCell p u).heap[g]? = some (.cells cur' e fr) ∧ cur'.size = cur.size := by
  by_cases hp : g = p.block
  · subst hp
    refine ⟨if p.spot.isSome then cur else cur.setIfInBounds p.off u, ?_, ?_⟩
    · simp [World.setCell, Array.getElem?_modify, h]
    · split <;> simp
  · exact ⟨cur, (Below.heap_setCell W p u g hp).trans h, rfl⟩
theorem cells_setCells {g : Nat} {e : TypeId} {fr : Nat × Nat} (b : Nat) : ∀ (vs : List Value) (o : Nat) (W : World) (cur : Array Value), W.heap[g]? = some (.cells cur e fr) → ∃ cur', (W.setCells b o vs).heap[g]? = some (.cells cur' e fr) ∧ cur'.size = cur.size
  | [], _, _, cur, h => ⟨cur, h, rfl⟩
  | v :: r, o, W, cur, h => by
    obtain ⟨c1, h1, s1⟩ := cells_setCell h ⟨b, o, none⟩ v
    obtain ⟨c2, h2, s2⟩ := cells_setCells b r (o + 1) _ c1 h1
    exact ⟨c2, h2, s2.trans s1⟩
theorem own_of_cells {W' : World} {base sz g cap m : Nat} {e : TypeId} {ys : List Value} {cur : Array Value} (hb : base ≤ g) (hh : W'.heap[g]? = some (.cells cur e (0, 0))) (hs : cur.size = cap * sz) (hm : m ≤ cap) (hcm : cap ≤ maxLen) (hl : ys.length = m * sz)
    (hc : ∀ j, j < m * sz → W'.cell? ⟨g, j, none⟩ = ys[j]?) : W'.ownsRow base e sz (.slice (some ⟨g, 0, none⟩) m cap) m ys := by
  refine ⟨hl, .inr ⟨g, cap, cur, rfl, hb, hh, hm, hcm, hs, ?_⟩⟩
  refine List.ext_getElem? fun j => ?_
  by_cases hj : j < m * sz
  · rw [List.getElem?_take, if_pos hj, ← hc j hj, Array.getElem?_toList]
    exact (cell_of_row W' g j cur e (0, 0) hh).symm
  · rw [List.getElem?_eq_none (by simp; omega), List.getElem?_eq_none (by omega)]
theorem ecells_erase (es : List (Int × Int)) (k : Nat) : ecells (es.eraseIdx k) = (ecells es).take (k * 2) ++ (ecells es).drop ((k + 1) * 2) := by
  induction es generalizing k with
  | nil => simp [ecells]
  | cons e r ih =>
    cases k with
    | zero => simp [ecells]
    | succ k =>
      have := ih k
      simp only [List.eraseIdx_cons_succ, ecells, List.flatMap_cons] at this ⊢
      rw [this]
      have e1 : (k + 1) * 2 = k * 2 + 1 + 1 := by omega
      have e2 : (k + 1 + 1) * 2 = (k + 1) * 2 + 1 + 1 := by omega
      rw [e2, e1]
      simp

theorem own_some2 {W : World} {base sz n : Nat} {e : TypeId} {v : Value} {xs : List Value} (h : W.ownsRow base e sz v (n + 1) xs) : ∃ g cap, v = .slice (some ⟨g, 0, none⟩) (n + 1) cap ∧ n + 1 ≤ cap ∧ cap ≤ maxLen := by
  rcases h.2 with ⟨_, h0⟩ | ⟨g, cap, _, he, _, _, hc, hm, _⟩
  · omega
  · exact ⟨g, cap, he, hc, hm⟩
theorem below_cells {B g : Nat} {a : World} (hg : B ≤ g) : ∀ (vs : List Value) (o : Nat) (w : World), Below B a w → Below B a (w.setCells g o vs)
  | [], _, _, h => h
  | v :: r, o, _, h => below_cells hg r (o + 1) _ (h.setCell (p := ⟨g, o, none⟩) hg v)
theorem heap_cells {g l : Nat} (hl : l ≠ g) : ∀ (vs : List Value) (o : Nat) (w : World), (w.setCells g o vs).heap[l]? = w.heap[l]?
  | [], _, _ => rfl
  | v :: r, o, w => (heap_cells hl r (o + 1) _).trans (Below.heap_setCell w ⟨g, o, none⟩ v l hl)
theorem run_clear_edge (g o c : Nat) (W : World) (hc : ∀ j, j < 2 → (W.cell? ⟨g, o + j, none⟩).isSome = true) (hf : ∀ j, j < 2 → W.frozen? ⟨g, o + j, none⟩ = false) :
    (Builtin.clear_ #[36] 0 #[.slice (some ⟨g, o, none⟩) 1 c]).run Try.prog W = .ok (.tuple #[]) (W.setCells g o [.int .i64 0, .int .i64 0]) := by
  have hv : ∀ w, (zeroValue 51).run Try.prog w = .ok (.agg #[.int .i64 0, .int .i64 0]) w := fun w => by kernel_rfl
  have hzc : (Builtin.zeroCells (Value.agg #[.int .i64 0, .int .i64 0]).cells 1).toList = [.int .i64 0, .int .i64 0] := by kernel_rfl
  have hst := run_storeCells_cells (P := Try.prog) g o [.int .i64 0, .int .i64 0] 0 W (by simpa using hc) (by simpa using hf) (by intro v hv'; simp at hv'; rw [hv']; rfl)
  simp only [Nat.add_zero] at hst
  simp [Builtin.clear_, run_underlying Try.underlying36, hv, hzc, hst]

/-- What Delete leaves in the block. -/
theorem del_cells {w : World} {g cap k m base : Nat} {es : List (Int × Int)} {news : List Value} (h : w.ownsRow base 51 2 (.slice (some ⟨g, 0, none⟩) (m + 1) cap) (m + 1) (ecells es)) (hn : es.length = m + 1) (hk : k ≤ m) (hcap : m + 1 ≤ cap) (hcm : cap ≤ maxLen) (hnw : (ecells es).drop ((k + 1) * 2) = news) :
    ((w.drew.setCells g (k * 2) news).setCells g (m * 2) [.int .i64 0, .int .i64 0]).ownsRow base 51 2 (.slice (some ⟨g, 0, none⟩) m cap) m (ecells (es.eraseIdx k)) ∧ Below base w ((w.drew.setCells g (k * 2) news).setCells g (m * 2) [.int .i64 0, .int .i64 0])  ∧ ∀ l, l ≠ g → ((w.drew.setCells g (k * 2) news).setCells g (m * 2) [.int .i64 0, .int .i64 0]).heap[l]? = w.heap[l]? := by
  have hel := ecells_length es
  rw [hn] at hel
  have hln : news.length = (m - k) * 2 := by rw [← hnw, List.length_drop, hel]; omega
  obtain ⟨cur, hh, hb, hs⟩ : ∃ cur, w.heap[g]? = some (.cells cur 51 (0, 0)) ∧ base ≤ g ∧ cur.size = cap * 2 := by
    rcases h.2 with ⟨h', _⟩ | ⟨g', cap', cur, h', hb, hg, _, _, hs, _⟩
    · simp at h'
    · simp only [Value.slice.injEq, Option.some.injEq, Addr.mk.injEq, and_true, true_and] at h'
      obtain ⟨rfl, rfl⟩ := h'
      exact ⟨cur, hg, hb, hs⟩
  obtain ⟨c1, h1, s1⟩ := cells_setCells (g := g) g news (k * 2) w.drew cur hh
  obtain ⟨c2, h2, s2⟩ := cells_setCells (g := g) g [.int .i64 0, .int .i64 0] (m * 2) _ c1 h1
  have hsome : ∀ j, j < news.length → (w.drew.cell? ⟨g, k * 2 + j, none⟩).isSome = true := fun j hj => by
    show (w.cell? _).isSome = true
    rw [h.cellAt (k * 2 + j) (by omega), List.getElem?_eq_getElem (by rw [hel]; omega)]
    rfl
  refine ⟨own_of_cells hb h2 (by rw [s2, s1, hs]) (by omega) hcm (by rw [ecells_length, List.length_eraseIdx, if_pos (by omega), hn]; rfl) fun j hj => ?_, below_cells hb _ _ _ (below_cells hb _ _ _ (Below.refl _ _).drew), fun l hl => (heap_cells hl _ _ _).trans (heap_cells hl _ _ _)⟩
  rw [World.cell?_setCells_out _ _ _ _ _ (fun _ _ => .inl hj), ecells_erase]
  by_cases hjk : j < k * 2
  · rw [World.cell?_setCells_out _ _ _ _ _ (fun _ _ => .inl hjk), List.getElem?_append_left (by rw [List.length_take, hel]; omega), List.getElem?_take, if_pos hjk]
    exact h.cellAt j (by omega)
  · have hin := World.cell?_setCells_in g news (k * 2) w.drew hsome (j - k * 2) (by omega)
    rw [show k * 2 + (j - k * 2) = j by omega] at hin
    rw [hin, List.getElem?_append_right (by rw [List.length_take, hel]; omega), List.length_take, hel, Nat.min_eq_left (by omega), hnw]
    exact (List.getElem?_eq_getElem _).symm

set_option maxRecDepth 100000 in
set_option maxHeartbeats 1000000 in
theorem delE_any (g cap k m base : Nat) (es : List (Int × Int)) (w : World) (h : w.ownsRow base 51 2 (.slice (some ⟨g, 0, none⟩) (m + 1) cap) (m + 1) (ecells es)) (hn : es.length = m + 1) (hk : k ≤ m) (hl : m ≤ 1000) (hcap : m + 1 ≤ cap) (hcm : cap ≤ maxLen) :
    Calls Try.prog 22 #[.slice (some ⟨g, 0, none⟩) (m + 1) cap, .int .i64 k, .int .i64 ((k : Int) + 1)] w fun e w' => e = .returned (.slice (some ⟨g, 0, none⟩) m cap) ∧ w'.ownsRow base 51 2 (.slice (some ⟨g, 0, none⟩) m cap) m (ecells (es.eraseIdx k)) ∧ Below base w w' ∧ ∀ l, l ≠ g → w'.heap[l]? = w.heap[l]? := by
  have H := Lib.hid h
  have HN := Lib.hid hn
  have HCM := Lib.hid hcm
  unfold maxLen at hcm
  obtain ⟨i0, hi, hz0, hz1, hz2⟩ := info_parts Try.infoEdge
  have hfin := del_cells h hn hk hcap HCM.out rfl
  have hel := ecells_length es
  rw [hn] at hel
  have HEL := Lib.hid hel
  have hcl : ∀ j, j < (m + 1) * 2 → w.cell? ⟨g, j, none⟩ = (ecells es)[j]? := fun j hj => H.out.cellAt j hj
  have HCL := Lib.hid hcl
  have hsome : ∀ j, j < (m + 1) * 2 → (w.cell? ⟨g, j, none⟩).isSome = true := fun j hj => by
    rw [HCL.out j hj, List.getElem?_eq_getElem (by rw [HEL.out]; omega)]
    rfl
  have HSOME := Lib.hid hsome
  have HFR : Hid (∀ j, w.frozen? ⟨g, j, none⟩ = false) := fun j => H.out.frozenAt j
  have hnews : ∀ j u, ((ecells es).drop ((k + 1) * 2))[j]? = some u → w.drew.cell? ((⟨g, (k + 1) * 2, none⟩ : Addr).add j) = some u := fun j u hu => by
    rw [List.getElem?_drop] at hu
    have hlt := (List.getElem?_eq_some_iff.1 hu).1
    rw [HEL.out] at hlt
    have e : (⟨g, (k + 1) * 2, none⟩ : Addr).add j = ⟨g, (k + 1) * 2 + j, none⟩ := by unfold Addr.add; split <;> simp_all
    rw [e]
    exact (HCL.out _ hlt).trans hu
  have hnews0 : (ecells es).drop ((k + 1) * 2) = [] ∨ k + 1 < cap := by
    rcases Nat.lt_or_ge (k + 1) cap with h | h
    · exact .inr h
    · exact .inl (List.drop_eq_nil_of_le (by rw [hel]; omega))
  have hlenn : ((ecells es).drop ((k + 1) * 2)).length = (m - k) * 2 := by rw [List.length_drop, hel]; omega
  have hspare : ∀ j, j < ((ecells es).drop ((k + 1) * 2)).length → (w.drew.cell? ⟨g, 0 + k * 2 + j, none⟩).isSome = true ∧ w.drew.frozen? ⟨g, 0 + k * 2 + j, none⟩ = false := fun j hj => by
    rw [List.length_drop, HEL.out] at hj
    exact ⟨HSOME.out _ (by omega), HFR.out _⟩
  have hone : ∀ u ∈ (ecells es).drop ((k + 1) * 2), u.oneCell' = true := fun u hu => ecells_one es u (List.mem_of_mem_drop hu)
  obtain ⟨news, hnw⟩ : ∃ news, (ecells es).drop ((k + 1) * 2) = news := ⟨_, rfl⟩
  rw [hnw] at hnews hnews0 hlenn hspare hone hfin
  have hclr := run_clear_edge g (m * 2) (cap - m) (w.drew.setCells g (k * 2) news) (fun j hj => World.isSome_setCells g news (k * 2) w.drew ⟨g, m * 2 + j, none⟩ (HSOME.out _ (by omega))) (fun j _ => (World.frozen?_setCells _ _ _ _ _).trans (HFR.out _))
  have HNEWS := Lib.hid hnews
  have HLN := Lib.hid hlenn
  have HSP := Lib.hid hspare
  have HONE := Lib.hid hone
  have HFIN := Lib.hid hfin
  have HN0 := Lib.hid hnews0
  clear h hn hel hcl hsome hnews hnews0 hlenn hspare hone hnw hfin
  have hne : ((k : Int) == (k : Int) + 1) = false := by rw [beq_eq_false_iff_ne]; omega
  have q1 : k ≤ cap := by omega
  have q2 : k + 1 ≤ m + 1 := by omega
  have q4 : m + 1 ≤ cap := by omega
  have q5 : (0 : Int) ≤ (k : Int) + 1 := by omega
  have q6 : (k : Int) + 1 ≤ (m : Int) + 1 := by omega
  have q7 : m ≤ cap := by omega
  have e1 : m + 1 - (k + 1) = m - k := by omega
  have e2 : k + (m - k) = m := by omega
  have e3 : m + 1 - m = 1 := by omega
  have hkn : (k : Int) < (m : Int) + 1 := by omega
  have hkc : (k : Int) < cap := by omega
  have hnc : (m : Int) + 1 ≤ cap := by omega
  by_cases hlast : cap = k + 1
  · obtain rfl : m = k := by omega
    subst hlast
    obtain rfl : news = [] := List.eq_nil_of_length_eq_zero (by rw [HLN.out]; omega)
    have e4 : m + 1 - m = 1 := by omega
    rw [e4] at hclr
    have q9 : (m : Int) ≤ (m : Int) + 1 := by omega
    clear e1 e2 e3
    go_enter Try.func22, Try.ntmps22
    go_wp2
    go_region_law (refine step_append_room rfl (.tmp 22) (.tmp 25) 36 rfl 51 i0 2 Try.underlying36 hi hz1 g 0 m (m + 1) (by simp [Act.eval, Act.put]) ⟨g, 0, none⟩ 0 0 [] (by simp [Act.eval, Act.put]) rfl (fun j u hu => by simp at hu) (fun u hu => by cases hu) (by omega) (fun j hj => by simp at hj) ?_)
    all_goals go_wp2
    go_ret
    exact ⟨rfl, HFIN.out⟩
  · have q3 : ¬ cap = k + 1 := hlast
    have q8 : ¬ cap = m := by omega
    clear hlast
    go_enter Try.func22, Try.ntmps22
    go_wp2
    go_region_law (refine step_append_room rfl (.tmp 22) (.tmp 25) 36 rfl 51 i0 2 Try.underlying36 hi hz1 g 0 k cap (by simp [Act.eval, Act.put]) ⟨g, (k + 1) * 2, none⟩ (m - k) (cap - (k + 1)) news (by simp [Act.eval, Act.put]) HLN.out HNEWS.out HONE.out (by omega) HSP.out ?_)
    all_goals go_wp2
    go_ret
    exact ⟨rfl, HFIN.out⟩
end Go.Proofs.Ytaingkjleelbfaa
