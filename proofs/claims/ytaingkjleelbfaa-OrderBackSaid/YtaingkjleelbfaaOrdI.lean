/- Walks of checkEdges, Clone and Of. -/
import Derived.Test.YtaingkjleelbfaaOrdH
import Derived.WalkSpells
namespace Go.Proofs.Ytaingkjleelbfaa
open Go.RowKit Go.Shelf

def isPl (n : Nat) (a : Int) : Bool := decide (0 ≤ a) && decide (a < n)
def edgeOk (n : Nat) (e : Int × Int) : Bool := isPl n e.1 && isPl n e.2
def eN (n : Nat) (es : List (Int × Int)) : Nat := if 1 ≤ n ∧ n ≤ 8 then if es.length ≤ 64 then if es.all (edgeOk n) then 0 else 9 else 8 else 1

theorem isPlace_any (n : Nat) (a : Int) (w : World) : Calls Try.prog 49 #[.int .i64 n, .int .i64 a] w fun e w' => e = .returned (.bool (isPl n a)) ∧ w = w' := by
  by_cases h0 : 0 ≤ a
  · go_enter Try.func49, Try.ntmps49
    go_wp2
    go_ret
    exact ⟨ret_bool (by simp [isPl, h0]), rfl⟩
  · go_enter Try.func49, Try.ntmps49
    go_wp2
    go_ret
    exact ⟨ret_bool (by simp [isPl]; omega), rfl⟩

set_option maxRecDepth 100000 in
set_option maxHeartbeats 2000000 in
theorem checkEdges_any {A : Option Addr} (c n : Nat) (es : List (Int × Int)) (w : World) (h : Row w w.heap.size A (ecells es)) (hl : es.length ≤ 1000) (hn : n ≤ 1000) :
    Calls Try.prog 31 #[.int .i64 n, .slice A es.length c] w fun e w' => e = .returned (.int .i64 (eN n es : Nat)) ∧ Below w.heap.size w w' := by
  have HE : Hid (eN n es = if 1 ≤ n ∧ n ≤ 8 then if es.length ≤ 64 then if es.all (edgeOk n) then 0 else 9 else 8 else 1) := rfl
  have H := Lib.hid h
  clear h
  by_cases hn1 : 1 ≤ n
  · by_cases hn8 : n ≤ 8
    · by_cases h64 : es.length ≤ 64
      · go_enter Try.func31, Try.ntmps31
        go_wp2
        go_loopw [18] (fun i wr => ∃ k : Nat, k ≤ es.length ∧ i = .int .i64 k ∧ (∀ j e, j < k → es[j]? = some e → edgeOk n e = true) ∧ Below w.heap.size w wr) (fun i _ => es.length - (intOf i).toNat)
        case atStart => exact ⟨0, Nat.zero_le _, rfl, fun j p h => absurd h (Nat.not_lt_zero j), Below.refl _ _⟩
        case round =>
          obtain ⟨k, hk, rfl, hok, hb⟩ := hrel
          by_cases hlt : k < es.length
          · obtain ⟨ad, ⟨x, y⟩, rfl, _, he, hc0, hc1⟩ := erow_at (H.out.below hb) hlt
            dsimp only at hc0 hc1
            have HX := Lib.hid he
            have HOK := Lib.hid hok
            have HB := Lib.hid hb
            have hp := fun a W => isPlace_any n a W
            have hpx := hp x
            have hpy := hp y
            clear hok hb he hp
            have hee : edgeOk n (x, y) = (isPl n x && isPl n y) := rfl
            have HEE := Lib.hid hee
            clear hee
            cases e1 : isPl n x
            · rw [e1] at hpx
              have HE1 := Lib.hid e1
              have HPX := Lib.hid hpx
              clear e1 hpx hpy
              go_wp2_with (go_at_call 49; refine (HPX.out _).mono ?_; rintro e w' ⟨rfl, rfl⟩)
              go_ret
              refine ⟨ret_i64 ?_, HB.out.alloc HB.out.size _⟩
              rw [HE.out, if_pos ⟨hn1, hn8⟩, if_pos h64, if_neg]
              · rfl
              · rw [Bool.not_eq_true, List.all_eq_false]
                exact ⟨(x, y), List.mem_of_getElem? HX.out, by rw [HEE.out, HE1.out]; simp⟩
            · rw [e1] at hpx
              have HE1 := Lib.hid e1
              have HPX := Lib.hid hpx
              clear e1 hpx
              cases e2 : isPl n y
              · rw [e2] at hpy
                have HE2 := Lib.hid e2
                have HPY := Lib.hid hpy
                clear e2 hpy
                go_wp2_with (fail)
                refine (HPX.out _).mono ?_
                rintro e w' ⟨rfl, rfl⟩
                go_wp2_with (fail)
                refine (HPY.out _).mono ?_
                rintro e w' ⟨rfl, rfl⟩
                go_wp2
                go_ret
                refine ⟨ret_i64 ?_, HB.out.alloc HB.out.size _⟩
                rw [HE.out, if_pos ⟨hn1, hn8⟩, if_pos h64, if_neg]
                · rfl
                · rw [Bool.not_eq_true, List.all_eq_false]
                  exact ⟨(x, y), List.mem_of_getElem? HX.out, by rw [HEE.out, HE1.out, HE2.out]; simp⟩
              · rw [e2] at hpy
                have HE2 := Lib.hid e2
                have HPY := Lib.hid hpy
                clear e2 hpy
                go_wp2_with (fail)
                refine (HPX.out _).mono ?_
                rintro e w' ⟨rfl, rfl⟩
                go_wp2_with (fail)
                refine (HPY.out _).mono ?_
                rintro e w' ⟨rfl, rfl⟩
                go_wp2
                go_roundw
                case rel =>
                  refine ⟨k + 1, by omega, by go_num, fun j p hj hp => ?_, HB.out.alloc HB.out.size _⟩
                  rcases Nat.lt_or_eq_of_le (Nat.le_of_lt_succ hj) with h | rfl
                  · exact HOK.out j p h hp
                  · rw [HX.out] at hp; injection hp with hp; rw [← hp, HEE.out, HE1.out, HE2.out]; rfl
                case measure => simp [intOf]; omega
          · obtain rfl : k = es.length := by omega
            have HOK := Lib.hid hok
            clear hok
            go_wp2
            go_ret
            refine ⟨ret_i64 ?_, hb⟩
            rw [HE.out, if_pos ⟨hn1, hn8⟩, if_pos h64, if_pos]
            · rfl
            · rw [List.all_eq_true]
              intro e he
              obtain ⟨j, hj, rfl⟩ := List.getElem_of_mem he
              exact HOK.out j _ hj (List.getElem?_eq_getElem hj)
      · go_enter Try.func31, Try.ntmps31
        go_wp2
        go_ret
        exact ⟨ret_i64 (by rw [HE.out, if_pos ⟨hn1, hn8⟩, if_neg h64]; rfl), Below.refl _ _⟩
    · go_enter Try.func31, Try.ntmps31
      go_wp2
      go_ret
      exact ⟨ret_i64 (by rw [HE.out, if_neg (by omega)]; rfl), Below.refl _ _⟩
  · go_enter Try.func31, Try.ntmps31
    go_wp2
    go_ret
    exact ⟨ret_i64 (by rw [HE.out, if_neg (by omega)]; rfl), Below.refl _ _⟩

theorem own_empty (w : World) (e : TypeId) : (w.alloc (.cells #[] e)).ownsRow w.heap.size e 1 (.slice (some ⟨w.heap.size, 0, none⟩) 0 0) 0 [] :=
  ⟨rfl, .inr ⟨w.heap.size, 0, #[], rfl, Nat.le_refl _, World.alloc_heap_new w _, Nat.le_refl _, by unfold maxLen; omega, rfl, rfl⟩⟩
theorem Row.cells_ {w : World} {B : Nat} {ad : Addr} {xs : List Value} (h : Row w B (some ad) xs) {j : Nat} {u : Value} (hu : xs[j]? = some u) : w.cell? (ad.add j) = some u := by
  obtain ⟨ad', e, _, hc⟩ := h (by rintro rfl; simp at hu)
  injection e with e
  subst e
  exact hc j u hu

set_option maxHeartbeats 1000000 in
theorem cloneS_any (c : Nat) (ad : Addr) (xs : List ByteArray) (w : World) (h : Row w w.heap.size (some ad) (strs xs)) (hl : xs.length ≤ 1000) :
    Calls Try.prog 32 #[.slice (some ad) xs.length c] w fun e w' => ∃ v, e = .returned v ∧ w'.ownsRow w.heap.size 9 1 v xs.length (strs xs) ∧ Below w.heap.size w w' := by
  obtain ⟨i0, hi, hz0, hz1, hz2⟩ := info_parts Try.infoStr
  have H := Lib.hid h
  clear h
  have hnil := fun (W : World) => Lib.run_eql_slice_nil (P := Try.prog) W 22 9 (some ad) xs.length c 0 0 Try.underlying22
  go_enter Try.func32, Try.ntmps32
  go_wp2_with (at_builtin; refine wpList_append_own _ rfl _ _ 22 rfl w.heap.size 9 i0 (.string ByteArray.empty) 1 16 Try.underlying22 hi hz0 hz1 hz2 rfl (by decide) (.slice (some ⟨w.heap.size, 0, none⟩) 0 0) 0 [] rfl ?c0 ad xs.length c (strs xs) rfl ?c1 ?c2 ?c3 ?c4 ?c5 ?c6 ?_)
  case c0 => exact own_empty w 9
  case c1 => simp [strs]
  case c2 => exact fun j u hu => (Row.below H.out ((Below.refl _ w).alloc (Nat.le_refl _) _)).cells_ hu
  case c3 => intro u hu; obtain ⟨s, _, rfl⟩ := List.mem_map.1 hu; rfl
  case c4 => unfold maxLen; omega
  case c5 => omega
  case c6 => simp
  intro v' w' hown hg _
  have HO := Lib.hid hown
  have HG := Lib.hid hg
  clear hown hg
  go_wp2
  go_ret
  exact ⟨v', rfl, HO.out, ((Below.refl _ w).alloc (Nat.le_refl _) _).grown HG.out (by simp) (fun k he => by cases he; exact Nat.le_refl _)⟩

theorem own_below {W W' : World} {base sz n B : Nat} {e : TypeId} {v : Value} {xs : List Value} (h : W.ownsRow base e sz v n xs) (hb : Below B W W') (hB : W.heap.size ≤ B) : W'.ownsRow base e sz v n xs := by
  refine ⟨h.1, ?_⟩
  rcases h.2 with hn | ⟨g, cap, cur, he, hg, hh, hr⟩
  · exact .inl hn
  · exact .inr ⟨g, cap, cur, he, hg, (hb.block g (Nat.lt_of_lt_of_le (Array.getElem?_eq_some_iff.1 hh).1 hB)).trans hh, hr⟩

def natE (es : List (Int × Int)) : List (Nat × Nat) := es.map fun e => (e.1.toNat, e.2.toNat)
theorem natE_length (es : List (Int × Int)) : (natE es).length = es.length := by simp [natE]
theorem toIs_natE {n : Nat} {es : List (Int × Int)} (h : es.all (edgeOk n) = true) : toIs (natE es) = es := by
  rw [List.all_eq_true] at h
  unfold toIs natE
  rw [List.map_map]
  conv => rhs; rw [← List.map_id es]
  refine List.map_congr_left fun e he => ?_
  have := h e he
  simp only [edgeOk, isPl, Bool.and_eq_true, decide_eq_true_eq] at this
  show ((e.1.toNat : Int), (e.2.toNat : Int)) = e
  rw [Int.toNat_of_nonneg this.1.1, Int.toNat_of_nonneg this.2.1]
theorem natE_lt {n : Nat} {es : List (Int × Int)} (h : es.all (edgeOk n) = true) : ∀ p ∈ natE es, p.1 < n ∧ p.2 < n := by
  intro p hp
  obtain ⟨e, he, rfl⟩ := List.mem_map.1 hp
  rw [List.all_eq_true] at h
  have := h e he
  simp only [edgeOk, isPl, Bool.and_eq_true, decide_eq_true_eq] at this
  constructor
  · show e.1.toNat < n; omega
  · show e.2.toNat < n; omega
theorem eN_zero {n : Nat} {es : List (Int × Int)} (h : eN n es = 0) : 1 ≤ n ∧ n ≤ 8 ∧ es.length ≤ 64 ∧ es.all (edgeOk n) = true := by
  unfold eN at h
  by_cases h1 : 1 ≤ n ∧ n ≤ 8
  · rw [if_pos h1] at h
    by_cases h2 : es.length ≤ 64
    · rw [if_pos h2] at h
      by_cases h3 : es.all (edgeOk n) = true
      · exact ⟨h1.1, h1.2, h2, h3⟩
      · rw [if_neg h3] at h; cases h
    · rw [if_neg h2] at h; cases h
  · rw [if_neg h1] at h; cases h
/-- What Of answers. -/
noncomputable def ofN (names : List ByteArray) (es : List (Int × Int)) : Nat := if eN names.length es = 0 then checkN names (Ordr.madeL names.length (natE es)) else eN names.length es
noncomputable def ofNames (names : List ByteArray) (es : List (Int × Int)) : List ByteArray := if ofN names es = 0 then names else []
noncomputable def ofUp (names : List ByteArray) (es : List (Int × Int)) : List Nat := if ofN names es = 0 then Ordr.madeL names.length (natE es) else []
noncomputable def OfRes (w : World) (names : List ByteArray) (es : List (Int × Int)) : Ending → World → Prop := LatRes w (ofN names es) (ofNames names es) (ofUp names es)
theorem OfRes.no {w w' : World} {names : List ByteArray} {es : List (Int × Int)} {n : Nat} (hn : ofN names es = n) (hz : n ≠ 0) (hb : Below w.heap.size w w') : OfRes w names es (.returned (.tuple #[.agg #[.slice none 0 0, .slice none 0 0], .int .i64 (n : Int)])) w' := by
  refine ⟨_, by rw [hn], ?_, hb⟩
  unfold ofNames ofUp
  rw [hn, if_neg hz, if_neg hz]
  exact IsLat.none_ _ _
theorem OfRes.yes {w w' : World} {names : List ByteArray} {es : List (Int × Int)} {v : Value} (hn : ofN names es = 0) (h : IsLat w' w'.heap.size v names (Ordr.madeL names.length (natE es))) (hb : Below w.heap.size w w') : OfRes w names es (.returned (.tuple #[v, .int .i64 0])) w' := by
  refine ⟨_, by rw [hn]; rfl, ?_, hb⟩
  unfold ofNames ofUp
  rw [hn, if_pos rfl, if_pos rfl]
  exact h
/-- A lattice out of a row of one's own and a block. -/
theorem IsLat.ofOwn {w : World} {B base g' : Nat} {e : TypeId} {names : List ByteArray} {up : List Nat} {v : Value} {n n' c' : Nat} (h : w.ownsRow base e 1 v n (strs names)) (h' : Blk w g' 62 (u32s up).toArray) (hB : w.heap.size ≤ B) (hu : ∀ (k x : Nat), up[k]? = some x → x < 4294967296)
    (hs : ∀ s ∈ names, s.size ≤ maxLen) (hn : names.length = n) (hn' : up.length = n') (hf : n ≤ 1000 ∧ n' ≤ 1000) (hc : n' ≤ c') : IsLat w B (.agg #[v, .slice (some ⟨g', 0, none⟩) n' c']) names up := by
  obtain ⟨A, c, rfl⟩ := own_slice h
  obtain ⟨hr, hcc⟩ := own_rowN h
  subst hn hn'
  refine ⟨⟨_, _, c, c', rfl, hr.more hB, ⟨h'.row.more (by have := h'.lt; omega), hu⟩⟩, hs, hf, fun A n c A' n' c' h => ?_⟩
  injection h with h; injection h with h; injection h with e1 h; injection h with e2 h
  injection e1 with _ a b; injection e2 with _ c d; omega

set_option maxRecDepth 100000 in
set_option maxHeartbeats 2000000 in
theorem of_any {A : Option Addr} {v : Value} {names : List ByteArray} {es : List (Int × Int)} (c : Nat) (w : World) (hN : Row w w.heap.size A (strs names)) (hv : IsEdges w w.heap.size v es) (hs : ∀ s ∈ names, s.size ≤ maxLen) (hnl : names.length ≤ 1000) :
    Calls Try.prog 13 #[.slice A names.length c, v] w (OfRes w names es) := by
  obtain ⟨D, d, rfl, hE, hd, hel⟩ := hv
  have hb0 : Below w.heap.size w (w.alloc (.cells #[.slice none 0 0, .slice none 0 0] 25)) := (Below.refl _ w).alloc (Nat.le_refl _) _
  have p0 : Blk (w.alloc (.cells #[.slice none 0 0, .slice none 0 0] 25)) w.heap.size 25 #[.slice none 0 0, .slice none 0 0] := Blk.new _ _ _
  have hce := checkEdges_any d names.length es (w.alloc (.cells #[.slice none 0 0, .slice none 0 0] 25)) ((hE.below hb0).more hb0.size) hel hnl
  have HO : Hid (ofN names es = if eN names.length es = 0 then checkN names (Ordr.madeL names.length (natE es)) else eN names.length es) := rfl
  obtain ⟨n, hn⟩ : ∃ n, eN names.length es = n := ⟨_, rfl⟩
  rw [hn] at hce
  have HN := Lib.hid hn
  have HCE := Lib.hid hce
  have HP0 := Lib.hid p0
  have HB0 := Lib.hid hb0
  have H := Lib.hid (And.intro hN hE)
  have HS := Lib.hid hs
  clear hn hce p0 hb0 hN hE hs
  by_cases hz : n = 0
  · subst hz
    obtain ⟨n1, n8, e64, hall⟩ := eN_zero HN.out
    obtain ⟨ad, rfl⟩ : ∃ ad, A = some ad := by
      obtain ⟨ad, e, _⟩ := H.out.1 (by intro h; have := congrArg List.length h; simp [strs] at this; subst this; simp at n1)
      exact ⟨ad, e⟩
    have hti := toIs_natE hall
    have hlt := natE_lt hall
    have HTI := Lib.hid hti
    have HLT := Lib.hid hlt
    clear hall hti hlt
    go_enter Try.func13, Try.ntmps13
    go_wp2_with (go_at_call 31; refine HCE.out.mono ?_)
    rintro e w1 ⟨rfl, hb1⟩
    have hp1 := HP0.out.below hb1 (by simp)
    have hbw1 : Below w.heap.size w w1 := HB0.out.trans (hb1.mono (by simp))
    have hs1 : w.heap.size + 1 ≤ w1.heap.size := by have := hp1.lt; omega
    have hcl := cloneS_any c ad names w1 ((H.out.1.below hbw1).more hbw1.size) hnl
    have HCL := Lib.hid hcl
    clear HCE hb1 hcl
    go_wp2_with (go_at_call 32; refine HCL.out.mono ?_)
    rintro e w2 ⟨v2, rfl, hown2, hb2⟩
    have hp2 := hp1.below hb2 hp1.lt
    have hbw2 : Below w.heap.size w w2 := hbw1.trans (hb2.mono hbw1.size)
    have hmd := made_any d names.length (natE es) w2 (by rw [HTI.out]; exact (H.out.2.below hbw2).more hbw2.size) (by omega) (by rw [natE_length]; exact hel) HLT.out
    rw [natE_length] at hmd
    have HMD := Lib.hid hmd
    have hs2 : w1.heap.size ≤ w2.heap.size := hb2.size
    clear HCL hb2 hmd hp1
    go_wp2_with (go_at_call 33; refine HMD.out.mono ?_)
    rintro e w3 ⟨rfl, hblk3, hb3⟩
    have hp3 := hp2.below hb3 hp2.lt
    have hbw3 : Below w.heap.size w w3 := hbw2.trans (hb3.mono hbw2.size)
    have hown3 := own_below hown2 hb3 (Nat.le_refl _)
    have hs3 : w2.heap.size ≤ w3.heap.size := hb3.size
    have hla : ∀ W, Below w3.heap.size w3 W → IsLat W W.heap.size (.agg #[v2, .slice (some ⟨w2.heap.size, 0, none⟩) names.length names.length]) names (Ordr.madeL names.length (natE es)) := fun W hW =>
      IsLat.ofOwn (own_below hown3 hW (Nat.le_refl _)) (hblk3.below hW hblk3.lt) (Nat.le_refl _) (Ordr.ups_u32 (by omega)) HS.out rfl Ordr.ups_length ⟨hnl, hnl⟩ (Nat.le_refl _)
    obtain ⟨A2, c2, rfl⟩ := own_slice hown3
    have hb4 : Below w3.heap.size w3 (w3.alloc (.cells #[.slice A2 names.length c2, .slice (some ⟨w2.heap.size, 0, none⟩) names.length names.length] 25)) := (Below.refl _ w3).alloc (Nat.le_refl _) _
    have hch := check_any _ (hla _ hb4)
    obtain ⟨m, hm⟩ : ∃ m, checkN names (Ordr.madeL names.length (natE es)) = m := ⟨_, rfl⟩
    rw [hm] at hch
    have HCH := Lib.hid hch
    have HM := Lib.hid hm
    have HLA := Lib.hid hla
    have HB4 := Lib.hid hb4
    have HOWN := Lib.hid (And.intro hown3 hblk3)
    have p4 := Lib.hid (Blk.new w3 25 #[.slice A2 names.length c2, .slice (some ⟨w2.heap.size, 0, none⟩) names.length names.length])
    clear HMD hb3 hch hm hla hb4 hown2 hown3 hblk3 hp2
    go_wp2_with (go_at_call 21; refine HCH.out.mono ?_)
    rintro e w5 ⟨rfl, hb5⟩
    have hb35 : Below w3.heap.size w3 w5 := HB4.out.trans (hb5.mono (by simp))
    have hp5 := hp3.below hb35 hp3.lt
    have hbw5 : Below w.heap.size w w5 := hbw3.trans (hb35.mono hbw3.size)
    have p5 := p4.out.below hb5 (by simp)
    have hc0 : w5.cell? ⟨w.heap.size, 0, none⟩ = some (.slice none 0 0) := by rw [hp5.cell]; rfl
    have hc1 : w5.cell? ⟨w.heap.size, 1, none⟩ = some (.slice none 0 0) := by rw [hp5.cell]; rfl
    have hf0 := hp5.frozen 0
    have hf1 := hp5.frozen 1
    have hd0 : w5.cell? ⟨w3.heap.size, 0, none⟩ = some (.slice A2 names.length c2) := by rw [p5.cell]; rfl
    have hd1 : w5.cell? ⟨w3.heap.size, 1, none⟩ = some (.slice (some ⟨w2.heap.size, 0, none⟩) names.length names.length) := by rw [p5.cell]; rfl
    have hne : w3.heap.size ≠ w.heap.size := by omega
    have HBW := Lib.hid hbw5
    have HB35 := Lib.hid hb35
    have HS3 := Lib.hid (And.intro hs1 (And.intro hs2 hs3))
    clear HCH hb5 hb35 hp3 hp5 p5 hbw1 hbw2 hbw3 hbw5
    by_cases hz : m = 0
    · subst hz
      go_wp2
      refine bodyPost_ret (v := .tuple #[.agg #[.slice A2 names.length c2, .slice (some ⟨w2.heap.size, 0, none⟩) names.length names.length], .int .i64 0]) (by simp [results, Try.results13, go_sem, hc0, hc1]) rfl (OfRes.yes (by rw [HO.out, HN.out, if_pos rfl, HM.out]) ?_ ?_)
      · have h1 := own_below HOWN.out.1 HB35.out (Nat.le_refl _)
        have h2 := HOWN.out.2.below HB35.out HOWN.out.2.lt
        have hlt1 : w.heap.size < w1.heap.size := HS3.out.1
        have hlt2 : w1.heap.size ≤ w2.heap.size := HS3.out.2.1
        exact IsLat.ofOwn (ownsRow_setCell_below (ownsRow_setCell_below h1 (a := ⟨w.heap.size, 0, none⟩) hlt1 _) (a := ⟨w.heap.size, 1, none⟩) hlt1 _)
          ((h2.other (p := ⟨w.heap.size, 0, none⟩) (by simp; omega) _).other (p := ⟨w.heap.size, 1, none⟩) (by simp; omega) _) (Nat.le_refl _) (Ordr.ups_u32 (by omega)) HS.out rfl Ordr.ups_length ⟨hnl, hnl⟩ (Nat.le_refl _)
      · exact (HBW.out.setCell (p := ⟨w.heap.size, 0, none⟩) (Nat.le_refl _) _).setCell (p := ⟨w.heap.size, 1, none⟩) (Nat.le_refl _) _
    · have hz1 : ((m : Int) == 0) = false := by rw [beq_eq_false_iff_ne]; omega
      have hz2 : ((m : Int) != 0) = true := by rw [bne_iff_ne]; omega
      have HZ := Lib.hid hz
      clear hz
      go_wp2
      refine bodyPost_ret (v := .tuple #[.agg #[.slice none 0 0, .slice none 0 0], .int .i64 (m : Int)]) (by simp [results, Try.results13, go_sem, hc0, hc1]) rfl (OfRes.no (by rw [HO.out, HN.out, if_pos rfl, HM.out]) HZ.out ?_)
      exact (HBW.out.setCell (p := ⟨w.heap.size, 0, none⟩) (Nat.le_refl _) _).setCell (p := ⟨w.heap.size, 1, none⟩) (Nat.le_refl _) _
  · have hz1 : ((n : Int) == 0) = false := by rw [beq_eq_false_iff_ne]; omega
    have hz2 : ((n : Int) != 0) = true := by rw [bne_iff_ne]; omega
    have HZ := Lib.hid hz
    clear hz
    go_enter Try.func13, Try.ntmps13
    go_wp2_with (go_at_call 31; refine HCE.out.mono ?_)
    rintro e w1 ⟨rfl, hb1⟩
    have hp1 := HP0.out.below hb1 (by simp)
    have hbw1 : Below w.heap.size w w1 := HB0.out.trans (hb1.mono (by simp))
    have hc0 : w1.cell? ⟨w.heap.size, 0, none⟩ = some (.slice none 0 0) := by rw [hp1.cell]; rfl
    have hc1 : w1.cell? ⟨w.heap.size, 1, none⟩ = some (.slice none 0 0) := by rw [hp1.cell]; rfl
    have hf0 := hp1.frozen 0
    have hf1 := hp1.frozen 1
    clear HCE hb1 hp1
    go_wp2
    refine bodyPost_ret (v := .tuple #[.agg #[.slice none 0 0, .slice none 0 0], .int .i64 (n : Int)]) (by simp [results, Try.results13, go_sem, hc0, hc1]) rfl (OfRes.no (by rw [HO.out, HN.out, if_neg HZ.out]) HZ.out ?_)
    exact (hbw1.setCell (p := ⟨w.heap.size, 0, none⟩) (Nat.le_refl _) _).setCell (p := ⟨w.heap.size, 1, none⟩) (Nat.le_refl _) _
end Go.Proofs.Ytaingkjleelbfaa
