/- Walk of the law OrderBack. -/
import Derived.Test.YtaingkjleelbfaaOrdW
import Derived.Test.YtaingkjleelbfaaOrdZ
import Derived.Test.YtaingkjleelbfaaOrdK
import Derived.Test.YtaingkjleelbfaaBox1
import Derived.Test.YtaingkjleelbfaaSame
import Derived.IntWalk
namespace Go.Proofs.Ytaingkjleelbfaa
open Go.RowKit Go.Shelf Go.Sort

theorem chain_lat : ∀ n : Fin 8, checkN (named (Ordr.ups chainF (n.1 + 1)).length) (Ordr.ups chainF (n.1 + 1)) = 0 := by decide +kernel
theorem power_lat : ∀ n : Fin 4, checkN (named (Ordr.ups powerF (2 ^ n.1)).length) (Ordr.ups powerF (2 ^ n.1)) = 0 := by decide +kernel
theorem diam_lat : ∀ n : Fin 6, checkN (named (Ordr.ups (diamF (n.1 + 1)) (n.1 + 1 + 2)).length) (Ordr.ups (diamF (n.1 + 1)) (n.1 + 1 + 2)) = 0 := by decide +kernel
theorem make_lat {kind : ByteArray} {n : Int} (h : makeN kind n = 0) : checkN (named (makeUpR kind n).length) (makeUpR kind n) = 0 := by
  unfold makeUpR
  rw [h, if_pos rfl]
  unfold makeN at h
  unfold makeUp
  by_cases h1 : kind = kChain
  · rw [if_pos h1] at h ⊢
    by_cases h2 : 1 ≤ n ∧ n ≤ 8
    · have := chain_lat ⟨n.toNat - 1, by omega⟩
      simp only at this
      rwa [show n.toNat - 1 + 1 = n.toNat by omega] at this
    · rw [if_neg h2] at h; cases h
  · rw [if_neg h1] at h ⊢
    by_cases h2 : kind = kPower
    · rw [if_pos h2] at h ⊢
      by_cases h3 : 0 ≤ n ∧ n ≤ 3
      · exact power_lat ⟨n.toNat, by omega⟩
      · rw [if_neg h3] at h; cases h
    · rw [if_neg h2] at h ⊢
      by_cases h3 : kind = kDiam
      · rw [if_pos h3] at h
        by_cases h4 : 1 ≤ n ∧ n ≤ 6
        · have := diam_lat ⟨n.toNat - 1, by omega⟩
          simp only at this
          rwa [show n.toNat - 1 + 1 = n.toNat by omega] at this
        · rw [if_neg h4] at h; cases h
      · rw [if_neg h3] at h; cases h
theorem mod_at (x : Int) {n : Nat} (hn : 1 ≤ n) : ∃ a : Nat, (x.tmod (n : Int) + (n : Int)) % (n : Int) = (a : Int) ∧ a < n := by
  have h1 := Int.emod_nonneg (x.tmod (n : Int) + (n : Int)) (show (n : Int) ≠ 0 by omega)
  have h2 := Int.emod_lt_of_pos (x.tmod (n : Int) + (n : Int)) (show (0 : Int) < (n : Int) by omega)
  exact ⟨((x.tmod (n : Int) + (n : Int)) % (n : Int)).toNat, by omega, by omega⟩

/-- What Of asks, after Delete. -/
theorem back_args {w : World} {A A' : Option Addr} {names : List ByteArray} {up : List Nat} {c c' g cap m base : Nat} {es : List (Int × Int)} (h : IsLat w w.heap.size (.agg #[.slice A names.length c, .slice A' up.length c']) names up)
    (hown : w.ownsRow base 51 2 (.slice (some ⟨g, 0, none⟩) m cap) m (ecells es)) (hl : es.length = m) (hm : m ≤ 1000) : Row w w.heap.size A (strs names) ∧ IsEdges w w.heap.size (.slice (some ⟨g, 0, none⟩) m cap) es := by
  obtain ⟨B1, B2, b1, b2, he, hr, -⟩ := h.form
  injection he with he
  injection he with he
  injection he with e1 _
  injection e1 with g1 _ _
  subst g1
  obtain ⟨hro, hc⟩ := own_rowN hown
  exact ⟨hr, ⟨_, cap, by rw [hl], hro, by rw [hl]; exact hc, by rw [hl]; exact hm⟩⟩

theorem row_to {w w' : World} {B : Nat} {A : Option Addr} {xs : List Value} (h : Row w B A xs) (hc : ∀ p u, w.cell? p = some u → u ∈ xs → w'.cell? p = some u) : Row w' B A xs := fun hn => by
  obtain ⟨ad, e, hb, hc'⟩ := h hn
  exact ⟨ad, e, hb, fun j u hu => hc _ _ (hc' j u hu) (List.mem_of_getElem? hu)⟩
/-- Cells that hold no string and no number may change. -/
theorem isLat_keep {W W2 : World} {B : Nat} {v : Value} {names : List ByteArray} {up : List Nat} (h : IsLat W B v names up) (hc : ∀ p u, W.cell? p = some u → (∀ A n c, u ≠ .slice A n c) → W2.cell? p = some u) : IsLat W2 B v names up := by
  obtain ⟨A, A', c, c', e, h1, h2⟩ := h.form
  refine ⟨⟨A, A', c, c', e, row_to h1 fun p u hu hm => hc p u hu ?_, ⟨row_to h2.1 fun p u hu hm => hc p u hu ?_, h2.2⟩⟩, h.short, h.few, h.caps⟩
  · intro A n c he
    subst he
    simp [strs] at hm
  · intro A n c he
    subst he
    simp [u32s] at hm
/-- What the law holds of the box of y. -/
structure FinY (w8 W : World) (b : Nat) (v0 v1 : Value) (names : List ByteArray) (up : List Nat) : Prop where
  a : Blk W b 25 #[v0, v1]
  la : IsLat W W.heap.size (.agg #[v0, v1]) names up
  below : Below w8.heap.size w8 W
theorem fin_box {w8 W : World} {b : Nat} {v0 v1 : Value} {names : List ByteArray} {up : List Nat} (hbx : Blk W b 25 #[.slice none 0 0, .slice none 0 0]) (hb : w8.heap.size ≤ b) (hW : Below w8.heap.size w8 W)
    (hl : IsLat W W.heap.size (.agg #[v0, v1]) names up) : FinY w8 ((W.setCell ⟨b, 0, none⟩ v0).setCell ⟨b, 1, none⟩ v1) b v0 v1 names up := by
  refine ⟨(hbx.set_ 0 v0).set_ 1 v1, (isLat_keep (hl.more (by simp)) fun p u hu hs => ?_), (hW.setCell (p := ⟨b, 0, none⟩) hb _).setCell (p := ⟨b, 1, none⟩) hb _⟩
  have hpb : p.block ≠ b := by
    intro hpb
    obtain ⟨pb, po, pn⟩ := p
    subst hpb
    unfold Blk at hbx
    unfold World.cell? at hu
    simp only [hbx] at hu
    split at hu
    · cases hu
    · rcases po with _ | _ | po
      · injection hu with hu
        exact hs _ _ _ hu.symm
      · injection hu with hu
        exact hs _ _ _ hu.symm
      · cases hu
  rw [World.cell?_of_block (Below.heap_setCell _ ⟨b, 1, none⟩ v1 _ hpb), World.cell?_of_block (Below.heap_setCell _ ⟨b, 0, none⟩ v0 _ hpb)]
  exact hu
theorem cloneW (d : Nat) (ad : Addr) (es : List (Int × Int)) {m : Nat} {w8 W : World} {bx : Nat} {x : Value} (hm : es.length = m + 1) (hle : m + 1 ≤ 1000) (hrow : Row w8 w8.heap.size (some ad) (ecells es)) (hx : w8.cell? ⟨bx, 0, none⟩ = some x) (hlt : bx < w8.heap.size) (hW : Below w8.heap.size w8 W) :
    Calls Try.prog 23 #[.slice (some ad) (m + 1) d] W fun e w' => ∃ base g cap, e = .returned (.slice (some ⟨g, 0, none⟩) (m + 1) cap) ∧ w8.heap.size ≤ base ∧ w'.ownsRow base 51 2 (.slice (some ⟨g, 0, none⟩) (m + 1) cap) (m + 1) (ecells es) ∧ m + 1 ≤ cap ∧ cap ≤ maxLen ∧ g < w'.heap.size ∧
      Below w8.heap.size w8 w' ∧ w'.cell? ⟨bx, 0, none⟩ = some x ∧ ∀ b cs, Blk W b 25 cs → Blk w' b 25 cs ∧ b ≠ g := by
  have h := cloneE_any d ad es W ((hrow.below hW).more hW.size) (by omega)
  rw [hm] at h
  refine h.mono ?_
  rintro e w' ⟨v, rfl, hown, hb⟩
  obtain ⟨g, cap, rfl, h1, h2⟩ := own_some2 hown
  have hb8 := hW.trans (hb.mono hW.size)
  have hg : W.heap.size ≤ g ∧ g < w'.heap.size := by
    rcases hown.2 with ⟨h', _⟩ | ⟨g', cap', cur, h', hbg, hg, _⟩
    · simp at h'
    · simp only [Value.slice.injEq, Option.some.injEq, Addr.mk.injEq, and_true, true_and] at h'
      obtain ⟨rfl, rfl⟩ := h'
      exact ⟨hbg, (Array.getElem?_eq_some_iff.1 hg).1⟩
  refine ⟨_, g, cap, rfl, hW.size, hown, h1, h2, hg.2, hb8, (hb8.cell (p := ⟨bx, 0, none⟩) hlt).trans hx, fun b cs hbk => ?_⟩
  have hlb : b < W.heap.size := (Array.getElem?_eq_some_iff.1 hbk).1
  exact ⟨hbk.below hb hlb, by omega⟩
theorem deleteW {g cap a m base : Nat} {es : List (Int × Int)} {w8 W : World} {bx : Nat} {x : Value} (hm : es.length = m + 1) (ham : a ≤ m) (hle : m ≤ 1000) (hcap : m + 1 ≤ cap) (hcm : cap ≤ maxLen) (hB : w8.heap.size ≤ base) (hx : w8.cell? ⟨bx, 0, none⟩ = some x) (hlt : bx < w8.heap.size)
    (hW : Below w8.heap.size w8 W) (hown : W.ownsRow base 51 2 (.slice (some ⟨g, 0, none⟩) (m + 1) cap) (m + 1) (ecells es)) :
    Calls Try.prog 22 #[.slice (some ⟨g, 0, none⟩) (m + 1) cap, .int .i64 a, .int .i64 ((a : Int) + 1)] W fun e w' => e = .returned (.slice (some ⟨g, 0, none⟩) m cap) ∧ w'.ownsRow base 51 2 (.slice (some ⟨g, 0, none⟩) m cap) m (ecells (es.eraseIdx a)) ∧
      Below w8.heap.size w8 w' ∧ w'.cell? ⟨bx, 0, none⟩ = some x ∧ ∀ b cs, b ≠ g → Blk W b 25 cs → Blk w' b 25 cs := by
  refine (delE_any g cap a m base es W hown hm ham hle hcap hcm).mono ?_
  rintro e w' ⟨rfl, ho, hb, hk⟩
  have hb8 := hW.trans (hb.mono hB)
  exact ⟨rfl, ho, hb8, (hb8.cell (p := ⟨bx, 0, none⟩) hlt).trans hx, fun b cs hne hbk => (hk b hne).trans hbk⟩
theorem ofW {g cap m base c1 : Nat} {A1 : Option Addr} {names : List ByteArray} {es : List (Int × Int)} {w8 W : World} {bx : Nat} {x : Value} {A2 : Option Addr} {up : List Nat} {c2 : Nat} (hl : IsLat w8 w8.heap.size (.agg #[.slice A1 names.length c1, .slice A2 up.length c2]) names up)
    (hes : es.length = m) (hle : m ≤ 1000) (hx : w8.cell? ⟨bx, 0, none⟩ = some x) (hlt : bx < w8.heap.size) (hW : Below w8.heap.size w8 W) (hown : W.ownsRow base 51 2 (.slice (some ⟨g, 0, none⟩) m cap) m (ecells es)) :
    Calls Try.prog 13 #[.slice A1 names.length c1, .slice (some ⟨g, 0, none⟩) m cap] W fun e w' => ∃ A7 m7 c7 A8 m8 c8, e = .returned (.tuple #[.agg #[.slice A7 m7 c7, .slice A8 m8 c8], .int .i64 (ofN names es : Nat)]) ∧ IsLat w' w'.heap.size (.agg #[.slice A7 m7 c7, .slice A8 m8 c8]) (ofNames names es) (ofUp names es) ∧
      Below w8.heap.size w8 w' ∧ w'.cell? ⟨bx, 0, none⟩ = some x ∧ ∀ b cs, Blk W b 25 cs → Blk w' b 25 cs := by
  have ha := back_args (stable_lat _ _ _ _ _ hl hW) hown hes hle
  refine (of_any c1 W ha.1 ha.2 hl.short hl.few.1).mono ?_
  rintro e w' ⟨v, rfl, hv, hb⟩
  obtain ⟨A7, m7, c7, A8, m8, c8, rfl⟩ := lat_two hv
  have hb8 := hW.trans (hb.mono hW.size)
  exact ⟨_, _, _, _, _, _, rfl, hv, hb8, (hb8.cell (p := ⟨bx, 0, none⟩) hlt).trans hx, fun b cs hbk => hbk.below hb (Array.getElem?_eq_some_iff.1 hbk).1⟩

set_option maxRecDepth 100000 in
set_option maxHeartbeats 8000000 in
theorem backLaw_any {A A' : Option Addr} {n1 : List ByteArray} {u1 : List Nat} (kind : ByteArray) (n : Int) (c c' : Nat) (x : Int) (w : World) (hk : kind.size ≤ maxLen)
    (hN : Row w w.heap.size A (strs n1)) (hU : Ups w w.heap.size A' u1) (hc : n1.length ≤ c) (hc' : u1.length ≤ c') (hm : c ≤ maxLen) (hm' : c' ≤ maxLen) (hs : ∀ s ∈ n1, s.size ≤ maxLen) :
    Calls Try.prog 6 #[.string kind, .int .i64 n, .agg #[.slice A n1.length c, .slice A' u1.length c'], .int .i64 x] w fun e w' => e = .returned (.bool true) ∧ Below w.heap.size w w' := by
  have hfa := fun W (hW : Below w.heap.size w W) => few_any w.heap.size c c' W hW.size (hN.below hW) (hU.below hW) hc hc' hm hm' hs
  have HFA := Lib.hid hfa
  clear hfa hN hU hs
  unfold maxLen at hk
  have hks : (kind.size : Int) ≤ 9223372036854775807 := by omega
  by_cases hs15 : (15 : Int) < kind.size
  · have hs16 : (15 : Int) ≤ kind.size := by omega
    go_enter Try.func6, Try.ntmps6
    go_wp2
    refine Free.region_each (by kernel_rfl) (by kernel_rfl)
      (fun k => [some (.string kind), some (.string kind), some (.int .i64 kind.size), some (.int .i64 15), some (.string (kind.extract 0 15)), some (.agg #[.slice A n1.length c, .slice A' u1.length c']), none, some (.string (kind.extract 0 15)), none].getD k none)
      (Box1 w (.slice A n1.length c) (.slice A' u1.length c') 6 8) (fun _ => undef) (Box1.start _) ?_ ?_
    · refine ⟨?_, ?_, ?_, ?_, ?_, ?_, ?_, ?_, ?_, trivial⟩
      · refine Free.step_val _ rfl rfl fun done r W ρ hρ hcst hfun hJ hV hC hd hdeps => ?_
        have e0 : ρ (.tmp 0) = .string kind := by rw [hρ]; rfl
        clear hρ
        refine ⟨?_, hJ.pass (by decide)⟩
        go_simp
      · refine Free.step_val _ rfl rfl fun done r W ρ hρ hcst hfun hJ hV hC hd hdeps => ?_
        have e0 : ρ (.tmp 0) = .string kind := by rw [hρ]; rfl
        clear hρ
        refine ⟨?_, hJ.pass (by decide)⟩
        go_simp
      · refine Free.step_val _ rfl rfl fun done r W ρ hρ hcst hfun hJ hV hC hd hdeps => ?_
        have e0 : ρ (.tmp 18) = .string kind := by rw [hρ]; exact hV 1 _ (hdeps 1 (by decide)) rfl
        clear hρ
        refine ⟨?_, hJ.pass (by decide)⟩
        go_simp
      · refine Free.step_val _ rfl rfl fun done r W ρ hρ hcst hfun hJ hV hC hd hdeps => ?_
        have e0 : ρ (.tmp 19) = .int .i64 kind.size := by rw [hρ]; exact hV 2 _ (hdeps 2 (by decide)) rfl
        clear hρ
        refine ⟨?_, hJ.pass (by decide)⟩
        go_simp
        all_goals omega
      · refine Free.step_val _ rfl rfl fun done r W ρ hρ hcst hfun hJ hV hC hd hdeps => ?_
        have e0 : ρ (.tmp 17) = .string kind := by rw [hρ]; exact hV 0 _ (hdeps 0 (by decide)) rfl
        have e1 : ρ (.tmp 20) = .int .i64 15 := by rw [hρ]; exact hV 3 _ (hdeps 3 (by decide)) rfl
        clear hρ
        refine ⟨?_, hJ.pass (by decide)⟩
        go_simp
      · refine Free.step_val _ rfl rfl fun done r W ρ hρ hcst hfun hJ hV hC hd hdeps => ?_
        have e0 : ρ (.tmp 6) = .pointer (some ⟨w.heap.size, 0, none⟩) := by rw [hρ]; rfl
        have hold := hJ.old (Free.not_done hC 8 5 (by rfl) (by decide) hd)
        have c0 : W.cell? ⟨w.heap.size, 0, none⟩ = some (.slice A n1.length c) := by rw [hold.cell]; rfl
        have c1 : W.cell? ⟨w.heap.size, 1, none⟩ = some (.slice A' u1.length c') := by rw [hold.cell]; rfl
        clear hρ
        refine ⟨?_, hJ.pass (by decide)⟩
        go_simp
      · refine Free.step_any rfl rfl fun done r W ρ hρ hcst hfun hJ hV hC hd hdeps => ?_
        have e0 : ρ (.tmp 22) = .agg #[.slice A n1.length c, .slice A' u1.length c'] := by rw [hρ]; exact hV 5 _ (hdeps 5 (by decide)) rfl
        have hno := Free.not_done hC 8 6 (by rfl) (by decide) hd
        clear hρ
        go_simp
        exact (HFA.out W hJ.below).mono fun e w' ⟨v, _, _, he, hl, hb⟩ => ⟨v, he, hJ.call (by decide) hno hl hb⟩
      · refine Free.step_val _ rfl rfl fun done r W ρ hρ hcst hfun hJ hV hC hd hdeps => ?_
        have e0 : ρ (.tmp 21) = .string (kind.extract 0 15) := by rw [hρ]; exact hV 4 _ (hdeps 4 (by decide)) rfl
        clear hρ
        refine ⟨?_, hJ.pass (by decide)⟩
        go_simp
      · refine Free.step_any rfl rfl fun done r W ρ hρ hcst hfun hJ hV hC hd hdeps => ?_
        have e0 : ρ (.tmp 6) = .pointer (some ⟨w.heap.size, 0, none⟩) := by rw [hρ]; rfl
        have e1 : ρ (.tmp 23) = r 6 := by rw [hρ]; rfl
        have hold := hJ.old hd
        obtain ⟨y0, y1, y2, y3, y4, y5, hy⟩ := (hJ.ra (hdeps 6 (by decide))).two
        rw [hy] at e1
        have c0 : W.cell? ⟨w.heap.size, 0, none⟩ = some (.slice A n1.length c) := by rw [hold.cell]; rfl
        have c1 : W.cell? ⟨w.heap.size, 1, none⟩ = some (.slice A' u1.length c') := by rw [hold.cell]; rfl
        have f0 := hold.frozen 0
        have f1 := hold.frozen 1
        have hfin := hJ.set_ (by decide) (hdeps 6 (by decide)) hy hd
        clear hρ hy
        go_simp
        exact hfin
    · intro done r W hall hJ hV
      obtain ⟨A1, m1, c1, A2, m2, c2, names, up, e6, hone⟩ := hJ.fin (hall 6 (by decide)) (hall 8 (by decide))
      have e0 := hV 0 _ (hall 0 (by decide)) rfl
      have e1 := hV 1 _ (hall 1 (by decide)) rfl
      have e2 := hV 2 _ (hall 2 (by decide)) rfl
      have e3 := hV 3 _ (hall 3 (by decide)) rfl
      have e4 := hV 4 _ (hall 4 (by decide)) rfl
      have e5 := hV 5 _ (hall 5 (by decide)) rfl
      have e7 := hV 7 _ (hall 7 (by decide)) rfl
      simp only [Free.putAll, Nat.zero_add, e0, e1, e2, e3, e4, e5, e6, e7]
      clear hJ hV hall e0 e1 e2 e3 e4 e5 e6 e7 HFA
      have hck0 : makeN (kind.extract 0 15) n = 0 → checkN (named (makeUpR (kind.extract 0 15) n).length) (makeUpR (kind.extract 0 15) n) = 0 := make_lat
      have HCK0 := Lib.hid hck0
      have HMK := Lib.hid (Make_any (kind.extract 0 15) n W)
      have HONE := Lib.hid hone
      clear hck0 hone
      go_wp2_with (fail)
      refine HMK.out.mono ?_
      rintro e w1 ⟨v, rfl, hl1, hb1⟩
      obtain ⟨A3, m3, c3, A4, m4, c4, rfl⟩ := lat_two hl1
      have hb2 : Below W.heap.size W (w1.alloc (.cells #[.slice A3 m3 c3, .slice A4 m4 c4] 25)) := hb1.alloc hb1.size _
      have ho2 := one_stable _ _ _ _ _ _ _ HONE.out hb2
      have hl2 := stable_lat _ _ _ _ _ hl1 ((Below.refl _ w1).alloc (Nat.le_refl _) (.cells #[.slice A3 m3 c3, .slice A4 m4 c4] 25))
      have hck := check_any _ hl2
      obtain ⟨q, hq⟩ : ∃ q, makeN (kind.extract 0 15) n = q := ⟨_, rfl⟩
      rw [hq] at HCK0
      rw [hq]
      have HO2 := Lib.hid ho2
      have HCK := Lib.hid hck
      clear hq hl1 hl2 hb1 hb2 ho2 hck HONE HMK
      have main : ∀ W2, One w (.slice A1 m1 c1) (.slice A2 m2 c2) names up W2 → Hid (One w (.slice A1 m1 c1) (.slice A2 m2 c2) names up W2) := fun _ h => h
      clear main
      by_cases hq0 : q = 0
      · subst hq0
        have hck := HCK.out
        rw [HCK0.out rfl] at hck
        have HCK1 := Lib.hid hck
        clear hck HCK
        go_wp2_with (go_at_call 21; refine HCK1.out.mono ?_)
        rintro e w3 ⟨rfl, hb3⟩
        have ho3 := one_stable _ _ _ _ _ _ _ HO2.out hb3
        have HO3 := Lib.hid ho3
        clear ho3 hb3 HO2 HCK0 HCK1
        have hc0 := HO3.out.a.cell 0
        have hc1 := HO3.out.a.cell 1
        have hed := edges_any _ HO3.out.la
        obtain ⟨k, hk⟩ : ∃ k, checkN names up = k := ⟨_, rfl⟩
        have her : edgesR names up = if k = 0 then Ordr.edges up else [] := by subst hk; rfl
        have hch := fun W (hW : One w (.slice A1 m1 c1) (.slice A2 m2 c2) names up W) => check_any W hW.la
        rw [hk, her] at hed
        rw [hk] at hch
        have HCH := Lib.hid hch
        have HK := Lib.hid hk
        clear hk her hch
        by_cases hz : k = 0
        · subst hz
          rw [if_pos rfl] at hed
          have HED := Lib.hid hed
          clear hed HCH
          go_wp2_with (fail)
          refine HED.out.mono ?_
          rintro e w4 ⟨xe, rfl, hes, hb4⟩
          obtain ⟨E, d, rfl, hE, hd, hel⟩ := hes
          have HES : Hid (IsEdges w4 w4.heap.size (.slice E (Ordr.edges up).length d) (Ordr.edges up)) := ⟨E, d, rfl, hE, hd, hel⟩
          have ho4 := one_stable _ _ _ _ _ _ _ HO3.out hb4
          have hc0 := ho4.a.cell 0
          have hc1 := ho4.a.cell 1
          obtain ⟨B1, B2, b1, b2, hbe, hrn, -⟩ := ho4.la.form
          injection hbe with hbe
          injection hbe with hbe
          injection hbe with hbe1 hbe
          injection hbe with hbe2 hbe
          injection hbe1 with g1 g2 g3
          injection hbe2 with g4 g5 g6
          subst g1 g2 g3 g4 g5 g6
          have hof := of_any c1 w4 hrn HES.out ho4.la.short ho4.la.few.1
          have hsame := ofN_edges HK.out
          unfold OfRes at hof
          rw [hsame.1, hsame.2.1, hsame.2.2] at hof
          have HOF := Lib.hid hof
          have HO4 := Lib.hid ho4
          clear hof hsame ho4 hb4 hE HED HO3 hbe hrn
          go_wp2_with (fail)
          refine HOF.out.mono ?_
          rintro e w5 ⟨v5, rfl, hl5, hb5⟩
          obtain ⟨A5, m5, c5, A6, m6, c6, rfl⟩ := lat_two hl5
          have hb6 : Below w4.heap.size w4 (w5.alloc (.cells #[.slice A5 m5 c5, .slice A6 m6 c6] 25)) := hb5.alloc hb5.size _
          have ho6 := one_stable _ _ _ _ _ _ _ HO4.out hb6
          have HES6 := Lib.hid (stable_edges _ _ _ _ HES.out hb6)
          have hl6 := stable_lat _ _ _ _ _ hl5 ((Below.refl _ w5).alloc (Nat.le_refl _) (.cells #[.slice A5 m5 c5, .slice A6 m6 c6] 25))
          have hc0 := ho6.a.cell 0
          have hc1 := ho6.a.cell 1
          have hsm := rSame_any _ hl6 ho6.la
          rw [show sameLat names up names up = true by simp [sameLat]] at hsm
          have HSM := Lib.hid hsm
          have HO6 := Lib.hid ho6
          clear hl5 hl6 hb5 hb6 ho6 hsm HOF HO4 HES
          go_wp2_with (fail)
          refine HSM.out.mono ?_
          rintro e w7 ⟨rfl, hb7⟩
          have ho7 := one_stable _ _ _ _ _ _ _ HO6.out hb7
          have HES7 := Lib.hid (stable_edges _ _ _ _ HES6.out hb7)
          have HO7 := Lib.hid ho7
          clear ho7 hb7 HSM HO6 HES6
          go_wp2_with (fail)
          refine (alive2_any _).mono ?_
          rintro e w8 ⟨rfl, hb8⟩
          have ho8 := one_stable _ _ _ _ _ _ _ HO7.out hb8
          have HES8 := Lib.hid (stable_edges _ _ _ _ HES7.out hb8)
          have hc0 := ho8.a.cell 0
          have hc1 := ho8.a.cell 1
          have HO8 := Lib.hid ho8
          clear ho8 hb8 HO7 HES7
          have hlt := latt_of HK.out
          have hone1 := hlt.one
          have hfew8 := hlt.few
          have HLT := Lib.hid hlt
          clear hlt
          by_cases hempty : (Ordr.edges up).length = 0
          · have hup1 : up.length = 1 := Ordr.no_edges HLT.out (by rw [Ordr.edges_ne, List.length_map] at hempty; exact List.eq_nil_of_length_eq_zero hempty)
            have he0 : (((Ordr.edges up).length : Int) == 0) = true := by rw [beq_iff_eq]; omega
            have hu1 : ((up.length : Int) == 1) = true := by rw [beq_iff_eq]; omega
            clear hempty hup1
            go_wp2
            go_ret
            exact ⟨rfl, HO8.out.below⟩
          · have he0 : (((Ordr.edges up).length : Int) == 0) = false := by rw [beq_eq_false_iff_ne]; omega
            obtain ⟨m, hm⟩ : ∃ m, (Ordr.edges up).length = m + 1 := ⟨(Ordr.edges up).length - 1, by omega⟩
            have hes8 := HES8.out
            rw [hm] at hes8 he0 ⊢
            obtain ⟨E2, d2, hE2, hrow8, -, hl8⟩ := hes8
            rw [hm] at hE2 hl8
            injection hE2 with hE2 _ hd2
            subst hE2 hd2
            obtain ⟨ad, rfl⟩ : ∃ ad, E = some ad := by
              obtain ⟨ad, e, _⟩ := hrow8 (by intro h; have := congrArg List.length h; rw [ecells_length, hm] at this; simp at this)
              exact ⟨ad, e⟩
            have hc8 : w8.cell? ⟨w.heap.size, 0, none⟩ = some (.slice A1 names.length c1) := HO8.out.a.cell 0
            have HC8 := Lib.hid hc8
            have hsz8 := HO8.out.a.lt
            have HCL : Hid (∀ W, Below w8.heap.size w8 W → _) := fun W hW => cloneW (m := m) d ad (Ordr.edges up) hm (by omega) hrow8 hc8 hsz8 hW
            obtain ⟨a, hmod, ham⟩ := mod_at x (show 1 ≤ m + 1 by omega)
            have hmi : ((m + 1 : Nat) : Int) = (m : Int) + 1 := rfl
            rw [hmi] at hmod he0
            have hpos : (0 : Int) < (m : Int) + 1 := by omega
            have hx1 := Int.lt_tmod_of_pos x hpos
            have hx2 := Int.tmod_lt_of_pos x hpos
            have hx0 : 0 ≤ x.tmod ((m : Int) + 1) + ((m : Int) + 1) := by omega
            have hlm : (m : Int) + 1 ≤ 1000 := by omega
            have hlm1 : (1 : Int) ≤ (m : Int) + 1 := by omega
            have ham1 : (a : Int) ≤ m := by omega
            have HM := Lib.hid hm
            have HSH : Hid ((∀ s ∈ names, s.size ≤ maxLen) ∧ names.length ≤ 1000) := ⟨HO8.out.la.short, HO8.out.la.few.1⟩
            have hne8 : w8.heap.size ≠ w.heap.size := World.new_ne w8 _ hc8
            clear hm hmi hrow8 HES8 hempty
            have HMOD := Lib.hid hmod
            clear hmod
            go_wp2
            rw [HMOD.out]
            have hwrap : IntKind.i64.wrap ((a : Int) + 1) = (a : Int) + 1 := IntWalk.i64_in _ (by omega)
            go_region_held3 (fun W => W.cell? ⟨w.heap.size, 0, none⟩ = some (.slice A1 names.length c1))
              (go_keep)
              (first
                | (go_at_call 23; refine (HCL.out _ ?_).mono ?_; (first | exact (Below.refl _ _).drew | exact (Below.refl _ _).drew.alloc (Nat.le_refl _) _); rintro e wc ⟨base, g, cap, rfl, hbase, hownc, hcap1, hcap2, hgc, hbc, hnc, hkc⟩; have hnec : wc.heap.size ≠ w.heap.size := World.new_ne wc _ hnc)
                | (go_at_call 22; refine (deleteW (w8 := w8) (es := Ordr.edges up) (base := base) HM.out (by omega) (by omega) hcap1 hcap2 hbase HC8.out hsz8 ?_ ?_).mono ?_; (first | exact hbc | exact hbc.alloc hbc.size _); (first | exact hownc | exact hownc.alloc _); rintro e wd ⟨rfl, hownd, hbd, hnd, hkd⟩; have hned : wd.heap.size ≠ w.heap.size := World.new_ne wd _ hnd)
                | (go_at_call 13; refine (ofW (w8 := w8) (es := (Ordr.edges up).eraseIdx a) (base := base) HO8.out.la (by rw [List.length_eraseIdx, if_pos (by rw [HM.out]; omega), HM.out]; rfl) (by omega) HC8.out hsz8 ?_ ?_).mono ?_; (first | exact hbd | exact hbd.alloc hbd.size _); (first | exact hownd | exact hownd.alloc _); rintro e wf ⟨A7, m7, c7, A8, m8, c8, rfl, hlf, hbf, hnf, hkf⟩; have hnef : wf.heap.size ≠ w.heap.size := World.new_ne wf _ hnf; (first | (have hbx := hkf _ _ (hkd _ _ (hkc _ _ (Blk.new _ _ _)).2 (hkc _ _ (Blk.new _ _ _)).1); have hq0 := hbx.cell 0; have hq1 := hbx.cell 1; have hf0 := hbx.frozen 0; have hf1 := hbx.frozen 1) | (have hbx := hkf _ _ (hkd _ _ (Nat.ne_of_gt hgc) (Blk.new _ _ _)); have hq0 := hbx.cell 0; have hq1 := hbx.cell 1; have hf0 := hbx.frozen 0; have hf1 := hbx.frozen 1) | (have hbx := hkf _ _ (Blk.new _ _ _); have hq0 := hbx.cell 0; have hq1 := hbx.cell 1; have hf0 := hbx.frozen 0; have hf1 := hbx.frozen 1) | skip)))
            all_goals (first
              | have HY := Lib.hid (fin_box (w8 := w8) hbx (by first | exact Nat.le_refl _ | exact hbc.size | exact hbd.size) hbf hlf)
              | have HY := Lib.hid (FinY.mk (w8 := w8) (Blk.new wf 25 #[.slice A7 m7 c7, .slice A8 m8 c8]) (stable_lat _ _ _ _ _ hlf ((Below.refl _ _).alloc (Nat.le_refl _) _)) (hbf.alloc hbf.size _)))
            all_goals have hy := HY.out
            all_goals have ho9 := one_stable _ _ _ _ _ _ _ HO8.out hy.below
            all_goals have hy0 := hy.a.cell 0
            all_goals have hy1 := hy.a.cell 1
            all_goals have hc0 := ho9.a.cell 0
            all_goals have hc1 := ho9.a.cell 1
            all_goals have hnl := ofN_less HK.out (k := a) (by rw [HM.out]; omega)
            all_goals have hsm := rSame_any _ hy.la ho9.la
            all_goals obtain ⟨q, hq⟩ : ∃ q, ofN names ((Ordr.edges up).eraseIdx a) = q := ⟨_, rfl⟩
            all_goals rw [hq] at hnl ⊢
            all_goals have hbw := ho9.below
            all_goals have HO9 := Lib.hid ho9
            all_goals have HSM := Lib.hid hsm
            all_goals clear hy ho9 hsm hq HY HO8 HCL hlf hbf hnf hkf hbd hnd hkd hownd hbc hnc hkc hownc hnef hned hnec hne8
            all_goals try clear hbx hq0 hq1 hf0 hf1
            all_goals
              by_cases hqz : q = 0
              · subst hqz
                have hne := hnl rfl
                have hsm := HSM.out
                rw [show sameLat (ofNames names ((Ordr.edges up).eraseIdx a)) (ofUp names ((Ordr.edges up).eraseIdx a)) names up = false by unfold sameLat; rw [decide_eq_false hne, Bool.and_false]] at hsm
                have HSM2 := Lib.hid hsm
                clear hsm HSM hnl hne
                try rw [show ((0 : Nat) : Int) = 0 from rfl]
                go_wp2_with (fail)
                refine HSM2.out.mono ?_
                rintro e w9 ⟨rfl, hb9⟩
                have hbz := hbw.trans (hb9.mono hbw.size)
                go_wp2
                go_ret
                exact ⟨rfl, hbz⟩
              · have hqb : ((q : Int) != 0) = true := by rw [bne_iff_ne]; omega
                have hqc : ((q : Int) == 0) = false := by rw [beq_eq_false_iff_ne]; omega
                clear hnl HSM hqz
                go_wp2
                go_ret
                exact ⟨rfl, hbw⟩
        · have hz1 : ((k : Int) == 0) = false := by rw [beq_eq_false_iff_ne]; omega
          have hz2 : ((k : Int) != 0) = true := by rw [bne_iff_ne]; omega
          rw [if_neg hz] at hed
          have HED := Lib.hid hed
          clear hed hz
          go_wp2_with (fail)
          refine HED.out.mono ?_
          rintro e w4 ⟨xe, rfl, hes, hb4⟩
          obtain ⟨E, d, rfl, hE, hd, hel⟩ := hes
          have ho4 := one_stable _ _ _ _ _ _ _ HO3.out hb4
          have HO4 := Lib.hid ho4
          clear ho4 hb4 hE HED HO3
          go_wp2_with (fail)
          refine (alive2_any _).mono ?_
          rintro e w5 ⟨rfl, hb5⟩
          have ho5 := one_stable _ _ _ _ _ _ _ HO4.out hb5
          have hc0 := ho5.a.cell 0
          have hc1 := ho5.a.cell 1
          have HC5 := Lib.hid (HCH.out _ ho5)
          have HO5 := Lib.hid ho5
          clear ho5 hb5 HO4 HCH
          go_wp2_with (fail)
          refine HC5.out.mono ?_
          rintro e w6 ⟨rfl, hb6⟩
          go_wp2
          go_ret
          exact ⟨rfl, (one_stable _ _ _ _ _ _ _ HO5.out hb6).below⟩
      · have hq1 : ((q : Int) == 0) = false := by rw [beq_eq_false_iff_ne]; omega
        have HO3 := HO2
        clear HO2 HCK0 HCK hq0
        have hc0 := HO3.out.a.cell 0
        have hc1 := HO3.out.a.cell 1
        have hed := edges_any _ HO3.out.la
        obtain ⟨k, hk⟩ : ∃ k, checkN names up = k := ⟨_, rfl⟩
        have her : edgesR names up = if k = 0 then Ordr.edges up else [] := by subst hk; rfl
        have hch := fun W (hW : One w (.slice A1 m1 c1) (.slice A2 m2 c2) names up W) => check_any W hW.la
        rw [hk, her] at hed
        rw [hk] at hch
        have HCH := Lib.hid hch
        have HK := Lib.hid hk
        clear hk her hch
        by_cases hz : k = 0
        · subst hz
          rw [if_pos rfl] at hed
          have HED := Lib.hid hed
          clear hed HCH
          go_wp2_with (fail)
          refine HED.out.mono ?_
          rintro e w4 ⟨xe, rfl, hes, hb4⟩
          obtain ⟨E, d, rfl, hE, hd, hel⟩ := hes
          have HES : Hid (IsEdges w4 w4.heap.size (.slice E (Ordr.edges up).length d) (Ordr.edges up)) := ⟨E, d, rfl, hE, hd, hel⟩
          have ho4 := one_stable _ _ _ _ _ _ _ HO3.out hb4
          have hc0 := ho4.a.cell 0
          have hc1 := ho4.a.cell 1
          obtain ⟨B1, B2, b1, b2, hbe, hrn, -⟩ := ho4.la.form
          injection hbe with hbe
          injection hbe with hbe
          injection hbe with hbe1 hbe
          injection hbe with hbe2 hbe
          injection hbe1 with g1 g2 g3
          injection hbe2 with g4 g5 g6
          subst g1 g2 g3 g4 g5 g6
          have hof := of_any c1 w4 hrn HES.out ho4.la.short ho4.la.few.1
          have hsame := ofN_edges HK.out
          unfold OfRes at hof
          rw [hsame.1, hsame.2.1, hsame.2.2] at hof
          have HOF := Lib.hid hof
          have HO4 := Lib.hid ho4
          clear hof hsame ho4 hb4 hE HED HO3 hbe hrn
          go_wp2_with (fail)
          refine HOF.out.mono ?_
          rintro e w5 ⟨v5, rfl, hl5, hb5⟩
          obtain ⟨A5, m5, c5, A6, m6, c6, rfl⟩ := lat_two hl5
          have hb6 : Below w4.heap.size w4 (w5.alloc (.cells #[.slice A5 m5 c5, .slice A6 m6 c6] 25)) := hb5.alloc hb5.size _
          have ho6 := one_stable _ _ _ _ _ _ _ HO4.out hb6
          have HES6 := Lib.hid (stable_edges _ _ _ _ HES.out hb6)
          have hl6 := stable_lat _ _ _ _ _ hl5 ((Below.refl _ w5).alloc (Nat.le_refl _) (.cells #[.slice A5 m5 c5, .slice A6 m6 c6] 25))
          have hc0 := ho6.a.cell 0
          have hc1 := ho6.a.cell 1
          have hsm := rSame_any _ hl6 ho6.la
          rw [show sameLat names up names up = true by simp [sameLat]] at hsm
          have HSM := Lib.hid hsm
          have HO6 := Lib.hid ho6
          clear hl5 hl6 hb5 hb6 ho6 hsm HOF HO4 HES
          go_wp2_with (fail)
          refine HSM.out.mono ?_
          rintro e w7 ⟨rfl, hb7⟩
          have ho7 := one_stable _ _ _ _ _ _ _ HO6.out hb7
          have HES7 := Lib.hid (stable_edges _ _ _ _ HES6.out hb7)
          have HO7 := Lib.hid ho7
          clear ho7 hb7 HSM HO6 HES6
          go_wp2_with (fail)
          refine (alive2_any _).mono ?_
          rintro e w8 ⟨rfl, hb8⟩
          have ho8 := one_stable _ _ _ _ _ _ _ HO7.out hb8
          have HES8 := Lib.hid (stable_edges _ _ _ _ HES7.out hb8)
          have hc0 := ho8.a.cell 0
          have hc1 := ho8.a.cell 1
          have HO8 := Lib.hid ho8
          clear ho8 hb8 HO7 HES7
          have hlt := latt_of HK.out
          have hone1 := hlt.one
          have hfew8 := hlt.few
          have HLT := Lib.hid hlt
          clear hlt
          by_cases hempty : (Ordr.edges up).length = 0
          · have hup1 : up.length = 1 := Ordr.no_edges HLT.out (by rw [Ordr.edges_ne, List.length_map] at hempty; exact List.eq_nil_of_length_eq_zero hempty)
            have he0 : (((Ordr.edges up).length : Int) == 0) = true := by rw [beq_iff_eq]; omega
            have hu1 : ((up.length : Int) == 1) = true := by rw [beq_iff_eq]; omega
            clear hempty hup1
            go_wp2
            go_ret
            exact ⟨rfl, HO8.out.below⟩
          · have he0 : (((Ordr.edges up).length : Int) == 0) = false := by rw [beq_eq_false_iff_ne]; omega
            obtain ⟨m, hm⟩ : ∃ m, (Ordr.edges up).length = m + 1 := ⟨(Ordr.edges up).length - 1, by omega⟩
            have hes8 := HES8.out
            rw [hm] at hes8 he0 ⊢
            obtain ⟨E2, d2, hE2, hrow8, -, hl8⟩ := hes8
            rw [hm] at hE2 hl8
            injection hE2 with hE2 _ hd2
            subst hE2 hd2
            obtain ⟨ad, rfl⟩ : ∃ ad, E = some ad := by
              obtain ⟨ad, e, _⟩ := hrow8 (by intro h; have := congrArg List.length h; rw [ecells_length, hm] at this; simp at this)
              exact ⟨ad, e⟩
            have hc8 : w8.cell? ⟨w.heap.size, 0, none⟩ = some (.slice A1 names.length c1) := HO8.out.a.cell 0
            have HC8 := Lib.hid hc8
            have hsz8 := HO8.out.a.lt
            have HCL : Hid (∀ W, Below w8.heap.size w8 W → _) := fun W hW => cloneW (m := m) d ad (Ordr.edges up) hm (by omega) hrow8 hc8 hsz8 hW
            obtain ⟨a, hmod, ham⟩ := mod_at x (show 1 ≤ m + 1 by omega)
            have hmi : ((m + 1 : Nat) : Int) = (m : Int) + 1 := rfl
            rw [hmi] at hmod he0
            have hpos : (0 : Int) < (m : Int) + 1 := by omega
            have hx1 := Int.lt_tmod_of_pos x hpos
            have hx2 := Int.tmod_lt_of_pos x hpos
            have hx0 : 0 ≤ x.tmod ((m : Int) + 1) + ((m : Int) + 1) := by omega
            have hlm : (m : Int) + 1 ≤ 1000 := by omega
            have hlm1 : (1 : Int) ≤ (m : Int) + 1 := by omega
            have ham1 : (a : Int) ≤ m := by omega
            have HM := Lib.hid hm
            have HSH : Hid ((∀ s ∈ names, s.size ≤ maxLen) ∧ names.length ≤ 1000) := ⟨HO8.out.la.short, HO8.out.la.few.1⟩
            have hne8 : w8.heap.size ≠ w.heap.size := World.new_ne w8 _ hc8
            clear hm hmi hrow8 HES8 hempty
            have HMOD := Lib.hid hmod
            clear hmod
            go_wp2
            rw [HMOD.out]
            have hwrap : IntKind.i64.wrap ((a : Int) + 1) = (a : Int) + 1 := IntWalk.i64_in _ (by omega)
            go_region_held3 (fun W => W.cell? ⟨w.heap.size, 0, none⟩ = some (.slice A1 names.length c1))
              (go_keep)
              (first
                | (go_at_call 23; refine (HCL.out _ ?_).mono ?_; (first | exact (Below.refl _ _).drew | exact (Below.refl _ _).drew.alloc (Nat.le_refl _) _); rintro e wc ⟨base, g, cap, rfl, hbase, hownc, hcap1, hcap2, hgc, hbc, hnc, hkc⟩; have hnec : wc.heap.size ≠ w.heap.size := World.new_ne wc _ hnc)
                | (go_at_call 22; refine (deleteW (w8 := w8) (es := Ordr.edges up) (base := base) HM.out (by omega) (by omega) hcap1 hcap2 hbase HC8.out hsz8 ?_ ?_).mono ?_; (first | exact hbc | exact hbc.alloc hbc.size _); (first | exact hownc | exact hownc.alloc _); rintro e wd ⟨rfl, hownd, hbd, hnd, hkd⟩; have hned : wd.heap.size ≠ w.heap.size := World.new_ne wd _ hnd)
                | (go_at_call 13; refine (ofW (w8 := w8) (es := (Ordr.edges up).eraseIdx a) (base := base) HO8.out.la (by rw [List.length_eraseIdx, if_pos (by rw [HM.out]; omega), HM.out]; rfl) (by omega) HC8.out hsz8 ?_ ?_).mono ?_; (first | exact hbd | exact hbd.alloc hbd.size _); (first | exact hownd | exact hownd.alloc _); rintro e wf ⟨A7, m7, c7, A8, m8, c8, rfl, hlf, hbf, hnf, hkf⟩; have hnef : wf.heap.size ≠ w.heap.size := World.new_ne wf _ hnf; (first | (have hbx := hkf _ _ (hkd _ _ (hkc _ _ (Blk.new _ _ _)).2 (hkc _ _ (Blk.new _ _ _)).1); have hq0 := hbx.cell 0; have hq1 := hbx.cell 1; have hf0 := hbx.frozen 0; have hf1 := hbx.frozen 1) | (have hbx := hkf _ _ (hkd _ _ (Nat.ne_of_gt hgc) (Blk.new _ _ _)); have hq0 := hbx.cell 0; have hq1 := hbx.cell 1; have hf0 := hbx.frozen 0; have hf1 := hbx.frozen 1) | (have hbx := hkf _ _ (Blk.new _ _ _); have hq0 := hbx.cell 0; have hq1 := hbx.cell 1; have hf0 := hbx.frozen 0; have hf1 := hbx.frozen 1) | skip)))
            all_goals (first
              | have HY := Lib.hid (fin_box (w8 := w8) hbx (by first | exact Nat.le_refl _ | exact hbc.size | exact hbd.size) hbf hlf)
              | have HY := Lib.hid (FinY.mk (w8 := w8) (Blk.new wf 25 #[.slice A7 m7 c7, .slice A8 m8 c8]) (stable_lat _ _ _ _ _ hlf ((Below.refl _ _).alloc (Nat.le_refl _) _)) (hbf.alloc hbf.size _)))
            all_goals have hy := HY.out
            all_goals have ho9 := one_stable _ _ _ _ _ _ _ HO8.out hy.below
            all_goals have hy0 := hy.a.cell 0
            all_goals have hy1 := hy.a.cell 1
            all_goals have hc0 := ho9.a.cell 0
            all_goals have hc1 := ho9.a.cell 1
            all_goals have hnl := ofN_less HK.out (k := a) (by rw [HM.out]; omega)
            all_goals have hsm := rSame_any _ hy.la ho9.la
            all_goals obtain ⟨q, hq⟩ : ∃ q, ofN names ((Ordr.edges up).eraseIdx a) = q := ⟨_, rfl⟩
            all_goals rw [hq] at hnl ⊢
            all_goals have hbw := ho9.below
            all_goals have HO9 := Lib.hid ho9
            all_goals have HSM := Lib.hid hsm
            all_goals clear hy ho9 hsm hq HY HO8 HCL hlf hbf hnf hkf hbd hnd hkd hownd hbc hnc hkc hownc hnef hned hnec hne8
            all_goals try clear hbx hq0 hq1 hf0 hf1
            all_goals
              by_cases hqz : q = 0
              · subst hqz
                have hne := hnl rfl
                have hsm := HSM.out
                rw [show sameLat (ofNames names ((Ordr.edges up).eraseIdx a)) (ofUp names ((Ordr.edges up).eraseIdx a)) names up = false by unfold sameLat; rw [decide_eq_false hne, Bool.and_false]] at hsm
                have HSM2 := Lib.hid hsm
                clear hsm HSM hnl hne
                try rw [show ((0 : Nat) : Int) = 0 from rfl]
                go_wp2_with (fail)
                refine HSM2.out.mono ?_
                rintro e w9 ⟨rfl, hb9⟩
                have hbz := hbw.trans (hb9.mono hbw.size)
                go_wp2
                go_ret
                exact ⟨rfl, hbz⟩
              · have hqb : ((q : Int) != 0) = true := by rw [bne_iff_ne]; omega
                have hqc : ((q : Int) == 0) = false := by rw [beq_eq_false_iff_ne]; omega
                clear hnl HSM hqz
                go_wp2
                go_ret
                exact ⟨rfl, hbw⟩
        · have hz1 : ((k : Int) == 0) = false := by rw [beq_eq_false_iff_ne]; omega
          have hz2 : ((k : Int) != 0) = true := by rw [bne_iff_ne]; omega
          rw [if_neg hz] at hed
          have HED := Lib.hid hed
          clear hed hz
          go_wp2_with (fail)
          refine HED.out.mono ?_
          rintro e w4 ⟨xe, rfl, hes, hb4⟩
          obtain ⟨E, d, rfl, hE, hd, hel⟩ := hes
          have ho4 := one_stable _ _ _ _ _ _ _ HO3.out hb4
          have HO4 := Lib.hid ho4
          clear ho4 hb4 hE HED HO3
          go_wp2_with (fail)
          refine (alive2_any _).mono ?_
          rintro e w5 ⟨rfl, hb5⟩
          have ho5 := one_stable _ _ _ _ _ _ _ HO4.out hb5
          have hc0 := ho5.a.cell 0
          have hc1 := ho5.a.cell 1
          have HC5 := Lib.hid (HCH.out _ ho5)
          have HO5 := Lib.hid ho5
          clear ho5 hb5 HO4 HCH
          go_wp2_with (fail)
          refine HC5.out.mono ?_
          rintro e w6 ⟨rfl, hb6⟩
          go_wp2
          go_ret
          exact ⟨rfl, (one_stable _ _ _ _ _ _ _ HO5.out hb6).below⟩
  · have hp15 : ((15 : Int) < kind.size) = False := eq_false hs15
    have hs16 : (kind.size : Int) ≤ 15 := by omega
    have hex : kind.extract 0 kind.size = kind := by simp
    clear hs15
    go_enter Try.func6, Try.ntmps6
    go_wp2
    refine Free.region_each (by kernel_rfl) (by kernel_rfl)
      (fun k => [some (.string kind), some (.string kind), some (.int .i64 kind.size), some (.int .i64 kind.size), some (.string (kind)), some (.agg #[.slice A n1.length c, .slice A' u1.length c']), none, some (.string (kind)), none].getD k none)
      (Box1 w (.slice A n1.length c) (.slice A' u1.length c') 6 8) (fun _ => undef) (Box1.start _) ?_ ?_
    · refine ⟨?_, ?_, ?_, ?_, ?_, ?_, ?_, ?_, ?_, trivial⟩
      · refine Free.step_val _ rfl rfl fun done r W ρ hρ hcst hfun hJ hV hC hd hdeps => ?_
        have e0 : ρ (.tmp 0) = .string kind := by rw [hρ]; rfl
        clear hρ
        refine ⟨?_, hJ.pass (by decide)⟩
        go_simp
      · refine Free.step_val _ rfl rfl fun done r W ρ hρ hcst hfun hJ hV hC hd hdeps => ?_
        have e0 : ρ (.tmp 0) = .string kind := by rw [hρ]; rfl
        clear hρ
        refine ⟨?_, hJ.pass (by decide)⟩
        go_simp
      · refine Free.step_val _ rfl rfl fun done r W ρ hρ hcst hfun hJ hV hC hd hdeps => ?_
        have e0 : ρ (.tmp 18) = .string kind := by rw [hρ]; exact hV 1 _ (hdeps 1 (by decide)) rfl
        clear hρ
        refine ⟨?_, hJ.pass (by decide)⟩
        go_simp
      · refine Free.step_val _ rfl rfl fun done r W ρ hρ hcst hfun hJ hV hC hd hdeps => ?_
        have e0 : ρ (.tmp 19) = .int .i64 kind.size := by rw [hρ]; exact hV 2 _ (hdeps 2 (by decide)) rfl
        clear hρ
        refine ⟨?_, hJ.pass (by decide)⟩
        go_simp
        all_goals omega
      · refine Free.step_val _ rfl rfl fun done r W ρ hρ hcst hfun hJ hV hC hd hdeps => ?_
        have e0 : ρ (.tmp 17) = .string kind := by rw [hρ]; exact hV 0 _ (hdeps 0 (by decide)) rfl
        have e1 : ρ (.tmp 20) = .int .i64 kind.size := by rw [hρ]; exact hV 3 _ (hdeps 3 (by decide)) rfl
        clear hρ
        refine ⟨?_, hJ.pass (by decide)⟩
        go_simp
      · refine Free.step_val _ rfl rfl fun done r W ρ hρ hcst hfun hJ hV hC hd hdeps => ?_
        have e0 : ρ (.tmp 6) = .pointer (some ⟨w.heap.size, 0, none⟩) := by rw [hρ]; rfl
        have hold := hJ.old (Free.not_done hC 8 5 (by rfl) (by decide) hd)
        have c0 : W.cell? ⟨w.heap.size, 0, none⟩ = some (.slice A n1.length c) := by rw [hold.cell]; rfl
        have c1 : W.cell? ⟨w.heap.size, 1, none⟩ = some (.slice A' u1.length c') := by rw [hold.cell]; rfl
        clear hρ
        refine ⟨?_, hJ.pass (by decide)⟩
        go_simp
      · refine Free.step_any rfl rfl fun done r W ρ hρ hcst hfun hJ hV hC hd hdeps => ?_
        have e0 : ρ (.tmp 22) = .agg #[.slice A n1.length c, .slice A' u1.length c'] := by rw [hρ]; exact hV 5 _ (hdeps 5 (by decide)) rfl
        have hno := Free.not_done hC 8 6 (by rfl) (by decide) hd
        clear hρ
        go_simp
        exact (HFA.out W hJ.below).mono fun e w' ⟨v, _, _, he, hl, hb⟩ => ⟨v, he, hJ.call (by decide) hno hl hb⟩
      · refine Free.step_val _ rfl rfl fun done r W ρ hρ hcst hfun hJ hV hC hd hdeps => ?_
        have e0 : ρ (.tmp 21) = .string (kind) := by rw [hρ]; exact hV 4 _ (hdeps 4 (by decide)) rfl
        clear hρ
        refine ⟨?_, hJ.pass (by decide)⟩
        go_simp
      · refine Free.step_any rfl rfl fun done r W ρ hρ hcst hfun hJ hV hC hd hdeps => ?_
        have e0 : ρ (.tmp 6) = .pointer (some ⟨w.heap.size, 0, none⟩) := by rw [hρ]; rfl
        have e1 : ρ (.tmp 23) = r 6 := by rw [hρ]; rfl
        have hold := hJ.old hd
        obtain ⟨y0, y1, y2, y3, y4, y5, hy⟩ := (hJ.ra (hdeps 6 (by decide))).two
        rw [hy] at e1
        have c0 : W.cell? ⟨w.heap.size, 0, none⟩ = some (.slice A n1.length c) := by rw [hold.cell]; rfl
        have c1 : W.cell? ⟨w.heap.size, 1, none⟩ = some (.slice A' u1.length c') := by rw [hold.cell]; rfl
        have f0 := hold.frozen 0
        have f1 := hold.frozen 1
        have hfin := hJ.set_ (by decide) (hdeps 6 (by decide)) hy hd
        clear hρ hy
        go_simp
        exact hfin
    · intro done r W hall hJ hV
      obtain ⟨A1, m1, c1, A2, m2, c2, names, up, e6, hone⟩ := hJ.fin (hall 6 (by decide)) (hall 8 (by decide))
      have e0 := hV 0 _ (hall 0 (by decide)) rfl
      have e1 := hV 1 _ (hall 1 (by decide)) rfl
      have e2 := hV 2 _ (hall 2 (by decide)) rfl
      have e3 := hV 3 _ (hall 3 (by decide)) rfl
      have e4 := hV 4 _ (hall 4 (by decide)) rfl
      have e5 := hV 5 _ (hall 5 (by decide)) rfl
      have e7 := hV 7 _ (hall 7 (by decide)) rfl
      simp only [Free.putAll, Nat.zero_add, e0, e1, e2, e3, e4, e5, e6, e7]
      clear hJ hV hall e0 e1 e2 e3 e4 e5 e6 e7 HFA
      have hck0 : makeN (kind) n = 0 → checkN (named (makeUpR (kind) n).length) (makeUpR (kind) n) = 0 := make_lat
      have HCK0 := Lib.hid hck0
      have HMK := Lib.hid (Make_any (kind) n W)
      have HONE := Lib.hid hone
      clear hck0 hone
      go_wp2_with (fail)
      refine HMK.out.mono ?_
      rintro e w1 ⟨v, rfl, hl1, hb1⟩
      obtain ⟨A3, m3, c3, A4, m4, c4, rfl⟩ := lat_two hl1
      have hb2 : Below W.heap.size W (w1.alloc (.cells #[.slice A3 m3 c3, .slice A4 m4 c4] 25)) := hb1.alloc hb1.size _
      have ho2 := one_stable _ _ _ _ _ _ _ HONE.out hb2
      have hl2 := stable_lat _ _ _ _ _ hl1 ((Below.refl _ w1).alloc (Nat.le_refl _) (.cells #[.slice A3 m3 c3, .slice A4 m4 c4] 25))
      have hck := check_any _ hl2
      obtain ⟨q, hq⟩ : ∃ q, makeN (kind) n = q := ⟨_, rfl⟩
      rw [hq] at HCK0
      rw [hq]
      have HO2 := Lib.hid ho2
      have HCK := Lib.hid hck
      clear hq hl1 hl2 hb1 hb2 ho2 hck HONE HMK
      have main : ∀ W2, One w (.slice A1 m1 c1) (.slice A2 m2 c2) names up W2 → Hid (One w (.slice A1 m1 c1) (.slice A2 m2 c2) names up W2) := fun _ h => h
      clear main
      by_cases hq0 : q = 0
      · subst hq0
        have hck := HCK.out
        rw [HCK0.out rfl] at hck
        have HCK1 := Lib.hid hck
        clear hck HCK
        go_wp2_with (go_at_call 21; refine HCK1.out.mono ?_)
        rintro e w3 ⟨rfl, hb3⟩
        have ho3 := one_stable _ _ _ _ _ _ _ HO2.out hb3
        have HO3 := Lib.hid ho3
        clear ho3 hb3 HO2 HCK0 HCK1
        have hc0 := HO3.out.a.cell 0
        have hc1 := HO3.out.a.cell 1
        have hed := edges_any _ HO3.out.la
        obtain ⟨k, hk⟩ : ∃ k, checkN names up = k := ⟨_, rfl⟩
        have her : edgesR names up = if k = 0 then Ordr.edges up else [] := by subst hk; rfl
        have hch := fun W (hW : One w (.slice A1 m1 c1) (.slice A2 m2 c2) names up W) => check_any W hW.la
        rw [hk, her] at hed
        rw [hk] at hch
        have HCH := Lib.hid hch
        have HK := Lib.hid hk
        clear hk her hch
        by_cases hz : k = 0
        · subst hz
          rw [if_pos rfl] at hed
          have HED := Lib.hid hed
          clear hed HCH
          go_wp2_with (fail)
          refine HED.out.mono ?_
          rintro e w4 ⟨xe, rfl, hes, hb4⟩
          obtain ⟨E, d, rfl, hE, hd, hel⟩ := hes
          have HES : Hid (IsEdges w4 w4.heap.size (.slice E (Ordr.edges up).length d) (Ordr.edges up)) := ⟨E, d, rfl, hE, hd, hel⟩
          have ho4 := one_stable _ _ _ _ _ _ _ HO3.out hb4
          have hc0 := ho4.a.cell 0
          have hc1 := ho4.a.cell 1
          obtain ⟨B1, B2, b1, b2, hbe, hrn, -⟩ := ho4.la.form
          injection hbe with hbe
          injection hbe with hbe
          injection hbe with hbe1 hbe
          injection hbe with hbe2 hbe
          injection hbe1 with g1 g2 g3
          injection hbe2 with g4 g5 g6
          subst g1 g2 g3 g4 g5 g6
          have hof := of_any c1 w4 hrn HES.out ho4.la.short ho4.la.few.1
          have hsame := ofN_edges HK.out
          unfold OfRes at hof
          rw [hsame.1, hsame.2.1, hsame.2.2] at hof
          have HOF := Lib.hid hof
          have HO4 := Lib.hid ho4
          clear hof hsame ho4 hb4 hE HED HO3 hbe hrn
          go_wp2_with (fail)
          refine HOF.out.mono ?_
          rintro e w5 ⟨v5, rfl, hl5, hb5⟩
          obtain ⟨A5, m5, c5, A6, m6, c6, rfl⟩ := lat_two hl5
          have hb6 : Below w4.heap.size w4 (w5.alloc (.cells #[.slice A5 m5 c5, .slice A6 m6 c6] 25)) := hb5.alloc hb5.size _
          have ho6 := one_stable _ _ _ _ _ _ _ HO4.out hb6
          have HES6 := Lib.hid (stable_edges _ _ _ _ HES.out hb6)
          have hl6 := stable_lat _ _ _ _ _ hl5 ((Below.refl _ w5).alloc (Nat.le_refl _) (.cells #[.slice A5 m5 c5, .slice A6 m6 c6] 25))
          have hc0 := ho6.a.cell 0
          have hc1 := ho6.a.cell 1
          have hsm := rSame_any _ hl6 ho6.la
          rw [show sameLat names up names up = true by simp [sameLat]] at hsm
          have HSM := Lib.hid hsm
          have HO6 := Lib.hid ho6
          clear hl5 hl6 hb5 hb6 ho6 hsm HOF HO4 HES
          go_wp2_with (fail)
          refine HSM.out.mono ?_
          rintro e w7 ⟨rfl, hb7⟩
          have ho7 := one_stable _ _ _ _ _ _ _ HO6.out hb7
          have HES7 := Lib.hid (stable_edges _ _ _ _ HES6.out hb7)
          have HO7 := Lib.hid ho7
          clear ho7 hb7 HSM HO6 HES6
          go_wp2_with (fail)
          refine (alive2_any _).mono ?_
          rintro e w8 ⟨rfl, hb8⟩
          have ho8 := one_stable _ _ _ _ _ _ _ HO7.out hb8
          have HES8 := Lib.hid (stable_edges _ _ _ _ HES7.out hb8)
          have hc0 := ho8.a.cell 0
          have hc1 := ho8.a.cell 1
          have HO8 := Lib.hid ho8
          clear ho8 hb8 HO7 HES7
          have hlt := latt_of HK.out
          have hone1 := hlt.one
          have hfew8 := hlt.few
          have HLT := Lib.hid hlt
          clear hlt
          by_cases hempty : (Ordr.edges up).length = 0
          · have hup1 : up.length = 1 := Ordr.no_edges HLT.out (by rw [Ordr.edges_ne, List.length_map] at hempty; exact List.eq_nil_of_length_eq_zero hempty)
            have he0 : (((Ordr.edges up).length : Int) == 0) = true := by rw [beq_iff_eq]; omega
            have hu1 : ((up.length : Int) == 1) = true := by rw [beq_iff_eq]; omega
            clear hempty hup1
            go_wp2
            go_ret
            exact ⟨rfl, HO8.out.below⟩
          · have he0 : (((Ordr.edges up).length : Int) == 0) = false := by rw [beq_eq_false_iff_ne]; omega
            obtain ⟨m, hm⟩ : ∃ m, (Ordr.edges up).length = m + 1 := ⟨(Ordr.edges up).length - 1, by omega⟩
            have hes8 := HES8.out
            rw [hm] at hes8 he0 ⊢
            obtain ⟨E2, d2, hE2, hrow8, -, hl8⟩ := hes8
            rw [hm] at hE2 hl8
            injection hE2 with hE2 _ hd2
            subst hE2 hd2
            obtain ⟨ad, rfl⟩ : ∃ ad, E = some ad := by
              obtain ⟨ad, e, _⟩ := hrow8 (by intro h; have := congrArg List.length h; rw [ecells_length, hm] at this; simp at this)
              exact ⟨ad, e⟩
            have hc8 : w8.cell? ⟨w.heap.size, 0, none⟩ = some (.slice A1 names.length c1) := HO8.out.a.cell 0
            have HC8 := Lib.hid hc8
            have hsz8 := HO8.out.a.lt
            have HCL : Hid (∀ W, Below w8.heap.size w8 W → _) := fun W hW => cloneW (m := m) d ad (Ordr.edges up) hm (by omega) hrow8 hc8 hsz8 hW
            obtain ⟨a, hmod, ham⟩ := mod_at x (show 1 ≤ m + 1 by omega)
            have hmi : ((m + 1 : Nat) : Int) = (m : Int) + 1 := rfl
            rw [hmi] at hmod he0
            have hpos : (0 : Int) < (m : Int) + 1 := by omega
            have hx1 := Int.lt_tmod_of_pos x hpos
            have hx2 := Int.tmod_lt_of_pos x hpos
            have hx0 : 0 ≤ x.tmod ((m : Int) + 1) + ((m : Int) + 1) := by omega
            have hlm : (m : Int) + 1 ≤ 1000 := by omega
            have hlm1 : (1 : Int) ≤ (m : Int) + 1 := by omega
            have ham1 : (a : Int) ≤ m := by omega
            have HM := Lib.hid hm
            have HSH : Hid ((∀ s ∈ names, s.size ≤ maxLen) ∧ names.length ≤ 1000) := ⟨HO8.out.la.short, HO8.out.la.few.1⟩
            have hne8 : w8.heap.size ≠ w.heap.size := World.new_ne w8 _ hc8
            clear hm hmi hrow8 HES8 hempty
            have HMOD := Lib.hid hmod
            clear hmod
            go_wp2
            rw [HMOD.out]
            have hwrap : IntKind.i64.wrap ((a : Int) + 1) = (a : Int) + 1 := IntWalk.i64_in _ (by omega)
            go_region_held3 (fun W => W.cell? ⟨w.heap.size, 0, none⟩ = some (.slice A1 names.length c1))
              (go_keep)
              (first
                | (go_at_call 23; refine (HCL.out _ ?_).mono ?_; (first | exact (Below.refl _ _).drew | exact (Below.refl _ _).drew.alloc (Nat.le_refl _) _); rintro e wc ⟨base, g, cap, rfl, hbase, hownc, hcap1, hcap2, hgc, hbc, hnc, hkc⟩; have hnec : wc.heap.size ≠ w.heap.size := World.new_ne wc _ hnc)
                | (go_at_call 22; refine (deleteW (w8 := w8) (es := Ordr.edges up) (base := base) HM.out (by omega) (by omega) hcap1 hcap2 hbase HC8.out hsz8 ?_ ?_).mono ?_; (first | exact hbc | exact hbc.alloc hbc.size _); (first | exact hownc | exact hownc.alloc _); rintro e wd ⟨rfl, hownd, hbd, hnd, hkd⟩; have hned : wd.heap.size ≠ w.heap.size := World.new_ne wd _ hnd)
                | (go_at_call 13; refine (ofW (w8 := w8) (es := (Ordr.edges up).eraseIdx a) (base := base) HO8.out.la (by rw [List.length_eraseIdx, if_pos (by rw [HM.out]; omega), HM.out]; rfl) (by omega) HC8.out hsz8 ?_ ?_).mono ?_; (first | exact hbd | exact hbd.alloc hbd.size _); (first | exact hownd | exact hownd.alloc _); rintro e wf ⟨A7, m7, c7, A8, m8, c8, rfl, hlf, hbf, hnf, hkf⟩; have hnef : wf.heap.size ≠ w.heap.size := World.new_ne wf _ hnf; (first | (have hbx := hkf _ _ (hkd _ _ (hkc _ _ (Blk.new _ _ _)).2 (hkc _ _ (Blk.new _ _ _)).1); have hq0 := hbx.cell 0; have hq1 := hbx.cell 1; have hf0 := hbx.frozen 0; have hf1 := hbx.frozen 1) | (have hbx := hkf _ _ (hkd _ _ (Nat.ne_of_gt hgc) (Blk.new _ _ _)); have hq0 := hbx.cell 0; have hq1 := hbx.cell 1; have hf0 := hbx.frozen 0; have hf1 := hbx.frozen 1) | (have hbx := hkf _ _ (Blk.new _ _ _); have hq0 := hbx.cell 0; have hq1 := hbx.cell 1; have hf0 := hbx.frozen 0; have hf1 := hbx.frozen 1) | skip)))
            all_goals (first
              | have HY := Lib.hid (fin_box (w8 := w8) hbx (by first | exact Nat.le_refl _ | exact hbc.size | exact hbd.size) hbf hlf)
              | have HY := Lib.hid (FinY.mk (w8 := w8) (Blk.new wf 25 #[.slice A7 m7 c7, .slice A8 m8 c8]) (stable_lat _ _ _ _ _ hlf ((Below.refl _ _).alloc (Nat.le_refl _) _)) (hbf.alloc hbf.size _)))
            all_goals have hy := HY.out
            all_goals have ho9 := one_stable _ _ _ _ _ _ _ HO8.out hy.below
            all_goals have hy0 := hy.a.cell 0
            all_goals have hy1 := hy.a.cell 1
            all_goals have hc0 := ho9.a.cell 0
            all_goals have hc1 := ho9.a.cell 1
            all_goals have hnl := ofN_less HK.out (k := a) (by rw [HM.out]; omega)
            all_goals have hsm := rSame_any _ hy.la ho9.la
            all_goals obtain ⟨q, hq⟩ : ∃ q, ofN names ((Ordr.edges up).eraseIdx a) = q := ⟨_, rfl⟩
            all_goals rw [hq] at hnl ⊢
            all_goals have hbw := ho9.below
            all_goals have HO9 := Lib.hid ho9
            all_goals have HSM := Lib.hid hsm
            all_goals clear hy ho9 hsm hq HY HO8 HCL hlf hbf hnf hkf hbd hnd hkd hownd hbc hnc hkc hownc hnef hned hnec hne8
            all_goals try clear hbx hq0 hq1 hf0 hf1
            all_goals
              by_cases hqz : q = 0
              · subst hqz
                have hne := hnl rfl
                have hsm := HSM.out
                rw [show sameLat (ofNames names ((Ordr.edges up).eraseIdx a)) (ofUp names ((Ordr.edges up).eraseIdx a)) names up = false by unfold sameLat; rw [decide_eq_false hne, Bool.and_false]] at hsm
                have HSM2 := Lib.hid hsm
                clear hsm HSM hnl hne
                try rw [show ((0 : Nat) : Int) = 0 from rfl]
                go_wp2_with (fail)
                refine HSM2.out.mono ?_
                rintro e w9 ⟨rfl, hb9⟩
                have hbz := hbw.trans (hb9.mono hbw.size)
                go_wp2
                go_ret
                exact ⟨rfl, hbz⟩
              · have hqb : ((q : Int) != 0) = true := by rw [bne_iff_ne]; omega
                have hqc : ((q : Int) == 0) = false := by rw [beq_eq_false_iff_ne]; omega
                clear hnl HSM hqz
                go_wp2
                go_ret
                exact ⟨rfl, hbw⟩
        · have hz1 : ((k : Int) == 0) = false := by rw [beq_eq_false_iff_ne]; omega
          have hz2 : ((k : Int) != 0) = true := by rw [bne_iff_ne]; omega
          rw [if_neg hz] at hed
          have HED := Lib.hid hed
          clear hed hz
          go_wp2_with (fail)
          refine HED.out.mono ?_
          rintro e w4 ⟨xe, rfl, hes, hb4⟩
          obtain ⟨E, d, rfl, hE, hd, hel⟩ := hes
          have ho4 := one_stable _ _ _ _ _ _ _ HO3.out hb4
          have HO4 := Lib.hid ho4
          clear ho4 hb4 hE HED HO3
          go_wp2_with (fail)
          refine (alive2_any _).mono ?_
          rintro e w5 ⟨rfl, hb5⟩
          have ho5 := one_stable _ _ _ _ _ _ _ HO4.out hb5
          have hc0 := ho5.a.cell 0
          have hc1 := ho5.a.cell 1
          have HC5 := Lib.hid (HCH.out _ ho5)
          have HO5 := Lib.hid ho5
          clear ho5 hb5 HO4 HCH
          go_wp2_with (fail)
          refine HC5.out.mono ?_
          rintro e w6 ⟨rfl, hb6⟩
          go_wp2
          go_ret
          exact ⟨rfl, (one_stable _ _ _ _ _ _ _ HO5.out hb6).below⟩
      · have hq1 : ((q : Int) == 0) = false := by rw [beq_eq_false_iff_ne]; omega
        have HO3 := HO2
        clear HO2 HCK0 HCK hq0
        have hc0 := HO3.out.a.cell 0
        have hc1 := HO3.out.a.cell 1
        have hed := edges_any _ HO3.out.la
        obtain ⟨k, hk⟩ : ∃ k, checkN names up = k := ⟨_, rfl⟩
        have her : edgesR names up = if k = 0 then Ordr.edges up else [] := by subst hk; rfl
        have hch := fun W (hW : One w (.slice A1 m1 c1) (.slice A2 m2 c2) names up W) => check_any W hW.la
        rw [hk, her] at hed
        rw [hk] at hch
        have HCH := Lib.hid hch
        have HK := Lib.hid hk
        clear hk her hch
        by_cases hz : k = 0
        · subst hz
          rw [if_pos rfl] at hed
          have HED := Lib.hid hed
          clear hed HCH
          go_wp2_with (fail)
          refine HED.out.mono ?_
          rintro e w4 ⟨xe, rfl, hes, hb4⟩
          obtain ⟨E, d, rfl, hE, hd, hel⟩ := hes
          have HES : Hid (IsEdges w4 w4.heap.size (.slice E (Ordr.edges up).length d) (Ordr.edges up)) := ⟨E, d, rfl, hE, hd, hel⟩
          have ho4 := one_stable _ _ _ _ _ _ _ HO3.out hb4
          have hc0 := ho4.a.cell 0
          have hc1 := ho4.a.cell 1
          obtain ⟨B1, B2, b1, b2, hbe, hrn, -⟩ := ho4.la.form
          injection hbe with hbe
          injection hbe with hbe
          injection hbe with hbe1 hbe
          injection hbe with hbe2 hbe
          injection hbe1 with g1 g2 g3
          injection hbe2 with g4 g5 g6
          subst g1 g2 g3 g4 g5 g6
          have hof := of_any c1 w4 hrn HES.out ho4.la.short ho4.la.few.1
          have hsame := ofN_edges HK.out
          unfold OfRes at hof
          rw [hsame.1, hsame.2.1, hsame.2.2] at hof
          have HOF := Lib.hid hof
          have HO4 := Lib.hid ho4
          clear hof hsame ho4 hb4 hE HED HO3 hbe hrn
          go_wp2_with (fail)
          refine HOF.out.mono ?_
          rintro e w5 ⟨v5, rfl, hl5, hb5⟩
          obtain ⟨A5, m5, c5, A6, m6, c6, rfl⟩ := lat_two hl5
          have hb6 : Below w4.heap.size w4 (w5.alloc (.cells #[.slice A5 m5 c5, .slice A6 m6 c6] 25)) := hb5.alloc hb5.size _
          have ho6 := one_stable _ _ _ _ _ _ _ HO4.out hb6
          have HES6 := Lib.hid (stable_edges _ _ _ _ HES.out hb6)
          have hl6 := stable_lat _ _ _ _ _ hl5 ((Below.refl _ w5).alloc (Nat.le_refl _) (.cells #[.slice A5 m5 c5, .slice A6 m6 c6] 25))
          have hc0 := ho6.a.cell 0
          have hc1 := ho6.a.cell 1
          have hsm := rSame_any _ hl6 ho6.la
          rw [show sameLat names up names up = true by simp [sameLat]] at hsm
          have HSM := Lib.hid hsm
          have HO6 := Lib.hid ho6
          clear hl5 hl6 hb5 hb6 ho6 hsm HOF HO4 HES
          go_wp2_with (fail)
          refine HSM.out.mono ?_
          rintro e w7 ⟨rfl, hb7⟩
          have ho7 := one_stable _ _ _ _ _ _ _ HO6.out hb7
          have HES7 := Lib.hid (stable_edges _ _ _ _ HES6.out hb7)
          have HO7 := Lib.hid ho7
          clear ho7 hb7 HSM HO6 HES6
          go_wp2_with (fail)
          refine (alive2_any _).mono ?_
          rintro e w8 ⟨rfl, hb8⟩
          have ho8 := one_stable _ _ _ _ _ _ _ HO7.out hb8
          have HES8 := Lib.hid (stable_edges _ _ _ _ HES7.out hb8)
          have hc0 := ho8.a.cell 0
          have hc1 := ho8.a.cell 1
          have HO8 := Lib.hid ho8
          clear ho8 hb8 HO7 HES7
          have hlt := latt_of HK.out
          have hone1 := hlt.one
          have hfew8 := hlt.few
          have HLT := Lib.hid hlt
          clear hlt
          by_cases hempty : (Ordr.edges up).length = 0
          · have hup1 : up.length = 1 := Ordr.no_edges HLT.out (by rw [Ordr.edges_ne, List.length_map] at hempty; exact List.eq_nil_of_length_eq_zero hempty)
            have he0 : (((Ordr.edges up).length : Int) == 0) = true := by rw [beq_iff_eq]; omega
            have hu1 : ((up.length : Int) == 1) = true := by rw [beq_iff_eq]; omega
            clear hempty hup1
            go_wp2
            go_ret
            exact ⟨rfl, HO8.out.below⟩
          · have he0 : (((Ordr.edges up).length : Int) == 0) = false := by rw [beq_eq_false_iff_ne]; omega
            obtain ⟨m, hm⟩ : ∃ m, (Ordr.edges up).length = m + 1 := ⟨(Ordr.edges up).length - 1, by omega⟩
            have hes8 := HES8.out
            rw [hm] at hes8 he0 ⊢
            obtain ⟨E2, d2, hE2, hrow8, -, hl8⟩ := hes8
            rw [hm] at hE2 hl8
            injection hE2 with hE2 _ hd2
            subst hE2 hd2
            obtain ⟨ad, rfl⟩ : ∃ ad, E = some ad := by
              obtain ⟨ad, e, _⟩ := hrow8 (by intro h; have := congrArg List.length h; rw [ecells_length, hm] at this; simp at this)
              exact ⟨ad, e⟩
            have hc8 : w8.cell? ⟨w.heap.size, 0, none⟩ = some (.slice A1 names.length c1) := HO8.out.a.cell 0
            have HC8 := Lib.hid hc8
            have hsz8 := HO8.out.a.lt
            have HCL : Hid (∀ W, Below w8.heap.size w8 W → _) := fun W hW => cloneW (m := m) d ad (Ordr.edges up) hm (by omega) hrow8 hc8 hsz8 hW
            obtain ⟨a, hmod, ham⟩ := mod_at x (show 1 ≤ m + 1 by omega)
            have hmi : ((m + 1 : Nat) : Int) = (m : Int) + 1 := rfl
            rw [hmi] at hmod he0
            have hpos : (0 : Int) < (m : Int) + 1 := by omega
            have hx1 := Int.lt_tmod_of_pos x hpos
            have hx2 := Int.tmod_lt_of_pos x hpos
            have hx0 : 0 ≤ x.tmod ((m : Int) + 1) + ((m : Int) + 1) := by omega
            have hlm : (m : Int) + 1 ≤ 1000 := by omega
            have hlm1 : (1 : Int) ≤ (m : Int) + 1 := by omega
            have ham1 : (a : Int) ≤ m := by omega
            have HM := Lib.hid hm
            have HSH : Hid ((∀ s ∈ names, s.size ≤ maxLen) ∧ names.length ≤ 1000) := ⟨HO8.out.la.short, HO8.out.la.few.1⟩
            have hne8 : w8.heap.size ≠ w.heap.size := World.new_ne w8 _ hc8
            clear hm hmi hrow8 HES8 hempty
            have HMOD := Lib.hid hmod
            clear hmod
            go_wp2
            rw [HMOD.out]
            have hwrap : IntKind.i64.wrap ((a : Int) + 1) = (a : Int) + 1 := IntWalk.i64_in _ (by omega)
            go_region_held3 (fun W => W.cell? ⟨w.heap.size, 0, none⟩ = some (.slice A1 names.length c1))
              (go_keep)
              (first
                | (go_at_call 23; refine (HCL.out _ ?_).mono ?_; (first | exact (Below.refl _ _).drew | exact (Below.refl _ _).drew.alloc (Nat.le_refl _) _); rintro e wc ⟨base, g, cap, rfl, hbase, hownc, hcap1, hcap2, hgc, hbc, hnc, hkc⟩; have hnec : wc.heap.size ≠ w.heap.size := World.new_ne wc _ hnc)
                | (go_at_call 22; refine (deleteW (w8 := w8) (es := Ordr.edges up) (base := base) HM.out (by omega) (by omega) hcap1 hcap2 hbase HC8.out hsz8 ?_ ?_).mono ?_; (first | exact hbc | exact hbc.alloc hbc.size _); (first | exact hownc | exact hownc.alloc _); rintro e wd ⟨rfl, hownd, hbd, hnd, hkd⟩; have hned : wd.heap.size ≠ w.heap.size := World.new_ne wd _ hnd)
                | (go_at_call 13; refine (ofW (w8 := w8) (es := (Ordr.edges up).eraseIdx a) (base := base) HO8.out.la (by rw [List.length_eraseIdx, if_pos (by rw [HM.out]; omega), HM.out]; rfl) (by omega) HC8.out hsz8 ?_ ?_).mono ?_; (first | exact hbd | exact hbd.alloc hbd.size _); (first | exact hownd | exact hownd.alloc _); rintro e wf ⟨A7, m7, c7, A8, m8, c8, rfl, hlf, hbf, hnf, hkf⟩; have hnef : wf.heap.size ≠ w.heap.size := World.new_ne wf _ hnf; (first | (have hbx := hkf _ _ (hkd _ _ (hkc _ _ (Blk.new _ _ _)).2 (hkc _ _ (Blk.new _ _ _)).1); have hq0 := hbx.cell 0; have hq1 := hbx.cell 1; have hf0 := hbx.frozen 0; have hf1 := hbx.frozen 1) | (have hbx := hkf _ _ (hkd _ _ (Nat.ne_of_gt hgc) (Blk.new _ _ _)); have hq0 := hbx.cell 0; have hq1 := hbx.cell 1; have hf0 := hbx.frozen 0; have hf1 := hbx.frozen 1) | (have hbx := hkf _ _ (Blk.new _ _ _); have hq0 := hbx.cell 0; have hq1 := hbx.cell 1; have hf0 := hbx.frozen 0; have hf1 := hbx.frozen 1) | skip)))
            all_goals (first
              | have HY := Lib.hid (fin_box (w8 := w8) hbx (by first | exact Nat.le_refl _ | exact hbc.size | exact hbd.size) hbf hlf)
              | have HY := Lib.hid (FinY.mk (w8 := w8) (Blk.new wf 25 #[.slice A7 m7 c7, .slice A8 m8 c8]) (stable_lat _ _ _ _ _ hlf ((Below.refl _ _).alloc (Nat.le_refl _) _)) (hbf.alloc hbf.size _)))
            all_goals have hy := HY.out
            all_goals have ho9 := one_stable _ _ _ _ _ _ _ HO8.out hy.below
            all_goals have hy0 := hy.a.cell 0
            all_goals have hy1 := hy.a.cell 1
            all_goals have hc0 := ho9.a.cell 0
            all_goals have hc1 := ho9.a.cell 1
            all_goals have hnl := ofN_less HK.out (k := a) (by rw [HM.out]; omega)
            all_goals have hsm := rSame_any _ hy.la ho9.la
            all_goals obtain ⟨q, hq⟩ : ∃ q, ofN names ((Ordr.edges up).eraseIdx a) = q := ⟨_, rfl⟩
            all_goals rw [hq] at hnl ⊢
            all_goals have hbw := ho9.below
            all_goals have HO9 := Lib.hid ho9
            all_goals have HSM := Lib.hid hsm
            all_goals clear hy ho9 hsm hq HY HO8 HCL hlf hbf hnf hkf hbd hnd hkd hownd hbc hnc hkc hownc hnef hned hnec hne8
            all_goals try clear hbx hq0 hq1 hf0 hf1
            all_goals
              by_cases hqz : q = 0
              · subst hqz
                have hne := hnl rfl
                have hsm := HSM.out
                rw [show sameLat (ofNames names ((Ordr.edges up).eraseIdx a)) (ofUp names ((Ordr.edges up).eraseIdx a)) names up = false by unfold sameLat; rw [decide_eq_false hne, Bool.and_false]] at hsm
                have HSM2 := Lib.hid hsm
                clear hsm HSM hnl hne
                try rw [show ((0 : Nat) : Int) = 0 from rfl]
                go_wp2_with (fail)
                refine HSM2.out.mono ?_
                rintro e w9 ⟨rfl, hb9⟩
                have hbz := hbw.trans (hb9.mono hbw.size)
                go_wp2
                go_ret
                exact ⟨rfl, hbz⟩
              · have hqb : ((q : Int) != 0) = true := by rw [bne_iff_ne]; omega
                have hqc : ((q : Int) == 0) = false := by rw [beq_eq_false_iff_ne]; omega
                clear hnl HSM hqz
                go_wp2
                go_ret
                exact ⟨rfl, hbw⟩
        · have hz1 : ((k : Int) == 0) = false := by rw [beq_eq_false_iff_ne]; omega
          have hz2 : ((k : Int) != 0) = true := by rw [bne_iff_ne]; omega
          rw [if_neg hz] at hed
          have HED := Lib.hid hed
          clear hed hz
          go_wp2_with (fail)
          refine HED.out.mono ?_
          rintro e w4 ⟨xe, rfl, hes, hb4⟩
          obtain ⟨E, d, rfl, hE, hd, hel⟩ := hes
          have ho4 := one_stable _ _ _ _ _ _ _ HO3.out hb4
          have HO4 := Lib.hid ho4
          clear ho4 hb4 hE HED HO3
          go_wp2_with (fail)
          refine (alive2_any _).mono ?_
          rintro e w5 ⟨rfl, hb5⟩
          have ho5 := one_stable _ _ _ _ _ _ _ HO4.out hb5
          have hc0 := ho5.a.cell 0
          have hc1 := ho5.a.cell 1
          have HC5 := Lib.hid (HCH.out _ ho5)
          have HO5 := Lib.hid ho5
          clear ho5 hb5 HO4 HCH
          go_wp2_with (fail)
          refine HC5.out.mono ?_
          rintro e w6 ⟨rfl, hb6⟩
          go_wp2
          go_ret
          exact ⟨rfl, (one_stable _ _ _ _ _ _ _ HO5.out hb6).below⟩
end Go.Proofs.Ytaingkjleelbfaa
