/- The reference's answers for package judge: May, Thing. -/
import Derived.Test.YtggcmkpafpjnoaaGJudC
import Derived.Test.YtggcmkpafpjnoaaGRulD
namespace Go.Proofs.Ytggcmkpafpjnoaa
set_option maxRecDepth 100000
open Go.RowKit Go.Shelf

set_option maxHeartbeats 2000000 in
theorem jmay_any {v : Value} {names : List ByteArray} {up : List Nat} {R L : Option Addr} {rule labs : List Int} (cr cl : Nat) (sort : Bool) (w : World) (h : IsLat w w.heap.size v names up) (hr : Row w w.heap.size R (ints rule)) (hrl : rule.length ≤ 100000) (hl : Row w w.heap.size L (ints labs)) (_ : labs.length ≤ 1000000) :
    Calls Try.prog 9 #[v, .slice R rule.length cr, .slice L labs.length cl, .bool sort] w (Whyed w (jWhy names up rule labs sort)) := by
  have h' := h
  obtain ⟨⟨A, A', c, c', rfl, hN, hU⟩, -, ⟨-, hf2⟩, -⟩ := h'
  have hb0 : Below w.heap.size w (w.alloc (.cells #[.slice A names.length c, .slice A' up.length c'] 25)) := (Below.refl _ w).alloc (Nat.le_refl _) _
  have p0 : Blk (w.alloc (.cells #[.slice A names.length c, .slice A' up.length c'] 25)) w.heap.size 25 #[.slice A names.length c, .slice A' up.length c'] := Blk.new _ _ _
  have hch := rCheck_any _ (h.boxed (.cells #[.slice A names.length c, .slice A' up.length c'] 25))
  rw [← check_same] at hch
  have hri := fun W (hb : Below w.heap.size w W) => rRight_any cr sort W ((hr.below hb).more hb.size) hrl
  have HJ : Hid (jWhy names up rule labs sort = if checkN names up = 0 then if Rl.right rule sort = true then if labsOk up labs = true then 0 else 9 else 1 else checkN names up) := rfl
  obtain ⟨res, hres⟩ : ∃ res, jWhy names up rule labs sort = res := ⟨_, rfl⟩
  rw [hres] at HJ ⊢
  obtain ⟨n, hn⟩ : ∃ n, checkN names up = n := ⟨_, rfl⟩
  rw [hn] at hch HJ
  obtain ⟨ok, hok⟩ : ∃ ok, Rl.right rule sort = ok := ⟨_, rfl⟩
  rw [hok] at hri HJ
  have HP0 := Lib.hid p0
  have HB0 := Lib.hid hb0
  have HCH := Lib.hid hch
  have HRI := Lib.hid hri
  have HL := Lib.hid hl
  unfold Whyed
  clear p0 hb0 hch hri hres hn hok h hr hN hU hrl hl
  by_cases hz : n = 0
  · subst hz
    cases ok with
    | false =>
      go_enter Try.func9, Try.ntmps9
      go_wp2_with (fail)
      refine HCH.out.mono ?_
      rintro e w1 ⟨rfl, hb1⟩
      have HB1 := Lib.hid (HB0.out.trans (hb1.mono (by simp)))
      have HR1 := Lib.hid (HRI.out w1 HB1.out)
      clear hb1
      go_wp2_with (fail)
      refine HR1.out.mono ?_
      rintro e w2 ⟨rfl, hb2⟩
      have HB2 := Lib.hid (HB1.out.trans (hb2.mono HB1.out.size))
      clear hb2
      go_wp2
      go_ret
      exact ⟨ret_i64 (by rw [HJ.out]; simp), HB2.out⟩
    | true =>
      go_enter Try.func9, Try.ntmps9
      go_wp2_with (fail)
      refine HCH.out.mono ?_
      rintro e w1 ⟨rfl, hb1⟩
      have HB1 := Lib.hid (HB0.out.trans (hb1.mono (by simp)))
      have HR1 := Lib.hid (HRI.out w1 HB1.out)
      have HP1 := Lib.hid (HP0.out.below hb1 (by simp))
      clear hb1
      go_wp2_with (fail)
      refine HR1.out.mono ?_
      rintro e w2 ⟨rfl, hb2⟩
      have HB2 := Lib.hid (HB1.out.trans (hb2.mono HB1.out.size))
      have hc1 : w2.cell? ⟨w.heap.size, 1, none⟩ = some (.slice A' up.length c') := by rw [(HP1.out.below hb2 HP1.out.lt).cell]; rfl
      clear hb2
      go_wp2
      go_loopw [23] (fun i wr => ∃ (k : Nat), k ≤ labs.length ∧ i = .int .i64 k ∧ wr = w2 ∧ Hid (∀ a ∈ labs.take k, 0 ≤ a ∧ a < up.length)) (fun i _ => labs.length - (intOf i).toNat)
      case atStart => exact ⟨0, Nat.zero_le _, rfl, rfl, Lib.hid (by simp)⟩
      case round =>
        obtain ⟨k, hk, rfl, rfl, HK⟩ := hrel
        by_cases hlt : k < labs.length
        · obtain ⟨ad, hA, hb, c0⟩ := irow_at (HL.out.below HB2.out) hlt
          have HMEM := Lib.hid (List.getElem_mem hlt)
          have HTK := Lib.hid (take_next hlt)
          rw [hA]
          clear hA
          generalize labs[k] = x at *
          by_cases hx0 : x < 0
          · go_wp2
            go_ret
            refine ⟨ret_i64 ?_, HB2.out⟩
            have : labsOk up labs = false := decide_eq_false fun h1 => by have := (h1.2 x HMEM.out).1; omega
            rw [HJ.out, this]
            simp
          · by_cases hx1 : (up.length : Int) ≤ x
            · go_wp2
              go_ret
              refine ⟨ret_i64 ?_, HB2.out⟩
              have : labsOk up labs = false := decide_eq_false fun h1 => by have := (h1.2 x HMEM.out).2; omega
              rw [HJ.out, this]
              simp
            · have HNX : Hid (∀ a ∈ labs.take (k + 1), 0 ≤ a ∧ a < up.length) := Lib.hid (by
                rw [HTK.out]
                intro a ha
                rcases List.mem_append.1 ha with ha | ha
                · exact HK.out a ha
                · rw [List.mem_singleton.1 ha]; omega)
              go_wp2
              go_roundw
              case rel => exact ⟨k + 1, by omega, by go_num, trivial, HNX⟩
              case measure => simp [intOf]; omega
        · obtain rfl : k = labs.length := by omega
          have HA := HK.out
          rw [List.take_length] at HA
          have HA2 := Lib.hid HA
          clear HA
          by_cases h4 : labs.length = 4
          · have hlen : ((labs.length : Int) == 4) = true := by rw [h4]; rfl
            go_wp2
            go_ret
            refine ⟨ret_i64 ?_, HB2.out⟩
            have : labsOk up labs = true := decide_eq_true ⟨h4, HA2.out⟩
            rw [HJ.out, this]
            simp
          · have hlen : ((labs.length : Int) == 4) = false := by rw [beq_eq_false_iff_ne]; omega
            go_wp2
            go_ret
            refine ⟨ret_i64 ?_, HB2.out⟩
            have : labsOk up labs = false := decide_eq_false fun h1 => h4 h1.1
            rw [HJ.out, this]
            simp
  · have hz1 : ((n : Int) == 0) = false := by rw [beq_eq_false_iff_ne]; omega
    have hz2 : ((n : Int) != 0) = true := by rw [bne_iff_ne]; omega
    go_enter Try.func9, Try.ntmps9
    go_wp2_with (fail)
    refine HCH.out.mono ?_
    rintro e w1 ⟨rfl, hb1⟩
    have HB1 := Lib.hid (HB0.out.trans (hb1.mono (by simp)))
    clear hb1
    go_wp2
    go_ret
    exact ⟨ret_i64 (by rw [HJ.out, if_neg hz]), HB1.out⟩
end Go.Proofs.Ytggcmkpafpjnoaa

/- The reference's Thing: one number. -/
namespace Go.Proofs.Ytggcmkpafpjnoaa
set_option maxRecDepth 100000
open Go.RowKit Go.Shelf

/-- What a thing comes to, and where it begins. -/
def GaveV (w : World) (x : Jg.Th) (from_ : Nat) (e : Ending) (w' : World) : Prop := e = .returned (.agg #[.bool (Jg.Is x), .int .i64 (Jg.A x : Nat), .int .i64 (from_ : Nat)]) ∧ Below w.heap.size w w'
theorem bot_same {names : List ByteArray} {up : List Nat} (hz : checkN names up = 0) (labs : List Int) {w : World} {v : Value} (h : IsLat w w.heap.size v names up) : Calls Try.prog 36 #[v] w fun e w' => e = .returned (.int .i64 ((jops up labs).bot : Nat)) ∧ Below w.heap.size w w' := by
  have hL := latt_of hz
  have := rBottom_any w h hL.one (fun a b ha hb => hL.meet ha hb)
  rw [← hL.bottom] at this
  exact this
theorem top_same {names : List ByteArray} {up : List Nat} (hz : checkN names up = 0) (labs : List Int) {w : World} {v : Value} (h : IsLat w w.heap.size v names up) : Calls Try.prog 37 #[v] w fun e w' => e = .returned (.int .i64 ((jops up labs).top : Nat)) ∧ Below w.heap.size w w' := by
  have hL := latt_of hz
  have := rTop_any w h hL.one (fun a b ha hb => hL.join ha hb)
  rw [← hL.top] at this
  exact this
theorem labs_at {w : World} {B : Nat} {L : Option Addr} {up : List Nat} {labs : List Int} (hlab : Labs w B L up labs) : ∃ ad, L = some ad ∧ ad.block < B ∧ w.cell? ad = some (.int .i64 ((jops up labs).lab 0 : Nat)) ∧ w.cell? ⟨ad.block, ad.off + 1, none⟩ = some (.int .i64 ((jops up labs).lab 1 : Nat)) ∧ w.cell? ⟨ad.block, ad.off + 2, none⟩ = some (.int .i64 ((jops up labs).lab 2 : Nat)) ∧ w.cell? ⟨ad.block, ad.off + 3, none⟩ = some (.int .i64 ((jops up labs).lab 3 : Nat)) := by
  have h4 := hlab.four
  obtain ⟨ad, hL, hlb, d0⟩ := irow_at hlab.row (k := 0) (by omega)
  obtain ⟨_, hL1, _, d1⟩ := irow_at hlab.row (k := 1) (by omega)
  obtain ⟨_, hL2, _, d2⟩ := irow_at hlab.row (k := 2) (by omega)
  obtain ⟨_, hL3, _, d3⟩ := irow_at hlab.row (k := 3) (by omega)
  subst hL
  injection hL1 with hL1
  injection hL2 with hL2
  injection hL3 with hL3
  subst hL1 hL2 hL3
  have hk : ∀ (k : Nat) (hk : k < 4), labs[k] = ((jops up labs).lab k : Int) := fun k hk => by
    have := (hlab.ok _ (List.getElem_mem (show k < labs.length by omega))).1
    show _ = (((labs.getD k 0).toNat : Nat) : Int)
    rw [List.getD_eq_getElem?_getD, List.getElem?_eq_getElem (by omega)]
    simp only [Option.getD_some]
    omega
  rw [hk 0 (by omega)] at d0
  rw [hk 1 (by omega)] at d1
  rw [hk 2 (by omega)] at d2
  rw [hk 3 (by omega)] at d3
  exact ⟨ad, rfl, hlb, d0, d1, d2, d3⟩
set_option maxHeartbeats 4000000 in
theorem rThing_leaf {v : Value} {names : List ByteArray} {up : List Nat} {R L : Option Addr} {rule labs : List Int} (cr cl : Nat) (n : Int) (i : Nat) (hn : n = 1 ∨ n = 2 ∨ n = 6 ∨ n = 7 ∨ n = 8 ∨ n = 9 ∨ n = 10 ∨ n = 11) (hi : rule[i]? = some n) (_ : rule.length ≤ 1000000) (w : World) (h : IsLat w w.heap.size v names up) (hz : checkN names up = 0) (hr : Row w w.heap.size R (ints rule)) (hlab : Labs w w.heap.size L up labs) :
    Calls Try.prog 22 #[v, .slice R rule.length cr, .slice L labs.length cl, .int .i64 (i : Int)] w (GaveV w (Jg.one (jops up labs) n) i) := by
  have h' := h
  obtain ⟨⟨A, A', c, c', rfl, hN, hU⟩, -, -, -⟩ := h'
  have hlt : i < rule.length := (List.getElem?_eq_some_iff.1 hi).1
  have hn' : rule[i] = n := by rw [List.getElem?_eq_getElem hlt] at hi; injection hi
  have h4 := hlab.four
  have hb0 : Below w.heap.size w ((w.alloc (.cells #[.slice A names.length c, .slice A' up.length c'] 25)).alloc (.cells #[.bool false, .int .i64 0, .int .i64 0] 36)) := ((Below.refl _ w).alloc (Nat.le_refl _) _).alloc (by simp) _
  obtain ⟨ra, hR, hrb, r0⟩ := irow_at (hr.below hb0) hlt
  rw [hn'] at r0
  have p0 : Blk ((w.alloc (.cells #[.slice A names.length c, .slice A' up.length c'] 25)).alloc (.cells #[.bool false, .int .i64 0, .int .i64 0] 36)) (w.heap.size + 1) 36 #[.bool false, .int .i64 0, .int .i64 0] := by
    have := Blk.new (w.alloc (.cells #[.slice A names.length c, .slice A' up.length c'] 25)) 36 #[.bool false, .int .i64 0, .int .i64 0]
    simpa using this
  have hl2 := (h.below hb0).more hb0.size
  have hbo := bot_same hz labs hl2
  have hto := top_same hz labs hl2
  obtain ⟨ad, rfl, hlb, d0, d1, d2, d3⟩ := labs_at (hlab.below hb0)
  subst hR
  have HB0 := Lib.hid hb0
  have HP0 := Lib.hid p0
  have HBO := Lib.hid hbo
  have HTO := Lib.hid hto
  clear hb0 p0 hbo hto h hz hr hlab hl2 hN hU hi hn'
  rw [h4]
  unfold GaveV
  rcases hn with rfl | rfl | rfl | rfl | rfl | rfl | rfl | rfl
  · go_enter Try.func22, Try.ntmps22
    go_wp2
    go_returns
    exact ⟨rfl, by go_grown⟩
  · go_enter Try.func22, Try.ntmps22
    go_wp2
    go_returns
    exact ⟨rfl, by go_grown⟩
  · go_enter Try.func22, Try.ntmps22
    go_wp2_with (fail)
    refine HBO.out.mono ?_
    rintro e w1 ⟨rfl, hb1⟩
    have hp1 := HP0.out.below hb1 HP0.out.lt
    have f0 := hp1.frozen 0
    have f1 := hp1.frozen 1
    have f2 := hp1.frozen 2
    have c0 := hp1.cell 0
    have c1 := hp1.cell 1
    have c2 := hp1.cell 2
    have HB1 := Lib.hid (HB0.out.trans (hb1.mono (by simp; omega)))
    clear hb1
    go_wp2
    obtain ⟨W, hW⟩ : ∃ W, ((w1.setCell ⟨w.heap.size + 1, 0, none⟩ (.bool false)).setCell ⟨w.heap.size + 1, 1, none⟩ (.int .i64 ((jops up labs).bot : Nat))).setCell ⟨w.heap.size + 1, 2, none⟩ (.int .i64 (i : Int)) = W := ⟨_, rfl⟩
    have hbW : Below w.heap.size w W := hW ▸ ((HB1.out.setCell (p := ⟨w.heap.size + 1, 0, none⟩) (by simp) _).setCell (p := ⟨w.heap.size + 1, 1, none⟩) (by simp) _).setCell (p := ⟨w.heap.size + 1, 2, none⟩) (by simp) _
    have hpW : Blk W (w.heap.size + 1) 36 #[.bool false, .int .i64 ((jops up labs).bot : Nat), .int .i64 (i : Int)] := hW ▸ ((hp1.set_ 0 _).set_ 1 _).set_ 2 _
    rw [hW]
    clear hW c0 c1 c2
    have c0 := hpW.cell 0
    have c1 := hpW.cell 1
    have c2 := hpW.cell 2
    exact bodyPost_ret (v := .agg #[.bool false, .int .i64 ((jops up labs).bot : Nat), .int .i64 (i : Int)]) (by simp [results, Try.results22, go_sem, c0, c1, c2]) rfl ⟨rfl, hbW⟩
  · go_enter Try.func22, Try.ntmps22
    go_wp2_with (fail)
    refine HTO.out.mono ?_
    rintro e w1 ⟨rfl, hb1⟩
    have hp1 := HP0.out.below hb1 HP0.out.lt
    have f0 := hp1.frozen 0
    have f1 := hp1.frozen 1
    have f2 := hp1.frozen 2
    have c0 := hp1.cell 0
    have c1 := hp1.cell 1
    have c2 := hp1.cell 2
    have HB1 := Lib.hid (HB0.out.trans (hb1.mono (by simp; omega)))
    clear hb1
    go_wp2
    obtain ⟨W, hW⟩ : ∃ W, ((w1.setCell ⟨w.heap.size + 1, 0, none⟩ (.bool false)).setCell ⟨w.heap.size + 1, 1, none⟩ (.int .i64 ((jops up labs).top : Nat))).setCell ⟨w.heap.size + 1, 2, none⟩ (.int .i64 (i : Int)) = W := ⟨_, rfl⟩
    have hbW : Below w.heap.size w W := hW ▸ ((HB1.out.setCell (p := ⟨w.heap.size + 1, 0, none⟩) (by simp) _).setCell (p := ⟨w.heap.size + 1, 1, none⟩) (by simp) _).setCell (p := ⟨w.heap.size + 1, 2, none⟩) (by simp) _
    have hpW : Blk W (w.heap.size + 1) 36 #[.bool false, .int .i64 ((jops up labs).top : Nat), .int .i64 (i : Int)] := hW ▸ ((hp1.set_ 0 _).set_ 1 _).set_ 2 _
    rw [hW]
    clear hW c0 c1 c2
    have c0 := hpW.cell 0
    have c1 := hpW.cell 1
    have c2 := hpW.cell 2
    exact bodyPost_ret (v := .agg #[.bool false, .int .i64 ((jops up labs).top : Nat), .int .i64 (i : Int)]) (by simp [results, Try.results22, go_sem, c0, c1, c2]) rfl ⟨rfl, hbW⟩
  all_goals
    go_enter Try.func22, Try.ntmps22
    go_wp2
    go_returns
    exact ⟨rfl, by go_grown⟩
end Go.Proofs.Ytggcmkpafpjnoaa
