/- The walk of the law DrawAgain. -/
import Derived.Test.YtklljmcadhkkpaaDrwG
namespace Go.Proofs.Ytklljmcadhkkpaa
set_option maxRecDepth 100000
open Go.RowKit Go.Shelf
attribute [local go_sem] Oper.semAt_some

/-- Many, of new draws, where it chooses. -/
theorem many13_new {A B : Option Addr} {la lb ch : List Int} (N M c d en : Nat) (W : World) (hA : Row W W.heap.size A (ints la)) (hB : Row W W.heap.size B (ints lb)) (hN : la.length = N) (hM : lb.length = M) (hN5 : N ≤ 500) (hM3 : M ≤ 300) (he : Dr.err lb 0 = 0) (hbd : ∀ b ∈ lb, b < 9223372036854775808)
    (hch : Dr.chs la lb 0 = ch) (hen : Dr.ends la M 0 = en) :
    Calls Try.prog 8 #[.agg #[.slice A N c, .int .i64 0, .slice none 0 0], .slice B M d] W (fun e w' => ∃ A c L d' M' f, e = .returned (.tuple #[.agg #[.slice A N c, .int .i64 (en : Int), .slice L M d'], .slice M' M f, .int .i64 0]) ∧
      Row w' w'.heap.size L (ints ch) ∧ Row w' w'.heap.size M' (ints ch) ∧ Below W.heap.size W w') := by
  have h := many13_yes (L := none) (log := []) N c 0 0 M d 0 W hA Row.nil hB hN rfl hM (decide_eq_true (show N ≤ 500 ∧ 0 ≤ 2000 ∧ (0 : Int) ≤ ((0 : Nat) : Int) from ⟨hN5, by decide, by decide⟩)) (by omega) (by decide) hbd
  refine h.mono fun e w' hp => ?_
  rw [if_pos he, hch, hen] at hp
  obtain ⟨A', c', L', d', M', f', rfl, -, h2, h3, h4⟩ := hp
  rw [Nat.zero_add, List.nil_append] at h2
  exact ⟨A', c', L', d', M', f', by rw [Nat.zero_add], (ownT_row h2).1, (ownT_row h3).1, h4⟩
/-- Many, of new draws, where it does not. -/
theorem many13_non {A B : Option Addr} {la lb : List Int} (N M c d : Nat) (hN : la.length = N) (hM : lb.length = M) (hM3 : M ≤ 300) (hbd : ∀ b ∈ lb, b < 9223372036854775808) (hno : ¬ (N ≤ 500 ∧ Dr.err lb 0 = 0)) :
    ∃ er : Nat, er ≠ 0 ∧ ∀ W, Row W W.heap.size A (ints la) → Row W W.heap.size B (ints lb) → Calls Try.prog 8 #[.agg #[.slice A N c, .int .i64 0, .slice none 0 0], .slice B M d] W (None13 W er) := by
  by_cases hN5 : N ≤ 500
  · have he : Dr.err lb 0 ≠ 0 := fun e => hno ⟨hN5, e⟩
    refine ⟨Dr.err lb 0, he, fun W hA hB => ?_⟩
    have h := many13_yes (L := none) (log := []) N c 0 0 M d 0 W hA Row.nil hB hN rfl hM (decide_eq_true (show N ≤ 500 ∧ 0 ≤ 2000 ∧ (0 : Int) ≤ ((0 : Nat) : Int) from ⟨hN5, by decide, by decide⟩)) (by omega) (by decide) hbd
    refine h.mono fun e w' hp => ?_
    rw [if_neg he] at hp
    exact hp
  · exact ⟨1, by decide, fun W _ _ => many13_no N c 0 0 M d 0 W (decide_eq_false fun h => hN5 h.1)⟩
set_option maxRecDepth 100000 in
set_option maxHeartbeats 8000000 in
theorem again13_non {A B : Option Addr} {la lb : List Int} (an bn c d N M : Nat) (w : World) (hA : Row w w.heap.size A (ints la)) (hB : Row w w.heap.size B (ints lb)) (hN : la.length = N) (hM : lb.length = M) (hmin : min (an : Int) 503 = (N : Int)) (hmin2 : min (bn : Int) 300 = (M : Int)) (hc : an ≤ c) (hd : bn ≤ d)
    (hbd : ∀ b ∈ lb, b < 9223372036854775808) (hno : ¬ (N ≤ 500 ∧ Dr.err lb 0 = 0)) :
    Calls Try.prog 4 #[.slice A an c, .slice B bn d] w (Tells w true) := by
  have hN1 : N ≤ an := by omega
  have hM1 : M ≤ bn := by omega
  have hN2 : N ≤ 503 := by omega
  have hM2 : M ≤ 300 := by omega
  have hnew : ∀ W, Below w.heap.size w W → Calls Try.prog 9 #[.slice A N c] W (fun e w' => ∃ A' c', e = .returned (.agg #[.slice A' N c', .int .i64 0, .slice none 0 0]) ∧ Row w' w'.heap.size A' (ints la) ∧ Below W.heap.size W w') := fun W hW => by
    have h := new13_any c la W ((hA.below hW).more hW.size) (by omega)
    rw [hN] at h
    refine h.mono ?_
    rintro e w' ⟨A', c', rfl, ho, hb⟩
    rw [hN] at ho ⊢
    exact ⟨A', c', rfl, (ownT_row ho).1, hb⟩
  have hmany : ∀ (A' : Option Addr) (c' : Nat), ∃ er : Nat, er ≠ 0 ∧ ∀ W, Row W W.heap.size A' (ints la) → Below w.heap.size w W → Calls Try.prog 8 #[.agg #[.slice A' N c', .int .i64 0, .slice none 0 0], .slice B M d] W (None13 W er) := fun A' c' => by
    obtain ⟨er, h1, h2⟩ := many13_non (A := A') (B := B) N M c' d hN hM hM2 hbd hno
    exact ⟨er, h1, fun W hr hW => h2 W hr ((hB.below hW).more hW.size)⟩
  have HN := Lib.hid hnew
  have HM := Lib.hid hmany
  clear hA hB hN hM hnew hmany hbd hno
  go_enter Try.func4, Try.ntmps4
  go_wp2
  go_region
  go_wp2_with (fail)
  have HB0 := Lib.hid ((Below.refl w.heap.size w).drew)
  refine (HN.out _ HB0.out).mono ?_
  rintro e w1 ⟨A1, c1, rfl, hr1, hb1⟩
  have HB1 := Lib.hid (HB0.out.trans (hb1.mono HB0.out.size))
  have HR1 := Lib.hid hr1
  clear hb1 hr1
  obtain ⟨er, her, hmn⟩ := HM.out A1 c1
  have hez : ((er : Int) != 0) = true := by rw [bne_iff_ne]; omega
  have HMN := Lib.hid hmn
  clear hmn
  go_wp2_with (fail)
  refine (HMN.out _ HR1.out HB1.out).mono ?_
  rintro e w2 ⟨rfl, hb2⟩
  have hb3 := HB1.out.trans (hb2.mono HB1.out.size)
  have hk := Blk.new w2 27 #[.slice none 0 0, .int .i64 0, .slice none 0 0]
  obtain ⟨Y1, Y2, Y3, e0, e1, e2, f0, f1, f2, g0, g1, g2, r0, r1, r2, -, -, HYB⟩ := n3_steps hk (.slice none 0 0) (.int .i64 0) (.slice none 0 0)
  have HB3 := Lib.hid (HYB.out _ _ hb3.size (hb3.alloc hb3.size (.cells #[.slice none 0 0, .int .i64 0, .slice none 0 0] 27)))
  clear hb2 hb3 hk HYB
  go_wp2_with (fail)
  refine (alive13_any _).mono ?_
  rintro e w4 ⟨rfl, hb4⟩
  have HB4 := Lib.hid (HB3.out.trans (hb4.mono HB3.out.size))
  clear hb4
  go_wp2
  go_ret
  exact ⟨rfl, HB4.out⟩
set_option maxRecDepth 100000 in
set_option maxHeartbeats 16000000 in
theorem again13_yes {A B : Option Addr} {la lb ch : List Int} (an bn c d N M en : Nat) (w : World) (hA : Row w w.heap.size A (ints la)) (hB : Row w w.heap.size B (ints lb)) (hN : la.length = N) (hM : lb.length = M) (hmin : min (an : Int) 503 = (N : Int)) (hmin2 : min (bn : Int) 300 = (M : Int)) (hc : an ≤ c) (hd : bn ≤ d)
    (hbd : ∀ b ∈ lb, b < 9223372036854775808) (hN5 : N ≤ 500) (he : Dr.err lb 0 = 0) (hch : Dr.chs la lb 0 = ch) (hen : Dr.ends la M 0 = en) :
    Calls Try.prog 4 #[.slice A an c, .slice B bn d] w (Tells w true) := by
  have hN1 : N ≤ an := by omega
  have hM1 : M ≤ bn := by omega
  have hN2 : N ≤ 503 := by omega
  have hM2 : M ≤ 300 := by omega
  have hcl : ch.length = M := by rw [← hch, Dr.chs_length]; exact hM
  have hone := (Dr.err_none he (by decide)).1
  have hag : Dr.chs ch lb 0 = ch := by
    have h := Dr.chs_again la lb [] 0 hone
    rw [hch] at h
    exact h
  have hen2 : Dr.ends ch M 0 = M := by rw [Dr.ends_eq ch M 0 (Nat.zero_le _), hcl]; omega
  have hmin3 : min (N : Int) (M : Int) = (en : Int) := by
    have h := Dr.ends_eq la M 0 (Nat.zero_le _)
    rw [hen, hN] at h
    omega
  have hat : ∀ (k : Nat) (b : Int), lb[k]? = some b → ∃ x, ch[k]? = some x ∧ 0 ≤ x ∧ x < b ∧ (N ≤ k → x = 0) := fun k b hb => by
    have h1 := Dr.chs_at la lb 0 k b hb
    rw [hch] at h1
    obtain ⟨h2, h3⟩ := Dr.choice_low (list := la) (i := Dr.ends la k 0) (hone b (List.mem_of_getElem? hb))
    exact ⟨_, h1, h2, h3, fun h => Dr.choice_end b (by omega)⟩
  have hnew : ∀ W, Below w.heap.size w W → Calls Try.prog 9 #[.slice A N c] W (fun e w' => ∃ A' c', e = .returned (.agg #[.slice A' N c', .int .i64 0, .slice none 0 0]) ∧ Row w' w'.heap.size A' (ints la) ∧ Below W.heap.size W w') := fun W hW => by
    have h := new13_any c la W ((hA.below hW).more hW.size) (by omega)
    rw [hN] at h
    refine h.mono ?_
    rintro e w' ⟨A', c', rfl, ho, hb⟩
    rw [hN] at ho ⊢
    exact ⟨A', c', rfl, (ownT_row ho).1, hb⟩
  have hnew2 : ∀ (L : Option Addr) (f : Nat) W, Row W W.heap.size L (ints ch) → Calls Try.prog 9 #[.slice L M f] W (fun e w' => ∃ A' c', e = .returned (.agg #[.slice A' M c', .int .i64 0, .slice none 0 0]) ∧ Row w' w'.heap.size A' (ints ch) ∧ Below W.heap.size W w') := fun L f W hW => by
    have h := new13_any f ch W hW (by omega)
    rw [hcl] at h
    refine h.mono ?_
    rintro e w' ⟨A', c', rfl, ho, hb⟩
    rw [hcl] at ho ⊢
    exact ⟨A', c', rfl, (ownT_row ho).1, hb⟩
  have hmany := fun (A' : Option Addr) (c' : Nat) (W : World) (hr : Row W W.heap.size A' (ints la)) (hW : Below w.heap.size w W) => many13_new N M c' d en W hr ((hB.below hW).more hW.size) hN hM hN5 hM2 he hbd hch hen
  have hmany2 := fun (A' : Option Addr) (c' : Nat) (W : World) (hr : Row W W.heap.size A' (ints ch)) (hW : Below w.heap.size w W) => many13_new M M c' d M W hr ((hB.below hW).more hW.size) hcl hM (by omega) hM2 he hbd hag hen2
  have hints : ∀ (L1 L2 : Option Addr) (f g : Nat) (W : World), Row W W.heap.size L1 (ints ch) → Row W W.heap.size L2 (ints ch) → Calls Try.prog 10 #[.slice L1 M f, .slice L2 M g] W (Tells W true) := fun L1 L2 f g W h1 h2 => by
    have h := rInts13_any f g W h1 h2 (by omega) (by omega)
    rwa [hcl, decide_eq_true (rfl : ch = ch)] at h
  have HN := Lib.hid hnew
  have HN2 := Lib.hid hnew2
  have HM := Lib.hid hmany
  have HM2 := Lib.hid hmany2
  have HI := Lib.hid hints
  have HAT := Lib.hid hat
  have HBR := Lib.hid hB
  have HML := Lib.hid hM
  have HCL := Lib.hid hcl
  clear hA hB hN hM hnew hmany hbd hN5 he hch hen hcl hone hag hen2 hat hnew2 hmany2 hints
  go_enter Try.func4, Try.ntmps4
  go_wp2
  go_region
  go_wp2_with (fail)
  have HB0 := Lib.hid ((Below.refl w.heap.size w).drew)
  refine (HN.out _ HB0.out).mono ?_
  rintro e w1 ⟨A1, c1, rfl, hr1, hb1⟩
  have HB1 := Lib.hid (HB0.out.trans (hb1.mono HB0.out.size))
  have HR1 := Lib.hid hr1
  clear hb1 hr1
  go_wp2_with (fail)
  refine (HM.out _ _ _ HR1.out HB1.out).mono ?_
  rintro e w2 ⟨A2, c2, L2, d2, Q2, f2, rfl, hrl, hrq, hb2⟩
  have hb3 := HB1.out.trans (hb2.mono HB1.out.size)
  have hk := Blk.new w2 27 #[.slice none 0 0, .int .i64 0, .slice none 0 0]
  obtain ⟨Y1, Y2, Y3, e0, e1, e2, f0, f1, f2', g0, g1, g2, r0, r1, r2, hky, -, HYB⟩ := n3_steps hk (.slice A2 N c2) (.int .i64 (en : Int)) (.slice L2 M d2)
  have hby : Below w2.heap.size w2 Y3 := HYB.out _ _ (Nat.le_refl _) ((Below.refl _ w2).alloc (Nat.le_refl _) (.cells #[.slice none 0 0, .int .i64 0, .slice none 0 0] 27))
  have HB3 := Lib.hid (hb3.trans (hby.mono hb3.size))
  have HRL := Lib.hid ((hrl.below hby).more hby.size)
  have HRQ := Lib.hid ((hrq.below hby).more hby.size)
  have HKY := hky
  clear hb2 hb3 hk HYB hby hrl hrq hky HN HM HR1 HB1 HB0
  go_wp2_with (fail)
  refine (HI.out _ _ _ _ _ HRL.out HRQ.out).mono ?_
  rintro e w4 ⟨rfl, hb4⟩
  have HB4 := Lib.hid (HB3.out.trans (hb4.mono HB3.out.size))
  have HQ4 := Lib.hid ((HRQ.out.below hb4).more hb4.size)
  have HK4 := Lib.hid (HKY.out.below hb4 HKY.out.lt)
  clear hb4 HRL HRQ HKY HB3 e0 e1 e2 f0 f1 f2' g0 g1 g2 r0 r1 r2
  go_wp2_with (fail)
  refine (alive13_any _).mono ?_
  rintro e w5 ⟨rfl, hb5⟩
  have HB5 := Lib.hid (HB4.out.trans (hb5.mono HB4.out.size))
  have HQ5 := Lib.hid ((HQ4.out.below hb5).more hb5.size)
  have HK5 := Lib.hid (HK4.out.below hb5 HK4.out.lt)
  clear hb5 HQ4 HK4 HB4
  go_wp2
  go_loopw [57] (fun iv wr => ∃ k : Nat, k ≤ M ∧ iv = .int .i64 k ∧ Hid (Below w5.heap.size w5 wr)) (fun iv _ => M - (intOf iv).toNat)
  case atStart => exact ⟨0, Nat.zero_le _, rfl, Lib.hid (Below.refl _ _)⟩
  case round =>
    obtain ⟨k, hk, rfl, HBk⟩ := hrel
    by_cases hlt : k < M
    · have hbw := HB5.out.trans (HBk.out.mono HB5.out.size)
      obtain ⟨bd, hBB, hbb, cb⟩ := irow_at ((HBR.out.below hbw).more hbw.size) (show k < lb.length by rw [HML.out]; exact hlt)
      have hb : lb[k]? = some (lb[k]'(by rw [HML.out]; exact hlt)) := List.getElem?_eq_getElem _
      obtain ⟨x, hx, hx0, hxb, hxz⟩ := HAT.out k _ hb
      obtain ⟨qd, hQQ, hqb, cq⟩ := irow_at ((HQ5.out.below HBk.out).more HBk.out.size) (show k < ch.length by rw [HCL.out]; exact hlt)
      rw [List.getElem?_eq_getElem (show k < ch.length by rw [HCL.out]; exact hlt)] at hx
      injection hx with hx
      rw [hx] at cq
      generalize lb[k]'(by rw [HML.out]; exact hlt) = b at *
      subst hBB hQQ
      have h1 : decide (x < 0) = false := decide_eq_false (by omega)
      have h2 : decide (x ≥ b) = false := decide_eq_false (by omega)
      by_cases hNk : N ≤ k
      · obtain rfl := hxz hNk
        clear hb hx hx0 hxb hxz hbw hbb hqb
        go_wp2
        go_roundw
        case rel => exact ⟨k + 1, by omega, by go_num, HBk⟩
        case measure => simp [intOf]; omega
      · clear hb hx hx0 hxb hxz hbw hbb hqb
        go_wp2
        go_roundw
        case rel => exact ⟨k + 1, by omega, by go_num, HBk⟩
        case measure => simp [intOf]; omega
    · obtain rfl : k = M := by omega
      have HB6 := Lib.hid (HB5.out.trans (HBk.out.mono HB5.out.size))
      have HQ6 := Lib.hid ((HQ5.out.below HBk.out).more HBk.out.size)
      have HK6 := Lib.hid (HK5.out.below HBk.out HK5.out.lt)
      clear HB5 HQ5 HK5 HBk HAT HBR
      go_wp2_with (fail)
      refine (HN2.out _ _ _ HQ6.out).mono ?_
      rintro e w7 ⟨A3, c3, rfl, hr3, hb7⟩
      have HB7 := Lib.hid (HB6.out.trans (hb7.mono HB6.out.size))
      have HQ7 := Lib.hid ((HQ6.out.below hb7).more hb7.size)
      have HK7 := Lib.hid (HK6.out.below hb7 HK6.out.lt)
      have HR3 := Lib.hid hr3
      clear hb7 hr3 HB6 HQ6 HK6
      go_wp2_with (fail)
      refine (HM2.out _ _ _ HR3.out HB7.out).mono ?_
      rintro e w8 ⟨A4, c4, L4, d4, Q4, f4, rfl, hrl, hrq, hb8⟩
      have hb9 := HB7.out.trans (hb8.mono HB7.out.size)
      have hq9 := (HQ7.out.below hb8).more hb8.size
      have hk9 := HK7.out.below hb8 HK7.out.lt
      have hk := Blk.new w8 27 #[.slice none 0 0, .int .i64 0, .slice none 0 0]
      obtain ⟨Z1, Z2, Z3, e0, e1, e2, f0, f1, f2', g0, g1, g2, r0, r1, r2, hkz, -, HZB⟩ := n3_steps hk (.slice A4 k c4) (.int .i64 (k : Int)) (.slice L4 k d4)
      have hbz : Below w8.heap.size w8 Z3 := HZB.out _ _ (Nat.le_refl _) ((Below.refl _ w8).alloc (Nat.le_refl _) (.cells #[.slice none 0 0, .int .i64 0, .slice none 0 0] 27))
      have HBZ := Lib.hid (hb9.trans (hbz.mono hb9.size))
      have HRL := Lib.hid ((hrl.below hbz).more hbz.size)
      have HRQ := Lib.hid ((hrq.below hbz).more hbz.size)
      have HQZ := Lib.hid ((hq9.below hbz).more hbz.size)
      have HKZ := Lib.hid (hk9.below hbz hk9.lt)
      have HKW := hkz
      clear hb8 hb9 hq9 hk9 hk HZB hbz hrl hrq hkz HB7 HQ7 HK7 HR3 HN2 HM2
      go_wp2_with (fail)
      refine (HI.out _ _ _ _ _ HRQ.out HQZ.out).mono ?_
      rintro e w10 ⟨rfl, hb10⟩
      have HB10 := Lib.hid (HBZ.out.trans (hb10.mono HBZ.out.size))
      have HRL2 := Lib.hid ((HRL.out.below hb10).more hb10.size)
      have HQ10 := Lib.hid ((HQZ.out.below hb10).more hb10.size)
      have HK10 := Lib.hid (HKZ.out.below hb10 HKZ.out.lt)
      have HKW2 := Lib.hid (HKW.out.below hb10 HKW.out.lt)
      have w2c := HKW2.out.cell 2
      clear hb10 HBZ HRL HRQ HQZ HKZ HKW e0 e1 e2 f0 f1 f2' g0 g1 g2 r0 r1 r2
      go_wp2_with (fail)
      refine (HI.out _ _ _ _ _ HRL2.out HQ10.out).mono ?_
      rintro e w11 ⟨rfl, hb11⟩
      have HB11 := Lib.hid (HB10.out.trans (hb11.mono HB10.out.size))
      have p1 := (HK10.out.below hb11 HK10.out.lt).cell 1
      have p2 := (HKW2.out.below hb11 HKW2.out.lt).cell 1
      clear hb11 HB10 HRL2 HQ10 HK10 HKW2 w2c
      go_wp2
      go_ret
      exact ⟨rfl, HB11.out⟩
theorem drawAgain_any {A B : Option Addr} {list bounds : List Int} (c d : Nat) (w : World) (h : Row w w.heap.size A (ints list)) (h2 : Row w w.heap.size B (ints bounds)) (hc : list.length ≤ c) (hd : bounds.length ≤ d) (_ : c ≤ maxLen) (_ : d ≤ maxLen) (hw : ∀ x ∈ bounds, -9223372036854775808 ≤ x ∧ x < 9223372036854775808) :
    Calls Try.prog 4 #[.slice A list.length c, .slice B bounds.length d] w (Tells w true) := by
  obtain ⟨N, hN⟩ : ∃ N, min list.length 503 = N := ⟨_, rfl⟩
  obtain ⟨M, hM⟩ : ∃ M, min bounds.length 300 = M := ⟨_, rfl⟩
  have h3 : Row w w.heap.size A (ints (list.take N)) := by have := h.take N; rwa [ints_take13] at this
  have h4 : Row w w.heap.size B (ints (bounds.take M)) := by have := h2.take M; rwa [ints_take13] at this
  have hla : (list.take N).length = N := by rw [List.length_take]; omega
  have hlb : (bounds.take M).length = M := by rw [List.length_take]; omega
  have hbd : ∀ b ∈ bounds.take M, b < 9223372036854775808 := fun b hb => (hw b (List.mem_of_mem_take hb)).2
  by_cases hyes : N ≤ 500 ∧ Dr.err (bounds.take M) 0 = 0
  · exact again13_yes _ _ c d N M _ w h3 h4 hla hlb (by omega) (by omega) hc hd hbd hyes.1 hyes.2 rfl rfl
  · exact again13_non _ _ c d N M w h3 h4 hla hlb (by omega) (by omega) hc hd hbd hyes
end Go.Proofs.Ytklljmcadhkkpaa
