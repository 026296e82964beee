/- How numbers and labels are written (package notation): walks of Number, Label. -/
import Derived.Test.YtipbilmnknmhmaaGreatDoorGCodT
import Derived.Test.YtipbilmnknmhmaaGreatDoorGNotG
import Derived.Test.YtipbilmnknmhmaaGreatDoorGLexS
import Derived.Test.YtipbilmnknmhmaaGreatDoorGOrd
import Derived.Test.YtipbilmnknmhmaaGreatDoorGCodA
import Derived.Test.YtipbilmnknmhmaaGreatDoorGShoA
namespace Go.Proofs.YtipbilmnknmhmaaGreatDoor
set_option maxRecDepth 100000
open Go.RowKit Go.Shelf Go.Sort
attribute [local go_sem] Oper.semAt_some
theorem pack_app (a b : List UInt8) : Lx.pack a ++ Lx.pack b = Lx.pack (a ++ b) := (Sh.pack_append a b).symm
set_option maxHeartbeats 2000000 in
theorem numText_any (n : Int) (h : -20 ≤ n ∧ n ≤ 20) (w : World) : Calls Tryz.prog 69 #[.int .i64 n] w fun e w' => e = .returned (.string (Lx.pack (Cd.sgn n))) ∧ w = w' := by
  obtain ⟨ha, hb⟩ := h
  by_cases hn : n < 0
  · obtain ⟨u, hu, hu2⟩ : ∃ u : Nat, -n = (u : Int) ∧ u < 21 := ⟨(-n).toNat, by omega, by omega⟩
    have hs : Cd.sgn n = [45, 32] ++ Lib.decDigits u := by unfold Cd.sgn; rw [if_pos hn, hu, Int.toNat_natCast]
    have hd := (Cd.dec_facts hu2).2.2.1
    have HI := Lib.hid (fun W => itoa_small u (by omega) W)
    rw [hs]
    have hz : (9223372036854775807 < 2 + (Lx.pack (Lib.decDigits u)).size) = False := eq_false (by rw [Lx.pack_size]; omega)
    have HEQ := Lib.hid (show ({ data := #[45, 32] } : ByteArray) ++ Lx.pack (Lib.decDigits u) = Lx.pack (45 :: 32 :: Lib.decDigits u) from pack_app [45, 32] _)
    clear hs hd
    generalize Lib.decDigits u = d at *
    go_enter Tryz.func69, Tryz.ntmps69
    go_wp2_with (go_at_call 80; refine (HI.out _).mono ?_; rintro e w' ⟨rfl, rfl⟩)
    go_ret
    rw [← HEQ.out]
    exact ⟨rfl, rfl⟩
  · obtain ⟨u, hu, hu2⟩ : ∃ u : Nat, n = (u : Int) ∧ u < 21 := ⟨n.toNat, by omega, by omega⟩
    subst hu
    have hs : Cd.sgn u = Lib.decDigits u := by unfold Cd.sgn; rw [if_neg hn, Int.toNat_natCast]
    have HI := Lib.hid (fun W => itoa_small u (by omega) W)
    rw [hs]
    clear hs
    generalize Lib.decDigits u = d at *
    go_enter Tryz.func69, Tryz.ntmps69
    go_wp2_with (go_at_call 80; refine (HI.out _).mono ?_; rintro e w' ⟨rfl, rfl⟩)
    go_ret
    exact ⟨rfl, rfl⟩
/-- A string is answered. -/
def TellsT8 (w : World) (s : ByteArray) (e : Ending) (w' : World) : Prop := e = .returned (.string s) ∧ Below w.heap.size w w'
/-- A label, as it is written. -/
def labL (names : List ByteArray) (a : Int) : List UInt8 := [64, 32] ++ Cd.nameL names a
theorem sgn_size {n : Int} (hn : -20 ≤ n ∧ n ≤ 20) : (Lx.pack (Cd.sgn n)).size ≤ 4 := by
  rw [Lx.pack_size]
  unfold Cd.sgn
  split
  · have := (Cd.dec_facts (u := (-n).toNat) (by omega)).2.2.1
    simp only [List.length_append, List.length_cons, List.length_nil]; omega
  · have := (Cd.dec_facts (u := n.toNat) (by omega)).2.2.1; omega
theorem lab_size {names : List ByteArray} {k : Nat} (hNs : Cd.Names names k) {a : Int} (ha : 0 ≤ a ∧ a < k) : (Lx.pack (labL names a)).size ≤ 14 := by
  have := (hNs.letters (i := a.toNat) (by omega)).2.2
  rw [Lx.pack_size]
  unfold labL Cd.nameL
  simp only [List.length_append, List.length_cons, List.length_nil]
  omega
set_option maxHeartbeats 4000000 in
theorem nlabT_any {v : Value} {names : List ByteArray} {up : List Nat} (hz : checkN names up = 0) (a : Int) (ha : 0 ≤ a ∧ a < up.length) (w : World) (h : IsLat w w.heap.size v names up) :
    Calls Tryz.prog 71 #[v, .int .i64 a] w (TellsT8 w (Lx.pack (labL names a))) := by
  obtain ⟨⟨N, U, c1, c2, rfl, hN, hU⟩, hsh, hfew, hcaps⟩ := id h
  have hNs := Cd.names_of hz
  obtain ⟨j, rfl⟩ : ∃ j : Nat, a = (j : Int) := ⟨a.toNat, by omega⟩
  have hj : j < names.length := by rw [hNs.len]; omega
  obtain ⟨ad, nm, rfl, hadb, hnm, hcn⟩ := strs_at hN hj
  have hb0 : Below w.heap.size w (w.alloc (.cells #[.slice (some ad) names.length c1, .slice U up.length c2] 25)) := (Below.refl _ w).alloc (Nat.le_refl _) _
  have z0 := (hb0.cell (p := ad.add j) (by rw [add_block]; exact hadb)).trans hcn
  have hn12 : nm.size ≤ 12 := by
    have := (hNs.letters (i := j) (by omega)).2.2
    rw [List.getD_eq_getElem?_getD, hnm] at this
    rw [Lib.size_eq]; exact this
  have hnl : Cd.nameL names j = nm.data.toList := by unfold Cd.nameL; rw [List.getD_eq_getElem?_getD, Int.toNat_natCast, hnm]; rfl
  have HEQ := Lib.hid (show ({ data := #[64, 32] } : ByteArray) ++ nm = Lx.pack (labL names j) by
    unfold labL
    rw [hnl, ← pack_app, Lx.pack_data]
    rfl)
  have q1 : (9223372036854775807 < 2 + nm.size) = False := eq_false (by omega)
  have hadb2 : (ad.add j).block < w.heap.size := by rw [add_block]; exact hadb
  have hadb3 : (ad.add j).block < (w.alloc (.cells #[.slice (some ad) names.length c1, .slice U up.length c2] 25)).heap.size := Nat.lt_of_lt_of_le hadb2 hb0.size
  have HB0 := Lib.hid hb0
  clear h hN hU hnm hcn hnl hNs hn12 hb0 ha
  go_enter Tryz.func71, Tryz.ntmps71
  go_wp2
  go_ret
  exact ⟨congrArg (fun s => Ending.returned (.string s)) HEQ.out, HB0.out⟩
end Go.Proofs.YtipbilmnknmhmaaGreatDoor

/- Walk of instructionText. -/
namespace Go.Proofs.YtipbilmnknmhmaaGreatDoor
set_option maxRecDepth 100000
open Go.RowKit Go.Shelf Go.Sort
attribute [local go_sem] Oper.semAt_some
theorem body_three (names : List ByteArray) (x : Cd.In) (u : Nat) (hu : x.op = (u : Int)) : Lx.pack (Cd.bodyL names x) = Lx.pack (Tb.wordL u ++ (if Cd.number x.op = true then 32 :: Cd.sgn x.n else []) ++ (if x.op = 1 then [32, 64, 32] ++ Cd.nameL names x.l else [])) := by
  unfold Cd.bodyL
  rw [hu, Int.toNat_natCast]
set_option maxHeartbeats 4000000 in
theorem insText_any {v : Value} {names : List ByteArray} {up : List Nat} (hz : checkN names up = 0) (x : Cd.In) (hx : Cd.inB up.length x = true) (w : World) (h : IsLat w w.heap.size v names up) (hi : Ins w) :
    Calls Tryz.prog 29 #[v, .agg #[.int .i64 x.op, .int .i64 x.n, .int .i64 x.l]] w (TellsT8 w (Lx.pack (Cd.bodyL names x))) := by
  obtain ⟨⟨N, U, c1, c2, rfl, hN, hU⟩, hsh, hfew, hcaps⟩ := id h
  obtain ⟨o1, o2⟩ := Cd.inB_op hx
  obtain ⟨u, hu⟩ : ∃ u : Nat, x.op = (u : Int) := ⟨x.op.toNat, by omega⟩
  have hn := Cd.inB_n hx
  have hl := Cd.inB_l hx
  have hNs := Cd.names_of hz
  have hbody := body_three names x u hu
  obtain ⟨op, n, lb⟩ := x
  dsimp only at hu hn hl hbody o1 o2 ⊢
  subst hu
  have hu13 : u < 13 := by omega
  have hb0 : Below w.heap.size w (w.alloc (.cells #[.slice N names.length c1, .slice U up.length c2] 25)) := (Below.refl _ w).alloc (Nat.le_refl _) _
  have hb1 : Below w.heap.size w ((w.alloc (.cells #[.slice N names.length c1, .slice U up.length c2] 25)).alloc (.cells #[.int .i64 (u : Int), .int .i64 n, .int .i64 lb] 57)) := hb0.alloc (by simp) _
  have p0 : Blk ((w.alloc (.cells #[.slice N names.length c1, .slice U up.length c2] 25)).alloc (.cells #[.int .i64 (u : Int), .int .i64 n, .int .i64 lb] 57)) w.heap.size 25 #[.slice N names.length c1, .slice U up.length c2] := (Blk.new _ _ _).alloc _
  have p1 := Blk.new (w.alloc (.cells #[.slice N names.length c1, .slice U up.length c2] 25)) 57 #[.int .i64 (u : Int), .int .i64 n, .int .i64 lb]
  have hsz : (w.alloc (.cells #[.slice N names.length c1, .slice U up.length c2] 25)).heap.size = w.heap.size + 1 := by simp
  rw [hsz] at p1
  have hws := (Tb.word_letters hu13).2.2
  have hwz : (Tb.word u).size ≤ 6 := by unfold Tb.word; rw [Lx.pack_size]; exact hws
  have HNM := Lib.hid (name_yes u hu13 _ (hi.below hb1 hi.lt))
  have HHN := Lib.hid (fun W => hasNumber_any (u : Int) W)
  have HHL := Lib.hid (fun W => hasLabel_any (u : Int) W)
  have HNT := Lib.hid (fun W => numText_any n hn W)
  have hsg := sgn_size hn
  have H := Lib.hid h
  have HB1 := Lib.hid hb1
  have P0 := Lib.hid p0
  have P1 := Lib.hid p1
  rw [hbody]
  clear h hi hU hb0 hb1 p0 p1 hsz hbody hx o1 o2 hws
  cases hnum : Cd.number (u : Int) with
  | false =>
    have hne : (u : Int) ≠ 1 := by intro e; rw [e] at hnum; cases hnum
    rw [hnum] at HHN
    rw [decide_eq_false hne] at HHL
    rw [if_neg (by decide), if_neg hne, List.append_nil, List.append_nil]
    rw [show Lx.pack (Tb.wordL u) = Tb.word u from rfl]
    generalize Tb.word u = wd at *
    clear hnum hne hl hN
    go_enter Tryz.func29, Tryz.ntmps29
    go_wp2_with (fail)
    refine HNM.out.mono ?_
    rintro e w1 ⟨rfl, hb⟩
    have hp1 := P1.out.below hb (by simp)
    have x0 : w1.cell? ⟨w.heap.size + 1, 0, none⟩ = some (.int .i64 (u : Int)) := hp1.cell 0
    have HB2 := Lib.hid (HB1.out.trans (hb.mono HB1.out.size))
    clear hb hp1
    go_wp2_with (first | (go_at_call 68; refine (HHN.out _).mono ?_; rintro e w' ⟨rfl, rfl⟩) | (go_at_call 70; refine (HHL.out _).mono ?_; rintro e w' ⟨rfl, rfl⟩))
    go_ret
    exact ⟨rfl, HB2.out⟩
  | true =>
    rw [hnum] at HHN
    rw [if_pos rfl]
    by_cases hone : (u : Int) = 1
    · rw [decide_eq_true hone] at HHL
      rw [if_pos hone]
      obtain ⟨l1, l2⟩ := hl hone
      have hlb : 0 ≤ lb ∧ lb < up.length := by omega
      have HLT := Lib.hid (fun W (hb : Below w.heap.size w W) => nlabT_any hz lb hlb W ((H.out.below hb).more hb.size))
      have hls := lab_size hNs hlb
      have HEQ := Lib.hid (show Tb.word u ++ (({ data := #[32] } : ByteArray) ++ Lx.pack (Cd.sgn n)) ++ (({ data := #[32] } : ByteArray) ++ Lx.pack (labL names lb)) = Lx.pack (Tb.wordL u ++ 32 :: Cd.sgn n ++ ([32, 64, 32] ++ Cd.nameL names lb)) by
        rw [show ([32, 64, 32] ++ Cd.nameL names lb) = [32] ++ labL names lb from rfl, show (32 :: Cd.sgn n) = [32] ++ Cd.sgn n from rfl, ← pack_app, ← pack_app, ← pack_app, ← pack_app]
        rfl)
      generalize Tb.word u = wd at *
      generalize Lx.pack (Cd.sgn n) = sg at *
      generalize Lx.pack (labL names lb) = lt at *
      have q1 : (9223372036854775807 < 1 + sg.size) = False := eq_false (by omega)
      have q2 : (9223372036854775807 < wd.size + (1 + sg.size)) = False := eq_false (by omega)
      have q3 : (9223372036854775807 < 1 + lt.size) = False := eq_false (by omega)
      have q4 : (9223372036854775807 < wd.size + (1 + sg.size) + (1 + lt.size)) = False := eq_false (by omega)
      have HONE := Lib.hid hone
      clear hl hn hNs hnum hone hN hls hlb l1 l2
      go_enter Tryz.func29, Tryz.ntmps29
      go_wp2_with (fail)
      refine HNM.out.mono ?_
      rintro e w1 ⟨rfl, hb⟩
      have hp1 := P1.out.below hb (by simp)
      have hp0 := P0.out.below hb (by simp; omega)
      have x0 : w1.cell? ⟨w.heap.size + 1, 0, none⟩ = some (.int .i64 (u : Int)) := hp1.cell 0
      have x1 : w1.cell? ⟨w.heap.size + 1, 1, none⟩ = some (.int .i64 n) := hp1.cell 1
      have x2 : w1.cell? ⟨w.heap.size + 1, 2, none⟩ = some (.int .i64 lb) := hp1.cell 2
      have y0 : w1.cell? ⟨w.heap.size, 0, none⟩ = some (.slice N names.length c1) := hp0.cell 0
      have y1 : w1.cell? ⟨w.heap.size, 1, none⟩ = some (.slice U up.length c2) := hp0.cell 1
      have hbw := HB1.out.trans (hb.mono HB1.out.size)
      have HB2 := Lib.hid hbw
      have HLW := Lib.hid (HLT.out w1 hbw)
      clear hb hp1 hp0 hbw HLT
      go_wp2_with (first | (go_at_call 68; refine (HHN.out _).mono ?_; rintro e w' ⟨rfl, rfl⟩) | (go_at_call 70; refine (HHL.out _).mono ?_; rintro e w' ⟨rfl, rfl⟩) | (go_at_call 69; refine (HNT.out _).mono ?_; rintro e w' ⟨rfl, rfl⟩) | (go_at_call 71; refine HLW.out.mono ?_; rintro e w2 ⟨rfl, hb2⟩))
      go_ret
      exact ⟨congrArg (fun s => Ending.returned (.string s)) HEQ.out, HB2.out.trans (hb2.mono HB2.out.size)⟩
    · rw [decide_eq_false hone] at HHL
      rw [if_neg hone, List.append_nil]
      have HEQ := Lib.hid (show Tb.word u ++ (({ data := #[32] } : ByteArray) ++ Lx.pack (Cd.sgn n)) = Lx.pack (Tb.wordL u ++ 32 :: Cd.sgn n) by
        rw [← pack_app, show (32 :: Cd.sgn n) = [32] ++ Cd.sgn n from rfl, ← pack_app]
        rfl)
      generalize Tb.word u = wd at *
      generalize Lx.pack (Cd.sgn n) = sg at *
      have q1 : (9223372036854775807 < 1 + sg.size) = False := eq_false (by omega)
      have q2 : (9223372036854775807 < wd.size + (1 + sg.size)) = False := eq_false (by omega)
      clear hl hn hNs hnum hone hN
      go_enter Tryz.func29, Tryz.ntmps29
      go_wp2_with (fail)
      refine HNM.out.mono ?_
      rintro e w1 ⟨rfl, hb⟩
      have hp1 := P1.out.below hb (by simp)
      have x0 : w1.cell? ⟨w.heap.size + 1, 0, none⟩ = some (.int .i64 (u : Int)) := hp1.cell 0
      have x1 : w1.cell? ⟨w.heap.size + 1, 1, none⟩ = some (.int .i64 n) := hp1.cell 1
      have HB2 := Lib.hid (HB1.out.trans (hb.mono HB1.out.size))
      clear hb hp1
      go_wp2_with (first | (go_at_call 68; refine (HHN.out _).mono ?_; rintro e w' ⟨rfl, rfl⟩) | (go_at_call 70; refine (HHL.out _).mono ?_; rintro e w' ⟨rfl, rfl⟩) | (go_at_call 69; refine (HNT.out _).mono ?_; rintro e w' ⟨rfl, rfl⟩))
      go_ret
      exact ⟨congrArg (fun s => Ending.returned (.string s)) HEQ.out, HB2.out⟩
end Go.Proofs.YtipbilmnknmhmaaGreatDoor

/- Walk of Text. -/
namespace Go.Proofs.YtipbilmnknmhmaaGreatDoor
set_option maxRecDepth 100000
open Go.RowKit Go.Shelf Go.Sort
attribute [local go_sem] Oper.semAt_some
/-- The texts while they are made: the first k of l. -/
def tarr (names : List ByteArray) (l : List Cd.In) (k : Nat) : List Value := (l.take k).map (fun x => Value.string (Lx.pack (Cd.insL names x))) ++ List.replicate (l.length - k) (.string ByteArray.empty)
theorem tarr_length (names : List ByteArray) (l : List Cd.In) {k : Nat} (h : k ≤ l.length) : (tarr names l k).length = l.length := by
  unfold tarr
  simp
  omega
theorem tarr_set (names : List ByteArray) {l : List Cd.In} {k : Nat} {x : Cd.In} (h : l[k]? = some x) : (tarr names l k).set k (.string (Lx.pack (Cd.insL names x))) = tarr names l (k + 1) := by
  have hk := (List.getElem?_eq_some_iff.1 h).1
  unfold tarr
  rw [List.take_add_one, h, show l.length - k = (l.length - (k + 1)) + 1 by omega, List.replicate_succ]
  rw [List.set_append_right _ _ (by simp; omega), show k - ((l.take k).map (fun x => Value.string (Lx.pack (Cd.insL names x)))).length = 0 by simp; omega]
  simp
theorem tarr_full (names : List ByteArray) (l : List Cd.In) : tarr names l l.length = strs (l.map fun x => Lx.pack (Cd.insL names x)) := by
  unfold tarr strs
  simp
theorem tarr_start (names : List ByteArray) (l : List Cd.In) : tarr names l 0 = List.replicate l.length (.string ByteArray.empty) := by
  unfold tarr
  simp
theorem Tryz.infoStrU : (Tryz.prog.info? 9).map (fun i => (i.zero, i.size, i.bytes)) = some (some (.string ByteArray.empty), 1, 16) := by kernel_rfl
structure TxAt (w1 : World) (names : List ByteArray) (l : List Cd.In) (k : Nat) (W : World) : Prop where
  below : Below w1.heap.size w1 W
  blk : Blk W w1.heap.size 9 (tarr names l k).toArray
theorem pack_end (l : List UInt8) : Lx.pack l ++ ({ data := #[32, 59] } : ByteArray) = Lx.pack (l ++ [32, 59]) := pack_app l [32, 59]
set_option maxHeartbeats 8000000 in
theorem ctext_any {v : Value} {names : List ByteArray} {up : List Nat} {A : Option Addr} {l : List Cd.In} (c : Nat) (w : World) (h : IsLat w w.heap.size v names up) (hr : Row w w.heap.size A (icells l)) (hl : l.length ≤ 1000) (hi : Ins w) :
    Calls Tryz.prog 8 #[v, .slice A l.length c] w (Wrote w (Cd.text names up l)) := by
  obtain ⟨⟨N, U, c1, c2, rfl, hN, hU⟩, hsh, hfew, hcaps⟩ := id h
  have hch := check_any _ (h.boxed (.cells #[.slice N names.length c1, .slice U up.length c2] 25))
  have hb0 : Below w.heap.size w (w.alloc (.cells #[.slice N names.length c1, .slice U up.length c2] 25)) := (Below.refl _ w).alloc (Nat.le_refl _) _
  have p0 : Blk (w.alloc (.cells #[.slice N names.length c1, .slice U up.length c2] 25)) w.heap.size 25 #[.slice N names.length c1, .slice U up.length c2] := Blk.new _ _ _
  have P0 := Lib.hid p0
  have HB0 := Lib.hid hb0
  have H := Lib.hid h
  have HR := Lib.hid hr
  have HI := Lib.hid hi
  obtain ⟨n, hn⟩ : ∃ n, checkN names up = n := ⟨_, rfl⟩
  rw [hn] at hch
  have HCH := Lib.hid hch
  by_cases hz : n = 0
  · subst hz
    have HNN := Lib.hid hn
    obtain ⟨b, hbr⟩ : ∃ b, Cd.rightB up.length l = b := ⟨_, rfl⟩
    have HMB := Lib.hid (fun W (hb : Below w.heap.size w W) => cmayBe_any c W ((H.out.below hb).more hb.size) ((HR.out.below hb).more hb.size) hl)
    rw [hbr] at HMB
    clear h hi hN hU p0 hb0 hch hr
    cases b with
    | false =>
      have ht : Cd.text names up l = (ByteArray.empty, 1) := by unfold Cd.text; rw [if_pos hn, hbr, if_neg (by decide)]
      rw [ht]
      clear ht hbr hn
      go_enter Tryz.func8, Tryz.ntmps8
      go_wp2_with (go_at_call 27; refine HCH.out.mono ?_)
      rintro e w1 ⟨rfl, hb1⟩
      have hp1 := P0.out.below hb1 (by simp)
      have hc0 : w1.cell? ⟨w.heap.size, 0, none⟩ = some (.slice N names.length c1) := by rw [hp1.cell]; rfl
      have hc1 : w1.cell? ⟨w.heap.size, 1, none⟩ = some (.slice U up.length c2) := by rw [hp1.cell]; rfl
      have hbw := HB0.out.trans (hb1.mono (by simp))
      have HM := Lib.hid (HMB.out w1 hbw)
      have HBW := Lib.hid hbw
      clear hb1 hp1 hbw
      go_wp2_with (fail)
      refine HM.out.mono ?_
      rintro e w2 ⟨rfl, hb2⟩
      have HB2 := Lib.hid (HBW.out.trans (hb2.mono HBW.out.size))
      clear hb2
      go_wp2
      go_ret2
      exact ⟨rfl, HB2.out⟩
    | true =>
      have ht : Cd.text names up l = (Lx.pack (Cd.textL names l), 0) := by unfold Cd.text; rw [if_pos hn, hbr, if_pos rfl]
      have hrt := hbr
      unfold Cd.rightB at hrt
      rw [Bool.and_eq_true] at hrt
      have h12 := of_decide_eq_true hrt.1
      have hal : ∀ x ∈ l, Cd.inB up.length x = true := fun x hx => List.all_eq_true.1 hrt.2 x hx
      have htl := Cd.textL_len (Cd.names_of hn) hbr
      have HAL := Lib.hid hal
      have HTL := Lib.hid htl
      have HIT := Lib.hid (fun x (hx : Cd.inB up.length x = true) W (hb : Below w.heap.size w W) => insText_any HNN.out x hx W ((H.out.below hb).more hb.size) (HI.out.below hb HI.out.lt))
      have HLN := Lib.hid (fun (x : Cd.In) (hx : Cd.inB up.length x = true) => Cd.insL_len (Cd.names_of HNN.out) hx)
      rw [ht]
      clear ht hbr hn hrt hal htl
      obtain ⟨i0, hi0, hz0, hz1, hz2⟩ := info_parts Tryz.infoStrU
      have hmk := fun W => run_make_n 22 9 i0 (.string ByteArray.empty) Tryz.underlying22 hi0 hz0 hz1 rfl l.length (by rw [hz2]; omega) (by omega) W
      clear hi0 hz0 hz1 hz2
      go_enter Tryz.func8, Tryz.ntmps8
      go_wp2_with (go_at_call 27; refine HCH.out.mono ?_)
      rintro e w1 ⟨rfl, hb1⟩
      have hp1 := P0.out.below hb1 (by simp)
      have hc0 : w1.cell? ⟨w.heap.size, 0, none⟩ = some (.slice N names.length c1) := by rw [hp1.cell]; rfl
      have hc1 : w1.cell? ⟨w.heap.size, 1, none⟩ = some (.slice U up.length c2) := by rw [hp1.cell]; rfl
      have hbw := HB0.out.trans (hb1.mono (by simp))
      have HM := Lib.hid (HMB.out w1 hbw)
      have HBW := Lib.hid hbw
      have P1 := Lib.hid hp1
      clear hb1 hp1 hbw
      go_wp2_with (fail)
      refine HM.out.mono ?_
      rintro e w2 ⟨rfl, hb2⟩
      have HB2 := Lib.hid (HBW.out.trans (hb2.mono HBW.out.size))
      have P2 := Lib.hid (P1.out.below hb2 P1.out.lt)
      clear hb2 hc0 hc1
      have hst : TxAt w2 names l 0 (w2.alloc (.cells (List.replicate l.length (.string ByteArray.empty)).toArray 9)) := ⟨(Below.refl _ w2).alloc (Nat.le_refl _) _, by rw [tarr_start]; exact Blk.new _ _ _⟩
      have HST := Lib.hid hst
      clear hst
      go_wp2
      go_loopw [24] (fun i wr => ∃ k : Nat, k ≤ l.length ∧ i = .int .i64 k ∧ Hid (TxAt w2 names l k wr)) (fun i _ => l.length - (intOf i).toNat)
      case atStart => exact ⟨0, Nat.zero_le _, rfl, HST⟩
      case round =>
        clear HST
        obtain ⟨k, hk, rfl, HST⟩ := hrel
        have hbwr := HB2.out.trans (HST.out.below.mono HB2.out.size)
        by_cases hlt : k < l.length
        · obtain ⟨ad, x, rfl, hxb, hx, x0, x1, x2⟩ := inrow_at (HR.out.below hbwr) hlt
          have hxin := HAL.out x (List.mem_of_getElem? hx)
          have hxb2 : (ad.add (k * 3)).block < wr.heap.size := by rw [add_block]; exact Nat.lt_of_lt_of_le hxb hbwr.size
          have hal := (Below.refl wr.heap.size wr).alloc (Nat.le_refl _) (.cells #[.int .i64 x.op, .int .i64 x.n, .int .i64 x.l] 57)
          have hp2 := P2.out.below HST.out.below P2.out.lt
          have d0 : (wr.alloc (.cells #[.int .i64 x.op, .int .i64 x.n, .int .i64 x.l] 57)).cell? ⟨w.heap.size, 0, none⟩ = some (.slice N names.length c1) := (hp2.alloc _).cell 0
          have d1 : (wr.alloc (.cells #[.int .i64 x.op, .int .i64 x.n, .int .i64 x.l] 57)).cell? ⟨w.heap.size, 1, none⟩ = some (.slice U up.length c2) := (hp2.alloc _).cell 1
          have HC := Lib.hid (HIT.out x hxin _ (hbwr.trans (hal.mono hbwr.size)))
          have hlx := HLN.out x hxin
          unfold Cd.insL at hlx
          rw [List.length_append] at hlx
          have hq : (9223372036854775807 < (Lx.pack (Cd.bodyL names x)).size + 2) = False := eq_false (by rw [Lx.pack_size]; omega)
          have HEQ := Lib.hid (pack_end (Cd.bodyL names x))
          have HX := Lib.hid hx
          have HALL := Lib.hid hal
          have HIN : Hid (Lx.pack (Cd.bodyL names x ++ [32, 59]) = Lx.pack (Cd.insL names x)) := Lib.hid rfl
          clear hx hxin hal hlx hp2
          generalize hbd : Lx.pack (Cd.bodyL names x) = bd at *
          go_wp2_with (fail)
          refine HC.out.mono ?_
          rintro e w4 ⟨rfl, hb4⟩
          have hb5 := HALL.out.trans (hb4.mono (by simp))
          have hbk5 := HST.out.blk.below hb5 HST.out.blk.lt
          have hT : w2.heap.size < w4.heap.size := Nat.lt_of_lt_of_le HST.out.blk.lt hb5.size
          have hcz : w4.cell? ⟨w2.heap.size, k, none⟩ = some ((tarr names l k).getD k (.int .i64 0)) := by
            rw [hbk5.cell, List.getElem?_toArray, List.getElem?_eq_getElem (by rw [tarr_length _ _ (Nat.le_of_lt hlt)]; exact hlt), List.getD_eq_getElem?_getD, List.getElem?_eq_getElem (by rw [tarr_length _ _ (Nat.le_of_lt hlt)]; exact hlt)]
            rfl
          have hfz := hbk5.frozen k
          have hnew : TxAt w2 names l (k + 1) (w4.setCell ⟨w2.heap.size, k, none⟩ (.string (Lx.pack (Cd.insL names x)))) := by
            refine ⟨(HST.out.below.trans (hb5.mono HST.out.below.size)).setCell (p := ⟨w2.heap.size, k, none⟩) (Nat.le_refl _) _, ?_⟩
            have := hbk5.set_ k (.string (Lx.pack (Cd.insL names x)))
            rw [List.setIfInBounds_toArray, tarr_set names HX.out] at this
            exact this
          rw [← HIN.out, ← HEQ.out] at hnew
          have HN := Lib.hid hnew
          generalize (tarr names l k).getD k (.int .i64 0) = old at *
          clear hb4 hb5 hbk5 hnew d0 d1 x0 x1 x2
          go_wp2
          go_roundw
          case rel => exact ⟨k + 1, by omega, by go_num, HN⟩
          case measure => simp [intOf]; omega
        · obtain rfl : k = l.length := by omega
          have hbk := HST.out.blk
          rw [tarr_full] at hbk
          have hj := strings_Join w2.heap.size 0 l.length (l.map fun x => Lx.pack (Cd.insL names x)) { data := #[32] } wr (fun j x hx => by
            rw [Nat.zero_add, hbk.cell, List.getElem?_toArray]
            unfold strs
            rw [List.getElem?_map, hx]
            rfl) hbk.lt (by rw [List.length_map]; omega) (by rw [List.length_map]; exact Nat.le_refl _) (by
              rw [List.map_map]
              have := HTL.out
              unfold Cd.textL at this
              exact Nat.le_trans this (by decide))
          rw [List.length_map, List.map_map] at hj
          have hj2 : Calls Tryz.prog 30 #[.slice (some ⟨w2.heap.size, 0, none⟩) l.length l.length, .string { data := #[32] }] wr fun e w' => e = .returned (.string (Lx.pack (Cd.textL names l))) ∧ Below wr.heap.size wr w' := hj
          have HJ := Lib.hid hj2
          have HBW2 := Lib.hid hbwr
          clear hj hj2 hbk hbwr
          generalize Lx.pack (Cd.textL names l) = tx at *
          go_wp2_with (fail)
          refine HJ.out.mono ?_
          rintro e w5 ⟨rfl, hb5⟩
          have HB5 := Lib.hid (HBW2.out.trans (hb5.mono HBW2.out.size))
          clear hb5
          go_wp2
          go_ret2
          exact ⟨rfl, HB5.out⟩
  · have ht : Cd.text names up l = (ByteArray.empty, n) := by unfold Cd.text; rw [hn, if_neg hz]
    rw [ht]
    have hz1 : ((n : Int) != 0) = true := by rw [bne_iff_ne]; omega
    clear h hi hN hU p0 hb0 hch hn ht hz hr
    go_enter Tryz.func8, Tryz.ntmps8
    go_wp2_with (go_at_call 27; refine HCH.out.mono ?_)
    rintro e w1 ⟨rfl, hb1⟩
    have HB1 := Lib.hid (HB0.out.trans (hb1.mono (by simp)))
    clear hb1
    go_wp2
    go_ret2
    exact ⟨rfl, HB1.out⟩
end Go.Proofs.YtipbilmnknmhmaaGreatDoor

/- The reference's Signed, Text (by gen_cods.py). -/
namespace Go.Proofs.YtipbilmnknmhmaaGreatDoor
set_option maxRecDepth 100000
open Go.RowKit Go.Shelf Go.Sort
attribute [local go_sem] Oper.semAt_some

theorem rSigned_any (n : Int) (h : -20 ≤ n ∧ n ≤ 20) (w : World) : Calls Tryz.prog 40 #[.int .i64 n] w fun e w' => e = .returned (.string (Lx.pack (Cd.sgn n))) ∧ w = w' := by
  obtain ⟨ha, hb⟩ := h
  by_cases hn : n < 0
  · obtain ⟨u, hu, hu2⟩ : ∃ u : Nat, -n = (u : Int) ∧ u < 21 := ⟨(-n).toNat, by omega, by omega⟩
    have hu0 : 0 - n = (u : Int) := by omega
    have hs : Cd.sgn n = [45, 32] ++ Lib.decDigits u := by unfold Cd.sgn; rw [if_pos hn, hu, Int.toNat_natCast]
    have hd := (Cd.dec_facts hu2).2.2.1
    have HI := Lib.hid (fun W => itoa_small u (by omega) W)
    rw [hs]
    have hz : (9223372036854775807 < 2 + (Lx.pack (Lib.decDigits u)).size) = False := eq_false (by rw [Lx.pack_size]; omega)
    have HEQ := Lib.hid (show ({ data := #[45, 32] } : ByteArray) ++ Lx.pack (Lib.decDigits u) = Lx.pack (45 :: 32 :: Lib.decDigits u) from pack_app [45, 32] _)
    clear hs hd
    generalize Lib.decDigits u = d at *
    go_enter Tryz.func40, Tryz.ntmps40
    go_wp2_with (go_at_call 80; refine (HI.out _).mono ?_; rintro e w' ⟨rfl, rfl⟩)
    go_ret
    rw [← HEQ.out]
    exact ⟨rfl, rfl⟩
  · obtain ⟨u, hu, hu2⟩ : ∃ u : Nat, n = (u : Int) ∧ u < 21 := ⟨n.toNat, by omega, by omega⟩
    subst hu
    have hs : Cd.sgn u = Lib.decDigits u := by unfold Cd.sgn; rw [if_neg hn, Int.toNat_natCast]
    have HI := Lib.hid (fun W => itoa_small u (by omega) W)
    rw [hs]
    clear hs
    generalize Lib.decDigits u = d at *
    go_enter Tryz.func40, Tryz.ntmps40
    go_wp2_with (go_at_call 80; refine (HI.out _).mono ?_; rintro e w' ⟨rfl, rfl⟩)
    go_ret
    exact ⟨rfl, rfl⟩

theorem body_list (names : List ByteArray) (x : Cd.In) (u : Nat) (hu : x.op = (u : Int)) : Cd.insL names x = Tb.wordL u ++ (if Cd.number x.op = true then 32 :: Cd.sgn x.n else []) ++ (if x.op = 1 then [32, 64, 32] ++ Cd.nameL names x.l else []) ++ [32, 59] := by
  unfold Cd.insL Cd.bodyL
  rw [hu, Int.toNat_natCast]
theorem lit32 : ({ data := #[32] } : ByteArray) = Lx.pack [32] := rfl
theorem lit3 : ({ data := #[32, 64, 32] } : ByteArray) = Lx.pack [32, 64, 32] := rfl
theorem lit2 : ({ data := #[32, 59] } : ByteArray) = Lx.pack [32, 59] := rfl
/-- The text of the first k instructions. -/
def ptL (names : List ByteArray) (l : List Cd.In) (k : Nat) : List UInt8 := Lib.join ((l.take k).map (Cd.insL names)) [32]
theorem join_snoc8 (a : List (List UInt8)) (y : List UInt8) (h : a ≠ []) : Lib.join (a ++ [y]) [32] = Lib.join a [32] ++ [32] ++ y := by
  have h1 := Cd.join_drop (a ++ [y]) (by simp)
  have h2 := Cd.join_drop a h
  have h3 := Cd.join_drop [y] (by simp)
  have h4 : Lib.join [y] [32] = y := by
    have : Lib.joinTail [32] [y] = 32 :: y := by simp [Lib.joinTail]
    rw [this] at h3
    injection h3
  rw [Cd.tail_append, ← h2, ← h3, h4] at h1
  simp only [List.cons_append] at h1
  injection h1 with _ h1
  rw [h1]
  simp
theorem ptL_next (names : List ByteArray) {l : List Cd.In} {k : Nat} {x : Cd.In} (h : l[k]? = some x) : ptL names l (k + 1) = (if 0 < k then ptL names l k ++ [32] else []) ++ Cd.insL names x := by
  unfold ptL
  rw [List.take_add_one, h, List.map_append]
  have hk := (List.getElem?_eq_some_iff.1 h).1
  by_cases h0 : 0 < k
  · rw [if_pos h0]
    exact join_snoc8 _ _ (by simp; exact ⟨by omega, by intro e; subst e; simp at hk⟩)
  · obtain rfl : k = 0 := by omega
    rw [if_neg h0]
    simp [Lib.join, Lib.joinTail]
theorem ptL_zero (names : List ByteArray) (l : List Cd.In) : ptL names l 0 = [] := by simp [ptL, Lib.join]
theorem ptL_all (names : List ByteArray) (l : List Cd.In) : ptL names l l.length = Cd.textL names l := by
  unfold ptL Cd.textL
  rw [List.take_length]
theorem rightB_take {k : Nat} {l : List Cd.In} (h : Cd.rightB k l = true) (n : Nat) : Cd.rightB k (l.take n) = true := by
  unfold Cd.rightB at h ⊢
  simp only [Bool.and_eq_true, decide_eq_true_eq, List.all_eq_true] at h ⊢
  exact ⟨by rw [List.length_take]; omega, fun x hx => h.2 x (List.mem_of_mem_take hx)⟩
theorem ptL_len {names : List ByteArray} {k : Nat} (hN : Cd.Names names k) {l : List Cd.In} (h : Cd.rightB k l = true) (n : Nat) : (ptL names l n).length ≤ 348 := Cd.textL_len hN (rightB_take h n)
/-- At the head of a round of the reference's Text. -/
structure RtIn (w : World) (lv : Array Value) (W : World) : Prop where
  below : Below w.heap.size w W
  lat : Blk W w.heap.size 25 lv
set_option maxHeartbeats 16000000 in
theorem rTextC_any {v : Value} {names : List ByteArray} {up : List Nat} {A : Option Addr} {l : List Cd.In} (hz : checkN names up = 0) (c : Nat) (w : World) (h : IsLat w w.heap.size v names up) (hr : Row w w.heap.size A (icells l)) (hright : Cd.rightB up.length l = true) :
    Calls Tryz.prog 15 #[v, .slice A l.length c] w (TellsT8 w (Lx.pack (Cd.textL names l))) := by
  obtain ⟨⟨N, U, c1, c2, rfl, hN, hU⟩, hsh, hfew, hcaps⟩ := id h
  have hNs := Cd.names_of hz
  rw [← ptL_all]
  have HST := Lib.hid (show RtIn w #[.slice N names.length c1, .slice U up.length c2] (w.alloc (.cells #[.slice N names.length c1, .slice U up.length c2] 25)) from ⟨(Below.refl _ w).alloc (Nat.le_refl _) _, Blk.new _ _ _⟩)
  have HR := Lib.hid hr
  have HRG := Lib.hid hright
  have HN := Lib.hid hN
  have HNS := Lib.hid hNs
  have hl12 : l.length ≤ 12 := by
    unfold Cd.rightB at hright
    simp only [Bool.and_eq_true, decide_eq_true_eq] at hright
    exact hright.1
  have HLN : Hid (l.length = l.length) := Lib.hid rfl
  obtain ⟨ln, hln⟩ : ∃ ln, l.length = ln := ⟨_, rfl⟩
  have HLE := Lib.hid hln
  rw [hln] at hl12 ⊢
  clear hr h hU hsh hcaps hln hright hN hNs hz hfew HLN
  go_enter Tryz.func15, Tryz.ntmps15
  go_wp2
  go_loopw [5, 10] (fun o i wr => ∃ k : Nat, k ≤ ln ∧ i = .int .i64 k ∧ o = .string (Lx.pack (ptL names l k)) ∧ Hid (RtIn w #[.slice N names.length c1, .slice U up.length c2] wr)) (fun _ i _ => ln - (intOf i).toNat)
  case atStart => exact ⟨0, Nat.zero_le _, rfl, by rw [ptL_zero]; rfl, HST⟩
  case round =>
    obtain ⟨k, hk, rfl, rfl, HG⟩ := hrel
    by_cases hlt : k < ln
    · have hbw := HG.out.below
      obtain ⟨ad, x, rfl, hxb, hx, x0, x1, x2⟩ := inrow_at (HR.out.below hbw) (show k < l.length by rw [HLE.out]; exact hlt)
      have hz := hbw.size
      have hxb2 : (ad.add (k * 3)).block < wr.heap.size := by rw [add_block]; omega
      have hin : Cd.inB up.length x = true := by
        have := HRG.out
        unfold Cd.rightB at this
        rw [Bool.and_eq_true, List.all_eq_true] at this
        exact this.2 x (List.mem_of_getElem? hx)
      have hpn := ptL_next names hx
      obtain ⟨o1, o2⟩ := Cd.inB_op hin
      obtain ⟨u, hu⟩ : ∃ u : Nat, x.op = (u : Int) := ⟨x.op.toNat, by omega⟩
      have hn := Cd.inB_n hin
      have hl := Cd.inB_l hin
      have hbody := body_list names x u hu
      obtain ⟨op, n, lb⟩ := x
      dsimp only at hu hn hl hbody o1 o2 x0 x1 x2
      subst hu
      have hu13 : u < 13 := by omega
      have hws := (Tb.word_letters hu13).2.2
      have hwz : (Tb.word u).size ≤ 6 := by unfold Tb.word; rw [Lx.pack_size]; exact hws
      have hsg : (Lx.pack (Cd.sgn n)).size ≤ 4 := by
        rw [Lx.pack_size]
        unfold Cd.sgn
        split
        · have := (Cd.dec_facts (u := (-n).toNat) (by omega)).2.2.1
          simp only [List.length_append, List.length_cons, List.length_nil]; omega
        · have := (Cd.dec_facts (u := n.toNat) (by omega)).2.2.1; omega
      have hoz : (Lx.pack (ptL names l k)).size ≤ 348 := by rw [Lx.pack_size]; exact ptL_len HNS.out HRG.out k
      have HWD := Lib.hid (fun W => rIWord_any u hu13 W)
      have HHN := Lib.hid (fun W => rNumber_any (u : Int) W)
      have HNT := Lib.hid (fun W => rSigned_any n hn W)
      have HAL := Lib.hid ((Below.refl wr.heap.size wr).alloc (Nat.le_refl _) (.cells #[.int .i64 (u : Int), .int .i64 n, .int .i64 lb] 57))
      have HXB := Lib.hid (Blk.new wr 57 #[.int .i64 (u : Int), .int .i64 n, .int .i64 lb])
      have HLAT := Lib.hid HG.out.lat
      have HSZ := Lib.hid HG.out.lat.lt
      have HPN := Lib.hid hpn
      have HL := Lib.hid hl
      have HBODY := Lib.hid hbody
      obtain ⟨o, ho⟩ : ∃ o, Lx.pack (ptL names l k) = o := ⟨_, rfl⟩
      obtain ⟨wd, hwd⟩ : ∃ wd, Tb.word u = wd := ⟨_, rfl⟩
      obtain ⟨sg, hsge⟩ : ∃ sg, Lx.pack (Cd.sgn n) = sg := ⟨_, rfl⟩
      have HO := Lib.hid ho
      have HWE := Lib.hid (show Lx.pack (Tb.wordL u) = wd from hwd)
      have HSG := Lib.hid hsge
      rw [ho] at hoz ⊢
      rw [hwd] at HWD hwz
      rw [hsge] at HNT hsg
      clear ho hwd hsge hx hin hpn hl hbody o1 o2 hws hn hbw hxb
      by_cases hk0 : 0 < k
      · have hgt : (k : Int) > 0 := by omega
        cases hnum : Cd.number (u : Int) with
        | false =>
          have hne : (u : Int) ≠ 1 := by intro e; rw [e] at hnum; cases hnum
          rw [hnum] at HHN
          have HE1 : Hid (((u : Int) == 1) = false) := Lib.hid (by rw [beq_eq_false_iff_ne]; exact hne)
          have he1 := HE1.out
          have HJ : Hid (Lx.pack (ptL names l (k + 1)) = (o ++ ({ data := #[32] } : ByteArray)) ++ wd ++ ({ data := #[32, 59] } : ByteArray)) := Lib.hid (by
            rw [HPN.out, if_pos hk0, HBODY.out, if_neg (by rw [hnum]; decide), if_neg hne, List.append_nil, List.append_nil, ← HO.out, ← HWE.out]
            simp only [lit32, lit3, lit2, pack_app, List.append_assoc, List.cons_append, List.nil_append])
          clear hnum hne
          have HEQ := Lib.hid (show (((o ++ ({ data := #[32] } : ByteArray)) ++ wd) ++ ({ data := #[32, 59] } : ByteArray)) = Lx.pack (ptL names l (k + 1)) from HJ.out.symm ▸ rfl)
          have q0 : (9223372036854775807 < o.size + 1) = False := eq_false (by omega)
          have q1 : (9223372036854775807 < o.size + 1 + wd.size) = False := eq_false (by omega)
          have q2 : (9223372036854775807 < o.size + 1 + wd.size + 2) = False := eq_false (by omega)
          go_wp2_with (fail)
          refine (HWD.out _).mono ?_
          rintro e w1 ⟨rfl, hb1⟩
          have hp1 := HXB.out.below hb1 HXB.out.lt
          have d0 : w1.cell? ⟨wr.heap.size, 0, none⟩ = some (.int .i64 (u : Int)) := hp1.cell 0
          have d1 : w1.cell? ⟨wr.heap.size, 1, none⟩ = some (.int .i64 n) := hp1.cell 1
          have d2 : w1.cell? ⟨wr.heap.size, 2, none⟩ = some (.int .i64 lb) := hp1.cell 2
          have HB2 := Lib.hid (HAL.out.trans (hb1.mono HAL.out.size))
          have HB3 := Lib.hid (HG.out.below.trans (HB2.out.mono HG.out.below.size))
          have HLT := Lib.hid (HG.out.lat.below HB2.out HG.out.lat.lt)

          clear hb1 hp1 x0 x1 x2
          go_wp2_with (first | (go_at_call 39; refine (HHN.out _).mono ?_; rintro e w' ⟨rfl, rfl⟩))
          go_roundw
          case rel => exact ⟨k + 1, by omega, by go_num, congrArg Value.string HEQ.out, Lib.hid ⟨HB3.out, HLT.out⟩⟩
          case measure => simp [intOf]; omega
        | true =>
          rw [hnum] at HHN
          by_cases hone : (u : Int) = 1
          · obtain ⟨l1, l2⟩ := HL.out hone
            obtain ⟨nad, nm, hnad, hadb, hnm, hcn⟩ := strs_at HN.out (show lb.toNat < names.length by rw [HNS.out.len]; exact l1)
            subst hnad
            obtain ⟨nb, rfl⟩ : ∃ nb, nm = Lx.pack nb := ⟨_, (Lx.pack_data nm).symm⟩
            have HCN : Hid (∀ W, Below w.heap.size w W → W.cell? (nad.add lb.toNat) = some (.string (Lx.pack nb))) := Lib.hid fun W hW => (hW.cell (by rw [add_block]; exact hadb)).trans hcn
            have hnl : Cd.nameL names lb = nb := by unfold Cd.nameL; rw [List.getD_eq_getElem?_getD, hnm]; exact Lx.pack_list nb
            have hn12 : (Lx.pack nb).size ≤ 12 := by
              have := (HNS.out.letters l1).2.2
              rw [List.getD_eq_getElem?_getD, hnm] at this
              rw [Lib.size_eq]; exact this
            have hlen : lb.toNat < names.length := by rw [HNS.out.len]; exact l1
            have HJ : Hid (Lx.pack (ptL names l (k + 1)) = (o ++ ({ data := #[32] } : ByteArray)) ++ wd ++ ({ data := #[32] } : ByteArray) ++ sg ++ ({ data := #[32, 64, 32] } : ByteArray) ++ Lx.pack nb ++ ({ data := #[32, 59] } : ByteArray)) := Lib.hid (by
              rw [HPN.out, if_pos hk0, HBODY.out, if_pos hnum, if_pos hone, ← HO.out, ← HWE.out, ← HSG.out, hnl]
              simp only [lit32, lit3, lit2, pack_app, List.append_assoc, List.cons_append, List.nil_append])
            have hadb2 : (nad.add lb.toNat).block < w.heap.size := by rw [add_block]; exact hadb
            have HAB := Lib.hid hadb2
            have he1 : ((u : Int) == 1) = true := by rw [beq_iff_eq]; exact hone
            clear hnm hnl hnum hcn HL HBODY HPN HNS
            generalize Lx.pack nb = nm at *
            generalize lb.toNat = j at *
            obtain rfl : u = 1 := by omega
            subst l2
            have HWD : Hid (∀ W, Calls Tryz.prog 38 #[.int .i64 1] W (TellsStr W wd)) := HWD
            have HHN : Hid (∀ W, Calls Tryz.prog 39 #[.int .i64 1] W fun e w' => e = .returned (.bool true) ∧ W = w') := HHN
            have HAL : Hid (Below wr.heap.size wr (wr.alloc (.cells #[.int .i64 1, .int .i64 n, .int .i64 (j : Int)] 57))) := HAL
            have HXB : Hid (Blk (wr.alloc (.cells #[.int .i64 1, .int .i64 n, .int .i64 (j : Int)] 57)) wr.heap.size 57 #[.int .i64 1, .int .i64 n, .int .i64 (j : Int)]) := HXB
            have x0 : wr.cell? (ad.add (k * 3)) = some (.int .i64 1) := x0
            clear hone hadb hadb2 he1
            have HEQ := Lib.hid (show (((((((o ++ ({ data := #[32] } : ByteArray)) ++ wd) ++ ({ data := #[32] } : ByteArray)) ++ sg) ++ ({ data := #[32, 64, 32] } : ByteArray)) ++ nm) ++ ({ data := #[32, 59] } : ByteArray)) = Lx.pack (ptL names l (k + 1)) from HJ.out.symm ▸ rfl)
            have q0 : (9223372036854775807 < o.size + 1) = False := eq_false (by omega)
            have q1 : (9223372036854775807 < o.size + 1 + wd.size) = False := eq_false (by omega)
            have q2 : (9223372036854775807 < o.size + 1 + wd.size + 1) = False := eq_false (by omega)
            have q3 : (9223372036854775807 < o.size + 1 + wd.size + 1 + sg.size) = False := eq_false (by omega)
            have q4 : (9223372036854775807 < o.size + 1 + wd.size + 1 + sg.size + 3) = False := eq_false (by omega)
            have q5 : (9223372036854775807 < o.size + 1 + wd.size + 1 + sg.size + 3 + nm.size) = False := eq_false (by omega)
            have q6 : (9223372036854775807 < o.size + 1 + wd.size + 1 + sg.size + 3 + nm.size + 2) = False := eq_false (by omega)
            go_wp2_with (fail)
            refine (HWD.out _).mono ?_
            rintro e w1 ⟨rfl, hb1⟩
            have hp1 := HXB.out.below hb1 HXB.out.lt
            have d0 : w1.cell? ⟨wr.heap.size, 0, none⟩ = some (.int .i64 1) := hp1.cell 0
            have d1 : w1.cell? ⟨wr.heap.size, 1, none⟩ = some (.int .i64 n) := hp1.cell 1
            have d2 : w1.cell? ⟨wr.heap.size, 2, none⟩ = some (.int .i64 (j : Int)) := hp1.cell 2
            have HB2 := Lib.hid (HAL.out.trans (hb1.mono HAL.out.size))
            have HB3 := Lib.hid (HG.out.below.trans (HB2.out.mono HG.out.below.size))
            have HLT := Lib.hid (HG.out.lat.below HB2.out HG.out.lat.lt)
            have hp0 := HLAT.out.below HB2.out (by have := HSZ.out; omega)
            have y0 : w1.cell? ⟨w.heap.size, 0, none⟩ = some (.slice (some nad) names.length c1) := hp0.cell 0
            have z0 := HCN.out w1 HB3.out
            have hab1 : (nad.add j).block < w1.heap.size := Nat.lt_of_lt_of_le HAB.out HB3.out.size
            clear hb1 hp1 hp0 x0 x1 x2
            go_wp2_with (first | (go_at_call 39; refine (HHN.out _).mono ?_; rintro e w' ⟨rfl, rfl⟩) | (go_at_call 40; refine (HNT.out _).mono ?_; rintro e w' ⟨rfl, rfl⟩))
            go_roundw
            case rel => exact ⟨k + 1, by omega, by go_num, congrArg Value.string HEQ.out, Lib.hid ⟨HB3.out, HLT.out⟩⟩
            case measure => simp [intOf]; omega
          · have he1 : ((u : Int) == 1) = false := by rw [beq_eq_false_iff_ne]; exact hone
            have HJ : Hid (Lx.pack (ptL names l (k + 1)) = (o ++ ({ data := #[32] } : ByteArray)) ++ wd ++ ({ data := #[32] } : ByteArray) ++ sg ++ ({ data := #[32, 59] } : ByteArray)) := Lib.hid (by
              rw [HPN.out, if_pos hk0, HBODY.out, if_pos hnum, if_neg hone, List.append_nil, ← HO.out, ← HWE.out, ← HSG.out]
              simp only [lit32, lit3, lit2, pack_app, List.append_assoc, List.cons_append, List.nil_append])
            clear hnum hone
            have HEQ := Lib.hid (show (((((o ++ ({ data := #[32] } : ByteArray)) ++ wd) ++ ({ data := #[32] } : ByteArray)) ++ sg) ++ ({ data := #[32, 59] } : ByteArray)) = Lx.pack (ptL names l (k + 1)) from HJ.out.symm ▸ rfl)
            have q0 : (9223372036854775807 < o.size + 1) = False := eq_false (by omega)
            have q1 : (9223372036854775807 < o.size + 1 + wd.size) = False := eq_false (by omega)
            have q2 : (9223372036854775807 < o.size + 1 + wd.size + 1) = False := eq_false (by omega)
            have q3 : (9223372036854775807 < o.size + 1 + wd.size + 1 + sg.size) = False := eq_false (by omega)
            have q4 : (9223372036854775807 < o.size + 1 + wd.size + 1 + sg.size + 2) = False := eq_false (by omega)
            go_wp2_with (fail)
            refine (HWD.out _).mono ?_
            rintro e w1 ⟨rfl, hb1⟩
            have hp1 := HXB.out.below hb1 HXB.out.lt
            have d0 : w1.cell? ⟨wr.heap.size, 0, none⟩ = some (.int .i64 (u : Int)) := hp1.cell 0
            have d1 : w1.cell? ⟨wr.heap.size, 1, none⟩ = some (.int .i64 n) := hp1.cell 1
            have d2 : w1.cell? ⟨wr.heap.size, 2, none⟩ = some (.int .i64 lb) := hp1.cell 2
            have HB2 := Lib.hid (HAL.out.trans (hb1.mono HAL.out.size))
            have HB3 := Lib.hid (HG.out.below.trans (HB2.out.mono HG.out.below.size))
            have HLT := Lib.hid (HG.out.lat.below HB2.out HG.out.lat.lt)

            clear hb1 hp1 x0 x1 x2
            go_wp2_with (first | (go_at_call 39; refine (HHN.out _).mono ?_; rintro e w' ⟨rfl, rfl⟩) | (go_at_call 40; refine (HNT.out _).mono ?_; rintro e w' ⟨rfl, rfl⟩))
            go_roundw
            case rel => exact ⟨k + 1, by omega, by go_num, congrArg Value.string HEQ.out, Lib.hid ⟨HB3.out, HLT.out⟩⟩
            case measure => simp [intOf]; omega
      · have HP0 : Hid (ptL names l k = []) := Lib.hid (by rw [show k = 0 by omega, ptL_zero])
        have hgt : ((k : Int) > 0) = False := eq_false (by omega)
        cases hnum : Cd.number (u : Int) with
        | false =>
          have hne : (u : Int) ≠ 1 := by intro e; rw [e] at hnum; cases hnum
          rw [hnum] at HHN
          have HE1 : Hid (((u : Int) == 1) = false) := Lib.hid (by rw [beq_eq_false_iff_ne]; exact hne)
          have he1 := HE1.out
          have HJ : Hid (Lx.pack (ptL names l (k + 1)) = o ++ wd ++ ({ data := #[32, 59] } : ByteArray)) := Lib.hid (by
            rw [HPN.out, if_neg hk0, HBODY.out, if_neg (by rw [hnum]; decide), if_neg hne, List.append_nil, List.append_nil, ← HO.out, ← HWE.out]
            simp only [lit32, lit3, lit2, pack_app, HP0.out, List.append_assoc, List.cons_append, List.nil_append])
          clear hnum hne
          have HEQ := Lib.hid (show ((o ++ wd) ++ ({ data := #[32, 59] } : ByteArray)) = Lx.pack (ptL names l (k + 1)) from HJ.out.symm ▸ rfl)
          have q0 : (9223372036854775807 < o.size + wd.size) = False := eq_false (by omega)
          have q1 : (9223372036854775807 < o.size + wd.size + 2) = False := eq_false (by omega)
          go_wp2_with (fail)
          refine (HWD.out _).mono ?_
          rintro e w1 ⟨rfl, hb1⟩
          have hp1 := HXB.out.below hb1 HXB.out.lt
          have d0 : w1.cell? ⟨wr.heap.size, 0, none⟩ = some (.int .i64 (u : Int)) := hp1.cell 0
          have d1 : w1.cell? ⟨wr.heap.size, 1, none⟩ = some (.int .i64 n) := hp1.cell 1
          have d2 : w1.cell? ⟨wr.heap.size, 2, none⟩ = some (.int .i64 lb) := hp1.cell 2
          have HB2 := Lib.hid (HAL.out.trans (hb1.mono HAL.out.size))
          have HB3 := Lib.hid (HG.out.below.trans (HB2.out.mono HG.out.below.size))
          have HLT := Lib.hid (HG.out.lat.below HB2.out HG.out.lat.lt)

          clear hb1 hp1 x0 x1 x2
          go_wp2_with (first | (go_at_call 39; refine (HHN.out _).mono ?_; rintro e w' ⟨rfl, rfl⟩))
          go_roundw
          case rel => exact ⟨k + 1, by omega, by go_num, congrArg Value.string HEQ.out, Lib.hid ⟨HB3.out, HLT.out⟩⟩
          case measure => simp [intOf]; omega
        | true =>
          rw [hnum] at HHN
          by_cases hone : (u : Int) = 1
          · obtain ⟨l1, l2⟩ := HL.out hone
            obtain ⟨nad, nm, hnad, hadb, hnm, hcn⟩ := strs_at HN.out (show lb.toNat < names.length by rw [HNS.out.len]; exact l1)
            subst hnad
            obtain ⟨nb, rfl⟩ : ∃ nb, nm = Lx.pack nb := ⟨_, (Lx.pack_data nm).symm⟩
            have HCN : Hid (∀ W, Below w.heap.size w W → W.cell? (nad.add lb.toNat) = some (.string (Lx.pack nb))) := Lib.hid fun W hW => (hW.cell (by rw [add_block]; exact hadb)).trans hcn
            have hnl : Cd.nameL names lb = nb := by unfold Cd.nameL; rw [List.getD_eq_getElem?_getD, hnm]; exact Lx.pack_list nb
            have hn12 : (Lx.pack nb).size ≤ 12 := by
              have := (HNS.out.letters l1).2.2
              rw [List.getD_eq_getElem?_getD, hnm] at this
              rw [Lib.size_eq]; exact this
            have hlen : lb.toNat < names.length := by rw [HNS.out.len]; exact l1
            have HJ : Hid (Lx.pack (ptL names l (k + 1)) = o ++ wd ++ ({ data := #[32] } : ByteArray) ++ sg ++ ({ data := #[32, 64, 32] } : ByteArray) ++ Lx.pack nb ++ ({ data := #[32, 59] } : ByteArray)) := Lib.hid (by
              rw [HPN.out, if_neg hk0, HBODY.out, if_pos hnum, if_pos hone, ← HO.out, ← HWE.out, ← HSG.out, hnl]
              simp only [lit32, lit3, lit2, pack_app, HP0.out, List.append_assoc, List.cons_append, List.nil_append])
            have hadb2 : (nad.add lb.toNat).block < w.heap.size := by rw [add_block]; exact hadb
            have HAB := Lib.hid hadb2
            have he1 : ((u : Int) == 1) = true := by rw [beq_iff_eq]; exact hone
            clear hnm hnl hnum hcn HL HBODY HPN HNS
            generalize Lx.pack nb = nm at *
            generalize lb.toNat = j at *
            obtain rfl : u = 1 := by omega
            subst l2
            have HWD : Hid (∀ W, Calls Tryz.prog 38 #[.int .i64 1] W (TellsStr W wd)) := HWD
            have HHN : Hid (∀ W, Calls Tryz.prog 39 #[.int .i64 1] W fun e w' => e = .returned (.bool true) ∧ W = w') := HHN
            have HAL : Hid (Below wr.heap.size wr (wr.alloc (.cells #[.int .i64 1, .int .i64 n, .int .i64 (j : Int)] 57))) := HAL
            have HXB : Hid (Blk (wr.alloc (.cells #[.int .i64 1, .int .i64 n, .int .i64 (j : Int)] 57)) wr.heap.size 57 #[.int .i64 1, .int .i64 n, .int .i64 (j : Int)]) := HXB
            have x0 : wr.cell? (ad.add (k * 3)) = some (.int .i64 1) := x0
            clear hone hadb hadb2 he1
            have HEQ := Lib.hid (show ((((((o ++ wd) ++ ({ data := #[32] } : ByteArray)) ++ sg) ++ ({ data := #[32, 64, 32] } : ByteArray)) ++ nm) ++ ({ data := #[32, 59] } : ByteArray)) = Lx.pack (ptL names l (k + 1)) from HJ.out.symm ▸ rfl)
            have q0 : (9223372036854775807 < o.size + wd.size) = False := eq_false (by omega)
            have q1 : (9223372036854775807 < o.size + wd.size + 1) = False := eq_false (by omega)
            have q2 : (9223372036854775807 < o.size + wd.size + 1 + sg.size) = False := eq_false (by omega)
            have q3 : (9223372036854775807 < o.size + wd.size + 1 + sg.size + 3) = False := eq_false (by omega)
            have q4 : (9223372036854775807 < o.size + wd.size + 1 + sg.size + 3 + nm.size) = False := eq_false (by omega)
            have q5 : (9223372036854775807 < o.size + wd.size + 1 + sg.size + 3 + nm.size + 2) = False := eq_false (by omega)
            go_wp2_with (fail)
            refine (HWD.out _).mono ?_
            rintro e w1 ⟨rfl, hb1⟩
            have hp1 := HXB.out.below hb1 HXB.out.lt
            have d0 : w1.cell? ⟨wr.heap.size, 0, none⟩ = some (.int .i64 1) := hp1.cell 0
            have d1 : w1.cell? ⟨wr.heap.size, 1, none⟩ = some (.int .i64 n) := hp1.cell 1
            have d2 : w1.cell? ⟨wr.heap.size, 2, none⟩ = some (.int .i64 (j : Int)) := hp1.cell 2
            have HB2 := Lib.hid (HAL.out.trans (hb1.mono HAL.out.size))
            have HB3 := Lib.hid (HG.out.below.trans (HB2.out.mono HG.out.below.size))
            have HLT := Lib.hid (HG.out.lat.below HB2.out HG.out.lat.lt)
            have hp0 := HLAT.out.below HB2.out (by have := HSZ.out; omega)
            have y0 : w1.cell? ⟨w.heap.size, 0, none⟩ = some (.slice (some nad) names.length c1) := hp0.cell 0
            have z0 := HCN.out w1 HB3.out
            have hab1 : (nad.add j).block < w1.heap.size := Nat.lt_of_lt_of_le HAB.out HB3.out.size
            clear hb1 hp1 hp0 x0 x1 x2
            go_wp2_with (first | (go_at_call 39; refine (HHN.out _).mono ?_; rintro e w' ⟨rfl, rfl⟩) | (go_at_call 40; refine (HNT.out _).mono ?_; rintro e w' ⟨rfl, rfl⟩))
            go_roundw
            case rel => exact ⟨k + 1, by omega, by go_num, congrArg Value.string HEQ.out, Lib.hid ⟨HB3.out, HLT.out⟩⟩
            case measure => simp [intOf]; omega
          · have he1 : ((u : Int) == 1) = false := by rw [beq_eq_false_iff_ne]; exact hone
            have HJ : Hid (Lx.pack (ptL names l (k + 1)) = o ++ wd ++ ({ data := #[32] } : ByteArray) ++ sg ++ ({ data := #[32, 59] } : ByteArray)) := Lib.hid (by
              rw [HPN.out, if_neg hk0, HBODY.out, if_pos hnum, if_neg hone, List.append_nil, ← HO.out, ← HWE.out, ← HSG.out]
              simp only [lit32, lit3, lit2, pack_app, HP0.out, List.append_assoc, List.cons_append, List.nil_append])
            clear hnum hone
            have HEQ := Lib.hid (show ((((o ++ wd) ++ ({ data := #[32] } : ByteArray)) ++ sg) ++ ({ data := #[32, 59] } : ByteArray)) = Lx.pack (ptL names l (k + 1)) from HJ.out.symm ▸ rfl)
            have q0 : (9223372036854775807 < o.size + wd.size) = False := eq_false (by omega)
            have q1 : (9223372036854775807 < o.size + wd.size + 1) = False := eq_false (by omega)
            have q2 : (9223372036854775807 < o.size + wd.size + 1 + sg.size) = False := eq_false (by omega)
            have q3 : (9223372036854775807 < o.size + wd.size + 1 + sg.size + 2) = False := eq_false (by omega)
            go_wp2_with (fail)
            refine (HWD.out _).mono ?_
            rintro e w1 ⟨rfl, hb1⟩
            have hp1 := HXB.out.below hb1 HXB.out.lt
            have d0 : w1.cell? ⟨wr.heap.size, 0, none⟩ = some (.int .i64 (u : Int)) := hp1.cell 0
            have d1 : w1.cell? ⟨wr.heap.size, 1, none⟩ = some (.int .i64 n) := hp1.cell 1
            have d2 : w1.cell? ⟨wr.heap.size, 2, none⟩ = some (.int .i64 lb) := hp1.cell 2
            have HB2 := Lib.hid (HAL.out.trans (hb1.mono HAL.out.size))
            have HB3 := Lib.hid (HG.out.below.trans (HB2.out.mono HG.out.below.size))
            have HLT := Lib.hid (HG.out.lat.below HB2.out HG.out.lat.lt)

            clear hb1 hp1 x0 x1 x2
            go_wp2_with (first | (go_at_call 39; refine (HHN.out _).mono ?_; rintro e w' ⟨rfl, rfl⟩) | (go_at_call 40; refine (HNT.out _).mono ?_; rintro e w' ⟨rfl, rfl⟩))
            go_roundw
            case rel => exact ⟨k + 1, by omega, by go_num, congrArg Value.string HEQ.out, Lib.hid ⟨HB3.out, HLT.out⟩⟩
            case measure => simp [intOf]; omega
    · obtain rfl : k = ln := by omega
      have hb := HG.out.below
      have HLF := Lib.hid (show Lx.pack (ptL names l k) = Lx.pack (ptL names l k) from rfl)
      go_wp2
      go_ret
      exact ⟨rfl, hb⟩
end Go.Proofs.YtipbilmnknmhmaaGreatDoor
