/- The reader of tokens in memory (package notation), by gen_notg.py; walks of Next, takes, must, Word, Mark, TakesWord, TakesMark, digits. -/
import Derived.Test.YtipbilmnknmhmaaGreatDoorGCodA
import Derived.Test.YtipbilmnknmhmaaGreatDoorGOrd
import Derived.Test.YtipbilmnknmhmaaGreatDoorGTabE
import Derived.Test.YtipbilmnknmhmaaGreatDoorGOrdC
namespace Go.Proofs.YtipbilmnknmhmaaGreatDoor
set_option maxRecDepth 100000
open Go.RowKit Go.Shelf
attribute [local go_sem] Oper.semAt_some

/-- What lies below the reader while tokens are read. -/
structure NOld (R : Nat) (N U A : Option Addr) (c1 c2 ct : Nat) (names : List ByteArray) (up : List Nat) (l : List Lx.Tk) (W : World) : Prop where
  lat : IsLat W R (.agg #[.slice N names.length c1, .slice U up.length c2]) names up
  toks : Row W R A (tcells l)
  many : l.length ≤ 100000
/-- The reader at R. -/
structure NRd (R : Nat) (N U A : Option Addr) (c1 c2 ct : Nat) (names : List ByteArray) (up : List Nat) (l : List Lx.Tk) (p : Nat) (W : World) : Prop where
  blk : Blk W R 126 #[.slice N names.length c1, .slice U up.length c2, .slice A l.length ct, .int .i64 (p : Int)]
  old : NOld R N U A c1 c2 ct names up l W
  pos : p < l.length
/-- Is a token of a kind and a text? -/
def isK (l : List Lx.Tk) (k : Int) (t : ByteArray) (i : Nat) : Bool := decide ((Tb.tok l i).kind = k ∧ (Tb.tok l i).text = t)
def nxt (b : Bool) (p : Nat) : Nat := if b = true then p + 1 else p
theorem isK_next {l : List Lx.Tk} (hf : Tb.Fine l) {i : Nat} (h : i < l.length) {k : Int} (hk : k ≠ 0) {t : ByteArray} : nxt (isK l k t i) i < l.length := by
  unfold nxt
  by_cases hm : isK l k t i = true
  · rw [if_pos hm]
    exact Cd.kind_next hf h (by have := (of_decide_eq_true hm).1; omega)
  · rw [if_neg hm]; exact h
theorem isK_mark (l : List Lx.Tk) (t : ByteArray) (i : Nat) : isK l 3 t i = Cd.isM l t i := rfl
theorem Kept.setNew {R Q : Nat} {a w : World} (h : Kept R Q a w) {p : Addr} (hp : a.heap.size ≤ p.block) (u : Value) : Kept R Q a (w.setCell p u) :=
  ⟨h.os, h.tape, h.output, by have := h.size; simpa [World.setCell] using this, fun k hk hR hQ => (Below.heap_setCell _ _ _ _ (by omega)).trans (h.block k hk hR hQ)⟩
section
variable {R c1 c2 ct p q : Nat} {N U A : Option Addr} {names : List ByteArray} {up : List Nat} {l : List Lx.Tk} {w w' : World}
theorem NOld.below (h : NOld R N U A c1 c2 ct names up l w) (hb : Below R w w') : NOld R N U A c1 c2 ct names up l w' :=
  ⟨h.lat.below hb, h.toks.below hb, h.many⟩
theorem Kept.belowR (hk : Kept R R w w') (hR : R ≤ w.heap.size) : Below R w w' := hk.below hR (Nat.le_refl _) (Nat.le_refl _)
theorem NRd.lt (h : NRd R N U A c1 c2 ct names up l p w) : R < w.heap.size := h.blk.lt
/-- A step that does not turn the reader. -/
theorem NRd.keep (h : NRd R N U A c1 c2 ct names up l p w) (hb : Below w.heap.size w w') : NRd R N U A c1 c2 ct names up l p w' :=
  ⟨h.blk.below hb h.lt, h.old.below (hb.mono (Nat.le_of_lt h.lt)), h.pos⟩
/-- The place is stored. -/
theorem NRd.go (h : NRd R N U A c1 c2 ct names up l p w) (hq : q < l.length) : NRd R N U A c1 c2 ct names up l q (w.setCell ⟨R, 3, none⟩ (.int .i64 (q : Int))) := by
  have hk : Kept R R w (w.setCell ⟨R, 3, none⟩ (.int .i64 (q : Int))) := (Kept.refl R R w).set_ (.inl rfl) _
  exact ⟨h.blk.set_ 3 _, h.old.below (hk.belowR (Nat.le_of_lt h.lt)), hq⟩
theorem NRd.c0 (h : NRd R N U A c1 c2 ct names up l p w) : w.cell? ⟨R, 0, none⟩ = some (.slice N names.length c1) := h.blk.cell 0
theorem NRd.c1_ (h : NRd R N U A c1 c2 ct names up l p w) : w.cell? ⟨R, 1, none⟩ = some (.slice U up.length c2) := h.blk.cell 1
theorem NRd.c2_ (h : NRd R N U A c1 c2 ct names up l p w) : w.cell? ⟨R, 2, none⟩ = some (.slice A l.length ct) := h.blk.cell 2
theorem NRd.c3 (h : NRd R N U A c1 c2 ct names up l p w) : w.cell? ⟨R, 3, none⟩ = some (.int .i64 (p : Int)) := h.blk.cell 3
theorem NRd.tok (h : NRd R N U A c1 c2 ct names up l p w) : ∃ ad, A = some ad ∧ ad.block < w.heap.size ∧ w.cell? (ad.add (p * 3)) = some (.int .i64 (Tb.tok l p).kind) ∧
    w.cell? ⟨(ad.add (p * 3)).block, (ad.add (p * 3)).off + 1, none⟩ = some (.string (Tb.tok l p).text) ∧ w.cell? ⟨(ad.add (p * 3)).block, (ad.add (p * 3)).off + 2, none⟩ = some (.int .i64 (Tb.tok l p).pos) := by
  obtain ⟨ad, t, e, hb, ht, c0, c1, c2⟩ := trow_at h.old.toks h.pos
  have e2 := Tb.tok_some h.pos
  rw [ht] at e2
  injection e2 with e2
  subst e2
  exact ⟨ad, e, Nat.lt_trans hb h.lt, c0, c1, c2⟩
/-- A bool is answered, and the place is the one that it tells. -/
def NTook (R : Nat) (N U A : Option Addr) (c1 c2 ct : Nat) (names : List ByteArray) (up : List Nat) (l : List Lx.Tk) (p : Nat) (w : World) (b : Bool) (e : Ending) (w' : World) : Prop :=
  e = .returned (.bool b) ∧ NRd R N U A c1 c2 ct names up l (nxt b p) w' ∧ Kept R R w w'
def errB (b : Bool) : Nat := if b = true then 0 else 4
/-- What a method answers, and what it leaves. -/
def NTold (R : Nat) (N U A : Option Addr) (c1 c2 ct : Nat) (names : List ByteArray) (up : List Nat) (l : List Lx.Tk) (w : World) (r : Nat × Nat) (e : Ending) (w' : World) : Prop :=
  e = .returned (.int .i64 (r.2 : Nat)) ∧ NRd R N U A c1 c2 ct names up l r.1 w' ∧ Kept R R w w'
def NTold2 (R : Nat) (N U A : Option Addr) (c1 c2 ct : Nat) (names : List ByteArray) (up : List Nat) (l : List Lx.Tk) (w : World) (r : Int × Nat × Nat) (e : Ending) (w' : World) : Prop :=
  e = .returned (.tuple #[.int .i64 r.1, .int .i64 (r.2.2 : Nat)]) ∧ NRd R N U A c1 c2 ct names up l r.2.1 w' ∧ Kept R R w w'
set_option maxHeartbeats 2000000 in
theorem nnext_any (w : World) (h : NRd R N U A c1 c2 ct names up l p w) : Calls Tryz.prog 128 #[.pointer (some ⟨R, 0, none⟩)] w fun e w' => e = .returned (tkv (Tb.tok l p)) ∧ Below w.heap.size w w' := by
  have c3 := h.c2_
  have c4 := h.c3
  have hpos := h.pos
  have hR := h.lt
  obtain ⟨ad, rfl, hb, t0, t1, t2⟩ := h.tok
  have hb2 : (ad.add (p * 3)).block < w.heap.size := by rw [add_block]; exact hb
  unfold tkv
  generalize Tb.tok l p = t at *
  obtain ⟨kd, tx, ps⟩ := t
  dsimp only at t0 t1 t2 ⊢
  generalize l.length = n at *
  clear h
  go_enter Tryz.func128, Tryz.ntmps128
  go_wp2
  go_region
  all_goals go_wp2
  all_goals
    go_returns
    exact ⟨rfl, ((Below.refl _ w).alloc (Nat.le_refl _) _).drew⟩
set_option maxHeartbeats 2000000 in
theorem ntakes_any (hf : Tb.Fine l) (k : Int) (hk0 : k ≠ 0) (x : ByteArray) (w : World) (h : NRd R N U A c1 c2 ct names up l p w) : Calls Tryz.prog 154 #[.pointer (some ⟨R, 0, none⟩), .int .i64 k, .string x] w (NTook R N U A c1 c2 ct names up l p w (isK l k x p)) := by
  have hn := nnext_any w h
  have hlt := isK_next hf h.pos hk0 (t := x)
  have hmany := h.old.many
  have H := Lib.hid h
  unfold tkv at hn
  unfold isK at hlt ⊢
  generalize Tb.tok l p = t at *
  obtain ⟨kd, tx, ps⟩ := t
  dsimp only at hn hlt ⊢
  have HN := Lib.hid hn
  by_cases hk : kd = k
  · subst hk
    by_cases ht : tx = x
    · subst ht
      rw [decide_eq_true ⟨rfl, rfl⟩] at hlt ⊢
      have hlt2 : p + 1 < l.length := hlt
      have hbe : (tx.toList == tx.toList) = true := by simp
      clear h hn hlt
      go_enter Tryz.func154, Tryz.ntmps154
      go_wp2_with (fail)
      refine HN.out.mono ?_
      rintro e w1 ⟨rfl, hb1⟩
      have hb2 := hb1.alloc hb1.size (.cells #[.int .i64 kd, .string tx, .int .i64 ps] 94)
      have h1 := H.out.keep hb2
      have c4 := h1.c3
      have hfz := h1.blk.frozen 3
      have hR := H.out.lt
      have hz1 := hb1.size
      have hg := h1.go (q := p + 1) hlt2
      rw [show ((p + 1 : Nat) : Int) = (p : Int) + 1 by omega] at hg
      have HG := Lib.hid hg
      have HK := Lib.hid ((Kept.of (R := R) (Q := R) hb2).set_ (p := ⟨R, 3, none⟩) (.inl rfl) (.int .i64 ((p : Int) + 1)))
      clear hb1 hb2 h1 hg
      go_wp2
      go_ret
      exact ⟨rfl, HG.out, HK.out⟩
    · rw [decide_eq_false (fun h => ht h.2)]
      have hbe : (tx.toList == x.toList) = false := by rw [str_beq]; exact decide_eq_false ht
      clear h hn hlt
      go_enter Tryz.func154, Tryz.ntmps154
      go_wp2_with (fail)
      refine HN.out.mono ?_
      rintro e w1 ⟨rfl, hb1⟩
      have hb2 := hb1.alloc hb1.size (.cells #[.int .i64 kd, .string tx, .int .i64 ps] 94)
      have H1 := Lib.hid (H.out.keep hb2)
      have HK := Lib.hid (Kept.of (R := R) (Q := R) hb2)
      clear hb1 hb2
      go_wp2
      go_ret
      exact ⟨rfl, H1.out, HK.out⟩
  · rw [decide_eq_false (fun h => hk h.1)]
    have hk2 : (kd != k) = true := by rw [bne_iff_ne]; exact hk
    clear h hn hlt hk
    go_enter Tryz.func154, Tryz.ntmps154
    go_wp2_with (fail)
    refine HN.out.mono ?_
    rintro e w1 ⟨rfl, hb1⟩
    have hb2 := hb1.alloc hb1.size (.cells #[.int .i64 kd, .string tx, .int .i64 ps] 94)
    have H1 := Lib.hid (H.out.keep hb2)
    have HK := Lib.hid (Kept.of (R := R) (Q := R) hb2)
    clear hb1 hb2
    go_wp2
    go_ret
    exact ⟨rfl, H1.out, HK.out⟩
theorem nmust_any (hf : Tb.Fine l) (k : Int) (hk0 : k ≠ 0) (x : ByteArray) (w : World) (h : NRd R N U A c1 c2 ct names up l p w) : Calls Tryz.prog 153 #[.pointer (some ⟨R, 0, none⟩), .int .i64 k, .string x] w (NTold R N U A c1 c2 ct names up l w (nxt (isK l k x p) p, errB (isK l k x p))) := by
  have HN := Lib.hid (ntakes_any hf k hk0 x w h)
  clear h
  generalize isK l k x p = b at *
  cases b with
  | true =>
    go_enter Tryz.func153, Tryz.ntmps153
    go_wp2_with (fail)
    refine HN.out.mono ?_
    rintro e w1 ⟨rfl, h1, hk1⟩
    have H1 := Lib.hid h1
    have HK1 := Lib.hid hk1
    clear h1 hk1
    go_wp2
    go_ret
    exact ⟨rfl, H1.out, HK1.out⟩
  | false =>
    go_enter Tryz.func153, Tryz.ntmps153
    go_wp2_with (fail)
    refine HN.out.mono ?_
    rintro e w1 ⟨rfl, h1, hk1⟩
    have H1 := Lib.hid h1
    have HK1 := Lib.hid hk1
    clear h1 hk1
    go_wp2
    go_ret
    exact ⟨rfl, H1.out, HK1.out⟩
theorem nmark_any (hf : Tb.Fine l) (x : ByteArray) (w : World) (h : NRd R N U A c1 c2 ct names up l p w) : Calls Tryz.prog 134 #[.pointer (some ⟨R, 0, none⟩), .string x] w (NTold R N U A c1 c2 ct names up l w (nxt (isK l 3 x p) p, errB (isK l 3 x p))) := by
  have HN := Lib.hid (nmust_any hf 3 (by decide) x w h)
  clear h
  generalize isK l 3 x p = b at *
  go_enter Tryz.func134, Tryz.ntmps134
  go_wp2_with (fail)
  refine HN.out.mono ?_
  rintro e w1 ⟨rfl, h1, hk1⟩
  have H1 := Lib.hid h1
  have HK1 := Lib.hid hk1
  clear h1 hk1
  go_wp2
  go_ret
  exact ⟨rfl, H1.out, HK1.out⟩
theorem nword_any (hf : Tb.Fine l) (x : ByteArray) (w : World) (h : NRd R N U A c1 c2 ct names up l p w) : Calls Tryz.prog 133 #[.pointer (some ⟨R, 0, none⟩), .string x] w (NTold R N U A c1 c2 ct names up l w (nxt (isK l 1 x p) p, errB (isK l 1 x p))) := by
  have HN := Lib.hid (nmust_any hf 1 (by decide) x w h)
  clear h
  generalize isK l 1 x p = b at *
  go_enter Tryz.func133, Tryz.ntmps133
  go_wp2_with (fail)
  refine HN.out.mono ?_
  rintro e w1 ⟨rfl, h1, hk1⟩
  have H1 := Lib.hid h1
  have HK1 := Lib.hid hk1
  clear h1 hk1
  go_wp2
  go_ret
  exact ⟨rfl, H1.out, HK1.out⟩
theorem ntmark_any (hf : Tb.Fine l) (x : ByteArray) (w : World) (h : NRd R N U A c1 c2 ct names up l p w) : Calls Tryz.prog 135 #[.pointer (some ⟨R, 0, none⟩), .string x] w (NTook R N U A c1 c2 ct names up l p w (isK l 3 x p)) := by
  have HN := Lib.hid (ntakes_any hf 3 (by decide) x w h)
  clear h
  generalize isK l 3 x p = b at *
  go_enter Tryz.func135, Tryz.ntmps135
  go_wp2_with (fail)
  refine HN.out.mono ?_
  rintro e w1 ⟨rfl, h1, hk1⟩
  have H1 := Lib.hid h1
  have HK1 := Lib.hid hk1
  clear h1 hk1
  go_wp2
  go_ret
  exact ⟨rfl, H1.out, HK1.out⟩
theorem ntword_any (hf : Tb.Fine l) (x : ByteArray) (w : World) (h : NRd R N U A c1 c2 ct names up l p w) : Calls Tryz.prog 138 #[.pointer (some ⟨R, 0, none⟩), .string x] w (NTook R N U A c1 c2 ct names up l p w (isK l 1 x p)) := by
  have HN := Lib.hid (ntakes_any hf 1 (by decide) x w h)
  clear h
  generalize isK l 1 x p = b at *
  go_enter Tryz.func138, Tryz.ntmps138
  go_wp2_with (fail)
  refine HN.out.mono ?_
  rintro e w1 ⟨rfl, h1, hk1⟩
  have H1 := Lib.hid h1
  have HK1 := Lib.hid hk1
  clear h1 hk1
  go_wp2
  go_ret
  exact ⟨rfl, H1.out, HK1.out⟩
end
theorem numV_snoc (l : List UInt8) (c : UInt8) : Cd.numV (l ++ [c]) = 10 * Cd.numV l + c.toNat % 16 := by
  unfold Cd.numV
  rw [List.foldl_append]
  rfl
theorem numV_le : ∀ l : List UInt8, l.length ≤ 4 → Cd.numV l ≤ 16665
  | [], _ => by decide
  | [a], _ => by simp [Cd.numV]; omega
  | [a, b], _ => by simp [Cd.numV]; omega
  | [a, b, c], _ => by simp [Cd.numV]; omega
  | [a, b, c, d], _ => by simp [Cd.numV]; omega
  | a :: b :: c :: d :: e :: l, h => by simp at h
set_option maxHeartbeats 1000000 in
theorem ndigits_any (s : ByteArray) (w : World) (hs : s.size ≤ 4) : Calls Tryz.prog 155 #[.string s] w fun e w' => e = .returned (.int .i64 (Cd.numV s.data.toList : Nat)) ∧ w = w' := by
  go_enter Tryz.func155, Tryz.ntmps155
  go_wp2
  go_loop [3, 7] (fun n i => ∃ k m : Nat, k ≤ s.size ∧ i = .int .i64 k ∧ n = .int .i64 m ∧ Hid (m = Cd.numV (s.data.toList.take k)) ∧ m ≤ 16665) (fun _ i => s.size - (intOf i).toNat)
  case atStart => exact ⟨0, 0, Nat.zero_le _, rfl, rfl, Lib.hid rfl, by decide⟩
  case round =>
    obtain ⟨k, m, hk, rfl, rfl, HM, hm⟩ := hrel
    by_cases hlt : k < s.size
    · have hnext : 10 * m + (s[k].toNat % 16) = Cd.numV (s.data.toList.take (k + 1)) := by
        rw [List.take_succ_eq_append_getElem (by simpa using hlt), numV_snoc, ← HM.out]
        rfl
      have hle : 10 * m + (s[k].toNat % 16) ≤ 16665 := by
        rw [hnext]
        refine numV_le _ ?_
        rw [List.length_take]
        omega
      have HN := Lib.hid hnext
      clear hnext
      go_wp2
      go_round
      case rel => exact ⟨k + 1, 10 * m + s[k].toNat % 16, by omega, by go_num, by go_num, HN, hle⟩
      case measure => simp [intOf]; omega
    · go_wp2
      go_ret
      obtain rfl : k = s.size := by omega
      have hm2 : m = Cd.numV s.data.toList := by rw [HM.out, show s.size = s.data.toList.length by simp, List.take_length]
      subst hm2
      exact ⟨rfl, rfl⟩
end Go.Proofs.YtipbilmnknmhmaaGreatDoor

/- The reference's Mark, Int (by gen_codb.py). -/
namespace Go.Proofs.YtipbilmnknmhmaaGreatDoor
set_option maxRecDepth 100000
open Go.RowKit Go.Shelf Go.Sort
attribute [local go_sem] Oper.semAt_some
/-- The reference's state: place, number, instruction, error. -/
structure RP where
  i : Nat
  n : Int
  x : Cd.In
  e : Nat
def rpv (p : RP) : Value := .agg #[.int .i64 p.i, .int .i64 p.n, .int .i64 p.x.op, .int .i64 p.x.n, .int .i64 p.x.l, .int .i64 p.e]
/-- A state is answered. -/
def TellsP (w : World) (p : RP) (e : Ending) (w' : World) : Prop := e = .returned (rpv p) ∧ Below w.heap.size w w'
theorem two_new (w : World) (o o2 : Obj) : Below w.heap.size w ((w.alloc o).alloc o2) := ((Below.refl _ w).alloc (Nat.le_refl _) o).alloc (by simp) o2
theorem three_new (w : World) (o o2 o3 : Obj) : Below w.heap.size w (((w.alloc o).alloc o2).alloc o3) := (two_new w o o2).alloc (by simp; omega) o3
def rMark (l : List Lx.Tk) (t : ByteArray) (p : RP) : RP := if p.e = 0 then (if Cd.isM l t p.i = true then { p with i := p.i + 1 } else { p with e := 4 }) else p
set_option maxHeartbeats 4000000 in
theorem rMark8_any {A : Option Addr} {l : List Lx.Tk} (c : Nat) (t : ByteArray) (p : RP) (w : World) (h : Row w w.heap.size A (tcells l)) (hp : p.i < l.length) (hl : l.length ≤ 100000) :
    Calls Tryz.prog 139 #[.slice A l.length c, rpv p, .string t] w (TellsP w (rMark l t p)) := by
  obtain ⟨ad, tk, rfl, hb, ht, t0, t1, t2⟩ := trow_at h hp
  have e2 := Tb.tok_some hp
  rw [ht] at e2
  injection e2 with e2
  have hblk : (ad.add (p.i * 3)).block < w.heap.size := by rw [add_block]; exact hb
  obtain ⟨i, n, ⟨xo, xn, xl⟩, e⟩ := p
  dsimp only at hp e2 t0 t1 t2 hblk
  unfold rMark Cd.isM
  dsimp only
  rw [← e2]
  obtain ⟨kd, tx, ps⟩ := tk
  dsimp only at t0 t1 t2 ⊢
  clear e2 h ht hb
  unfold rpv
  dsimp only
  by_cases he : e = 0
  · subst he
    rw [if_pos rfl]
    by_cases hk : kd = 3
    · subst hk
      by_cases hx : tx = t
      · subst hx
        rw [if_pos (decide_eq_true ⟨rfl, rfl⟩)]
        have hbe : (tx.toList != tx.toList) = false := by simp
        go_enter Tryz.func139, Tryz.ntmps139
        go_wp2
        go_returns
        exact ⟨rfl, two_new w _ _⟩
      · rw [if_neg (by simp [hx])]
        have hbe : (tx.toList == t.toList) = false := by rw [str_beq, decide_eq_false hx]
        clear hx
        go_enter Tryz.func139, Tryz.ntmps139
        go_wp2
        go_returns
        exact ⟨rfl, two_new w _ _⟩
    · rw [if_neg (by simp [hk])]
      have hkb : (kd != 3) = true := by rw [bne_iff_ne]; exact hk
      clear hk
      go_enter Tryz.func139, Tryz.ntmps139
      go_wp2
      go_returns
      exact ⟨rfl, two_new w _ _⟩
  · rw [if_neg he]
    have hz1 : ((e : Int) != 0) = true := by rw [bne_iff_ne]; omega
    clear he
    go_enter Tryz.func139, Tryz.ntmps139
    go_wp2
    go_returns
    exact ⟨rfl, two_new w _ _⟩
/-- Int's blocks while it reads digits: its state, its answer (still empty), the token. -/
structure RInt (w : World) (i : Nat) (m : Int) (x : Cd.In) (tx : ByteArray) (ps : Int) (W : World) : Prop where
  st : Blk W w.heap.size 169 #[.int .i64 (i : Int), .int .i64 m, .int .i64 x.op, .int .i64 x.n, .int .i64 x.l, .int .i64 0]
  res : Blk W (w.heap.size + 1) 169 #[.int .i64 0, .int .i64 0, .int .i64 0, .int .i64 0, .int .i64 0, .int .i64 0]
  tok : Blk W (w.heap.size + 2) 94 #[.int .i64 2, .string tx, .int .i64 ps]
  below : Below w.heap.size w W
theorem RInt.start (w : World) (i : Nat) (x : Cd.In) (tx : ByteArray) (ps : Int) : RInt w i 0 x tx ps (((w.alloc (.cells #[.int .i64 (i : Int), .int .i64 0, .int .i64 x.op, .int .i64 x.n, .int .i64 x.l, .int .i64 0] 169)).alloc (.cells #[.int .i64 0, .int .i64 0, .int .i64 0, .int .i64 0, .int .i64 0, .int .i64 0] 169)).alloc (.cells #[.int .i64 2, .string tx, .int .i64 ps] 94)) := by
  have h1 := Blk.new (w.alloc (.cells #[.int .i64 (i : Int), .int .i64 0, .int .i64 x.op, .int .i64 x.n, .int .i64 x.l, .int .i64 0] 169)) 169 #[.int .i64 0, .int .i64 0, .int .i64 0, .int .i64 0, .int .i64 0, .int .i64 0]
  have h2 := Blk.new ((w.alloc (.cells #[.int .i64 (i : Int), .int .i64 0, .int .i64 x.op, .int .i64 x.n, .int .i64 x.l, .int .i64 0] 169)).alloc (.cells #[.int .i64 0, .int .i64 0, .int .i64 0, .int .i64 0, .int .i64 0, .int .i64 0] 169)) 94 #[.int .i64 2, .string tx, .int .i64 ps]
  simp only [World.size_alloc] at h1 h2
  exact ⟨((Blk.new w _ _).alloc _).alloc _, h1.alloc _, h2, three_new w _ _ _⟩
theorem RInt.set_ {w W : World} {i : Nat} {m : Int} {x : Cd.In} {tx : ByteArray} {ps : Int} (h : RInt w i m x tx ps W) (m' : Int) : RInt w i m' x tx ps (W.setCell ⟨w.heap.size, 1, none⟩ (.int .i64 m')) :=
  ⟨h.st.set_ 1 _, h.res.other (by show w.heap.size ≠ _; omega) _, h.tok.other (by show w.heap.size ≠ _; omega) _, h.below.setCell (Nat.le_refl _) _⟩
theorem RInt.drewN {w W : World} {i : Nat} {m : Int} {x : Cd.In} {tx : ByteArray} {ps : Int} (h : RInt w i m x tx ps W) (n : Nat) : RInt w i m x tx ps (W.drewN n) := ⟨h.st, h.res, h.tok, below_drawn h.below n⟩
theorem RInt.drew {w W : World} {i : Nat} {m : Int} {x : Cd.In} {tx : ByteArray} {ps : Int} (h : RInt w i m x tx ps W) : RInt w i m x tx ps W.drew := ⟨h.st, h.res, h.tok, h.below.drew⟩
/-- The answer is stored (the state with place and number set). -/
theorem RInt.fin {w W : World} {i : Nat} {m : Int} {x : Cd.In} {tx : ByteArray} {ps : Int} (h : RInt w i m x tx ps W) : W.cell? ⟨w.heap.size, 0, none⟩ = some (.int .i64 (i : Int)) ∧ W.cell? ⟨w.heap.size, 1, none⟩ = some (.int .i64 m) ∧ W.cell? ⟨w.heap.size, 2, none⟩ = some (.int .i64 x.op) ∧ W.cell? ⟨w.heap.size, 3, none⟩ = some (.int .i64 x.n) ∧ W.cell? ⟨w.heap.size, 4, none⟩ = some (.int .i64 x.l) ∧ W.cell? ⟨w.heap.size, 5, none⟩ = some (.int .i64 0) ∧ W.frozen? ⟨w.heap.size, 0, none⟩ = false ∧ W.frozen? ⟨w.heap.size, 1, none⟩ = false :=
  ⟨h.st.cell 0, h.st.cell 1, h.st.cell 2, h.st.cell 3, h.st.cell 4, h.st.cell 5, h.st.frozen 0, h.st.frozen 1⟩
/-- A result's six cells, written. -/
theorem res6 {w W : World} (hb : Below w.heap.size w W) {t : TypeId} {g : Nat} {v0 v1 v2 v3 v4 v5 : Value} (hk : Blk W g t #[v0, v1, v2, v3, v4, v5]) (hg : w.heap.size ≤ g) (u0 u1 u2 u3 u4 u5 : Value) :
    let W' := ((((((W.setCell ⟨g, 0, none⟩ u0).setCell ⟨g, 1, none⟩ u1).setCell ⟨g, 2, none⟩ u2).setCell ⟨g, 3, none⟩ u3).setCell ⟨g, 4, none⟩ u4).setCell ⟨g, 5, none⟩ u5)
    Blk W' g t #[u0, u1, u2, u3, u4, u5] ∧ Below w.heap.size w W' :=
  ⟨(((((hk.set_ 0 u0).set_ 1 u1).set_ 2 u2).set_ 3 u3).set_ 4 u4).set_ 5 u5, (((((hb.setCell (p := ⟨g, 0, none⟩) hg _).setCell (p := ⟨g, 1, none⟩) hg _).setCell (p := ⟨g, 2, none⟩) hg _).setCell (p := ⟨g, 3, none⟩) hg _).setCell (p := ⟨g, 4, none⟩) hg _).setCell (p := ⟨g, 5, none⟩) hg _⟩
theorem RInt.place {w W : World} {i : Nat} {m : Int} {x : Cd.In} {tx : ByteArray} {ps : Int} (h : RInt w i m x tx ps W) (u : Value) : Blk (W.setCell ⟨w.heap.size, 0, none⟩ u) (w.heap.size + 1) 169 #[.int .i64 0, .int .i64 0, .int .i64 0, .int .i64 0, .int .i64 0, .int .i64 0] ∧ Below w.heap.size w (W.setCell ⟨w.heap.size, 0, none⟩ u) :=
  ⟨h.res.other (by show w.heap.size ≠ _; omega) _, h.below.setCell (Nat.le_refl _) _⟩
def rInt (l : List Lx.Tk) (p : RP) : RP := if p.e = 0 then (if (Cd.intP l p.i).2.2 = 0 then { p with i := (Cd.intP l p.i).2.1, n := (Cd.intP l p.i).1 } else { p with i := (Cd.intP l p.i).2.1, e := 4 }) else p
theorem signed_pos_ (n : Nat) : Cd.signed false n = (n : Int) := rfl
theorem signed_neg_ (n : Nat) : Cd.signed true n = -(n : Int) := rfl
set_option maxHeartbeats 8000000 in
theorem rInt_any {A : Option Addr} {l : List Lx.Tk} (c : Nat) (p : RP) (w : World) (h : Row w w.heap.size A (tcells l)) (hf : Tb.Fine l) (hp : p.i < l.length) (hl : l.length ≤ 100000) :
    Calls Tryz.prog 117 #[.slice A l.length c, rpv p] w (TellsP w (rInt l p)) := by
  have hj := Cd.intJ_lt hf hp
  obtain ⟨ad, tk, rfl, hb, ht, t0, t1, t2⟩ := trow_at h hp
  obtain ⟨ad', tk', had, hb', ht', u0, u1, u2⟩ := trow_at h hj
  injection had with had
  subst had
  have e2 := Tb.tok_some hp
  rw [ht] at e2
  injection e2 with e2
  have e3 := Tb.tok_some hj
  rw [ht'] at e3
  injection e3 with e3
  have hblk : (ad.add (p.i * 3)).block < w.heap.size := by rw [add_block]; exact hb
  have hblk' : (ad.add (Cd.intJ l p.i * 3)).block < w.heap.size := by rw [add_block]; exact hb'
  obtain ⟨i, n, ⟨xo, xn, xl⟩, e⟩ := p
  dsimp only at hp e2 e3 t0 t1 t2 u0 u1 u2 hblk hblk' hj
  have hm : Cd.isM l Cd.bMinus i = decide (tk.kind = 3 ∧ tk.text = Cd.bMinus) := by unfold Cd.isM; rw [← e2]
  have hij : Cd.intJ l i = if Cd.isM l Cd.bMinus i = true then i + 1 else i := rfl
  unfold rInt
  dsimp only
  clear e2 ht ht' hb hb' h
  obtain ⟨kd0, tx0, ps0⟩ := tk
  obtain ⟨kd, tx, ps⟩ := tk'
  dsimp only at t0 t1 t2 u0 u1 u2 hm
  by_cases he : e = 0
  · subst he
    rw [if_pos rfl]
    by_cases hk : kd0 = 3 ∧ tx0 = Cd.bMinus
    · rw [decide_eq_true hk] at hm
      rw [hm, if_pos rfl] at hij
      rw [hij] at u0 u1 u2 hblk' hj e3
      obtain ⟨rfl, hk2⟩ := hk
      have hbe : (tx0.toList == [45]) = true := by rw [hk2, Lib.toList_data]; rfl
      clear hk2 t2
      by_cases hk2 : kd = 2
      · subst hk2
        by_cases hz : tx.size ≤ 4
        · have hint : Cd.intP l i = (Cd.signed true (Cd.numV tx.data.toList), i + 1 + 1, 0) := by
            unfold Cd.intP
            rw [hij, ← e3, hm]
            exact if_pos ⟨rfl, hz⟩
          rw [hint]
          clear hint hij e3 hm
          rw [if_pos rfl]
          rw [signed_neg_]
          unfold rpv
          go_enter Tryz.func117, Tryz.ntmps117
          go_wp2
          go_loopw [7] (fun j wr => ∃ (k : Nat) (m : Int), k ≤ tx.size ∧ j = .int .i64 k ∧ Hid (RInt w ((i + 1)) m ⟨xo, xn, xl⟩ tx ps wr) ∧ Hid (m = (Cd.numV (tx.data.toList.take k) : Nat)) ∧ 0 ≤ m ∧ m ≤ 16665) (fun j _ => tx.size - (intOf j).toNat)
          case atStart => exact ⟨0, 0, Nat.zero_le _, rfl, Lib.hid (RInt.start w ((i + 1)) ⟨xo, xn, xl⟩ tx ps), Lib.hid rfl, by decide, by decide⟩
          case round =>
            obtain ⟨k, m, hk, rfl, HR, HM, hm0, hm⟩ := hrel
            have f0 := HR.out.tok.cell 1
            obtain ⟨s0, s1, s2, s3, s4, s5, g0, g1⟩ := HR.out.fin
            have f1 : wr.cell? ⟨w.heap.size + 2, 1, none⟩ = some (.string tx) := f0
            clear f0
            by_cases hlt : k < tx.size
            · have hnext : 10 * m + ((tx[k].toNat : Int) % 16) = (Cd.numV (tx.data.toList.take (k + 1)) : Nat) := by
                rw [List.take_succ_eq_append_getElem (by simpa using hlt), numV_snoc, HM.out]
                simp
                rfl
              have hle : 10 * m + ((tx[k].toNat : Int) % 16) ≤ 16665 := by
                rw [hnext]
                have := numV_le (tx.data.toList.take (k + 1)) (by rw [List.length_take]; omega)
                omega
              have HN := Lib.hid hnext
              clear hnext
              have HSET := Lib.hid ((HR.out.set_ (10 * m + (tx[k].toNat : Int) % 16)).drew)
              have HSET2 := Lib.hid (HR.out.drew.set_ (10 * m + (tx[k].toNat : Int) % 16))
              clear s0 s2 s3 s4 s5 g0
              go_wp2
              go_region
              all_goals go_wp2
              all_goals go_roundw
              all_goals first
                | exact ⟨k + 1, _, by omega, by go_num, by first | exact HSET | exact HSET2, HN, by omega, hle⟩
                | (simp [intOf]; omega)
                | trace_state
            · obtain rfl : k = tx.size := by omega
              have hmv : m = (Cd.numV tx.data.toList : Nat) := by rw [HM.out, show tx.size = tx.data.toList.length by simp, List.take_length]
              have r0 : wr.cell? ⟨w.heap.size + 1, 0, none⟩ = some (.int .i64 0) := HR.out.res.cell 0
              have r1 : wr.cell? ⟨w.heap.size + 1, 1, none⟩ = some (.int .i64 0) := HR.out.res.cell 1
              have r2 : wr.cell? ⟨w.heap.size + 1, 2, none⟩ = some (.int .i64 0) := HR.out.res.cell 2
              have r3 : wr.cell? ⟨w.heap.size + 1, 3, none⟩ = some (.int .i64 0) := HR.out.res.cell 3
              have r4 : wr.cell? ⟨w.heap.size + 1, 4, none⟩ = some (.int .i64 0) := HR.out.res.cell 4
              have r5 : wr.cell? ⟨w.heap.size + 1, 5, none⟩ = some (.int .i64 0) := HR.out.res.cell 5
              have z0 := HR.out.res.frozen 0
              have z1 := HR.out.res.frozen 1
              have z2 := HR.out.res.frozen 2
              have z3 := HR.out.res.frozen 3
              have z4 := HR.out.res.frozen 4
              have z5 := HR.out.res.frozen 5
              obtain ⟨hk1, hb1⟩ := ((HR.out.set_ (-m)).place (.int .i64 ((i : Int) + 1 + 1)))
              obtain ⟨hk6, hb6⟩ := res6 hb1 hk1 (Nat.le_succ _) (.int .i64 ((i : Int) + 1 + 1)) (.int .i64 (-((Cd.numV tx.data.toList : Nat) : Int))) (.int .i64 xo) (.int .i64 xn) (.int .i64 xl) (.int .i64 0)
              subst hmv
              have HK6 := Lib.hid hk6
              have HB6 := Lib.hid hb6
              clear hk1 hb1 hk6 hb6
              go_wp2
              have q0 := HK6.out.cell 0
              have q1 := HK6.out.cell 1
              have q2 := HK6.out.cell 2
              have q3 := HK6.out.cell 3
              have q4 := HK6.out.cell 4
              have q5 := HK6.out.cell 5
              refine bodyPost_ret (v := rpv ⟨i + 1 + 1, (-((Cd.numV tx.data.toList : Nat) : Int)), ⟨xo, xn, xl⟩, 0⟩) (by simp [results, Tryz.results117, go_sem, q0, q1, q2, q3, q4, q5, rpv]) rfl ⟨rfl, HB6.out⟩
        · have hint : Cd.intP l i = (0, i + 1, 4) := by
            unfold Cd.intP
            rw [hij, ← e3, hm]
            exact if_neg (fun h => hz h.2)
          rw [hint]
          clear hint hij e3 hm
          rw [if_neg (show ¬ (4 : Nat) = 0 by decide)]
          unfold rpv
          go_enter Tryz.func117, Tryz.ntmps117
          go_wp2
          go_returns
          exact ⟨rfl, three_new w _ _ _⟩
      · have hint : Cd.intP l i = (0, i + 1, 4) := by
          unfold Cd.intP
          rw [hij, ← e3, hm]
          exact if_neg (fun h => hk2 h.1)
        rw [hint]
        clear hint hij e3 hm
        rw [if_neg (show ¬ (4 : Nat) = 0 by decide)]
        unfold rpv
        have hk4 : (kd != 2) = true := by rw [bne_iff_ne]; exact hk2
        clear hk2
        go_enter Tryz.func117, Tryz.ntmps117
        go_wp2
        go_returns
        exact ⟨rfl, three_new w _ _ _⟩
    · rw [decide_eq_false hk] at hm
      rw [hm, if_neg (by decide)] at hij
      rw [hij] at u0 u1 u2 hblk' hj e3
      rw [u0] at t0
      rw [u1] at t1
      injection t0 with t0
      injection t0 with _ t0
      injection t1 with t1
      injection t1 with t1
      subst t0 t1
      rw [u2] at t2
      injection t2 with t2
      injection t2 with _ t2
      subst t2
      by_cases hk3 : kd = 3
      · have hbe : (tx.toList == [45]) = false := by
          have : ¬ tx = Cd.bMinus := fun e => hk ⟨hk3, e⟩
          have h2 := str_beq tx Cd.bMinus
          rw [decide_eq_false this] at h2
          rw [← h2, Lib.toList_data Cd.bMinus]; rfl
        subst hk3
        clear hk
        have hint : Cd.intP l i = (0, i, 4) := by
          unfold Cd.intP
          rw [hij, ← e3, hm]
          exact if_neg (fun h => absurd h.1 (show ¬ (3 : Int) = 2 by decide))
        rw [hint]
        clear hint hij e3 hm
        rw [if_neg (show ¬ (4 : Nat) = 0 by decide)]
        unfold rpv
        go_enter Tryz.func117, Tryz.ntmps117
        go_wp2
        go_returns
        exact ⟨rfl, three_new w _ _ _⟩
      · have hkn : (kd == 3) = false := by rw [beq_eq_false_iff_ne]; exact hk3
        clear hk hk3
        by_cases hk2 : kd = 2
        · subst hk2
          by_cases hz : tx.size ≤ 4
          · have hint : Cd.intP l i = (Cd.signed false (Cd.numV tx.data.toList), i + 1, 0) := by
              unfold Cd.intP
              rw [hij, ← e3, hm]
              exact if_pos ⟨rfl, hz⟩
            rw [hint]
            clear hint hij e3 hm
            rw [if_pos rfl]
            rw [signed_pos_]
            unfold rpv
            go_enter Tryz.func117, Tryz.ntmps117
            go_wp2
            go_loopw [7] (fun j wr => ∃ (k : Nat) (m : Int), k ≤ tx.size ∧ j = .int .i64 k ∧ Hid (RInt w (i) m ⟨xo, xn, xl⟩ tx ps wr) ∧ Hid (m = (Cd.numV (tx.data.toList.take k) : Nat)) ∧ 0 ≤ m ∧ m ≤ 16665) (fun j _ => tx.size - (intOf j).toNat)
            case atStart => exact ⟨0, 0, Nat.zero_le _, rfl, Lib.hid (RInt.start w (i) ⟨xo, xn, xl⟩ tx ps), Lib.hid rfl, by decide, by decide⟩
            case round =>
              obtain ⟨k, m, hk, rfl, HR, HM, hm0, hm⟩ := hrel
              have f0 := HR.out.tok.cell 1
              obtain ⟨s0, s1, s2, s3, s4, s5, g0, g1⟩ := HR.out.fin
              have f1 : wr.cell? ⟨w.heap.size + 2, 1, none⟩ = some (.string tx) := f0
              clear f0
              by_cases hlt : k < tx.size
              · have hnext : 10 * m + ((tx[k].toNat : Int) % 16) = (Cd.numV (tx.data.toList.take (k + 1)) : Nat) := by
                  rw [List.take_succ_eq_append_getElem (by simpa using hlt), numV_snoc, HM.out]
                  simp
                  rfl
                have hle : 10 * m + ((tx[k].toNat : Int) % 16) ≤ 16665 := by
                  rw [hnext]
                  have := numV_le (tx.data.toList.take (k + 1)) (by rw [List.length_take]; omega)
                  omega
                have HN := Lib.hid hnext
                clear hnext
                have HSET := Lib.hid ((HR.out.set_ (10 * m + (tx[k].toNat : Int) % 16)).drew)
                have HSET2 := Lib.hid (HR.out.drew.set_ (10 * m + (tx[k].toNat : Int) % 16))
                clear s0 s2 s3 s4 s5 g0
                go_wp2
                go_region
                all_goals go_wp2
                all_goals go_roundw
                all_goals first
                  | exact ⟨k + 1, _, by omega, by go_num, by first | exact HSET | exact HSET2, HN, by omega, hle⟩
                  | (simp [intOf]; omega)
                  | trace_state
              · obtain rfl : k = tx.size := by omega
                have hmv : m = (Cd.numV tx.data.toList : Nat) := by rw [HM.out, show tx.size = tx.data.toList.length by simp, List.take_length]
                have r0 : wr.cell? ⟨w.heap.size + 1, 0, none⟩ = some (.int .i64 0) := HR.out.res.cell 0
                have r1 : wr.cell? ⟨w.heap.size + 1, 1, none⟩ = some (.int .i64 0) := HR.out.res.cell 1
                have r2 : wr.cell? ⟨w.heap.size + 1, 2, none⟩ = some (.int .i64 0) := HR.out.res.cell 2
                have r3 : wr.cell? ⟨w.heap.size + 1, 3, none⟩ = some (.int .i64 0) := HR.out.res.cell 3
                have r4 : wr.cell? ⟨w.heap.size + 1, 4, none⟩ = some (.int .i64 0) := HR.out.res.cell 4
                have r5 : wr.cell? ⟨w.heap.size + 1, 5, none⟩ = some (.int .i64 0) := HR.out.res.cell 5
                have z0 := HR.out.res.frozen 0
                have z1 := HR.out.res.frozen 1
                have z2 := HR.out.res.frozen 2
                have z3 := HR.out.res.frozen 3
                have z4 := HR.out.res.frozen 4
                have z5 := HR.out.res.frozen 5
                obtain ⟨hk1, hb1⟩ := (HR.out.place (.int .i64 ((i : Int) + 1)))
                obtain ⟨hk6, hb6⟩ := res6 hb1 hk1 (Nat.le_succ _) (.int .i64 ((i : Int) + 1)) (.int .i64 ((Cd.numV tx.data.toList : Nat) : Int)) (.int .i64 xo) (.int .i64 xn) (.int .i64 xl) (.int .i64 0)
                subst hmv
                have HK6 := Lib.hid hk6
                have HB6 := Lib.hid hb6
                clear hk1 hb1 hk6 hb6
                go_wp2
                have q0 := HK6.out.cell 0
                have q1 := HK6.out.cell 1
                have q2 := HK6.out.cell 2
                have q3 := HK6.out.cell 3
                have q4 := HK6.out.cell 4
                have q5 := HK6.out.cell 5
                refine bodyPost_ret (v := rpv ⟨i + 1, ((Cd.numV tx.data.toList : Nat) : Int), ⟨xo, xn, xl⟩, 0⟩) (by simp [results, Tryz.results117, go_sem, q0, q1, q2, q3, q4, q5, rpv]) rfl ⟨rfl, HB6.out⟩
          · have hint : Cd.intP l i = (0, i, 4) := by
              unfold Cd.intP
              rw [hij, ← e3, hm]
              exact if_neg (fun h => hz h.2)
            rw [hint]
            clear hint hij e3 hm
            rw [if_neg (show ¬ (4 : Nat) = 0 by decide)]
            unfold rpv
            go_enter Tryz.func117, Tryz.ntmps117
            go_wp2
            go_returns
            exact ⟨rfl, three_new w _ _ _⟩
        · have hint : Cd.intP l i = (0, i, 4) := by
            unfold Cd.intP
            rw [hij, ← e3, hm]
            exact if_neg (fun h => hk2 h.1)
          rw [hint]
          clear hint hij e3 hm
          rw [if_neg (show ¬ (4 : Nat) = 0 by decide)]
          unfold rpv
          have hk4 : (kd != 2) = true := by rw [bne_iff_ne]; exact hk2
          clear hk2
          go_enter Tryz.func117, Tryz.ntmps117
          go_wp2
          go_returns
          exact ⟨rfl, three_new w _ _ _⟩
  · rw [if_neg he]
    have hz1 : ((e : Int) != 0) = true := by rw [bne_iff_ne]; omega
    clear he
    unfold rpv
    go_enter Tryz.func117, Tryz.ntmps117
    go_wp2
    go_returns
    exact ⟨rfl, two_new w _ _⟩
end Go.Proofs.YtipbilmnknmhmaaGreatDoor

/- Walks of the reader's Number and Label (package notation), by gen_noth.py. -/
namespace Go.Proofs.YtipbilmnknmhmaaGreatDoor
set_option maxRecDepth 100000
open Go.RowKit Go.Shelf Go.Sort
attribute [local go_sem] Oper.semAt_some
section
variable {R c1 c2 ct p q : Nat} {N U A : Option Addr} {names : List ByteArray} {up : List Nat} {l : List Lx.Tk} {w w' : World}
theorem signed_pos (n : Nat) : Cd.signed false n = (n : Int) := rfl
theorem signed_neg (n : Nat) : Cd.signed true n = -(n : Int) := rfl
theorem intJ_nxt (l : List Lx.Tk) (p : Nat) : Cd.intJ l p = nxt (Cd.isM l Cd.bMinus p) p := rfl
set_option maxHeartbeats 4000000 in
theorem nnum_any (hf : Tb.Fine l) (w : World) (h : NRd R N U A c1 c2 ct names up l p w) : Calls Tryz.prog 136 #[.pointer (some ⟨R, 0, none⟩)] w (NTold2 R N U A c1 c2 ct names up l w (Cd.intP l p)) := by
  have hn := ntmark_any hf Cd.bMinus w h
  have hlt := Cd.intP_lt hf h.pos
  have hmany := h.old.many
  have HNX := Lib.hid (fun q W (h : NRd R N U A c1 c2 ct names up l q W) => nnext_any W h)
  unfold Cd.intP at hlt ⊢
  rw [intJ_nxt] at hlt ⊢
  rw [isK_mark] at hn
  clear h
  unfold NTook at hn
  generalize Cd.isM l Cd.bMinus p = b at *
  generalize nxt b p = j at *
  have HN := Lib.hid hn
  clear hn
  unfold tkv at HNX
  generalize hT : Tb.tok l j = t at *
  obtain ⟨kd, tx, ps⟩ := t
  have HT := Lib.hid hT
  clear hT
  dsimp only at hlt ⊢
  cases b with
  | true =>
    by_cases hk : kd = 2
    · by_cases hz : tx.size ≤ 4
      · rw [if_pos ⟨hk, hz⟩] at hlt ⊢
        subst hk
        rw [signed_neg]
        have hv := numV_le tx.data.toList (by simpa using hz)
        have HNUM := Lib.hid (fun W => ndigits_any tx W hz)
        generalize Cd.numV tx.data.toList = v at *
        go_enter Tryz.func136, Tryz.ntmps136
        go_wp2_with (fail)
        refine HN.out.mono ?_
        rintro e w1 ⟨rfl, h1, hk1⟩
        have hc := HNX.out j w1 h1
        rw [HT.out] at hc
        dsimp only at hc
        have H1 := Lib.hid h1
        have HK1 := Lib.hid hk1
        have HC := Lib.hid hc
        clear h1 hk1 hc HNX
        go_wp2_with (fail)
        refine HC.out.mono ?_
        rintro e w3 ⟨rfl, hb3⟩
        have hb4 := hb3.alloc hb3.size (.cells #[.int .i64 2, .string tx, .int .i64 ps] 94)
        have h3 := H1.out.keep hb4
        have hk3 := HK1.out.trans (Kept.of (R := R) (Q := R) hb4)
        obtain ⟨W4, hW4⟩ : ∃ W4, w3.alloc (.cells #[.int .i64 2, .string tx, .int .i64 ps] 94) = W4 := ⟨_, rfl⟩
        have hbk : Blk W4 w3.heap.size 94 #[.int .i64 2, .string tx, .int .i64 ps] := hW4 ▸ Blk.new _ _ _
        rw [hW4] at h3 hk3
        have t0 : W4.cell? ⟨w3.heap.size, 0, none⟩ = some (.int .i64 2) := hbk.cell 0
        have t1 : W4.cell? ⟨w3.heap.size, 1, none⟩ = some (.string tx) := hbk.cell 1
        have c4' := h3.c3
        have hfz' : W4.frozen? ⟨R, 3, none⟩ = false := h3.blk.frozen 3
        have hR' := h3.lt
        have hRt : R < w3.heap.size := Nat.lt_of_lt_of_le H1.out.lt hb3.size
        have hbk2 : Blk (W4.setCell ⟨R, 3, none⟩ (.int .i64 ((j : Int) + 1))) w3.heap.size 94 #[.int .i64 2, .string tx, .int .i64 ps] := hbk.other (by show R ≠ _; omega) _
        have t2 : (W4.setCell ⟨R, 3, none⟩ (.int .i64 ((j : Int) + 1))).cell? ⟨w3.heap.size, 1, none⟩ = some (.string tx) := hbk2.cell 1
        have hg4 := h3.go (q := j + 1) hlt
        have hk4 := hk3.set_ (p := ⟨R, 3, none⟩) (.inl rfl) (.int .i64 ((j + 1 : Nat) : Int))
        rw [show ((j + 1 : Nat) : Int) = (j : Int) + 1 by omega] at hg4 hk4
        have HG4 := Lib.hid hg4
        have HK4 := Lib.hid hk4
        clear hb3 hb4 h3 hk3 hbk hbk2 hg4 hk4 HK1 HC
        go_wp2_with (fail)
        refine (HNUM.out _).mono ?_
        rintro e w5 ⟨rfl, rfl⟩
        clear t0 t1 t2 c4' hfz'
        go_wp2
        go_ret2
        exact ⟨ret_ii (by omega) rfl, HG4.out, HK4.out⟩
      · rw [if_neg (fun h => hz h.2)] at hlt ⊢
        subst hk
        go_enter Tryz.func136, Tryz.ntmps136
        go_wp2_with (fail)
        refine HN.out.mono ?_
        rintro e w1 ⟨rfl, h1, hk1⟩
        have hc := HNX.out j w1 h1
        rw [HT.out] at hc
        dsimp only at hc
        have H1 := Lib.hid h1
        have HK1 := Lib.hid hk1
        have HC := Lib.hid hc
        clear h1 hk1 hc HNX
        go_wp2_with (fail)
        refine HC.out.mono ?_
        rintro e w3 ⟨rfl, hb3⟩
        have hb4 := hb3.alloc hb3.size (.cells #[.int .i64 2, .string tx, .int .i64 ps] 94)
        have h3 := H1.out.keep hb4
        have hk3 := HK1.out.trans (Kept.of (R := R) (Q := R) hb4)
        obtain ⟨W4, hW4⟩ : ∃ W4, w3.alloc (.cells #[.int .i64 2, .string tx, .int .i64 ps] 94) = W4 := ⟨_, rfl⟩
        have hbk : Blk W4 w3.heap.size 94 #[.int .i64 2, .string tx, .int .i64 ps] := hW4 ▸ Blk.new _ _ _
        rw [hW4] at h3 hk3
        have t0 : W4.cell? ⟨w3.heap.size, 0, none⟩ = some (.int .i64 2) := hbk.cell 0
        have t1 : W4.cell? ⟨w3.heap.size, 1, none⟩ = some (.string tx) := hbk.cell 1
        have H3 := Lib.hid h3
        have HK3 := Lib.hid hk3
        clear hb3 hb4 h3 hk3 hbk HC HK1
        go_wp2
        go_ret2
        exact ⟨rfl, H3.out, HK3.out⟩
    · rw [if_neg (fun h => hk h.1)] at hlt ⊢
      have hk2 : (kd != 2) = true := by rw [bne_iff_ne]; exact hk
      clear hk
      go_enter Tryz.func136, Tryz.ntmps136
      go_wp2_with (fail)
      refine HN.out.mono ?_
      rintro e w1 ⟨rfl, h1, hk1⟩
      have hc := HNX.out j w1 h1
      rw [HT.out] at hc
      dsimp only at hc
      have H1 := Lib.hid h1
      have HK1 := Lib.hid hk1
      have HC := Lib.hid hc
      clear h1 hk1 hc HNX
      go_wp2_with (fail)
      refine HC.out.mono ?_
      rintro e w3 ⟨rfl, hb3⟩
      have hb4 := hb3.alloc hb3.size (.cells #[.int .i64 kd, .string tx, .int .i64 ps] 94)
      have h3 := H1.out.keep hb4
      have hk3 := HK1.out.trans (Kept.of (R := R) (Q := R) hb4)
      obtain ⟨W4, hW4⟩ : ∃ W4, w3.alloc (.cells #[.int .i64 kd, .string tx, .int .i64 ps] 94) = W4 := ⟨_, rfl⟩
      have hbk : Blk W4 w3.heap.size 94 #[.int .i64 kd, .string tx, .int .i64 ps] := hW4 ▸ Blk.new _ _ _
      rw [hW4] at h3 hk3
      have t0 : W4.cell? ⟨w3.heap.size, 0, none⟩ = some (.int .i64 kd) := hbk.cell 0
      have t1 : W4.cell? ⟨w3.heap.size, 1, none⟩ = some (.string tx) := hbk.cell 1
      have H3 := Lib.hid h3
      have HK3 := Lib.hid hk3
      clear hb3 hb4 h3 hk3 hbk HC HK1
      go_wp2
      go_ret2
      exact ⟨rfl, H3.out, HK3.out⟩
  | false =>
    by_cases hk : kd = 2
    · by_cases hz : tx.size ≤ 4
      · rw [if_pos ⟨hk, hz⟩] at hlt ⊢
        subst hk
        rw [signed_pos]
        have hv := numV_le tx.data.toList (by simpa using hz)
        have HNUM := Lib.hid (fun W => ndigits_any tx W hz)
        generalize Cd.numV tx.data.toList = v at *
        go_enter Tryz.func136, Tryz.ntmps136
        go_wp2_with (fail)
        refine HN.out.mono ?_
        rintro e w1 ⟨rfl, h1, hk1⟩
        have hc := HNX.out j w1 h1
        rw [HT.out] at hc
        dsimp only at hc
        have H1 := Lib.hid h1
        have HK1 := Lib.hid hk1
        have HC := Lib.hid hc
        clear h1 hk1 hc HNX
        go_wp2_with (fail)
        refine HC.out.mono ?_
        rintro e w3 ⟨rfl, hb3⟩
        have hb4 := hb3.alloc hb3.size (.cells #[.int .i64 2, .string tx, .int .i64 ps] 94)
        have h3 := H1.out.keep hb4
        have hk3 := HK1.out.trans (Kept.of (R := R) (Q := R) hb4)
        obtain ⟨W4, hW4⟩ : ∃ W4, w3.alloc (.cells #[.int .i64 2, .string tx, .int .i64 ps] 94) = W4 := ⟨_, rfl⟩
        have hbk : Blk W4 w3.heap.size 94 #[.int .i64 2, .string tx, .int .i64 ps] := hW4 ▸ Blk.new _ _ _
        rw [hW4] at h3 hk3
        have t0 : W4.cell? ⟨w3.heap.size, 0, none⟩ = some (.int .i64 2) := hbk.cell 0
        have t1 : W4.cell? ⟨w3.heap.size, 1, none⟩ = some (.string tx) := hbk.cell 1
        have c4' := h3.c3
        have hfz' : W4.frozen? ⟨R, 3, none⟩ = false := h3.blk.frozen 3
        have hR' := h3.lt
        have hRt : R < w3.heap.size := Nat.lt_of_lt_of_le H1.out.lt hb3.size
        have hbk2 : Blk (W4.setCell ⟨R, 3, none⟩ (.int .i64 ((j : Int) + 1))) w3.heap.size 94 #[.int .i64 2, .string tx, .int .i64 ps] := hbk.other (by show R ≠ _; omega) _
        have t2 : (W4.setCell ⟨R, 3, none⟩ (.int .i64 ((j : Int) + 1))).cell? ⟨w3.heap.size, 1, none⟩ = some (.string tx) := hbk2.cell 1
        have hg4 := h3.go (q := j + 1) hlt
        have hk4 := hk3.set_ (p := ⟨R, 3, none⟩) (.inl rfl) (.int .i64 ((j + 1 : Nat) : Int))
        rw [show ((j + 1 : Nat) : Int) = (j : Int) + 1 by omega] at hg4 hk4
        have HG4 := Lib.hid hg4
        have HK4 := Lib.hid hk4
        clear hb3 hb4 h3 hk3 hbk hbk2 hg4 hk4 HK1 HC
        go_wp2_with (fail)
        refine (HNUM.out _).mono ?_
        rintro e w5 ⟨rfl, rfl⟩
        clear t0 t1 t2 c4' hfz'
        go_wp2
        go_ret2
        exact ⟨ret_ii (by omega) rfl, HG4.out, HK4.out⟩
      · rw [if_neg (fun h => hz h.2)] at hlt ⊢
        subst hk
        go_enter Tryz.func136, Tryz.ntmps136
        go_wp2_with (fail)
        refine HN.out.mono ?_
        rintro e w1 ⟨rfl, h1, hk1⟩
        have hc := HNX.out j w1 h1
        rw [HT.out] at hc
        dsimp only at hc
        have H1 := Lib.hid h1
        have HK1 := Lib.hid hk1
        have HC := Lib.hid hc
        clear h1 hk1 hc HNX
        go_wp2_with (fail)
        refine HC.out.mono ?_
        rintro e w3 ⟨rfl, hb3⟩
        have hb4 := hb3.alloc hb3.size (.cells #[.int .i64 2, .string tx, .int .i64 ps] 94)
        have h3 := H1.out.keep hb4
        have hk3 := HK1.out.trans (Kept.of (R := R) (Q := R) hb4)
        obtain ⟨W4, hW4⟩ : ∃ W4, w3.alloc (.cells #[.int .i64 2, .string tx, .int .i64 ps] 94) = W4 := ⟨_, rfl⟩
        have hbk : Blk W4 w3.heap.size 94 #[.int .i64 2, .string tx, .int .i64 ps] := hW4 ▸ Blk.new _ _ _
        rw [hW4] at h3 hk3
        have t0 : W4.cell? ⟨w3.heap.size, 0, none⟩ = some (.int .i64 2) := hbk.cell 0
        have t1 : W4.cell? ⟨w3.heap.size, 1, none⟩ = some (.string tx) := hbk.cell 1
        have H3 := Lib.hid h3
        have HK3 := Lib.hid hk3
        clear hb3 hb4 h3 hk3 hbk HC HK1
        go_wp2
        go_ret2
        exact ⟨rfl, H3.out, HK3.out⟩
    · rw [if_neg (fun h => hk h.1)] at hlt ⊢
      have hk2 : (kd != 2) = true := by rw [bne_iff_ne]; exact hk
      clear hk
      go_enter Tryz.func136, Tryz.ntmps136
      go_wp2_with (fail)
      refine HN.out.mono ?_
      rintro e w1 ⟨rfl, h1, hk1⟩
      have hc := HNX.out j w1 h1
      rw [HT.out] at hc
      dsimp only at hc
      have H1 := Lib.hid h1
      have HK1 := Lib.hid hk1
      have HC := Lib.hid hc
      clear h1 hk1 hc HNX
      go_wp2_with (fail)
      refine HC.out.mono ?_
      rintro e w3 ⟨rfl, hb3⟩
      have hb4 := hb3.alloc hb3.size (.cells #[.int .i64 kd, .string tx, .int .i64 ps] 94)
      have h3 := H1.out.keep hb4
      have hk3 := HK1.out.trans (Kept.of (R := R) (Q := R) hb4)
      obtain ⟨W4, hW4⟩ : ∃ W4, w3.alloc (.cells #[.int .i64 kd, .string tx, .int .i64 ps] 94) = W4 := ⟨_, rfl⟩
      have hbk : Blk W4 w3.heap.size 94 #[.int .i64 kd, .string tx, .int .i64 ps] := hW4 ▸ Blk.new _ _ _
      rw [hW4] at h3 hk3
      have t0 : W4.cell? ⟨w3.heap.size, 0, none⟩ = some (.int .i64 kd) := hbk.cell 0
      have t1 : W4.cell? ⟨w3.heap.size, 1, none⟩ = some (.string tx) := hbk.cell 1
      have H3 := Lib.hid h3
      have HK3 := Lib.hid hk3
      clear hb3 hb4 h3 hk3 hbk HC HK1
      go_wp2
      go_ret2
      exact ⟨rfl, H3.out, HK3.out⟩
theorem labP_cases (names : List ByteArray) (l : List Lx.Tk) (p : Nat) : Cd.labP names l p = if Cd.isM l Cd.bAt p = true then Cd.nameP names l (p + 1) else (0, p, 4) := rfl
set_option maxHeartbeats 4000000 in
theorem nlabel_any (hf : Tb.Fine l) (hz : checkN names up = 0) (w : World) (h : NRd R N U A c1 c2 ct names up l p w) : Calls Tryz.prog 137 #[.pointer (some ⟨R, 0, none⟩)] w (NTold2 R N U A c1 c2 ct names up l w (Cd.labP names l p)) := by
  have hn := nmark_any hf Cd.bAt w h
  have hmany := h.old.many
  have HNX := Lib.hid (fun q W (h : NRd R N U A c1 c2 ct names up l q W) => nnext_any W h)
  rw [isK_mark] at hn
  unfold NTold at hn
  rw [labP_cases]
  cases hm : Cd.isM l Cd.bAt p with
  | false =>
    rw [hm] at hn
    rw [if_neg (by decide)]
    have HN := Lib.hid hn
    clear h hn hm
    go_enter Tryz.func137, Tryz.ntmps137
    go_wp2_with (fail)
    refine HN.out.mono ?_
    rintro e w1 ⟨rfl, h1, hk1⟩
    have H1 := Lib.hid h1
    have HK1 := Lib.hid hk1
    clear h1 hk1
    unfold errB
    go_wp2
    go_ret2
    exact ⟨rfl, H1.out, HK1.out⟩
  | true =>
    have hlt1 := Cd.isM_next hf h.pos hm
    rw [hm] at hn
    rw [if_pos rfl]
    have hlt := Cd.nameP_lt hf names hlt1
    have HN := Lib.hid hn
    clear h hn hm
    unfold tkv at HNX
    unfold Cd.nameP at hlt ⊢
    unfold nxt errB at HN
    rw [if_pos rfl, if_pos rfl] at HN
    generalize hT : Tb.tok l (p + 1) = t at *
    obtain ⟨kd, tx, ps⟩ := t
    have HT := Lib.hid hT
    clear hT
    dsimp only at hlt ⊢
    by_cases hk : kd = 1
    · rw [if_pos hk] at hlt ⊢
      subst hk
      cases hi : idxN names tx with
      | none =>
        rw [hi] at hlt
        have hv : findV names up tx = 0 := by unfold findV; rw [if_pos hz, hi]; rfl
        have hnn : findN names up tx = 9 := by unfold findN; rw [if_pos hz, hi]; rfl
        have HFIND := Lib.hid (fun W (h : NRd R N U A c1 c2 ct names up l (p + 1) W) => find_any tx W (h.old.lat.more (Nat.le_of_lt h.lt)))
        rw [hv, hnn] at HFIND
        clear hi hv hnn
        go_enter Tryz.func137, Tryz.ntmps137
        go_wp2_with (fail)
        refine HN.out.mono ?_
        rintro e w1 ⟨rfl, h1, hk1⟩
        have hc := HNX.out (p + 1) w1 h1
        rw [HT.out] at hc
        dsimp only at hc
        have H1 := Lib.hid h1
        have HK1 := Lib.hid hk1
        have HC := Lib.hid hc
        clear h1 hk1 hc
        go_wp2_with (fail)
        refine HC.out.mono ?_
        rintro e w3 ⟨rfl, hb3⟩
        have hb4 := hb3.alloc hb3.size (.cells #[.int .i64 1, .string tx, .int .i64 ps] 94)
        have h3 := H1.out.keep hb4
        have hk3 := HK1.out.trans (Kept.of (R := R) (Q := R) hb4)
        obtain ⟨W4, hW4⟩ : ∃ W4, w3.alloc (.cells #[.int .i64 1, .string tx, .int .i64 ps] 94) = W4 := ⟨_, rfl⟩
        have hbk : Blk W4 w3.heap.size 94 #[.int .i64 1, .string tx, .int .i64 ps] := hW4 ▸ Blk.new _ _ _
        rw [hW4] at h3 hk3
        have t0 : W4.cell? ⟨w3.heap.size, 0, none⟩ = some (.int .i64 1) := hbk.cell 0
        have t1 : W4.cell? ⟨w3.heap.size, 1, none⟩ = some (.string tx) := hbk.cell 1
        have c0 := h3.c0
        have c1_ := h3.c1_
        have hR' := h3.lt
        have H3 := Lib.hid h3
        have HK3 := Lib.hid hk3
        have g0 := fun d os => cell_regrown c0 d os
        have g1 := fun d os => cell_regrown c1_ d os
        have g2 := fun d os => cell_regrown t1 d os
        clear hb3 hb4 h3 hk3 hbk HC
        go_wp2
        refine wp_region_quiet_below (by kernel_rfl) (by kernel_rfl) ?_
        repeat (quiet_step ((go_at_call 156; exact Calls.regrown_of (HFIND.out _ (H3.out.keep (below_regrown _ _ _))))))
        refine wpQuiet_nil ?_
        rintro _ ⟨⟨d, os⟩, rfl⟩
        have hb5 := below_regrown W4 d os
        clear g0 g1 g2
        generalize grow (redrawn W4 d) os = w5 at *
        have h5 := H3.out.keep hb5
        have H5 := Lib.hid h5
        have HK5 := Lib.hid (HK3.out.trans (Kept.of (R := R) (Q := R) hb5))
        have c4' := h5.c3
        rw [show ((p + 1 : Nat) : Int) = (p : Int) + 1 by omega] at c4'
        have hfz' : w5.frozen? ⟨R, 3, none⟩ = false := h5.blk.frozen 3
        have hR5 := h5.lt
        clear hb5 h5
        clear c0 c1_ c4' hfz'
        go_wp2
        go_ret2
        exact ⟨rfl, H5.out, HK5.out⟩
      | some a =>
        rw [hi] at hlt
        have hv : findV names up tx = a := by unfold findV; rw [if_pos hz, hi]; rfl
        have hnn : findN names up tx = 0 := by unfold findN; rw [if_pos hz, hi]; rfl
        have HFIND := Lib.hid (fun W (h : NRd R N U A c1 c2 ct names up l (p + 1) W) => find_any tx W (h.old.lat.more (Nat.le_of_lt h.lt)))
        rw [hv, hnn] at HFIND
        clear hi hv hnn
        go_enter Tryz.func137, Tryz.ntmps137
        go_wp2_with (fail)
        refine HN.out.mono ?_
        rintro e w1 ⟨rfl, h1, hk1⟩
        have hc := HNX.out (p + 1) w1 h1
        rw [HT.out] at hc
        dsimp only at hc
        have H1 := Lib.hid h1
        have HK1 := Lib.hid hk1
        have HC := Lib.hid hc
        clear h1 hk1 hc
        go_wp2_with (fail)
        refine HC.out.mono ?_
        rintro e w3 ⟨rfl, hb3⟩
        have hb4 := hb3.alloc hb3.size (.cells #[.int .i64 1, .string tx, .int .i64 ps] 94)
        have h3 := H1.out.keep hb4
        have hk3 := HK1.out.trans (Kept.of (R := R) (Q := R) hb4)
        obtain ⟨W4, hW4⟩ : ∃ W4, w3.alloc (.cells #[.int .i64 1, .string tx, .int .i64 ps] 94) = W4 := ⟨_, rfl⟩
        have hbk : Blk W4 w3.heap.size 94 #[.int .i64 1, .string tx, .int .i64 ps] := hW4 ▸ Blk.new _ _ _
        rw [hW4] at h3 hk3
        have t0 : W4.cell? ⟨w3.heap.size, 0, none⟩ = some (.int .i64 1) := hbk.cell 0
        have t1 : W4.cell? ⟨w3.heap.size, 1, none⟩ = some (.string tx) := hbk.cell 1
        have c0 := h3.c0
        have c1_ := h3.c1_
        have hR' := h3.lt
        have H3 := Lib.hid h3
        have HK3 := Lib.hid hk3
        have g0 := fun d os => cell_regrown c0 d os
        have g1 := fun d os => cell_regrown c1_ d os
        have g2 := fun d os => cell_regrown t1 d os
        clear hb3 hb4 h3 hk3 hbk HC
        go_wp2
        refine wp_region_quiet_below (by kernel_rfl) (by kernel_rfl) ?_
        repeat (quiet_step ((go_at_call 156; exact Calls.regrown_of (HFIND.out _ (H3.out.keep (below_regrown _ _ _))))))
        refine wpQuiet_nil ?_
        rintro _ ⟨⟨d, os⟩, rfl⟩
        have hb5 := below_regrown W4 d os
        clear g0 g1 g2
        generalize grow (redrawn W4 d) os = w5 at *
        have h5 := H3.out.keep hb5
        have H5 := Lib.hid h5
        have HK5 := Lib.hid (HK3.out.trans (Kept.of (R := R) (Q := R) hb5))
        have c4' := h5.c3
        rw [show ((p + 1 : Nat) : Int) = (p : Int) + 1 by omega] at c4'
        have hfz' : w5.frozen? ⟨R, 3, none⟩ = false := h5.blk.frozen 3
        have hR5 := h5.lt
        clear hb5 h5
        have hg6 := H5.out.go (q := p + 1 + 1) hlt
        have hk6 := HK5.out.set_ (p := ⟨R, 3, none⟩) (.inl rfl) (.int .i64 ((p + 1 + 1 : Nat) : Int))
        rw [show ((p + 1 + 1 : Nat) : Int) = (p : Int) + 1 + 1 by omega] at hg6 hk6
        have HG6 := Lib.hid hg6
        have HK6 := Lib.hid hk6
        clear c0 c1_ hg6 hk6
        go_wp2
        go_ret2
        exact ⟨rfl, HG6.out, HK6.out⟩
    · rw [if_neg hk] at hlt ⊢
      have hk2 : (kd != 1) = true := by rw [bne_iff_ne]; exact hk
      clear hk
      go_enter Tryz.func137, Tryz.ntmps137
      go_wp2_with (fail)
      refine HN.out.mono ?_
      rintro e w1 ⟨rfl, h1, hk1⟩
      have hc := HNX.out (p + 1) w1 h1
      rw [HT.out] at hc
      dsimp only at hc
      have H1 := Lib.hid h1
      have HK1 := Lib.hid hk1
      have HC := Lib.hid hc
      clear h1 hk1 hc
      go_wp2_with (fail)
      refine HC.out.mono ?_
      rintro e w3 ⟨rfl, hb3⟩
      have hb4 := hb3.alloc hb3.size (.cells #[.int .i64 kd, .string tx, .int .i64 ps] 94)
      have H3 := Lib.hid (H1.out.keep hb4)
      have HK3 := Lib.hid (HK1.out.trans (Kept.of (R := R) (Q := R) hb4))
      clear hb3 hb4 HC
      go_wp2
      go_ret2
      exact ⟨rfl, H3.out, HK3.out⟩
end
end Go.Proofs.YtipbilmnknmhmaaGreatDoor

/- Walk of the reader's rest (by gen_codi.py). -/
namespace Go.Proofs.YtipbilmnknmhmaaGreatDoor
set_option maxRecDepth 100000
open Go.RowKit Go.Shelf Go.Sort
attribute [local go_sem] Oper.semAt_some
theorem own_of {W W' : World} {base sz n : Nat} {e : TypeId} {rv : Value} {xs : List Value} (h : W.ownsRow base e sz rv n xs) (hk : ∀ g, rv.ownBlock = some g → W'.heap[g]? = W.heap[g]?) : W'.ownsRow base e sz rv n xs := by
  refine ⟨h.1, h.2.imp id fun ⟨g, cap, cur, he, hb', hh, r⟩ => ⟨g, cap, cur, he, hb', (hk g (by rw [he]; rfl)).trans hh, r⟩⟩
/-- The reader at Q, over the tokens' reader at R. -/
structure CRd (R Q M : Nat) (N U A : Option Addr) (c1 c2 ct : Nat) (names : List ByteArray) (up : List Nat) (l : List Lx.Tk) (p : Nat) (rv : Value) (out : List Cd.In) (W : World) : Prop where
  rd : NRd R N U A c1 c2 ct names up l p W
  blk : Blk W Q 153 #[.pointer (some ⟨R, 0, none⟩), .map (some M), rv]
  own : W.ownsRow (Q + 1) 57 3 rv out.length (icells out)
  chk : Chk W Q M up.length
  ins : Ins W
  gR : 0 < R
  rq : R < Q
theorem Blk.ty_ne {W : World} {a b : Nat} {t u : TypeId} {c d : Array Value} (h : Blk W a t c) (h' : Blk W b u d) (htu : t ≠ u) : a ≠ b := by
  rintro rfl
  have := h.symm.trans h'
  injection this with this
  injection this with h1 h2
  exact htu h2
theorem Chk.kept {W W' : World} {B M k R : Nat} {c : Array Value} (h : Chk W B M k) (hr : Blk W R 126 c) (hB : B ≤ W.heap.size) (hk : Kept R R W W') : Chk W' B M k := by
  obtain ⟨val, h1, h2⟩ := h.map
  have hM : M ≠ R := by
    rintro rfl
    have := h1.symm.trans hr
    injection this with this
    cases this
  have hMl := h.lt
  refine ⟨h.lt, val, (hk.block M (by omega) hM hM).trans h1, fun j hj => ?_⟩
  obtain ⟨b, hbb, h3⟩ := h2 j hj
  refine ⟨b, hbb, ?_⟩
  by_cases hj1 : j = 1
  · rw [if_pos hj1] at h3 ⊢
    have hne := Blk.ty_ne h3.2 hr (by decide)
    exact ⟨h3.1, (hk.block b (by omega) hne hne).trans h3.2⟩
  · rw [if_neg hj1] at h3 ⊢
    have hne := Blk.ty_ne h3.2 hr (by decide)
    exact ⟨h3.1, (hk.block b (by omega) hne hne).trans h3.2⟩
theorem Ins.keptR {R : Nat} {w w' : World} (h : Ins w) (hR : R ≤ w.heap.size) (hg : 0 < R) (hk : Kept R R w w') : Ins w' := h.below (hk.belowR hR) hg
section
variable {R Q M c1 c2 ct p q : Nat} {N U A : Option Addr} {names : List ByteArray} {up : List Nat} {l : List Lx.Tk} {rv : Value} {out : List Cd.In} {w w' W : World}
/-- A step of the tokens' reader. -/
theorem CRd.kept (h : CRd R Q M N U A c1 c2 ct names up l p rv out w) (h1 : NRd R N U A c1 c2 ct names up l q w') (hk : Kept R R w w') : CRd R Q M N U A c1 c2 ct names up l q rv out w' := by
  have hrq := h.rq
  have hQ := h.blk.lt
  refine ⟨h1, (hk.block Q hQ (by omega) (by omega)).trans h.blk, own_of h.own fun g hg => ?_, h.chk.kept h.rd.blk (by omega) hk, h.ins.keptR (by omega) h.gR hk, h.gR, hrq⟩
  have := h.own.lt g hg
  exact hk.block g this.2 (by omega) (by omega)
theorem CRd.ltQ (h : CRd R Q M N U A c1 c2 ct names up l p rv out w) : Q < w.heap.size := h.blk.lt
theorem CRd.lt (h : CRd R Q M N U A c1 c2 ct names up l p rv out w) : R < w.heap.size := h.rd.lt
theorem CRd.p0 (h : CRd R Q M N U A c1 c2 ct names up l p rv out w) : w.cell? ⟨Q, 0, none⟩ = some (.pointer (some ⟨R, 0, none⟩)) := h.blk.cell 0
theorem CRd.p1 (h : CRd R Q M N U A c1 c2 ct names up l p rv out w) : w.cell? ⟨Q, 1, none⟩ = some (.map (some M)) := h.blk.cell 1
theorem CRd.p2 (h : CRd R Q M N U A c1 c2 ct names up l p rv out w) : w.cell? ⟨Q, 2, none⟩ = some rv := h.blk.cell 2
theorem CRd.many (h : CRd R Q M N U A c1 c2 ct names up l p rv out w) : l.length ≤ 100000 := h.rd.old.many
theorem CRd.pos (h : CRd R Q M N U A c1 c2 ct names up l p rv out w) : p < l.length := h.rd.pos
/-- A step that turns neither reader. -/
theorem CRd.keep (h : CRd R Q M N U A c1 c2 ct names up l p rv out w) (hb : Below w.heap.size w w') : CRd R Q M N U A c1 c2 ct names up l p rv out w' :=
  h.kept (h.rd.keep hb) (.of hb)
/-- The place is stored. -/
theorem CRd.go (h : CRd R Q M N U A c1 c2 ct names up l p rv out w) (hq : q < l.length) : CRd R Q M N U A c1 c2 ct names up l q rv out (w.setCell ⟨R, 3, none⟩ (.int .i64 (q : Int))) :=
  h.kept (h.rd.go hq) ((Kept.refl R R w).set_ (.inl rfl) _)
def CTold (R Q M : Nat) (N U A : Option Addr) (c1 c2 ct : Nat) (names : List ByteArray) (up : List Nat) (l : List Lx.Tk) (rv : Value) (out : List Cd.In) (w : World) (r : Nat × Nat) (e : Ending) (w' : World) : Prop :=
  e = .returned (.int .i64 (r.2 : Nat)) ∧ CRd R Q M N U A c1 c2 ct names up l r.1 rv out w' ∧ Kept R R w w'
def CTold2 (R Q M : Nat) (N U A : Option Addr) (c1 c2 ct : Nat) (names : List ByteArray) (up : List Nat) (l : List Lx.Tk) (rv : Value) (out : List Cd.In) (w : World) (r : Int × Nat × Nat) (e : Ending) (w' : World) : Prop :=
  e = .returned (.tuple #[.int .i64 r.1, .int .i64 (r.2.2 : Nat)]) ∧ CRd R Q M N U A c1 c2 ct names up l r.2.1 rv out w' ∧ Kept R R w w'
theorem markP_nxt (l : List Lx.Tk) (x : ByteArray) (p : Nat) : (nxt (isK l 3 x p) p, errB (isK l 3 x p)) = Cd.markP l x p := by
  unfold nxt errB Cd.markP
  rw [isK_mark]
  cases Cd.isM l x p <;> rfl
theorem cmark_any (hf : Tb.Fine l) (x : ByteArray) (w : World) (h : CRd R Q M N U A c1 c2 ct names up l p rv out w) : Calls Tryz.prog 134 #[.pointer (some ⟨R, 0, none⟩), .string x] w (CTold R Q M N U A c1 c2 ct names up l rv out w (Cd.markP l x p)) := by
  refine (nmark_any hf x w h.rd).mono ?_
  rw [markP_nxt]
  rintro e w' ⟨rfl, h1, hk⟩
  exact ⟨rfl, h.kept h1 hk, hk⟩
theorem cnum_any (hf : Tb.Fine l) (w : World) (h : CRd R Q M N U A c1 c2 ct names up l p rv out w) : Calls Tryz.prog 136 #[.pointer (some ⟨R, 0, none⟩)] w (CTold2 R Q M N U A c1 c2 ct names up l rv out w (Cd.intP l p)) := by
  refine (nnum_any hf w h.rd).mono ?_
  rintro e w' ⟨rfl, h1, hk⟩
  exact ⟨rfl, h.kept h1 hk, hk⟩
theorem clabel_any (hf : Tb.Fine l) (hz : checkN names up = 0) (w : World) (h : CRd R Q M N U A c1 c2 ct names up l p rv out w) : Calls Tryz.prog 137 #[.pointer (some ⟨R, 0, none⟩)] w (CTold2 R Q M N U A c1 c2 ct names up l rv out w (Cd.labP names l p)) := by
  refine (nlabel_any hf hz w h.rd).mono ?_
  rintro e w' ⟨rfl, h1, hk⟩
  exact ⟨rfl, h.kept h1 hk, hk⟩
theorem cnext_any (w : World) (h : CRd R Q M N U A c1 c2 ct names up l p rv out w) : Calls Tryz.prog 128 #[.pointer (some ⟨R, 0, none⟩)] w fun e w' => e = .returned (tkv (Tb.tok l p)) ∧ Below w.heap.size w w' := nnext_any w h.rd
/-- A store into a new block. -/
theorem CRd.setX (h : CRd R Q M N U A c1 c2 ct names up l p rv out W) {x : Addr} (hx : Q < x.block) (hown : ∀ g, rv.ownBlock = some g → g < x.block) (u : Value) : CRd R Q M N U A c1 c2 ct names up l p rv out (W.setCell x u) := by
  have hrq := h.rq
  have hb : Below Q W (W.setCell x u) := (Below.refl Q W).setCell (Nat.le_of_lt hx) u
  exact ⟨⟨h.rd.blk.other (by omega) u, h.rd.old.below (hb.mono (Nat.le_of_lt hrq)), h.rd.pos⟩, h.blk.other (by omega) u, own_of h.own fun g hg => Below.heap_setCell _ _ _ _ (by have := hown g hg; omega), h.chk.below hb, h.ins.below (hb.mono (Nat.le_of_lt hrq)) h.gR, h.gR, hrq⟩
/-- rest's two instructions: what it answers, and what is read so far. -/
structure Loc (R : Nat) (w W : World) (y x : Cd.In) : Prop where
  res : Blk W w.heap.size 57 #[.int .i64 y.op, .int .i64 y.n, .int .i64 y.l]
  loc : Blk W (w.heap.size + 1) 57 #[.int .i64 x.op, .int .i64 x.n, .int .i64 x.l]
  kept : Kept R R w W
theorem Loc.keep {x y : Cd.In} (h : Loc R w W y x) (hR : R < w.heap.size) (hk : Kept R R W w') : Loc R w w' y x :=
  ⟨(hk.block _ h.res.lt (by omega) (by omega)).trans h.res, (hk.block _ h.loc.lt (by omega) (by omega)).trans h.loc, h.kept.trans hk⟩
theorem Loc.setN {x y : Cd.In} (h : Loc R w W y x) (n : Int) : Loc R w (W.setCell ⟨w.heap.size + 1, 1, none⟩ (.int .i64 n)) y { x with n := n } :=
  ⟨h.res.other (by show w.heap.size + 1 ≠ _; omega) _, h.loc.set_ 1 _, h.kept.setNew (by show w.heap.size ≤ w.heap.size + 1; omega) _⟩
theorem Loc.setL {x y : Cd.In} (h : Loc R w W y x) (n : Int) : Loc R w (W.setCell ⟨w.heap.size + 1, 2, none⟩ (.int .i64 n)) y { x with l := n } :=
  ⟨h.res.other (by show w.heap.size + 1 ≠ _; omega) _, h.loc.set_ 2 _, h.kept.setNew (by show w.heap.size ≤ w.heap.size + 1; omega) _⟩
/-- The answer is stored. -/
def ansd (w W : World) (x : Cd.In) : World := ((W.setCell ⟨w.heap.size, 0, none⟩ (.int .i64 x.op)).setCell ⟨w.heap.size, 1, none⟩ (.int .i64 x.n)).setCell ⟨w.heap.size, 2, none⟩ (.int .i64 x.l)
theorem Loc.setR {x y : Cd.In} (h : Loc R w W y x) : Loc R w (ansd w W x) x x :=
  ⟨((h.res.set_ 0 _).set_ 1 _).set_ 2 _, ((h.loc.other (by show w.heap.size ≠ _; omega) _).other (by show w.heap.size ≠ _; omega) _).other (by show w.heap.size ≠ _; omega) _,
    ((h.kept.setNew (Nat.le_refl _) _).setNew (Nat.le_refl _) _).setNew (Nat.le_refl _) _⟩
theorem Loc.drew {x y : Cd.In} (h : Loc R w W y x) : Loc R w W.drew y x := ⟨h.res, h.loc, h.kept.os, h.kept.tape, h.kept.output, h.kept.size, h.kept.block⟩
theorem Loc.cells {x y : Cd.In} (h : Loc R w W y x) : (W.cell? ⟨w.heap.size + 1, 0, none⟩ = some (.int .i64 x.op) ∧ W.cell? ⟨w.heap.size + 1, 1, none⟩ = some (.int .i64 x.n) ∧ W.cell? ⟨w.heap.size + 1, 2, none⟩ = some (.int .i64 x.l)) ∧
    (W.cell? ⟨w.heap.size, 0, none⟩ = some (.int .i64 y.op) ∧ W.cell? ⟨w.heap.size, 1, none⟩ = some (.int .i64 y.n) ∧ W.cell? ⟨w.heap.size, 2, none⟩ = some (.int .i64 y.l)) ∧
    (W.frozen? ⟨w.heap.size, 0, none⟩ = false ∧ W.frozen? ⟨w.heap.size, 1, none⟩ = false ∧ W.frozen? ⟨w.heap.size, 2, none⟩ = false) ∧ W.frozen? ⟨w.heap.size + 1, 1, none⟩ = false ∧ W.frozen? ⟨w.heap.size + 1, 2, none⟩ = false :=
  ⟨⟨h.loc.cell 0, h.loc.cell 1, h.loc.cell 2⟩, ⟨h.res.cell 0, h.res.cell 1, h.res.cell 2⟩, ⟨h.res.frozen 0, h.res.frozen 1, h.res.frozen 2⟩, h.loc.frozen 1, h.loc.frozen 2⟩
theorem CRd.ans (h : CRd R Q M N U A c1 c2 ct names up l p rv out W) (hR : Q < w.heap.size) (hown : ∀ g, rv.ownBlock = some g → g < w.heap.size) (x : Cd.In) : CRd R Q M N U A c1 c2 ct names up l p rv out (ansd w W x) :=
  ((h.setX (x := ⟨w.heap.size, 0, none⟩) hR hown _).setX (x := ⟨w.heap.size, 1, none⟩) hR hown _).setX (x := ⟨w.heap.size, 2, none⟩) hR hown _
theorem CRd.drew (h : CRd R Q M N U A c1 c2 ct names up l p rv out W) : CRd R Q M N U A c1 c2 ct names up l p rv out W.drew := h.keep ⟨rfl, rfl, rfl, Nat.le_refl _, fun _ _ => rfl⟩
def CTold3 (R Q M : Nat) (N U A : Option Addr) (c1 c2 ct : Nat) (names : List ByteArray) (up : List Nat) (l : List Lx.Tk) (rv : Value) (out : List Cd.In) (w : World) (r : Cd.In × Nat × Nat) (e : Ending) (w' : World) : Prop :=
  e = .returned (.tuple #[inv r.1, .int .i64 (r.2.2 : Nat)]) ∧ CRd R Q M N U A c1 c2 ct names up l r.2.1 rv out w' ∧ Kept R R w w'
theorem Loc.start (op : Int) : Loc R w ((w.alloc (.cells #[.int .i64 0, .int .i64 0, .int .i64 0] 57)).alloc (.cells #[.int .i64 op, .int .i64 0, .int .i64 0] 57)) ⟨0, 0, 0⟩ ⟨op, 0, 0⟩ := by
  have h0 : (w.alloc (.cells #[.int .i64 0, .int .i64 0, .int .i64 0] 57)).heap.size = w.heap.size + 1 := by simp
  have h1 := Blk.new (w.alloc (.cells #[.int .i64 0, .int .i64 0, .int .i64 0] 57)) 57 #[.int .i64 op, .int .i64 0, .int .i64 0]
  rw [h0] at h1
  exact ⟨(Blk.new _ _ _).alloc _, h1, .of (((Below.refl _ w).alloc (Nat.le_refl _) _).alloc (by simp) _)⟩
set_option maxHeartbeats 8000000 in
theorem crest_any (hf : Tb.Fine l) (hz : checkN names up = 0) (op : Int) (w : World) (h : CRd R Q M N U A c1 c2 ct names up l p rv out w) : Calls Tryz.prog 141 #[.pointer (some ⟨Q, 0, none⟩), .int .i64 op] w (CTold3 R Q M N U A c1 c2 ct names up l rv out w (Cd.restP names op l p)) := by
  have hR := h.lt
  have hQ := h.ltQ
  have hown : ∀ g, rv.ownBlock = some g → g < w.heap.size := fun g hg => (h.own.lt g hg).2
  have HNUM := Lib.hid (fun p W (h : CRd R Q M N U A c1 c2 ct names up l p rv out W) => cnum_any hf W h)
  have HLAB := Lib.hid (fun p W (h : CRd R Q M N U A c1 c2 ct names up l p rv out W) => clabel_any hf hz W h)
  have HMRK := Lib.hid (fun p W (h : CRd R Q M N U A c1 c2 ct names up l p rv out W) => cmark_any hf Cd.bSemi W h)
  have HHN := Lib.hid (fun W => hasNumber_any op W)
  have HHL := Lib.hid (fun W => hasLabel_any op W)
  have HLOC := Lib.hid (Loc.start (R := R) (w := w) op)
  have hb0 := (((Below.refl _ w).alloc (Nat.le_refl _) (.cells #[.int .i64 0, .int .i64 0, .int .i64 0] 57)).alloc (by simp) (.cells #[.int .i64 op, .int .i64 0, .int .i64 0] 57))
  have HST := Lib.hid (h.keep hb0)
  have HOWN := Lib.hid hown
  clear h hown hb0
  cases hnum : Cd.number op with
  | false =>
    have hne : op ≠ 1 := by rintro rfl; cases hnum
    have hrest : Cd.restP names op l p = (⟨op, 0, 0⟩, (Cd.markP l Cd.bSemi p).1, (Cd.markP l Cd.bSemi p).2) := by
      simp only [Cd.restP, Cd.numStep, Cd.labStep, Cd.endStep, hnum, Bool.false_eq_true, if_false, if_true, if_neg hne]
    rw [hrest]
    rw [decide_eq_false hne] at HHL
    rw [hnum] at HHN
    clear hrest hnum hne
    go_enter Tryz.func141, Tryz.ntmps141
    go_wp2_with (fail)
    generalize hw0 : ((w.alloc (.cells #[.int .i64 0, .int .i64 0, .int .i64 0] 57)).alloc (.cells #[.int .i64 op, .int .i64 0, .int .i64 0] 57)) = w0 at *
    clear hw0
    have q0 := HST.out.p0
    have hQl := HST.out.ltQ
    refine (HHN.out _).mono ?_
    rintro e w1 ⟨rfl, rfl⟩
    go_wp2_with (fail)
    refine (HHL.out _).mono ?_
    rintro e w1 ⟨rfl, rfl⟩
    obtain ⟨⟨m, er⟩, hm⟩ : ∃ r, Cd.markP l Cd.bSemi (p) = r := ⟨_, rfl⟩
    have hlocd := HLOC.out.drew
    have hstd := HST.out.drew
    have hlocs := hlocd.setR
    have hsts := hstd.ans hQ HOWN.out ⟨op, 0, 0⟩
    obtain ⟨⟨x0, x1, x2⟩, ⟨r0, r1, r2⟩, ⟨f0, f1, f2⟩, -, -⟩ := hlocd.cells
    have HLD := Lib.hid hlocd
    have HLS := Lib.hid hlocs
    have HSD := Lib.hid hstd
    have HSS := Lib.hid hsts
    unfold ansd at HSS HLS
    have HM := Lib.hid hm
    clear hlocd hstd hlocs hsts hm
    dsimp only at x0 x1 x2 r0 r1 r2 HLD HLS HSD HSS
    have qa1 := HSD.out.p0
    have qa2 := HSS.out.p0
    go_wp2
    go_region_with (go_at_call 134; refine (HMRK.out (p) _ ?_).mono ?_; (first | exact HSD.out | exact HSS.out); rintro e w2 ⟨rfl, hs2, hk2⟩; rw [HM.out] at hs2; obtain ⟨y, hl2⟩ : ∃ y, Loc R w w2 y ⟨op, 0, 0⟩ := (by first | exact ⟨_, HLD.out.keep hR hk2⟩ | exact ⟨_, HLS.out.keep hR hk2⟩); obtain ⟨⟨z0, z1, z2⟩, ⟨s0, s1, s2⟩, ⟨g0, g1, g2⟩, -, -⟩ := hl2.cells)
    all_goals go_wp2
    all_goals
      first
        | (have hfin := hl2.setR
           have hcf := hs2.ans hQ HOWN.out ⟨op, 0, 0⟩
           obtain ⟨-, ⟨v0, v1, v2⟩, -, -⟩ := hfin.cells
           have HK := Lib.hid hfin.kept
           have HCF := Lib.hid hcf
           unfold ansd at v0 v1 v2 HK HCF
           dsimp only at v0 v1 v2 HK HCF
           clear hfin hcf
           refine bodyPost_ret (v := .tuple #[inv ⟨op, 0, 0⟩, .int .i64 ((Cd.markP l Cd.bSemi (p)).2 : Nat)]) (by simp [results, Tryz.results141, go_sem, v0, v1, v2, inv, HM.out]) rfl ⟨rfl, by rw [HM.out]; exact HCF.out, HK.out⟩)
        | (have HK := Lib.hid hl2.kept
           have HCF := Lib.hid hs2
           refine bodyPost_ret (v := .tuple #[inv ⟨op, 0, 0⟩, .int .i64 ((Cd.markP l Cd.bSemi (p)).2 : Nat)]) (by simp [results, Tryz.results141, go_sem, s0, s1, s2, inv, HM.out]) rfl ⟨rfl, by rw [HM.out]; exact HCF.out, HK.out⟩)
        | trace_state
  | true =>
    obtain ⟨⟨v, q, er⟩, hint⟩ : ∃ r, Cd.intP l p = r := ⟨_, rfl⟩
    have hnumc := fun W (h : CRd R Q M N U A c1 c2 ct names up l p rv out W) => HNUM.out p W h
    rw [hint] at hnumc
    have HNC := Lib.hid hnumc
    rw [hnum] at HHN
    clear hnumc
    by_cases her : er = 0
    · by_cases ho : op = 1
      · subst ho
        obtain ⟨⟨a, q2, er2⟩, hlab⟩ : ∃ r, Cd.labP names l q = r := ⟨_, rfl⟩
        have hlabc := fun W (h : CRd R Q M N U A c1 c2 ct names up l q rv out W) => HLAB.out q W h
        rw [hlab] at hlabc
        have HLC := Lib.hid hlabc
        rw [decide_eq_true rfl] at HHL
        subst her
        clear hlabc
        by_cases her2 : er2 = 0
        · subst her2
          have hrest : Cd.restP names 1 l p = (⟨1, v, a⟩, (Cd.markP l Cd.bSemi q2).1, (Cd.markP l Cd.bSemi q2).2) := by
            simp only [Cd.restP, Cd.numStep, Cd.labStep, Cd.endStep, hnum, if_true, hint, hlab]
          rw [hrest]
          clear hrest hnum hint hlab
          go_enter Tryz.func141, Tryz.ntmps141
          go_wp2_with (fail)
          generalize hw0 : ((w.alloc (.cells #[.int .i64 0, .int .i64 0, .int .i64 0] 57)).alloc (.cells #[.int .i64 1, .int .i64 0, .int .i64 0] 57)) = w0 at *
          clear hw0
          have q0 := HST.out.p0
          have hQl := HST.out.ltQ
          refine (HHN.out _).mono ?_
          rintro e w1 ⟨rfl, rfl⟩
          go_wp2_with (fail)
          refine (HNC.out _ HST.out).mono ?_
          rintro e w3 ⟨rfl, hs3, hk3⟩
          have hloc3 := HLOC.out.keep hR hk3
          obtain ⟨⟨x0, x1, x2⟩, -, -, f1, f2⟩ := hloc3.cells
          have hloc4 := hloc3.setN v
          have hs4 := hs3.setX (x := ⟨w.heap.size + 1, 1, none⟩) (by show Q < w.heap.size + 1; omega) (fun g hg => Nat.lt_succ_of_lt (HOWN.out g hg)) (.int .i64 v)
          obtain ⟨W2, hW2⟩ : ∃ W2, w3.setCell ⟨w.heap.size + 1, 1, none⟩ (.int .i64 v) = W2 := ⟨_, rfl⟩
          rw [hW2] at hloc4 hs4
          clear HLOC HST q0 hQl
          have HLOC := Lib.hid hloc4
          have HST := Lib.hid hs4
          have q0 := hs4.p0
          have hQl := hs4.ltQ
          clear hs3 hk3 hloc3 hloc4 hs4
          go_wp2_with (fail)
          refine (HHL.out _).mono ?_
          rintro e w4 ⟨rfl, rfl⟩
          clear x0 x1 x2 f1 f2 hW2
          go_wp2_with (fail)
          refine (HLC.out _ HST.out).mono ?_
          rintro e w5 ⟨rfl, hs5, hk5⟩
          have hloc5 := HLOC.out.keep hR hk5
          obtain ⟨⟨x0, x1, x2⟩, -, -, f1, f2⟩ := hloc5.cells
          have hloc6 := hloc5.setL a
          have hs6 := hs5.setX (x := ⟨w.heap.size + 1, 2, none⟩) (by show Q < w.heap.size + 1; omega) (fun g hg => Nat.lt_succ_of_lt (HOWN.out g hg)) (.int .i64 a)
          obtain ⟨W4, hW4⟩ : ∃ W4, w5.setCell ⟨w.heap.size + 1, 2, none⟩ (.int .i64 a) = W4 := ⟨_, rfl⟩
          rw [hW4] at hloc6 hs6
          clear HLOC HST q0 hQl
          have HLOC := Lib.hid hloc6
          have HST := Lib.hid hs6
          have q0 := hs6.p0
          have hQl := hs6.ltQ
          clear hs5 hk5 hloc5 hloc6 hs6
          obtain ⟨⟨m, er⟩, hm⟩ : ∃ r, Cd.markP l Cd.bSemi (q2) = r := ⟨_, rfl⟩
          have hlocd := HLOC.out.drew
          have hstd := HST.out.drew
          have hlocs := hlocd.setR
          have hsts := hstd.ans hQ HOWN.out ⟨1, v, a⟩
          obtain ⟨⟨x0, x1, x2⟩, ⟨r0, r1, r2⟩, ⟨f0, f1, f2⟩, -, -⟩ := hlocd.cells
          have HLD := Lib.hid hlocd
          have HLS := Lib.hid hlocs
          have HSD := Lib.hid hstd
          have HSS := Lib.hid hsts
          unfold ansd at HSS HLS
          have HM := Lib.hid hm
          clear hlocd hstd hlocs hsts hm
          dsimp only at x0 x1 x2 r0 r1 r2 HLD HLS HSD HSS
          have qa1 := HSD.out.p0
          have qa2 := HSS.out.p0
          go_wp2
          go_region_with (go_at_call 134; refine (HMRK.out (q2) _ ?_).mono ?_; (first | exact HSD.out | exact HSS.out); rintro e w2 ⟨rfl, hs2, hk2⟩; rw [HM.out] at hs2; obtain ⟨y, hl2⟩ : ∃ y, Loc R w w2 y ⟨1, v, a⟩ := (by first | exact ⟨_, HLD.out.keep hR hk2⟩ | exact ⟨_, HLS.out.keep hR hk2⟩); obtain ⟨⟨z0, z1, z2⟩, ⟨s0, s1, s2⟩, ⟨g0, g1, g2⟩, -, -⟩ := hl2.cells)
          all_goals go_wp2
          all_goals
            first
              | (have hfin := hl2.setR
                 have hcf := hs2.ans hQ HOWN.out ⟨1, v, a⟩
                 obtain ⟨-, ⟨v0, v1, v2⟩, -, -⟩ := hfin.cells
                 have HK := Lib.hid hfin.kept
                 have HCF := Lib.hid hcf
                 unfold ansd at v0 v1 v2 HK HCF
                 dsimp only at v0 v1 v2 HK HCF
                 clear hfin hcf
                 refine bodyPost_ret (v := .tuple #[inv ⟨1, v, a⟩, .int .i64 ((Cd.markP l Cd.bSemi (q2)).2 : Nat)]) (by simp [results, Tryz.results141, go_sem, v0, v1, v2, inv, HM.out]) rfl ⟨rfl, by rw [HM.out]; exact HCF.out, HK.out⟩)
              | (have HK := Lib.hid hl2.kept
                 have HCF := Lib.hid hs2
                 refine bodyPost_ret (v := .tuple #[inv ⟨1, v, a⟩, .int .i64 ((Cd.markP l Cd.bSemi (q2)).2 : Nat)]) (by simp [results, Tryz.results141, go_sem, s0, s1, s2, inv, HM.out]) rfl ⟨rfl, by rw [HM.out]; exact HCF.out, HK.out⟩)
              | trace_state
        · have hrest : Cd.restP names 1 l p = (⟨1, v, a⟩, q2, er2) := by
            simp only [Cd.restP, Cd.numStep, Cd.labStep, Cd.endStep, hnum, if_true, hint, hlab, if_neg her2]
          rw [hrest]
          have hz1 : ((er2 : Int) != 0) = true := by rw [bne_iff_ne]; omega
          clear hrest hnum hint hlab her2
          go_enter Tryz.func141, Tryz.ntmps141
          go_wp2_with (fail)
          generalize hw0 : ((w.alloc (.cells #[.int .i64 0, .int .i64 0, .int .i64 0] 57)).alloc (.cells #[.int .i64 1, .int .i64 0, .int .i64 0] 57)) = w0 at *
          clear hw0
          have q0 := HST.out.p0
          have hQl := HST.out.ltQ
          refine (HHN.out _).mono ?_
          rintro e w1 ⟨rfl, rfl⟩
          go_wp2_with (fail)
          refine (HNC.out _ HST.out).mono ?_
          rintro e w3 ⟨rfl, hs3, hk3⟩
          have hloc3 := HLOC.out.keep hR hk3
          obtain ⟨⟨x0, x1, x2⟩, -, -, f1, f2⟩ := hloc3.cells
          have hloc4 := hloc3.setN v
          have hs4 := hs3.setX (x := ⟨w.heap.size + 1, 1, none⟩) (by show Q < w.heap.size + 1; omega) (fun g hg => Nat.lt_succ_of_lt (HOWN.out g hg)) (.int .i64 v)
          obtain ⟨W2, hW2⟩ : ∃ W2, w3.setCell ⟨w.heap.size + 1, 1, none⟩ (.int .i64 v) = W2 := ⟨_, rfl⟩
          rw [hW2] at hloc4 hs4
          clear HLOC HST q0 hQl
          have HLOC := Lib.hid hloc4
          have HST := Lib.hid hs4
          have q0 := hs4.p0
          have hQl := hs4.ltQ
          clear hs3 hk3 hloc3 hloc4 hs4
          go_wp2_with (fail)
          refine (HHL.out _).mono ?_
          rintro e w4 ⟨rfl, rfl⟩
          clear x0 x1 x2 f1 f2 hW2
          go_wp2_with (fail)
          refine (HLC.out _ HST.out).mono ?_
          rintro e w5 ⟨rfl, hs5, hk5⟩
          have hloc5 := HLOC.out.keep hR hk5
          obtain ⟨⟨x0, x1, x2⟩, -, -, f1, f2⟩ := hloc5.cells
          have hloc6 := hloc5.setL a
          have hs6 := hs5.setX (x := ⟨w.heap.size + 1, 2, none⟩) (by show Q < w.heap.size + 1; omega) (fun g hg => Nat.lt_succ_of_lt (HOWN.out g hg)) (.int .i64 a)
          obtain ⟨W4, hW4⟩ : ∃ W4, w5.setCell ⟨w.heap.size + 1, 2, none⟩ (.int .i64 a) = W4 := ⟨_, rfl⟩
          rw [hW4] at hloc6 hs6
          clear HLOC HST q0 hQl
          have HLOC := Lib.hid hloc6
          have HST := Lib.hid hs6
          have q0 := hs6.p0
          have hQl := hs6.ltQ
          clear hs5 hk5 hloc5 hloc6 hs6
          obtain ⟨⟨y0, y1, y2⟩, ⟨r0, r1, r2⟩, ⟨g0, g1, g2⟩, -, -⟩ := HLOC.out.cells
          have hfin := HLOC.out.setR
          have hcf := HST.out.ans hQ HOWN.out ⟨1, v, a⟩
          obtain ⟨-, ⟨v0, v1, v2⟩, -, -⟩ := hfin.cells
          have HK := Lib.hid hfin.kept
          have HCF := Lib.hid hcf
          unfold ansd at v0 v1 v2 HK HCF
          dsimp only at y0 y1 y2 r0 r1 r2 v0 v1 v2 HK HCF
          clear hfin hcf
          go_wp2
          refine bodyPost_ret (v := .tuple #[inv ⟨1, v, a⟩, .int .i64 (er2 : Nat)]) (by simp [results, Tryz.results141, go_sem, v0, v1, v2, inv]) rfl ⟨rfl, HCF.out, HK.out⟩
      · have hrest : Cd.restP names op l p = (⟨op, v, 0⟩, (Cd.markP l Cd.bSemi q).1, (Cd.markP l Cd.bSemi q).2) := by
          simp only [Cd.restP, Cd.numStep, Cd.labStep, Cd.endStep, hnum, if_true, hint, her, if_neg ho]
        rw [hrest]
        rw [decide_eq_false ho] at HHL
        subst her
        clear hrest hnum hint ho
        go_enter Tryz.func141, Tryz.ntmps141
        go_wp2_with (fail)
        generalize hw0 : ((w.alloc (.cells #[.int .i64 0, .int .i64 0, .int .i64 0] 57)).alloc (.cells #[.int .i64 op, .int .i64 0, .int .i64 0] 57)) = w0 at *
        clear hw0
        have q0 := HST.out.p0
        have hQl := HST.out.ltQ
        refine (HHN.out _).mono ?_
        rintro e w1 ⟨rfl, rfl⟩
        go_wp2_with (fail)
        refine (HNC.out _ HST.out).mono ?_
        rintro e w3 ⟨rfl, hs3, hk3⟩
        have hloc3 := HLOC.out.keep hR hk3
        obtain ⟨⟨x0, x1, x2⟩, -, -, f1, f2⟩ := hloc3.cells
        have hloc4 := hloc3.setN v
        have hs4 := hs3.setX (x := ⟨w.heap.size + 1, 1, none⟩) (by show Q < w.heap.size + 1; omega) (fun g hg => Nat.lt_succ_of_lt (HOWN.out g hg)) (.int .i64 v)
        obtain ⟨W2, hW2⟩ : ∃ W2, w3.setCell ⟨w.heap.size + 1, 1, none⟩ (.int .i64 v) = W2 := ⟨_, rfl⟩
        rw [hW2] at hloc4 hs4
        clear HLOC HST q0 hQl
        have HLOC := Lib.hid hloc4
        have HST := Lib.hid hs4
        have q0 := hs4.p0
        have hQl := hs4.ltQ
        clear hs3 hk3 hloc3 hloc4 hs4
        go_wp2_with (fail)
        refine (HHL.out _).mono ?_
        rintro e w4 ⟨rfl, rfl⟩
        obtain ⟨⟨m, er⟩, hm⟩ : ∃ r, Cd.markP l Cd.bSemi (q) = r := ⟨_, rfl⟩
        have hlocd := HLOC.out.drew
        have hstd := HST.out.drew
        have hlocs := hlocd.setR
        have hsts := hstd.ans hQ HOWN.out ⟨op, v, 0⟩
        obtain ⟨⟨x0, x1, x2⟩, ⟨r0, r1, r2⟩, ⟨f0, f1, f2⟩, -, -⟩ := hlocd.cells
        have HLD := Lib.hid hlocd
        have HLS := Lib.hid hlocs
        have HSD := Lib.hid hstd
        have HSS := Lib.hid hsts
        unfold ansd at HSS HLS
        have HM := Lib.hid hm
        clear hlocd hstd hlocs hsts hm
        dsimp only at x0 x1 x2 r0 r1 r2 HLD HLS HSD HSS
        have qa1 := HSD.out.p0
        have qa2 := HSS.out.p0
        go_wp2
        go_region_with (go_at_call 134; refine (HMRK.out (q) _ ?_).mono ?_; (first | exact HSD.out | exact HSS.out); rintro e w2 ⟨rfl, hs2, hk2⟩; rw [HM.out] at hs2; obtain ⟨y, hl2⟩ : ∃ y, Loc R w w2 y ⟨op, v, 0⟩ := (by first | exact ⟨_, HLD.out.keep hR hk2⟩ | exact ⟨_, HLS.out.keep hR hk2⟩); obtain ⟨⟨z0, z1, z2⟩, ⟨s0, s1, s2⟩, ⟨g0, g1, g2⟩, -, -⟩ := hl2.cells)
        all_goals go_wp2
        all_goals
          first
            | (have hfin := hl2.setR
               have hcf := hs2.ans hQ HOWN.out ⟨op, v, 0⟩
               obtain ⟨-, ⟨v0, v1, v2⟩, -, -⟩ := hfin.cells
               have HK := Lib.hid hfin.kept
               have HCF := Lib.hid hcf
               unfold ansd at v0 v1 v2 HK HCF
               dsimp only at v0 v1 v2 HK HCF
               clear hfin hcf
               refine bodyPost_ret (v := .tuple #[inv ⟨op, v, 0⟩, .int .i64 ((Cd.markP l Cd.bSemi (q)).2 : Nat)]) (by simp [results, Tryz.results141, go_sem, v0, v1, v2, inv, HM.out]) rfl ⟨rfl, by rw [HM.out]; exact HCF.out, HK.out⟩)
            | (have HK := Lib.hid hl2.kept
               have HCF := Lib.hid hs2
               refine bodyPost_ret (v := .tuple #[inv ⟨op, v, 0⟩, .int .i64 ((Cd.markP l Cd.bSemi (q)).2 : Nat)]) (by simp [results, Tryz.results141, go_sem, s0, s1, s2, inv, HM.out]) rfl ⟨rfl, by rw [HM.out]; exact HCF.out, HK.out⟩)
            | trace_state
    · have hrest : Cd.restP names op l p = (⟨op, v, 0⟩, q, er) := by
        simp only [Cd.restP, Cd.numStep, hnum, if_true, hint, if_neg her]
      rw [hrest]
      have hz1 : ((er : Int) != 0) = true := by rw [bne_iff_ne]; omega
      clear hrest hnum hint her
      go_enter Tryz.func141, Tryz.ntmps141
      go_wp2_with (fail)
      generalize hw0 : ((w.alloc (.cells #[.int .i64 0, .int .i64 0, .int .i64 0] 57)).alloc (.cells #[.int .i64 op, .int .i64 0, .int .i64 0] 57)) = w0 at *
      clear hw0
      have q0 := HST.out.p0
      have hQl := HST.out.ltQ
      refine (HHN.out _).mono ?_
      rintro e w1 ⟨rfl, rfl⟩
      go_wp2_with (fail)
      refine (HNC.out _ HST.out).mono ?_
      rintro e w3 ⟨rfl, hs3, hk3⟩
      have hloc3 := HLOC.out.keep hR hk3
      obtain ⟨⟨x0, x1, x2⟩, -, -, f1, f2⟩ := hloc3.cells
      have hloc4 := hloc3.setN v
      have hs4 := hs3.setX (x := ⟨w.heap.size + 1, 1, none⟩) (by show Q < w.heap.size + 1; omega) (fun g hg => Nat.lt_succ_of_lt (HOWN.out g hg)) (.int .i64 v)
      obtain ⟨W2, hW2⟩ : ∃ W2, w3.setCell ⟨w.heap.size + 1, 1, none⟩ (.int .i64 v) = W2 := ⟨_, rfl⟩
      rw [hW2] at hloc4 hs4
      clear HLOC HST q0 hQl
      have HLOC := Lib.hid hloc4
      have HST := Lib.hid hs4
      have q0 := hs4.p0
      have hQl := hs4.ltQ
      clear hs3 hk3 hloc3 hloc4 hs4
      obtain ⟨⟨y0, y1, y2⟩, ⟨r0, r1, r2⟩, ⟨g0, g1, g2⟩, -, -⟩ := HLOC.out.cells
      have hfin := HLOC.out.setR
      have hcf := HST.out.ans hQ HOWN.out ⟨op, v, 0⟩
      obtain ⟨-, ⟨v0, v1, v2⟩, -, -⟩ := hfin.cells
      have HK := Lib.hid hfin.kept
      have HCF := Lib.hid hcf
      unfold ansd at v0 v1 v2 HK HCF
      dsimp only at y0 y1 y2 r0 r1 r2 v0 v1 v2 HK HCF
      clear hfin hcf
      go_wp2
      refine bodyPost_ret (v := .tuple #[inv ⟨op, v, 0⟩, .int .i64 (er : Nat)]) (by simp [results, Tryz.results141, go_sem, v0, v1, v2, inv]) rfl ⟨rfl, HCF.out, HK.out⟩
end
end Go.Proofs.YtipbilmnknmhmaaGreatDoor

/- Walk of the reader's instruction. -/
namespace Go.Proofs.YtipbilmnknmhmaaGreatDoor
set_option maxRecDepth 100000
open Go.RowKit Go.Shelf Go.Sort
attribute [local go_sem] Oper.semAt_some
theorem Tryz.infoInstr : (Tryz.prog.info? 57).map (fun i => (i.zero, i.size, i.bytes)) = some (some (.agg #[.int .i64 0, .int .i64 0, .int .i64 0]), 3, 24) := by kernel_rfl
theorem own_ne3 {W : World} {v : Value} {g n sz : Nat} {e : TypeId} {xs : List Value} (hown : W.ownsRow (g + 1) e sz v n xs) : some g ≠ v.ownBlock := fun he => by
  have := (hown.lt g he.symm).1
  omega
section
variable {R Q M c1 c2 ct p q : Nat} {N U A : Option Addr} {names : List ByteArray} {up : List Nat} {l : List Lx.Tk} {rv : Value} {out : List Cd.In} {w w' W : World}
/-- What a step makes of a reading: an instruction more, or an error. -/
def CStep (R Q M : Nat) (N U A : Option Addr) (c1 c2 ct : Nat) (names : List ByteArray) (up : List Nat) (l : List Lx.Tk) (out : List Cd.In) (w : World) (r : Cd.In × Nat × Nat) (e : Ending) (w' : World) : Prop :=
  ∃ rv', e = .returned (.int .i64 (r.2.2 : Nat)) ∧ CRd R Q M N U A c1 c2 ct names up l r.2.1 rv' (if r.2.2 = 0 then out ++ [r.1] else out) w' ∧ Below R w w'
set_option maxHeartbeats 8000000 in
theorem cinstr_any (hf : Tb.Fine l) (hz : checkN names up = 0) (op : Nat) (hop : op < 13) (hk : (Tb.tok l p).kind = 1) (w : World) (h : CRd R Q M N U A c1 c2 ct names up l p rv out w) (hout : out.length ≤ 12) :
    Calls Tryz.prog 129 #[.pointer (some ⟨Q, 0, none⟩), .int .i64 (op : Int)] w (CStep R Q M N U A c1 c2 ct names up l out w (Cd.oneP names up.length op l p)) := by
  have hR := h.lt
  have hnext := Cd.kind_next hf h.pos (by omega)
  have hmany := h.many
  have hQ := h.ltQ
  have hrq := h.rq
  have q0 := h.p0
  have c4 := h.rd.c3
  have hfz : w.frozen? ⟨R, 3, none⟩ = false := h.rd.blk.frozen 3
  have h1 := h.go (q := p + 1) hnext
  have hk1 := (Kept.refl R R w).set_ (p := ⟨R, 3, none⟩) (.inl rfl) (.int .i64 ((p + 1 : Nat) : Int))
  rw [show ((p + 1 : Nat) : Int) = (p : Int) + 1 by omega] at h1 hk1
  have hrest := crest_any hf hz op _ h1
  have hpos := h.pos
  unfold Cd.oneP
  obtain ⟨⟨⟨xo, xn, xl⟩, q, er⟩, hr⟩ : ∃ r, Cd.restP names op l (p + 1) = r := ⟨_, rfl⟩
  have hxop : (op : Int) = xo := by
    have e := congrArg (fun r => r.1.op) hr
    dsimp only at e
    rw [← e]
    unfold Cd.restP Cd.endStep
    split
    · split <;> rfl
    · rfl
  subst hxop
  rw [hr] at hrest ⊢
  have HREST := Lib.hid hrest
  have HK1 := Lib.hid hk1
  clear h hr hrest hk1 h1 hk
  by_cases her : er = 0
  · subst her
    unfold Cd.okP
    dsimp only
    rw [if_pos rfl]
    cases hin : Cd.inB up.length ⟨op, xn, xl⟩ with
    | false =>
      rw [if_neg (by decide)]
      go_enter Tryz.func129, Tryz.ntmps129
      go_wp2_with (fail)
      refine HREST.out.mono ?_
      rintro e w2 ⟨rfl, h2, hk2⟩
      have hbw := (HK1.out.trans hk2).belowR (Nat.le_of_lt hR)
      have h3 := h2.keep ((Below.refl _ w2).alloc (Nat.le_refl _) (.cells #[.int .i64 (op : Int), .int .i64 xn, .int .i64 xl] 57))
      have hb3 : Below R w (w2.alloc (.cells #[.int .i64 (op : Int), .int .i64 xn, .int .i64 xl] 57)) := hbw.alloc (Nat.le_of_lt h2.lt) _
      have hbx := Blk.new w2 57 #[.int .i64 (op : Int), .int .i64 xn, .int .i64 xl]
      obtain ⟨W3, hW3⟩ : ∃ W3, w2.alloc (.cells #[.int .i64 (op : Int), .int .i64 xn, .int .i64 xl] 57) = W3 := ⟨_, rfl⟩
      rw [hW3] at h3 hb3 hbx
      have x0 : W3.cell? ⟨w2.heap.size, 0, none⟩ = some (.int .i64 (op : Int)) := hbx.cell 0
      have x1 : W3.cell? ⟨w2.heap.size, 1, none⟩ = some (.int .i64 xn) := hbx.cell 1
      have x2 : W3.cell? ⟨w2.heap.size, 2, none⟩ = some (.int .i64 xl) := hbx.cell 2
      have m0 := h3.p1
      have gx0 := fun d os => cell_regrown x0 d os
      have gx1 := fun d os => cell_regrown x1 d os
      have gx2 := fun d os => cell_regrown x2 d os
      have gm0 := fun d os => cell_regrown m0 d os
      obtain ⟨g, b, hbR, hcf, hce, hcall⟩ := h3.chk.yes (op := op) (by omega) (by omega)
      have hlk := fun d os => hcf (grow (redrawn W3 d) os) false ((below_regrown W3 d os).mono (Nat.le_of_lt h3.ltQ))
      simp only [Bool.false_eq_true, if_false] at hlk
      have hcl := fun d os => hcall xn xl (grow (redrawn W3 d) os) ((below_regrown W3 d os).mono (Nat.le_of_lt h3.ltQ))
      rw [hin] at hcl
      have HCL := Lib.hid hcl
      have HB3 := Lib.hid hb3
      have H3 := Lib.hid h3
      have HBX := Lib.hid hbx
      clear hcl hcall hb3 h3 hbx h2 hk2 hbw hin m0 hcf
      unfold inv
      go_wp2
      refine wp_region_quiet_below (by kernel_rfl) (by kernel_rfl) ?_
      repeat (quiet_step ((exact Calls.regrown_of (HCL.out _ _))))
      refine wpQuiet_nil ?_
      rintro _ ⟨⟨d, os⟩, rfl⟩
      have hb5 := below_regrown W3 d os
      clear gx0 gx1 gx2 gm0 hlk
      generalize grow (redrawn W3 d) os = w5 at *
      have h5 := H3.out.keep hb5
      have c4' := h5.rd.c3
      have hfz' : w5.frozen? ⟨R, 3, none⟩ = false := h5.rd.blk.frozen 3
      have hR5 := h5.lt
      have hQ5 := h5.ltQ
      have qa5 := h5.p0
      have hb6 := HB3.out.trans (hb5.mono (Nat.le_of_lt H3.out.lt))
      have H6 := Lib.hid (h5.go hpos)
      have HB6 := Lib.hid (hb6.setCell (p := ⟨R, 3, none⟩) (Nat.le_refl _) (.int .i64 (p : Int)))
      clear hb5 h5 hb6 x0 x1 x2
      go_wp2
      go_ret
      exact ⟨rv, rfl, by show CRd R Q M N U A c1 c2 ct names up l p rv (if (1 : Nat) = 0 then _ else out) _; rw [if_neg (by decide)]; exact H6.out, HB6.out⟩
    | true =>
      rw [if_pos rfl]
      go_enter Tryz.func129, Tryz.ntmps129
      go_wp2_with (fail)
      refine HREST.out.mono ?_
      rintro e w2 ⟨rfl, h2, hk2⟩
      have hbw := (HK1.out.trans hk2).belowR (Nat.le_of_lt hR)
      have h3 := h2.keep ((Below.refl _ w2).alloc (Nat.le_refl _) (.cells #[.int .i64 (op : Int), .int .i64 xn, .int .i64 xl] 57))
      have hb3 : Below R w (w2.alloc (.cells #[.int .i64 (op : Int), .int .i64 xn, .int .i64 xl] 57)) := hbw.alloc (Nat.le_of_lt h2.lt) _
      have hbx := Blk.new w2 57 #[.int .i64 (op : Int), .int .i64 xn, .int .i64 xl]
      obtain ⟨W3, hW3⟩ : ∃ W3, w2.alloc (.cells #[.int .i64 (op : Int), .int .i64 xn, .int .i64 xl] 57) = W3 := ⟨_, rfl⟩
      rw [hW3] at h3 hb3 hbx
      have x0 : W3.cell? ⟨w2.heap.size, 0, none⟩ = some (.int .i64 (op : Int)) := hbx.cell 0
      have x1 : W3.cell? ⟨w2.heap.size, 1, none⟩ = some (.int .i64 xn) := hbx.cell 1
      have x2 : W3.cell? ⟨w2.heap.size, 2, none⟩ = some (.int .i64 xl) := hbx.cell 2
      have m0 := h3.p1
      have gx0 := fun d os => cell_regrown x0 d os
      have gx1 := fun d os => cell_regrown x1 d os
      have gx2 := fun d os => cell_regrown x2 d os
      have gm0 := fun d os => cell_regrown m0 d os
      obtain ⟨g, b, hbR, hcf, hce, hcall⟩ := h3.chk.yes (op := op) (by omega) (by omega)
      have hlk := fun d os => hcf (grow (redrawn W3 d) os) false ((below_regrown W3 d os).mono (Nat.le_of_lt h3.ltQ))
      simp only [Bool.false_eq_true, if_false] at hlk
      have hcl := fun d os => hcall xn xl (grow (redrawn W3 d) os) ((below_regrown W3 d os).mono (Nat.le_of_lt h3.ltQ))
      rw [hin] at hcl
      have HCL := Lib.hid hcl
      have HB3 := Lib.hid hb3
      have H3 := Lib.hid h3
      have HBX := Lib.hid hbx
      clear hcl hcall hb3 h3 hbx h2 hk2 hbw hin m0 hcf
      unfold inv
      go_wp2
      refine wp_region_quiet_below (by kernel_rfl) (by kernel_rfl) ?_
      repeat (quiet_step ((exact Calls.regrown_of (HCL.out _ _))))
      refine wpQuiet_nil ?_
      rintro _ ⟨⟨d, os⟩, rfl⟩
      have hb5 := below_regrown W3 d os
      clear gx0 gx1 gx2 gm0 hlk
      generalize grow (redrawn W3 d) os = w5 at *
      have h5 := H3.out.keep hb5
      have c4' := h5.rd.c3
      have hfz' : w5.frozen? ⟨R, 3, none⟩ = false := h5.rd.blk.frozen 3
      have hR5 := h5.lt
      have hQ5 := h5.ltQ
      have qa5 := h5.p0
      have hb6 := HB3.out.trans (hb5.mono (Nat.le_of_lt H3.out.lt))
      have hbx5 := HBX.out.below hb5 HBX.out.lt
      have y0 : w5.cell? ⟨w2.heap.size, 0, none⟩ = some (.int .i64 (op : Int)) := hbx5.cell 0
      have y1 : w5.cell? ⟨w2.heap.size, 1, none⟩ = some (.int .i64 xn) := hbx5.cell 1
      have y2 : w5.cell? ⟨w2.heap.size, 2, none⟩ = some (.int .i64 xl) := hbx5.cell 2
      have hown := h5.own
      have hblk := h5.blk
      have hne2 := own_ne3 h5.own
      have c5 := h5.p2
      obtain ⟨A1, cap, hrv⟩ := ownT_slice h5.own
      subst hrv
      obtain ⟨i0, hi, hz0, hz1, hz2⟩ := info_parts Tryz.infoInstr
      have H5 := Lib.hid h5
      have HB6 := Lib.hid hb6
      clear hb5 h5 hb6 x0 x1 x2 c4' hfz' hbx5
      go_wp2
      go_region_law (refine step_append_own2 rfl (.tmp 54) (.tmp 56) 26 rfl (Q + 1) 57 i0 (.agg #[.int .i64 0, .int .i64 0, .int .i64 0]) 3 24 Tryz.underlying26 hi hz0 hz1 hz2 rfl (by decide) (.slice A1 out.length cap) out.length (icells out) (by simp [Act.eval]) (by exact hown.alloc _) ⟨w5.heap.size, 0, none⟩ 1 1 [.int .i64 (op : Int), .int .i64 xn, .int .i64 xl] (by simp [Act.eval]) rfl (by exact cells_new _ _ _) (by simp [Value.oneCell']) (by unfold maxLen; omega) (by omega) (by simp; omega) ?_; intro v' w' hown' hgrow hob; obtain ⟨g', cap', rfl⟩ := ownsRow_succ hown'; have hb2 := blk_grow hblk hne2 hgrow; have hcz : w'.cell? ⟨Q, 2, none⟩ = some (.slice A1 out.length cap) := (by rw [hb2.cell]; rfl); have hfz := hb2.frozen 2)
      all_goals go_wp2
      all_goals
        have hbg : Below Q w5 w' := by
          refine ⟨hgrow.os, hgrow.tape, hgrow.output, Nat.le_trans (by simp) hgrow.size, fun k hk => ?_⟩
          have hk5 : k < w5.heap.size := Nat.lt_trans hk H5.out.ltQ
          refine (hgrow.block k (Nat.lt_of_lt_of_le hk5 (by simp)) fun e => ?_).trans (Below.heap_alloc w5 _ k hk5)
          have := (hown.lt k e.symm).1
          omega
        have hbq : Below Q w5 (w'.setCell ⟨Q, 2, none⟩ (.slice (some ⟨g', 0, none⟩) (out.length + 1) cap')) := hbg.setCell (Nat.le_refl _) _
        have hbs : Below R w5 (w'.setCell ⟨Q, 2, none⟩ (.slice (some ⟨g', 0, none⟩) (out.length + 1) cap')) := hbq.mono (Nat.le_of_lt hrq)
        have hcr : CRd R Q M N U A c1 c2 ct names up l q (.slice (some ⟨g', 0, none⟩) (out.length + 1) cap') (out ++ [⟨(op : Int), xn, xl⟩]) (w'.setCell ⟨Q, 2, none⟩ (.slice (some ⟨g', 0, none⟩) (out.length + 1) cap')) := by
          refine ⟨⟨H5.out.rd.blk.below hbq hrq, H5.out.rd.old.below hbs, H5.out.rd.pos⟩, hb2.set_ 2 _, ?_, H5.out.chk.below hbq, H5.out.ins.below hbs H5.out.gR, H5.out.gR, hrq⟩
          rw [icells_snoc, List.length_append]
          exact ownsRow_setCell_below hown' (by simp) _
        have HCR := Lib.hid hcr
        have HBZ := Lib.hid (HB6.out.trans hbs)
        clear hbg hbs hcr
        go_ret
        exact ⟨_, rfl, by show CRd R Q M N U A c1 c2 ct names up l q _ (if (0 : Nat) = 0 then _ else out) _; rw [if_pos rfl]; exact HCR.out, HBZ.out⟩
  · unfold Cd.okP
    dsimp only
    rw [if_neg her]
    have hz1 : ((er : Int) != 0) = true := by rw [bne_iff_ne]; omega
    go_enter Tryz.func129, Tryz.ntmps129
    go_wp2_with (fail)
    refine HREST.out.mono ?_
    rintro e w2 ⟨rfl, h2, hk2⟩
    have hbw := (HK1.out.trans hk2).belowR (Nat.le_of_lt hR)
    have H3 := Lib.hid (h2.keep ((Below.refl _ w2).alloc (Nat.le_refl _) (.cells #[.int .i64 (op : Int), .int .i64 xn, .int .i64 xl] 57)))
    have HB3 := Lib.hid (hbw.alloc (Nat.le_of_lt h2.lt) (.cells #[.int .i64 (op : Int), .int .i64 xn, .int .i64 xl] 57))
    clear hbw h2 hk2
    unfold inv
    go_wp2
    go_ret
    exact ⟨rv, rfl, by rw [if_neg her]; exact H3.out, HB3.out⟩
end
end Go.Proofs.YtipbilmnknmhmaaGreatDoor

/- Rows of things of several cells; rows in new blocks. Over no program but what CodA names. -/
namespace Go.Proofs.YtipbilmnknmhmaaGreatDoor
set_option maxRecDepth 100000
open Go.RowKit Go.Shelf
/-! Rows of things of several cells. -/
def fcells {α : Type} (f : α → List Value) (l : List α) : List Value := l.flatMap f
theorem fcells_length {α : Type} {f : α → List Value} {n : Nat} (hf : ∀ x, (f x).length = n) (l : List α) : (fcells f l).length = l.length * n := by
  induction l with
  | nil => simp [fcells]
  | cons e r ih =>
    have : fcells f (e :: r) = f e ++ fcells f r := rfl
    rw [this, List.length_append, hf, ih, List.length_cons, Nat.succ_mul]
    omega
theorem fcells_snoc {α : Type} (f : α → List Value) (l : List α) (t : α) : fcells f (l ++ [t]) = fcells f l ++ f t := by simp [fcells]
theorem fcells_at {α : Type} {f : α → List Value} {n : Nat} (hf : ∀ x, (f x).length = n) : ∀ (l : List α) (k : Nat) (t : α), l[k]? = some t → ∀ j, j < n → (fcells f l)[k * n + j]? = (f t)[j]?
  | [], k, t, h, _, _ => by simp at h
  | e :: r, 0, t, h, j, hj => by
    simp only [List.getElem?_cons_zero, Option.some.injEq] at h
    subst h
    rw [show fcells f (e :: r) = f e ++ fcells f r from rfl, Nat.zero_mul, Nat.zero_add, List.getElem?_append_left (by rw [hf]; exact hj)]
  | e :: r, k + 1, t, h, j, hj => by
    have ih := fcells_at hf r k t (by simpa using h) j hj
    rw [show fcells f (e :: r) = f e ++ fcells f r from rfl, List.getElem?_append_right (by rw [hf, Nat.succ_mul]; omega), hf, ← ih]
    congr 1
    rw [Nat.succ_mul]
    omega
def ivs (x : Cd.In) : List Value := [.int .i64 x.op, .int .i64 x.n, .int .i64 x.l]
theorem icells_f (l : List Cd.In) : icells l = fcells ivs l := rfl
theorem ivs_len (x : Cd.In) : (ivs x).length = 3 := rfl
/-- A row in a block not older than B. -/
def NRow (B : Nat) (W : World) (A : Option Addr) (xs : List Value) : Prop := xs ≠ [] → ∃ ad, A = some ad ∧ (B ≤ ad.block ∧ ad.block < W.heap.size) ∧ ∀ j u, xs[j]? = some u → W.cell? (ad.add j) = some u
/-- A slice of such things, in a block not older than B. -/
def KN {α : Type} (f : α → List Value) (B : Nat) (w : World) (v : Value) (l : List α) : Prop := ∃ A c, v = .slice A l.length c ∧ NRow B w A (fcells f l) ∧ l.length ≤ c
section
variable {α : Type} {f : α → List Value} {w w' : World} {B B' R : Nat} {v : Value} {l : List α}
theorem KN.of_block (h : KN f B w v l) (hs : w.heap.size ≤ w'.heap.size) (hb : ∀ k, B ≤ k → k < w.heap.size → w'.heap[k]? = w.heap[k]?) : KN f B w' v l := by
  obtain ⟨A, c, e, hr, hc⟩ := h
  refine ⟨A, c, e, fun hn => ?_, hc⟩
  obtain ⟨ad, ea, ⟨h1, h2⟩, hcl⟩ := hr hn
  exact ⟨ad, ea, ⟨h1, Nat.lt_of_lt_of_le h2 hs⟩, fun j u hu => (World.cell?_of_block (w := w) (by rw [add_block]; exact hb _ h1 h2)).trans (hcl j u hu)⟩
theorem KN.kept (h : KN f B w v l) (hR : R < B) (hk : Kept R R w w') : KN f B w' v l := h.of_block hk.size fun k h1 h2 => hk.block k h2 (by omega) (by omega)
theorem KN.below (h : KN f B w v l) (hb : Below w.heap.size w w') : KN f B w' v l := h.of_block hb.size fun k _ h2 => hb.block k h2
theorem KN.set_ (h : KN f B w v l) {p : Addr} (hp : p.block < B) (u : Value) : KN f B (w.setCell p u) v l := h.of_block (by simp [World.setCell]) fun k h1 _ => Below.heap_setCell _ _ _ _ (by omega)
theorem KN.less (h : KN f B w v l) (hB : B' ≤ B) : KN f B' w v l := by
  obtain ⟨A, c, e, hr, hc⟩ := h
  refine ⟨A, c, e, fun hn => ?_, hc⟩
  obtain ⟨ad, ea, ⟨h1, h2⟩, hcl⟩ := hr hn
  exact ⟨ad, ea, ⟨Nat.le_trans hB h1, h2⟩, hcl⟩
theorem KN.row (h : KN f B w v l) : ∃ A c, v = .slice A l.length c ∧ Row w w.heap.size A (fcells f l) ∧ l.length ≤ c := by
  obtain ⟨A, c, e, hr, hc⟩ := h
  refine ⟨A, c, e, fun hn => ?_, hc⟩
  obtain ⟨ad, ea, ⟨h1, h2⟩, hcl⟩ := hr hn
  exact ⟨ad, ea, h2, hcl⟩
theorem KN.nil (f : α → List Value) (B : Nat) (w : World) : KN f B w (.slice none 0 0) [] := ⟨none, 0, rfl, fun h => absurd rfl h, Nat.le_refl _⟩
theorem KN.own {base sz : Nat} {e : TypeId} (h : w.ownsRow base e sz v l.length (fcells f l)) : KN f base w v l := by
  obtain ⟨A, c, rfl⟩ := ownT_slice h
  obtain ⟨hr, hc⟩ := ownT_row h
  refine ⟨A, c, rfl, fun hn => ?_, hc⟩
  obtain ⟨ad, e, hlt, hcl⟩ := hr hn
  have hob := h.lt ad.block (by rw [e]; rfl)
  exact ⟨ad, e, ⟨by omega, hlt⟩, hcl⟩
end
end Go.Proofs.YtipbilmnknmhmaaGreatDoor
