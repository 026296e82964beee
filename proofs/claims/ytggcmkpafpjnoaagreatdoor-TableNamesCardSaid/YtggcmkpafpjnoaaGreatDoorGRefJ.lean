/- The reference's tables: Op and mark. -/
import Derived.Test.YtggcmkpafpjnoaaGreatDoorGRefD
import Derived.Test.YtggcmkpafpjnoaaGreatDoorGTabC
namespace Go.Proofs.YtggcmkpafpjnoaaGreatDoor
set_option maxRecDepth 100000
open Go.RowKit Go.Shelf
attribute [local go_sem] Oper.semAt_some

theorem find_is {s : ByteArray} {k : Nat} (hk : k < 13) (h : Tb.word k = s) : Tb.find s = some k := by rw [← h]; exact Tb.find_word hk
theorem find_not {s : ByteArray} (h : ∀ j, j < 13 → Tb.word j ≠ s) : Tb.find s = none := by
  unfold Tb.find
  rw [List.find?_eq_none]
  intro x hx
  rw [List.mem_range] at hx
  simpa using h x hx
/-- What Op answers. -/
def opIx : Option Nat → Int
  | some k => k
  | none => -1
def TellsZ (w : World) (n : Int) (e : Ending) (w' : World) : Prop := e = .returned (.int .i64 n) ∧ Below w.heap.size w w'
theorem retz {a b : Int} (h : a = b) : Ending.returned (.int .i64 a) = .returned (.int .i64 b) := by rw [h]
set_option maxHeartbeats 4000000 in
theorem rOp_any (s : ByteArray) (w : World) : Calls Tryz.prog 20 #[.string s] w (TellsZ w (opIx (Tb.find s))) := by
  have HA := Lib.hid (fun k (hk : k < 13) W => rIWord_any k hk W)
  obtain ⟨res, hres⟩ : ∃ res, opIx (Tb.find s) = res := ⟨_, rfl⟩
  rw [hres]
  have HRES := Lib.hid hres
  clear hres
  go_enter Tryz.func20, Tryz.ntmps20
  go_wp2
  go_loopw [3] (fun i wr => ∃ k : Nat, k ≤ 13 ∧ i = .int .i64 k ∧ Hid (∀ j : Nat, j < k → Tb.word j ≠ s) ∧ Hid (Below w.heap.size w wr)) (fun i _ => 13 - (intOf i).toNat)
  case atStart => exact ⟨0, by decide, rfl, Lib.hid (fun j h1 => absurd h1 (by omega)), Lib.hid (Below.refl _ _)⟩
  case round =>
    obtain ⟨k, hk, rfl, HK, HB⟩ := hrel
    by_cases hlt : k < 13
    · have HC := Lib.hid (HA.out k hlt wr)
      obtain ⟨x, hx⟩ : ∃ x, Tb.word k = x := ⟨_, rfl⟩
      rw [hx] at HC
      have HX := Lib.hid hx
      clear hx
      by_cases he : x = s
      · subst he
        have HF := Lib.hid (show (k : Int) = res by rw [← HRES.out, find_is hlt HX.out]; rfl)
        have hbe : (x.toList == x.toList) = true := by simp
        go_wp2_with (fail)
        refine HC.out.mono ?_
        rintro e w2 ⟨rfl, hb2⟩
        have HB2 := Lib.hid (HB.out.trans (hb2.mono HB.out.size))
        clear hb2
        go_wp2
        go_ret
        exact ⟨retz HF.out, HB2.out⟩
      · have hbe : (x.toList == s.toList) = false := by rw [str_beq, decide_eq_false_iff_not]; exact he
        have HE := Lib.hid he
        clear he
        go_wp2_with (fail)
        refine HC.out.mono ?_
        rintro e w2 ⟨rfl, hb2⟩
        have HB2 := Lib.hid (HB.out.trans (hb2.mono HB.out.size))
        clear hb2
        go_wp2
        go_roundw
        case rel => exact ⟨k + 1, by omega, by go_num, Lib.hid fun j h1 => by
          by_cases e : j = k
          · subst e; rw [HX.out]; exact HE.out
          · exact HK.out j (by omega), HB2⟩
        case measure => simp [intOf]; omega
    · obtain rfl : k = 13 := by omega
      have HT := Lib.hid (show (-1 : Int) = res by rw [← HRES.out, find_not HK.out]; rfl)
      go_wp2
      go_ret
      exact ⟨retz HT.out, HB.out⟩
/-- A reading of a row: the next place, the row, what is wrong. -/
def PVal (i : Nat) (v0 v1 v2 : Value) (e : Nat) : Value := .agg #[.int .i64 i, v0, v1, v2, .int .i64 e]
def markR (l : List Lx.Tk) (m : ByteArray) (i : Nat) : Nat × Nat := if (Tb.tok l i).kind = 3 ∧ (Tb.tok l i).text = m then (i + 1, 0) else (i, 4)
def TellsV (w : World) (v : Value) (e : Ending) (w' : World) : Prop := e = .returned v ∧ Below w.heap.size w w'
/-- A result's block, written. -/
theorem res5 {w W : World} (hb : Below w.heap.size w W) {t : TypeId} {g : Nat} {v0 v1 v2 v3 v4 : Value} (hk : Blk W g t #[v0, v1, v2, v3, v4]) (hg : w.heap.size ≤ g) (u0 u1 u2 u3 u4 : Value) :
    let W' := (((((W.setCell ⟨g, 0, none⟩ u0).setCell ⟨g, 1, none⟩ u1).setCell ⟨g, 2, none⟩ u2).setCell ⟨g, 3, none⟩ u3).setCell ⟨g, 4, none⟩ u4)
    (W'.cell? ⟨g, 0, none⟩ = some u0 ∧ W'.cell? ⟨g, 1, none⟩ = some u1 ∧ W'.cell? ⟨g, 2, none⟩ = some u2 ∧ W'.cell? ⟨g, 3, none⟩ = some u3 ∧ W'.cell? ⟨g, 4, none⟩ = some u4) ∧ Below w.heap.size w W' :=
  ⟨(blk5_facts (blk5_set hk u0 u1 u2 u3 u4)).1, ((((hb.setCell (p := ⟨g, 0, none⟩) hg _).setCell (p := ⟨g, 1, none⟩) hg _).setCell (p := ⟨g, 2, none⟩) hg _).setCell (p := ⟨g, 3, none⟩) hg _).setCell (p := ⟨g, 4, none⟩) hg _⟩
section
variable {A A0 A1 A2 : Option Addr} {l : List Lx.Tk} {c i n0 c0 n1 c1 n2 c2 : Nat}
set_option maxHeartbeats 4000000 in
theorem rmark_err (e : Nat) (he : e ≠ 0) (m : ByteArray) (n : Nat) (w : World) :
    Calls Tryz.prog 33 #[.slice A n c, .agg #[.int .i64 i, .slice A0 n0 c0, .slice A1 n1 c1, .slice A2 n2 c2, .int .i64 e], .string m] w (TellsV w (PVal i (.slice A0 n0 c0) (.slice A1 n1 c1) (.slice A2 n2 c2) e)) := by
  have h1 : ((e : Int) != 0) = true := by rw [bne_iff_ne]; omega
  go_enter Tryz.func33, Tryz.ntmps33
  go_wp2
  exact bodyPost_ret (v := PVal i (.slice A0 n0 c0) (.slice A1 n1 c1) (.slice A2 n2 c2) e) (by simp [results, Tryz.results33, go_sem, PVal]) rfl ⟨rfl, ((Below.refl _ w).alloc (Nat.le_refl _) _).alloc (by simp) _⟩
set_option maxHeartbeats 4000000 in
theorem rmark_any (m : ByteArray) (w : World) (ht : Row w w.heap.size A (tcells l)) (hi : i < l.length) (hl : l.length ≤ 1000000) :
    Calls Tryz.prog 33 #[.slice A l.length c, .agg #[.int .i64 i, .slice A0 n0 c0, .slice A1 n1 c1, .slice A2 n2 c2, .int .i64 0], .string m] w (TellsV w (PVal (markR l m i).1 (.slice A0 n0 c0) (.slice A1 n1 c1) (.slice A2 n2 c2) (markR l m i).2)) := by
  obtain ⟨w1, hw1⟩ : ∃ w1, (w.alloc (.cells #[.int .i64 i, .slice A0 n0 c0, .slice A1 n1 c1, .slice A2 n2 c2, .int .i64 0] 60)).alloc (.cells #[.int .i64 0, .slice none 0 0, .slice none 0 0, .slice none 0 0, .int .i64 0] 60) = w1 := ⟨_, rfl⟩
  have hb : Below w.heap.size w w1 := hw1 ▸ ((Below.refl _ w).alloc (Nat.le_refl _) (.cells #[.int .i64 i, .slice A0 n0 c0, .slice A1 n1 c1, .slice A2 n2 c2, .int .i64 0] 60)).alloc (by simp) (.cells #[.int .i64 0, .slice none 0 0, .slice none 0 0, .slice none 0 0, .int .i64 0] 60)
  have hk0 : Blk w1 w.heap.size 60 #[.int .i64 i, .slice A0 n0 c0, .slice A1 n1 c1, .slice A2 n2 c2, .int .i64 0] := hw1 ▸ (Blk.new w 60 #[.int .i64 i, .slice A0 n0 c0, .slice A1 n1 c1, .slice A2 n2 c2, .int .i64 0]).alloc _
  have hk1 : Blk w1 (w.heap.size + 1) 60 #[.int .i64 0, .slice none 0 0, .slice none 0 0, .slice none 0 0, .int .i64 0] := hw1 ▸ blk_atG (by simp)
  obtain ⟨ad, t, rfl, hadb, htk, t0, t1, t2⟩ := trow_at (ht.below hb) hi
  have htok : Tb.tok l i = t := by unfold Tb.tok; rw [List.getD_eq_getElem?_getD, htk]; rfl
  obtain ⟨kd, y, ps⟩ := t
  dsimp only at t0 t1 t2
  obtain ⟨⟨a0, a1, a2, a3, a4⟩, -, -, -, -, f4⟩ := blk5_facts hk0
  have f0 := hk0.frozen 0
  obtain ⟨⟨z0, z1, z2, z3, z4⟩, y0, y1, y2, y3, y4⟩ := blk5_facts hk1
  unfold markR
  rw [htok]
  dsimp only
  have hne : w.heap.size + 1 ≠ w.heap.size := by omega
  have HB := Lib.hid hb
  have HK0 := Lib.hid hk0
  have HK1 := Lib.hid hk1
  clear ht hb htk htok hk0 hk1
  generalize l.length = n at *
  by_cases hkd : kd = 3
  · by_cases hy : y = m
    · subst hkd hy
      rw [if_pos ⟨rfl, rfl⟩]
      dsimp only
      obtain ⟨⟨q0, q1, q2, q3, q4⟩, rB⟩ := res5 (HB.out.setCell (p := ⟨w.heap.size, 0, none⟩) (Nat.le_refl _) (.int .i64 ((i : Int) + 1))) (HK1.out.other (p := ⟨w.heap.size, 0, none⟩) (by simp) (.int .i64 ((i : Int) + 1))) (by omega) (.int .i64 ((i : Int) + 1)) (.slice A0 n0 c0) (.slice A1 n1 c1) (.slice A2 n2 c2) (.int .i64 0)
      have Q := Lib.hid (And.intro q0 (And.intro q1 (And.intro q2 (And.intro q3 (And.intro q4 rB)))))
      clear q0 q1 q2 q3 q4 rB
      have hbe : (y.toList == y.toList) = true := by simp
      go_enter Tryz.func33, Tryz.ntmps33
      go_wp2
      obtain ⟨q0, q1, q2, q3, q4, rB⟩ := Q.out
      exact bodyPost_ret (v := PVal (i + 1) (.slice A0 n0 c0) (.slice A1 n1 c1) (.slice A2 n2 c2) 0) (by simp [results, Tryz.results33, go_sem, PVal, q0, q1, q2, q3, q4]) rfl ⟨rfl, rB⟩
    · subst hkd
      rw [if_neg (fun h => hy h.2)]
      dsimp only
      obtain ⟨⟨q0, q1, q2, q3, q4⟩, rB⟩ := res5 (HB.out.setCell (p := ⟨w.heap.size, 4, none⟩) (Nat.le_refl _) (.int .i64 4)) (HK1.out.other (p := ⟨w.heap.size, 4, none⟩) (by simp) (.int .i64 4)) (by omega) (.int .i64 i) (.slice A0 n0 c0) (.slice A1 n1 c1) (.slice A2 n2 c2) (.int .i64 4)
      have Q := Lib.hid (And.intro q0 (And.intro q1 (And.intro q2 (And.intro q3 (And.intro q4 rB)))))
      clear q0 q1 q2 q3 q4 rB
      have hbe : (y.toList == m.toList) = false := by rw [str_beq]; exact decide_eq_false hy
      clear hy
      go_enter Tryz.func33, Tryz.ntmps33
      go_wp2
      obtain ⟨q0, q1, q2, q3, q4, rB⟩ := Q.out
      exact bodyPost_ret (v := PVal i (.slice A0 n0 c0) (.slice A1 n1 c1) (.slice A2 n2 c2) 4) (by simp [results, Tryz.results33, go_sem, PVal, q0, q1, q2, q3, q4]) rfl ⟨rfl, rB⟩
  · rw [if_neg (fun h => hkd h.1)]
    dsimp only
    obtain ⟨⟨q0, q1, q2, q3, q4⟩, rB⟩ := res5 (HB.out.setCell (p := ⟨w.heap.size, 4, none⟩) (Nat.le_refl _) (.int .i64 4)) (HK1.out.other (p := ⟨w.heap.size, 4, none⟩) (by simp) (.int .i64 4)) (by omega) (.int .i64 i) (.slice A0 n0 c0) (.slice A1 n1 c1) (.slice A2 n2 c2) (.int .i64 4)
    have Q := Lib.hid (And.intro q0 (And.intro q1 (And.intro q2 (And.intro q3 (And.intro q4 rB)))))
    clear q0 q1 q2 q3 q4 rB
    have hbe : (kd != 3) = true := by rw [bne_iff_ne]; exact hkd
    clear hkd
    go_enter Tryz.func33, Tryz.ntmps33
    go_wp2
    obtain ⟨q0, q1, q2, q3, q4, rB⟩ := Q.out
    exact bodyPost_ret (v := PVal i (.slice A0 n0 c0) (.slice A1 n1 c1) (.slice A2 n2 c2) 4) (by simp [results, Tryz.results33, go_sem, PVal, q0, q1, q2, q3, q4]) rfl ⟨rfl, rB⟩
end
end Go.Proofs.YtggcmkpafpjnoaaGreatDoor

/- The reference's part of a row (by gen_refk.py). -/
namespace Go.Proofs.YtggcmkpafpjnoaaGreatDoor
set_option maxRecDepth 100000
open Go.RowKit Go.Shelf
attribute [local go_sem] Oper.semAt_some

/-- A part of a row, plain: the next place, and what is wrong. -/
def partR (l : List Lx.Tk) (lab : Bool) (i : Nat) : Nat × Nat := if (Rl.read l lab i).2 = 0 then markR l { data := #[59] } (Rl.read l lab i).1.pos else ((Rl.read l lab i).1.pos, (Rl.read l lab i).2)
theorem part_row {w1 w2 w3 w4 wf : World} {g : Nat} {B : Option Addr} {d : Nat} {x : List Int} (h : ROut w1 (fun _ => False) w2 B d x) (h1 : w1.heap.size = g + 2) (h3 : ∀ k, k ≠ g → k < w2.heap.size → w3.heap[k]? = w2.heap[k]?) (hz3 : w2.heap.size ≤ w3.heap.size)
    (h4 : Below w3.heap.size w3 w4) (h5 : ∀ k, k ≠ g + 1 → wf.heap[k]? = w4.heap[k]?) (hz5 : w4.heap.size ≤ wf.heap.size) : IsInts wf wf.heap.size (.slice B x.length d) x := by
  refine ⟨B, d, rfl, h.row.kept_at (Nat.le_trans hz3 (Nat.le_trans h4.size hz5)) (fun ad e => ?_), h.cap⟩
  have hi := h.inside ad e
  have hs : w1.heap.size ≤ ad.block := by
    rcases h.side ad e with h0 | h0
    · exact h0.elim
    · exact h0
  rw [h5 _ (by omega), h4.block _ (by omega), h3 _ (by omega) hi]
section
variable {A A0 A1 A2 : Option Addr} {l : List Lx.Tk} {c i n0 c0 n1 c1 n2 c2 : Nat}
set_option maxHeartbeats 4000000 in
theorem rpart_err (e : Nat) (he : e ≠ 0) (j : Int) (n : Nat) (w : World) :
    Calls Tryz.prog 34 #[.slice A n c, .agg #[.int .i64 i, .slice A0 n0 c0, .slice A1 n1 c1, .slice A2 n2 c2, .int .i64 e], .int .i64 j] w (TellsV w (PVal i (.slice A0 n0 c0) (.slice A1 n1 c1) (.slice A2 n2 c2) e)) := by
  have h1 : ((e : Int) != 0) = true := by rw [bne_iff_ne]; omega
  go_enter Tryz.func34, Tryz.ntmps34
  go_wp2
  exact bodyPost_ret (v := PVal i (.slice A0 n0 c0) (.slice A1 n1 c1) (.slice A2 n2 c2) e) (by simp [results, Tryz.results34, go_sem, PVal]) rfl ⟨rfl, ((Below.refl _ w).alloc (Nat.le_refl _) _).alloc (by simp) _⟩
theorem part_mark {w W : World} {lab : Bool} (hb : Below w.heap.size w W) (ht : Row w w.heap.size A (tcells l)) (he : Rl.Ends l) (hl : l.length ≤ 1000000) (hi : i < l.length) :
    Calls Tryz.prog 33 #[.slice A l.length c, .agg #[.int .i64 ((Rl.read l lab i).1.pos : Nat), .slice A0 n0 c0, .slice A1 n1 c1, .slice A2 n2 c2, .int .i64 ((Rl.read l lab i).2 : Nat)], .string { data := #[59] }] W (TellsV W (PVal (partR l lab i).1 (.slice A0 n0 c0) (.slice A1 n1 c1) (.slice A2 n2 c2) (partR l lab i).2)) := by
  have hp := (Rl.read_lt he lab i hi).1
  unfold partR
  by_cases h0 : (Rl.read l lab i).2 = 0
  · rw [if_pos h0, h0]
    exact rmark_any _ W (Row.up ht hb) hp hl
  · rw [if_neg h0]
    exact rmark_err _ h0 _ _ W
theorem partR_ok {lab : Bool} (h : (partR l lab i).2 = 0) : (Rl.read l lab i).2 = 0 := by
  by_cases h0 : (Rl.read l lab i).2 = 0
  · exact h0
  · unfold partR at h
    rw [if_neg h0] at h
    exact h
set_option maxHeartbeats 16000000 in
theorem rpart_0 (w : World) (ht : Row w w.heap.size A (tcells l)) (he : Rl.Ends l) (hl : l.length ≤ 1000000) (hi : i < l.length) :
    Calls Tryz.prog 34 #[.slice A l.length c, .agg #[.int .i64 i, .slice A0 n0 c0, .slice A1 n1 c1, .slice A2 n2 c2, .int .i64 0], .int .i64 0] w
      (fun e w' => ∃ (B : Option Addr) (m d : Nat), e = .returned (PVal (partR l false i).1 (.slice B m d) (.slice A1 n1 c1) (.slice A2 n2 c2) (partR l false i).2) ∧ ((partR l false i).2 = 0 → IsInts w' w'.heap.size (.slice B m d) (Rl.read l false i).1.out ∧ ∀ ad, B = some ad → w.heap.size ≤ ad.block) ∧ Below w.heap.size w w') := by
  obtain ⟨w1, hw1⟩ : ∃ w1, (w.alloc (.cells #[.int .i64 i, .slice A0 n0 c0, .slice A1 n1 c1, .slice A2 n2 c2, .int .i64 0] 60)).alloc (.cells #[.int .i64 0, .slice none 0 0, .slice none 0 0, .slice none 0 0, .int .i64 0] 60) = w1 := ⟨_, rfl⟩
  have hb : Below w.heap.size w w1 := hw1 ▸ ((Below.refl _ w).alloc (Nat.le_refl _) (.cells #[.int .i64 i, .slice A0 n0 c0, .slice A1 n1 c1, .slice A2 n2 c2, .int .i64 0] 60)).alloc (by simp) (.cells #[.int .i64 0, .slice none 0 0, .slice none 0 0, .slice none 0 0, .int .i64 0] 60)
  have hk0 : Blk w1 w.heap.size 60 #[.int .i64 i, .slice A0 n0 c0, .slice A1 n1 c1, .slice A2 n2 c2, .int .i64 0] := hw1 ▸ (Blk.new w 60 #[.int .i64 i, .slice A0 n0 c0, .slice A1 n1 c1, .slice A2 n2 c2, .int .i64 0]).alloc _
  have hk1 : Blk w1 (w.heap.size + 1) 60 #[.int .i64 0, .slice none 0 0, .slice none 0 0, .slice none 0 0, .int .i64 0] := hw1 ▸ blk_atG (by simp)
  have hz1 : w1.heap.size = w.heap.size + 2 := by rw [← hw1]; simp
  obtain ⟨⟨a0, a1, a2, a3, a4⟩, f0, f1, f2, f3, f4⟩ := blk5_facts hk0
  have hfr := rFrom_any (c := c) i false (Row.up ht hb) he hl hi
  have hmk := fun (B : Option Addr) (m d : Nat) (W : World) (hbW : Below w.heap.size w W) => part_mark (A := A) (c := c) (i := i) (lab := false) (A0 := B) (n0 := m) (c0 := d) (A1 := A1) (n1 := n1) (c1 := c1) (A2 := A2) (n2 := n2) (c2 := c2) hbW ht he hl hi
  have hpo := partR_ok (l := l) (lab := false) (i := i)
  generalize partR l false i = q at *
  generalize Rl.read l false i = r at *
  obtain ⟨r, re⟩ := r
  dsimp only at hmk hpo ⊢
  have HFR := Lib.hid hfr
  have HPO := Lib.hid hpo
  have HB := Lib.hid hb
  have HK0 := Lib.hid hk0
  have HK1 := Lib.hid hk1
  have HZ1 := Lib.hid hz1
  simp only [PVal] at hmk
  have HMK := Lib.hid hmk
  clear hfr hmk hpo hb hk0 hk1 hz1 ht
  generalize l.length = n at *
  go_enter Tryz.func34, Tryz.ntmps34
  go_wp2_with (fail)
  refine HFR.out.mono ?_
  rintro e w2 ⟨B, m, d, dd, rfl, hok, hb2⟩
  have HOK := Lib.hid hok
  have HB2 := Lib.hid hb2
  have hk20 := HK0.out.below hb2 HK0.out.lt
  have hk21 := HK1.out.below hb2 HK1.out.lt
  clear hok hb2 hw1 a0 a1 a2 a3 a4 f0 f1 f2 f3 f4
  obtain ⟨⟨a0, a1, a2, a3, a4⟩, f0, f1, f2, f3, f4⟩ := blk5_facts hk20
  have HK20 := Lib.hid hk20
  have HK21 := Lib.hid hk21
  clear hk20 hk21
  have hlt : w.heap.size < w2.heap.size := HK20.out.lt
  go_wp2_with (fail)
  obtain ⟨w3, hw3⟩ : ∃ w3, ((((w2.setCell ⟨w.heap.size, 0, none⟩ (.int .i64 (r.pos : Nat))).setCell ⟨w.heap.size, 4, none⟩ (.int .i64 (re : Nat))).setCell ⟨w.heap.size, 1, none⟩ (.slice B m d)).alloc (.cells #[.slice A n c, .int .i64 (r.pos : Nat), .slice B m d, .int .i64 dd, .int .i64 (re : Nat)] 107)) = w3 := ⟨_, rfl⟩
  have hb02 := HB.out.trans (HB2.out.mono HB.out.size)
  have hb3 : Below w.heap.size w w3 := hw3 ▸ (((hb02.setCell (p := ⟨w.heap.size, 0, none⟩) (Nat.le_refl _) _).setCell (p := ⟨w.heap.size, 4, none⟩) (Nat.le_refl _) _).setCell (p := ⟨w.heap.size, 1, none⟩) (Nat.le_refl _) _).alloc (by simp [World.setCell]; omega) _
  have hk31 : Blk w3 (w.heap.size + 1) 60 #[.int .i64 0, .slice none 0 0, .slice none 0 0, .slice none 0 0, .int .i64 0] := hw3 ▸ (((HK21.out.other (p := ⟨w.heap.size, 0, none⟩) (by simp) _).other (p := ⟨w.heap.size, 4, none⟩) (by simp) _).other (p := ⟨w.heap.size, 1, none⟩) (by simp) _).alloc _
  have h3h : ∀ k, k ≠ w.heap.size → k < w2.heap.size → w3.heap[k]? = w2.heap[k]? := fun k hk hk2 => by
    rw [← hw3, Below.heap_alloc _ _ _ (by simpa [World.setCell] using hk2), Below.heap_setCell _ _ _ _ hk, Below.heap_setCell _ _ _ _ hk, Below.heap_setCell _ _ _ _ hk]
  have h3z : w2.heap.size ≤ w3.heap.size := by rw [← hw3]; simp [World.setCell]
  have HW3 := Lib.hid hw3
  have HB3 := Lib.hid hb3
  have HK31 := Lib.hid hk31
  have H3H := Lib.hid h3h
  have H3Z := Lib.hid h3z
  rw [hw3]
  clear hw3 hb02 hb3 hk31 h3h h3z a0 a1 a2 a3 a4 f0 f1 f2 f3 f4 hlt
  refine (HMK.out B m d w3 HB3.out).mono ?_
  rintro e w4 ⟨rfl, hb4⟩
  have hk41 := HK31.out.below hb4 HK31.out.lt
  obtain ⟨⟨z0, z1, z2, z3, z4⟩, y0, y1, y2, y3, y4⟩ := blk5_facts hk41
  have hres := res5 (HB3.out.trans (hb4.mono HB3.out.size)) hk41 (by omega) (.int .i64 (q.1 : Nat)) (.slice B m d) (.slice A1 n1 c1) (.slice A2 n2 c2) (.int .i64 (q.2 : Nat))
  have HRES := Lib.hid hres
  have HB4 := Lib.hid hb4
  have HK41 := Lib.hid hk41
  clear hres hb4 hk41
  go_wp2
  obtain ⟨⟨q0, q1, q2, q3, q4⟩, rB⟩ := HRES.out
  refine bodyPost_ret (v := PVal q.1 (.slice B m d) (.slice A1 n1 c1) (.slice A2 n2 c2) q.2) (by simp [results, Tryz.results34, go_sem, PVal, q0, q1, q2, q3, q4]) rfl ⟨B, m, d, rfl, fun hq => ?_, rB⟩
  obtain ⟨-, rfl, hro⟩ := HOK.out (HPO.out hq)
  refine ⟨?_, fun ad e => ?_⟩
  rotate_left
  · rcases hro.side ad e with h0 | h0
    · exact h0.elim
    · have := HZ1.out; omega
  exact part_row hro HZ1.out H3H.out H3Z.out HB4.out (fun k hk => by
    rw [Below.heap_setCell _ _ _ _ hk, Below.heap_setCell _ _ _ _ hk, Below.heap_setCell _ _ _ _ hk, Below.heap_setCell _ _ _ _ hk, Below.heap_setCell _ _ _ _ hk]) (by simp [World.setCell])
set_option maxHeartbeats 16000000 in
theorem rpart_1 (w : World) (ht : Row w w.heap.size A (tcells l)) (he : Rl.Ends l) (hl : l.length ≤ 1000000) (hi : i < l.length) :
    Calls Tryz.prog 34 #[.slice A l.length c, .agg #[.int .i64 i, .slice A0 n0 c0, .slice A1 n1 c1, .slice A2 n2 c2, .int .i64 0], .int .i64 1] w
      (fun e w' => ∃ (B : Option Addr) (m d : Nat), e = .returned (PVal (partR l true i).1 (.slice A0 n0 c0) (.slice B m d) (.slice A2 n2 c2) (partR l true i).2) ∧ ((partR l true i).2 = 0 → IsInts w' w'.heap.size (.slice B m d) (Rl.read l true i).1.out ∧ ∀ ad, B = some ad → w.heap.size ≤ ad.block) ∧ Below w.heap.size w w') := by
  obtain ⟨w1, hw1⟩ : ∃ w1, (w.alloc (.cells #[.int .i64 i, .slice A0 n0 c0, .slice A1 n1 c1, .slice A2 n2 c2, .int .i64 0] 60)).alloc (.cells #[.int .i64 0, .slice none 0 0, .slice none 0 0, .slice none 0 0, .int .i64 0] 60) = w1 := ⟨_, rfl⟩
  have hb : Below w.heap.size w w1 := hw1 ▸ ((Below.refl _ w).alloc (Nat.le_refl _) (.cells #[.int .i64 i, .slice A0 n0 c0, .slice A1 n1 c1, .slice A2 n2 c2, .int .i64 0] 60)).alloc (by simp) (.cells #[.int .i64 0, .slice none 0 0, .slice none 0 0, .slice none 0 0, .int .i64 0] 60)
  have hk0 : Blk w1 w.heap.size 60 #[.int .i64 i, .slice A0 n0 c0, .slice A1 n1 c1, .slice A2 n2 c2, .int .i64 0] := hw1 ▸ (Blk.new w 60 #[.int .i64 i, .slice A0 n0 c0, .slice A1 n1 c1, .slice A2 n2 c2, .int .i64 0]).alloc _
  have hk1 : Blk w1 (w.heap.size + 1) 60 #[.int .i64 0, .slice none 0 0, .slice none 0 0, .slice none 0 0, .int .i64 0] := hw1 ▸ blk_atG (by simp)
  have hz1 : w1.heap.size = w.heap.size + 2 := by rw [← hw1]; simp
  obtain ⟨⟨a0, a1, a2, a3, a4⟩, f0, f1, f2, f3, f4⟩ := blk5_facts hk0
  have hfr := rFrom_any (c := c) i true (Row.up ht hb) he hl hi
  have hmk := fun (B : Option Addr) (m d : Nat) (W : World) (hbW : Below w.heap.size w W) => part_mark (A := A) (c := c) (i := i) (lab := true) (A0 := A0) (n0 := n0) (c0 := c0) (A1 := B) (n1 := m) (c1 := d) (A2 := A2) (n2 := n2) (c2 := c2) hbW ht he hl hi
  have hpo := partR_ok (l := l) (lab := true) (i := i)
  generalize partR l true i = q at *
  generalize Rl.read l true i = r at *
  obtain ⟨r, re⟩ := r
  dsimp only at hmk hpo ⊢
  have HFR := Lib.hid hfr
  have HPO := Lib.hid hpo
  have HB := Lib.hid hb
  have HK0 := Lib.hid hk0
  have HK1 := Lib.hid hk1
  have HZ1 := Lib.hid hz1
  simp only [PVal] at hmk
  have HMK := Lib.hid hmk
  clear hfr hmk hpo hb hk0 hk1 hz1 ht
  generalize l.length = n at *
  go_enter Tryz.func34, Tryz.ntmps34
  go_wp2_with (fail)
  refine HFR.out.mono ?_
  rintro e w2 ⟨B, m, d, dd, rfl, hok, hb2⟩
  have HOK := Lib.hid hok
  have HB2 := Lib.hid hb2
  have hk20 := HK0.out.below hb2 HK0.out.lt
  have hk21 := HK1.out.below hb2 HK1.out.lt
  clear hok hb2 hw1 a0 a1 a2 a3 a4 f0 f1 f2 f3 f4
  obtain ⟨⟨a0, a1, a2, a3, a4⟩, f0, f1, f2, f3, f4⟩ := blk5_facts hk20
  have HK20 := Lib.hid hk20
  have HK21 := Lib.hid hk21
  clear hk20 hk21
  have hlt : w.heap.size < w2.heap.size := HK20.out.lt
  go_wp2_with (fail)
  obtain ⟨w3, hw3⟩ : ∃ w3, ((((w2.setCell ⟨w.heap.size, 0, none⟩ (.int .i64 (r.pos : Nat))).setCell ⟨w.heap.size, 4, none⟩ (.int .i64 (re : Nat))).setCell ⟨w.heap.size, 2, none⟩ (.slice B m d)).alloc (.cells #[.slice A n c, .int .i64 (r.pos : Nat), .slice B m d, .int .i64 dd, .int .i64 (re : Nat)] 107)) = w3 := ⟨_, rfl⟩
  have hb02 := HB.out.trans (HB2.out.mono HB.out.size)
  have hb3 : Below w.heap.size w w3 := hw3 ▸ (((hb02.setCell (p := ⟨w.heap.size, 0, none⟩) (Nat.le_refl _) _).setCell (p := ⟨w.heap.size, 4, none⟩) (Nat.le_refl _) _).setCell (p := ⟨w.heap.size, 2, none⟩) (Nat.le_refl _) _).alloc (by simp [World.setCell]; omega) _
  have hk31 : Blk w3 (w.heap.size + 1) 60 #[.int .i64 0, .slice none 0 0, .slice none 0 0, .slice none 0 0, .int .i64 0] := hw3 ▸ (((HK21.out.other (p := ⟨w.heap.size, 0, none⟩) (by simp) _).other (p := ⟨w.heap.size, 4, none⟩) (by simp) _).other (p := ⟨w.heap.size, 2, none⟩) (by simp) _).alloc _
  have h3h : ∀ k, k ≠ w.heap.size → k < w2.heap.size → w3.heap[k]? = w2.heap[k]? := fun k hk hk2 => by
    rw [← hw3, Below.heap_alloc _ _ _ (by simpa [World.setCell] using hk2), Below.heap_setCell _ _ _ _ hk, Below.heap_setCell _ _ _ _ hk, Below.heap_setCell _ _ _ _ hk]
  have h3z : w2.heap.size ≤ w3.heap.size := by rw [← hw3]; simp [World.setCell]
  have HW3 := Lib.hid hw3
  have HB3 := Lib.hid hb3
  have HK31 := Lib.hid hk31
  have H3H := Lib.hid h3h
  have H3Z := Lib.hid h3z
  rw [hw3]
  clear hw3 hb02 hb3 hk31 h3h h3z a0 a1 a2 a3 a4 f0 f1 f2 f3 f4 hlt
  refine (HMK.out B m d w3 HB3.out).mono ?_
  rintro e w4 ⟨rfl, hb4⟩
  have hk41 := HK31.out.below hb4 HK31.out.lt
  obtain ⟨⟨z0, z1, z2, z3, z4⟩, y0, y1, y2, y3, y4⟩ := blk5_facts hk41
  have hres := res5 (HB3.out.trans (hb4.mono HB3.out.size)) hk41 (by omega) (.int .i64 (q.1 : Nat)) (.slice A0 n0 c0) (.slice B m d) (.slice A2 n2 c2) (.int .i64 (q.2 : Nat))
  have HRES := Lib.hid hres
  have HB4 := Lib.hid hb4
  have HK41 := Lib.hid hk41
  clear hres hb4 hk41
  go_wp2
  obtain ⟨⟨q0, q1, q2, q3, q4⟩, rB⟩ := HRES.out
  refine bodyPost_ret (v := PVal q.1 (.slice A0 n0 c0) (.slice B m d) (.slice A2 n2 c2) q.2) (by simp [results, Tryz.results34, go_sem, PVal, q0, q1, q2, q3, q4]) rfl ⟨B, m, d, rfl, fun hq => ?_, rB⟩
  obtain ⟨-, rfl, hro⟩ := HOK.out (HPO.out hq)
  refine ⟨?_, fun ad e => ?_⟩
  rotate_left
  · rcases hro.side ad e with h0 | h0
    · exact h0.elim
    · have := HZ1.out; omega
  exact part_row hro HZ1.out H3H.out H3Z.out HB4.out (fun k hk => by
    rw [Below.heap_setCell _ _ _ _ hk, Below.heap_setCell _ _ _ _ hk, Below.heap_setCell _ _ _ _ hk, Below.heap_setCell _ _ _ _ hk, Below.heap_setCell _ _ _ _ hk]) (by simp [World.setCell])
set_option maxHeartbeats 16000000 in
theorem rpart_2 (w : World) (ht : Row w w.heap.size A (tcells l)) (he : Rl.Ends l) (hl : l.length ≤ 1000000) (hi : i < l.length) :
    Calls Tryz.prog 34 #[.slice A l.length c, .agg #[.int .i64 i, .slice A0 n0 c0, .slice A1 n1 c1, .slice A2 n2 c2, .int .i64 0], .int .i64 2] w
      (fun e w' => ∃ (B : Option Addr) (m d : Nat), e = .returned (PVal (partR l true i).1 (.slice A0 n0 c0) (.slice A1 n1 c1) (.slice B m d) (partR l true i).2) ∧ ((partR l true i).2 = 0 → IsInts w' w'.heap.size (.slice B m d) (Rl.read l true i).1.out ∧ ∀ ad, B = some ad → w.heap.size ≤ ad.block) ∧ Below w.heap.size w w') := by
  obtain ⟨w1, hw1⟩ : ∃ w1, (w.alloc (.cells #[.int .i64 i, .slice A0 n0 c0, .slice A1 n1 c1, .slice A2 n2 c2, .int .i64 0] 60)).alloc (.cells #[.int .i64 0, .slice none 0 0, .slice none 0 0, .slice none 0 0, .int .i64 0] 60) = w1 := ⟨_, rfl⟩
  have hb : Below w.heap.size w w1 := hw1 ▸ ((Below.refl _ w).alloc (Nat.le_refl _) (.cells #[.int .i64 i, .slice A0 n0 c0, .slice A1 n1 c1, .slice A2 n2 c2, .int .i64 0] 60)).alloc (by simp) (.cells #[.int .i64 0, .slice none 0 0, .slice none 0 0, .slice none 0 0, .int .i64 0] 60)
  have hk0 : Blk w1 w.heap.size 60 #[.int .i64 i, .slice A0 n0 c0, .slice A1 n1 c1, .slice A2 n2 c2, .int .i64 0] := hw1 ▸ (Blk.new w 60 #[.int .i64 i, .slice A0 n0 c0, .slice A1 n1 c1, .slice A2 n2 c2, .int .i64 0]).alloc _
  have hk1 : Blk w1 (w.heap.size + 1) 60 #[.int .i64 0, .slice none 0 0, .slice none 0 0, .slice none 0 0, .int .i64 0] := hw1 ▸ blk_atG (by simp)
  have hz1 : w1.heap.size = w.heap.size + 2 := by rw [← hw1]; simp
  obtain ⟨⟨a0, a1, a2, a3, a4⟩, f0, f1, f2, f3, f4⟩ := blk5_facts hk0
  have hfr := rFrom_any (c := c) i true (Row.up ht hb) he hl hi
  have hmk := fun (B : Option Addr) (m d : Nat) (W : World) (hbW : Below w.heap.size w W) => part_mark (A := A) (c := c) (i := i) (lab := true) (A0 := A0) (n0 := n0) (c0 := c0) (A1 := A1) (n1 := n1) (c1 := c1) (A2 := B) (n2 := m) (c2 := d) hbW ht he hl hi
  have hpo := partR_ok (l := l) (lab := true) (i := i)
  generalize partR l true i = q at *
  generalize Rl.read l true i = r at *
  obtain ⟨r, re⟩ := r
  dsimp only at hmk hpo ⊢
  have HFR := Lib.hid hfr
  have HPO := Lib.hid hpo
  have HB := Lib.hid hb
  have HK0 := Lib.hid hk0
  have HK1 := Lib.hid hk1
  have HZ1 := Lib.hid hz1
  simp only [PVal] at hmk
  have HMK := Lib.hid hmk
  clear hfr hmk hpo hb hk0 hk1 hz1 ht
  generalize l.length = n at *
  go_enter Tryz.func34, Tryz.ntmps34
  go_wp2_with (fail)
  refine HFR.out.mono ?_
  rintro e w2 ⟨B, m, d, dd, rfl, hok, hb2⟩
  have HOK := Lib.hid hok
  have HB2 := Lib.hid hb2
  have hk20 := HK0.out.below hb2 HK0.out.lt
  have hk21 := HK1.out.below hb2 HK1.out.lt
  clear hok hb2 hw1 a0 a1 a2 a3 a4 f0 f1 f2 f3 f4
  obtain ⟨⟨a0, a1, a2, a3, a4⟩, f0, f1, f2, f3, f4⟩ := blk5_facts hk20
  have HK20 := Lib.hid hk20
  have HK21 := Lib.hid hk21
  clear hk20 hk21
  have hlt : w.heap.size < w2.heap.size := HK20.out.lt
  go_wp2_with (fail)
  obtain ⟨w3, hw3⟩ : ∃ w3, ((((w2.setCell ⟨w.heap.size, 0, none⟩ (.int .i64 (r.pos : Nat))).setCell ⟨w.heap.size, 4, none⟩ (.int .i64 (re : Nat))).setCell ⟨w.heap.size, 3, none⟩ (.slice B m d)).alloc (.cells #[.slice A n c, .int .i64 (r.pos : Nat), .slice B m d, .int .i64 dd, .int .i64 (re : Nat)] 107)) = w3 := ⟨_, rfl⟩
  have hb02 := HB.out.trans (HB2.out.mono HB.out.size)
  have hb3 : Below w.heap.size w w3 := hw3 ▸ (((hb02.setCell (p := ⟨w.heap.size, 0, none⟩) (Nat.le_refl _) _).setCell (p := ⟨w.heap.size, 4, none⟩) (Nat.le_refl _) _).setCell (p := ⟨w.heap.size, 3, none⟩) (Nat.le_refl _) _).alloc (by simp [World.setCell]; omega) _
  have hk31 : Blk w3 (w.heap.size + 1) 60 #[.int .i64 0, .slice none 0 0, .slice none 0 0, .slice none 0 0, .int .i64 0] := hw3 ▸ (((HK21.out.other (p := ⟨w.heap.size, 0, none⟩) (by simp) _).other (p := ⟨w.heap.size, 4, none⟩) (by simp) _).other (p := ⟨w.heap.size, 3, none⟩) (by simp) _).alloc _
  have h3h : ∀ k, k ≠ w.heap.size → k < w2.heap.size → w3.heap[k]? = w2.heap[k]? := fun k hk hk2 => by
    rw [← hw3, Below.heap_alloc _ _ _ (by simpa [World.setCell] using hk2), Below.heap_setCell _ _ _ _ hk, Below.heap_setCell _ _ _ _ hk, Below.heap_setCell _ _ _ _ hk]
  have h3z : w2.heap.size ≤ w3.heap.size := by rw [← hw3]; simp [World.setCell]
  have HW3 := Lib.hid hw3
  have HB3 := Lib.hid hb3
  have HK31 := Lib.hid hk31
  have H3H := Lib.hid h3h
  have H3Z := Lib.hid h3z
  rw [hw3]
  clear hw3 hb02 hb3 hk31 h3h h3z a0 a1 a2 a3 a4 f0 f1 f2 f3 f4 hlt
  refine (HMK.out B m d w3 HB3.out).mono ?_
  rintro e w4 ⟨rfl, hb4⟩
  have hk41 := HK31.out.below hb4 HK31.out.lt
  obtain ⟨⟨z0, z1, z2, z3, z4⟩, y0, y1, y2, y3, y4⟩ := blk5_facts hk41
  have hres := res5 (HB3.out.trans (hb4.mono HB3.out.size)) hk41 (by omega) (.int .i64 (q.1 : Nat)) (.slice A0 n0 c0) (.slice A1 n1 c1) (.slice B m d) (.int .i64 (q.2 : Nat))
  have HRES := Lib.hid hres
  have HB4 := Lib.hid hb4
  have HK41 := Lib.hid hk41
  clear hres hb4 hk41
  go_wp2
  obtain ⟨⟨q0, q1, q2, q3, q4⟩, rB⟩ := HRES.out
  refine bodyPost_ret (v := PVal q.1 (.slice A0 n0 c0) (.slice A1 n1 c1) (.slice B m d) q.2) (by simp [results, Tryz.results34, go_sem, PVal, q0, q1, q2, q3, q4]) rfl ⟨B, m, d, rfl, fun hq => ?_, rB⟩
  obtain ⟨-, rfl, hro⟩ := HOK.out (HPO.out hq)
  refine ⟨?_, fun ad e => ?_⟩
  rotate_left
  · rcases hro.side ad e with h0 | h0
    · exact h0.elim
    · have := HZ1.out; omega
  exact part_row hro HZ1.out H3H.out H3Z.out HB4.out (fun k hk => by
    rw [Below.heap_setCell _ _ _ _ hk, Below.heap_setCell _ _ _ _ hk, Below.heap_setCell _ _ _ _ hk, Below.heap_setCell _ _ _ _ hk, Below.heap_setCell _ _ _ _ hk]) (by simp [World.setCell])
end
end Go.Proofs.YtggcmkpafpjnoaaGreatDoor
