/- Walk of state.From (by gen_stmf.py). -/
import Derived.Test.YtipbilmnknmhmaaGreatDoorGCodE
import Derived.Test.YtipbilmnknmhmaaGreatDoorGFree
import Derived.Test.YtipbilmnknmhmaaGreatDoorGCodK
namespace Go.Proofs.YtipbilmnknmhmaaGreatDoor
set_option maxRecDepth 100000
open Go.RowKit Go.Shelf Go.Sort
attribute [local go_sem] Oper.semAt_some
theorem rowP_len {names : List ByteArray} {l : List Lx.Tk} {most : Nat} {rets : Bool} : ∀ (n : Nat) (out : List St.Slot) (i : Nat), out.length ≤ most → (St.rowP names l most rets n out i).1.length ≤ most
  | 0, _, _, _ => Nat.zero_le _
  | n + 1, out, i, h => by
    unfold St.rowP
    by_cases hm : out.length = most
    · rw [if_pos hm]; exact Nat.zero_le _
    · rw [if_neg hm]
      by_cases h0 : (St.slotP names rets l i).2.2 = 0
      · rw [St.andP_yes h0]
        have hl : (out ++ [(St.slotP names rets l i).1]).length ≤ most := by simp; omega
        split
        · exact rowP_len n _ _ hl
        · split
          · exact hl
          · exact Nat.zero_le _
      · rw [St.andP_no h0]; exact Nat.zero_le _
theorem wordP_len {names : List ByteArray} {l : List Lx.Tk} {word : ByteArray} {most : Nat} {rets : Bool} {i : Nat} : (St.wordP names l word most rets i).1.length ≤ most := by
  unfold St.wordP
  by_cases h0 : (St.wordE l word i).2.2 = 0
  · rw [St.andP_yes h0]
    split
    · exact Nat.zero_le _
    · exact rowP_len _ _ _ (Nat.zero_le _)
  · rw [St.andP_no h0]; exact Nat.zero_le _
theorem andP_P {α β : Type} {P : β → Prop} {r : α × Nat × Nat} {z : β} {f : α → Nat → β × Nat × Nat} (hz : P z) (hf : P (f r.1 r.2.1).1) : P (St.andP r z f).1 := by
  by_cases h : r.2.2 = 0
  · rw [St.andP_yes h]; exact hf
  · rw [St.andP_no h]; exact hz
theorem small_zero : SmallS St.zero := ⟨Nat.zero_le _, Nat.zero_le _, Nat.zero_le _, Nat.zero_le _⟩
theorem fromP_len (names : List ByteArray) (k : Nat) (l : List Lx.Tk) (i : Nat) : (Cd.fromP names k l 13 [] i).1.length ≤ 1000 := by
  by_cases h : (Cd.fromP names k l 13 [] i).2.2 = 0
  · rcases Cd.fromP_right (l := l) names k 13 [] i rfl (fun x hx => by simp at hx) h with h1 | h1
    · unfold Cd.rightB at h1
      rw [Bool.and_eq_true] at h1
      have := of_decide_eq_true h1.1
      omega
    · cases h1
  · rw [fromP_nil names k l 13 [] i h]; exact Nat.zero_le _
theorem rawS_small (names : List ByteArray) (k : Nat) (l : List Lx.Tk) (i : Nat) : SmallS (rawS names k l i).1 := by
  unfold rawS
  refine andP_P (P := SmallS) small_zero ?_
  unfold raw2
  refine andP_P (P := SmallS) small_zero ?_
  have hc : (progP names k l (pcP names l i).2.1).1.length ≤ 1000 := by
    unfold progP
    exact andP_P (P := fun c : List Cd.In => c.length ≤ 1000) (Nat.zero_le _) (fromP_len _ _ _ _)
  generalize progP names k l (pcP names l i).2.1 = pp at *
  unfold raw3
  refine andP_P (P := SmallS) small_zero ?_
  unfold raw4
  refine andP_P (P := SmallS) small_zero ?_
  unfold raw5
  refine andP_P (P := SmallS) small_zero ?_
  have h6 := fun j => wordP_len (names := names) (l := l) (word := St.bMem) (most := 6) (rets := false) (i := j)
  have h12 := fun j => wordP_len (names := names) (l := l) (word := St.bStack) (most := 12) (rets := true) (i := j)
  have h8 := fun j => wordP_len (names := names) (l := l) (word := St.bOut) (most := 8) (rets := false) (i := j)
  refine ⟨hc, ?_, ?_, ?_⟩
  · dsimp only
    rw [List.length_map]
    exact Nat.le_trans (h6 _) (by decide)
  · exact Nat.le_trans (h12 _) (by decide)
  · dsimp only
    rw [List.length_map]
    exact Nat.le_trans (h8 _) (by decide)
/-- What From answers. -/
def SFromR (w : World) (r : St.State × Nat × Nat) (e : Ending) (w' : World) : Prop :=
  ∃ (a b : Int) (cA : Option Addr) (cn cc : Nat) (mA : Option Addr) (mn mc : Nat) (sA : Option Addr) (sn sc : Nat) (oA : Option Addr) (on oc : Nat), e = .returned (.tuple #[.agg #[.int .i64 a, .int .i64 b, .slice cA cn cc, .slice mA mn mc, .slice sA sn sc, .slice oA on oc], .int .i64 (r.2.1 : Nat), .int .i64 (r.2.2 : Nat)]) ∧
    KSt w.heap.size w' (.agg #[.int .i64 a, .int .i64 b, .slice cA cn cc, .slice mA mn mc, .slice sA sn sc, .slice oA on oc]) r.1 ∧ Below w.heap.size w w'
theorem KSt.zero (B : Nat) (w : World) : KSt B w zstv St.zero := ⟨_, _, _, _, rfl, KN.nil _ _ _, KN.nil _ _ _, KN.nil _ _ _, KN.nil _ _ _⟩
/-- Six cells of the block behind a call's first one are stored. -/
def ansF (w W : World) (a b c d e f : Value) : World := (((((W.setCell ⟨w.heap.size + 1, 0, none⟩ a).setCell ⟨w.heap.size + 1, 1, none⟩ b).setCell ⟨w.heap.size + 1, 2, none⟩ c).setCell ⟨w.heap.size + 1, 3, none⟩ d).setCell ⟨w.heap.size + 1, 4, none⟩ e).setCell ⟨w.heap.size + 1, 5, none⟩ f
theorem blk_ansF {w W : World} {t : TypeId} {a b c d e f y0 y1 y2 y3 y4 y5 : Value} (h : Blk W (w.heap.size + 1) t #[y0, y1, y2, y3, y4, y5]) : Blk (ansF w W a b c d e f) (w.heap.size + 1) t #[a, b, c, d, e, f] :=
  (((((h.set_ 0 a).set_ 1 b).set_ 2 c).set_ 3 d).set_ 4 e).set_ 5 f
theorem blk_otherF {w W : World} {t : TypeId} {g : Nat} {cs : Array Value} {a b c d e f : Value} (h : Blk W g t cs) (hg : g ≠ w.heap.size + 1) : Blk (ansF w W a b c d e f) g t cs :=
  (((((h.other (Ne.symm hg) a).other (Ne.symm hg) b).other (Ne.symm hg) c).other (Ne.symm hg) d).other (Ne.symm hg) e).other (Ne.symm hg) f
theorem Blk.drew9 {W : World} {t : TypeId} {g : Nat} {cs : Array Value} (h : Blk W g t cs) : Blk W.drew g t cs := h
theorem KSt.drew9 {B : Nat} {W : World} {v : Value} {s : St.State} (h : KSt B W v s) : KSt B W.drew v s := h.below (Below.refl _ _).drew
theorem below_ansF {w W w0 : World} {a b c d e f : Value} (h : Below w.heap.size w0 W) : Below w.heap.size w0 (ansF w W a b c d e f) :=
  (((((h.setCell (by show w.heap.size ≤ w.heap.size + 1; omega) a).setCell (by show w.heap.size ≤ w.heap.size + 1; omega) b).setCell (by show w.heap.size ≤ w.heap.size + 1; omega) c).setCell (by show w.heap.size ≤ w.heap.size + 1; omega) d).setCell (by show w.heap.size ≤ w.heap.size + 1; omega) e).setCell (by show w.heap.size ≤ w.heap.size + 1; omega) f
theorem KSt.ansF {w W : World} {B : Nat} {v : Value} {s : St.State} (h : KSt B W v s) (hB : w.heap.size + 1 < B) (a b c d e f : Value) : KSt B (ansF w W a b c d e f) v s :=
  (((((h.set_ (p := ⟨w.heap.size + 1, 0, none⟩) hB a).set_ (p := ⟨w.heap.size + 1, 1, none⟩) hB b).set_ (p := ⟨w.heap.size + 1, 2, none⟩) hB c).set_ (p := ⟨w.heap.size + 1, 3, none⟩) hB d).set_ (p := ⟨w.heap.size + 1, 4, none⟩) hB e).set_ (p := ⟨w.heap.size + 1, 5, none⟩) hB f
set_option maxHeartbeats 16000000 in
theorem sfrom_any {v : Value} {names : List ByteArray} {up : List Nat} {A : Option Addr} {l : List Lx.Tk} {p : Nat} (ct : Nat) (hf : Tb.Fine l) (hp : p < l.length) (hl : l.length ≤ 100000) (hz : checkN names up = 0) (w : World) (h : IsLat w w.heap.size v names up) (hr : Row w w.heap.size A (tcells l)) (hi : Ins w) :
    Calls Tryz.prog 60 #[v, .slice A l.length ct, .int .i64 (p : Int)] w (SFromR w (St.fromS names up.length l p)) := by
  obtain ⟨⟨N, U, c1, c2, rfl, hN, hU⟩, hsh, hfew, hcaps⟩ := id h
  have hb0 := (((Below.refl _ w).alloc (Nat.le_refl _) (.cells #[.slice N names.length c1, .slice U up.length c2] 25)).alloc (by simp) (.cells #[.int .i64 0, .int .i64 0, .slice none 0 0, .slice none 0 0, .slice none 0 0, .slice none 0 0] 42))
  obtain ⟨W0, hW0⟩ : ∃ W0, (w.alloc (.cells #[.slice N names.length c1, .slice U up.length c2] 25)).alloc (.cells #[.int .i64 0, .int .i64 0, .slice none 0 0, .slice none 0 0, .slice none 0 0, .slice none 0 0] 42) = W0 := ⟨_, rfl⟩
  have hp0 : Blk W0 w.heap.size 25 #[.slice N names.length c1, .slice U up.length c2] := hW0 ▸ (Blk.new _ _ _).alloc _
  have hy0 : Blk W0 (w.heap.size + 1) 42 #[.int .i64 0, .int .i64 0, .slice none 0 0, .slice none 0 0, .slice none 0 0, .slice none 0 0] := by
    have h1 := Blk.new (w.alloc (.cells #[.slice N names.length c1, .slice U up.length c2] 25)) 42 #[.int .i64 0, .int .i64 0, .slice none 0 0, .slice none 0 0, .slice none 0 0, .slice none 0 0]
    rw [show (w.alloc (.cells #[.slice N names.length c1, .slice U up.length c2] 25)).heap.size = w.heap.size + 1 by simp] at h1
    rw [← hW0]; exact h1
  have hsz0 : W0.heap.size = w.heap.size + 2 := by rw [← hW0]; simp
  rw [hW0] at hb0
  have HNF := Lib.hid (nfrom_any ct hf hp hl hz W0 ((h.below hb0).more hb0.size) ((hr.below hb0).more hb0.size))
  have HLAT := Lib.hid (fun W (hb : Below w.heap.size w W) => (h.below hb).more hb.size)
  have HINS := Lib.hid (fun W (hb : Below w.heap.size w W) => hi.below hb hi.lt)
  have HG := Lib.hid hi.lt
  have HP0 := Lib.hid hp0
  have HY0 := Lib.hid hy0
  have HB0 := Lib.hid hb0
  have a0 : W0.cell? ⟨w.heap.size, 0, none⟩ = some (.slice N names.length c1) := hp0.cell 0
  have a1 : W0.cell? ⟨w.heap.size, 1, none⟩ = some (.slice U up.length c2) := hp0.cell 1
  have hsm := rawS_small names up.length l p
  rw [fromS_raw]
  obtain ⟨⟨s, q, er⟩, hraw⟩ : ∃ r, rawS names up.length l p = r := ⟨_, rfl⟩
  rw [hraw] at hsm ⊢
  obtain ⟨res, hres⟩ : ∃ res, St.andP (s, q, er) St.zero (fun s j => St.endS up.length p s j) = res := ⟨_, rfl⟩
  rw [hres]
  have HSS := Lib.hid (fun R W (h : NRd R N U A c1 c2 ct names up l p W) (hi : Ins W) (hg : 0 < R) => sstate_any hf hz W h hi hg)
  rw [hraw] at HSS
  have HRS0 := Lib.hid hres
  have HSM := Lib.hid hsm
  have HPP := Lib.hid hp
  clear h hr hi hN hU hp0 hy0 hb0 hraw hres hsm
  go_enter Tryz.func60, Tryz.ntmps60
  go_wp2_with (fail)
  refine HNF.out.mono ?_
  rintro e w1 ⟨R, rfl, hRw, hrd, hb1⟩
  have hbw1 : Below w.heap.size w w1 := HB0.out.trans (hb1.mono HB0.out.size)
  have HR2 : Hid (w.heap.size + 2 ≤ R) := Lib.hid (by omega)
  have hgR : 0 < R := Nat.lt_of_lt_of_le HG.out (Nat.le_trans (by omega) HR2.out)
  have HC := Lib.hid (HSS.out R w1 hrd (HINS.out w1 hbw1) hgR)
  have HP1 := Lib.hid (HP0.out.below hb1 HP0.out.lt)
  have HY1 := Lib.hid (HY0.out.below hb1 HY0.out.lt)
  have HBW1 := Lib.hid hbw1
  have HZ1 := Lib.hid (show w.heap.size + 2 ≤ w1.heap.size by have := hb1.size; omega)
  clear hb1 hbw1 hrd hRw HNF HSS a0 a1 hgR
  go_wp2_with (fail)
  refine HC.out.mono ?_
  rintro e w2 ⟨a, b, cA, cn, cc, mA, mn, mc, sA, sn, sc, oA, on, oc, rfl, hks, hn2, hk2⟩
  have hal := (Below.refl _ w2).alloc (Nat.le_refl _) (.cells #[.int .i64 a, .int .i64 b, .slice cA cn cc, .slice mA mn mc, .slice sA sn sc, .slice oA on oc] 42)
  have hbx := Blk.new w2 42 #[.int .i64 a, .int .i64 b, .slice cA cn cc, .slice mA mn mc, .slice sA sn sc, .slice oA on oc]
  have hn3 := hn2.keep hal
  have hr2 := HR2.out
  have hz1 := HZ1.out
  have hk3 : Kept R R w1 (w2.alloc (.cells #[.int .i64 a, .int .i64 b, .slice cA cn cc, .slice mA mn mc, .slice sA sn sc, .slice oA on oc] 42)) := hk2.trans (.of hal)
  have hp3 : Blk (w2.alloc (.cells #[.int .i64 a, .int .i64 b, .slice cA cn cc, .slice mA mn mc, .slice sA sn sc, .slice oA on oc] 42)) w.heap.size 25 #[.slice N names.length c1, .slice U up.length c2] := (hk3.block _ HP1.out.lt (by omega) (by omega)).trans HP1.out
  have hy3 : Blk (w2.alloc (.cells #[.int .i64 a, .int .i64 b, .slice cA cn cc, .slice mA mn mc, .slice sA sn sc, .slice oA on oc] 42)) (w.heap.size + 1) 42 #[.int .i64 0, .int .i64 0, .slice none 0 0, .slice none 0 0, .slice none 0 0, .slice none 0 0] := (hk3.block _ HY1.out.lt (by omega) (by omega)).trans HY1.out
  have hb3 : Below w.heap.size w (w2.alloc (.cells #[.int .i64 a, .int .i64 b, .slice cA cn cc, .slice mA mn mc, .slice sA sn sc, .slice oA on oc] 42)) := HBW1.out.trans (hk3.below HBW1.out.size (by omega) (by omega))
  have hks3 := fun h => (hks h).below hal
  have hz3 := hal.size
  have hz2 := hk2.size
  obtain ⟨W3, hW3⟩ : ∃ W3, w2.alloc (.cells #[.int .i64 a, .int .i64 b, .slice cA cn cc, .slice mA mn mc, .slice sA sn sc, .slice oA on oc] 42) = W3 := ⟨_, rfl⟩
  rw [hW3] at hal hbx hn3 hk3 hp3 hy3 hb3 hks3 hz3
  have HN := Lib.hid hn3
  have HB := Lib.hid hb3
  have HP := Lib.hid hp3
  have HY := Lib.hid hy3
  have HX := Lib.hid hbx
  have HKS : Hid (er = 0 → KSt w1.heap.size W3 (.agg #[.int .i64 a, .int .i64 b, .slice cA cn cc, .slice mA mn mc, .slice sA sn sc, .slice oA on oc]) s) := Lib.hid hks3
  have c3 := hn3.c3
  have hRl := hn3.lt
  have hbxl := hbx.lt
  clear hal hbx hn2 hn3 hk2 hk3 hp3 hy3 hb3 hks hks3 HC HY1 HP1 HY0 HP0
  by_cases her : er = 0
  · have hks := HKS.out her
    have hsr := sright_any W3 (HLAT.out W3 HB.out) hks.isSt HSM.out
    have a0 : W3.cell? ⟨w.heap.size, 0, none⟩ = some (.slice N names.length c1) := HP.out.cell 0
    have a1 : W3.cell? ⟨w.heap.size, 1, none⟩ = some (.slice U up.length c2) := HP.out.cell 1
    have x0 : W3.cell? ⟨w2.heap.size, 0, none⟩ = some (.int .i64 a) := HX.out.cell 0
    have x1 : W3.cell? ⟨w2.heap.size, 1, none⟩ = some (.int .i64 b) := HX.out.cell 1
    have x2 : W3.cell? ⟨w2.heap.size, 2, none⟩ = some (.slice cA cn cc) := HX.out.cell 2
    have x3 : W3.cell? ⟨w2.heap.size, 3, none⟩ = some (.slice mA mn mc) := HX.out.cell 3
    have x4 : W3.cell? ⟨w2.heap.size, 4, none⟩ = some (.slice sA sn sc) := HX.out.cell 4
    have x5 : W3.cell? ⟨w2.heap.size, 5, none⟩ = some (.slice oA on oc) := HX.out.cell 5
    have hpub : pubS names up s = St.rightB up.length s := by unfold pubS; rw [decide_eq_true hz, Bool.true_and]
    rw [hpub] at hsr
    subst her
    rw [St.andP_do] at HRS0
    unfold St.endS at HRS0
    have HKS3 := Lib.hid hks
    have HSR := Lib.hid hsr
    clear hks hsr hpub HKS
    cases hrb : St.rightB up.length s with
    | true =>
      rw [hrb] at HSR
      have HRS : Hid ((s, q, 0) = res) := Lib.hid (by rw [← HRS0.out, hrb, if_pos rfl])
      clear hrb HRS0
      go_wp2_with (fail)
      refine HSR.out.mono ?_
      rintro e w4 ⟨rfl, hb4⟩
      have hn4 := HN.out.keep hb4
      have c3' := hn4.c3
      have hy4 := HY.out.below hb4 HY.out.lt
      have hx4 := HX.out.below hb4 HX.out.lt
      have hbb := HB.out.trans (hb4.mono HB.out.size)
      have hks4 := HKS3.out.below hb4
      have hR4 := hn4.lt
      have hx4l := hx4.lt
      have z0 : w4.cell? ⟨w2.heap.size, 0, none⟩ = some (.int .i64 a) := hx4.cell 0
      have z1 : w4.cell? ⟨w2.heap.size, 1, none⟩ = some (.int .i64 b) := hx4.cell 1
      have z2 : w4.cell? ⟨w2.heap.size, 2, none⟩ = some (.slice cA cn cc) := hx4.cell 2
      have z3 : w4.cell? ⟨w2.heap.size, 3, none⟩ = some (.slice mA mn mc) := hx4.cell 3
      have z4 : w4.cell? ⟨w2.heap.size, 4, none⟩ = some (.slice sA sn sc) := hx4.cell 4
      have z5 : w4.cell? ⟨w2.heap.size, 5, none⟩ = some (.slice oA on oc) := hx4.cell 5
      clear HY HB HN HX HSR HP c3 a0 a1 x0 x1 x2 x3 x4 x5
      have HY := Lib.hid hy4
      have HB := Lib.hid hbb
      have HK4 := Lib.hid hks4
      have HXE := Lib.hid hx4
      have HRE := Lib.hid hn4.blk
      have hr2' := HR2.out
      clear hb4 hn4 hy4 hx4 hbb hks4 HKS3
      have hyv : Blk (ansF w w4 (.int .i64 a) (.int .i64 b) (.slice cA cn cc) (.slice mA mn mc) (.slice sA sn sc) (.slice oA on oc)).drew (w.heap.size + 1) 42 #[.int .i64 a, .int .i64 b, .slice cA cn cc, .slice mA mn mc, .slice sA sn sc, .slice oA on oc] := (blk_ansF HY.out).drew9
      have hbv : Below w.heap.size w (ansF w w4 (.int .i64 a) (.int .i64 b) (.slice cA cn cc) (.slice mA mn mc) (.slice sA sn sc) (.slice oA on oc)).drew := (below_ansF HB.out).drew
      have hkv := ((HK4.out.ansF (show w.heap.size + 1 < w1.heap.size by omega) (.int .i64 a) (.int .i64 b) (.slice cA cn cc) (.slice mA mn mc) (.slice sA sn sc) (.slice oA on oc)).drew9).less (show w.heap.size ≤ w1.heap.size by omega)
      have y0 : w4.cell? ⟨w.heap.size + 1, 0, none⟩ = some (.int .i64 0) := HY.out.cell 0
      have f0 : w4.frozen? ⟨w.heap.size + 1, 0, none⟩ = false := HY.out.frozen 0
      have v0 := hyv.cell 0
      have y1 : w4.cell? ⟨w.heap.size + 1, 1, none⟩ = some (.int .i64 0) := HY.out.cell 1
      have f1 : w4.frozen? ⟨w.heap.size + 1, 1, none⟩ = false := HY.out.frozen 1
      have v1 := hyv.cell 1
      have y2 : w4.cell? ⟨w.heap.size + 1, 2, none⟩ = some (.slice none 0 0) := HY.out.cell 2
      have f2 : w4.frozen? ⟨w.heap.size + 1, 2, none⟩ = false := HY.out.frozen 2
      have v2 := hyv.cell 2
      have y3 : w4.cell? ⟨w.heap.size + 1, 3, none⟩ = some (.slice none 0 0) := HY.out.cell 3
      have f3 : w4.frozen? ⟨w.heap.size + 1, 3, none⟩ = false := HY.out.frozen 3
      have v3 := hyv.cell 3
      have y4 : w4.cell? ⟨w.heap.size + 1, 4, none⟩ = some (.slice none 0 0) := HY.out.cell 4
      have f4 : w4.frozen? ⟨w.heap.size + 1, 4, none⟩ = false := HY.out.frozen 4
      have v4 := hyv.cell 4
      have y5 : w4.cell? ⟨w.heap.size + 1, 5, none⟩ = some (.slice none 0 0) := HY.out.cell 5
      have f5 : w4.frozen? ⟨w.heap.size + 1, 5, none⟩ = false := HY.out.frozen 5
      have v5 := hyv.cell 5
      have HBV := Lib.hid hbv
      have HKV := Lib.hid hkv
      have hylt := HY.out.lt
      unfold ansF at v0 v1 v2 v3 v4 v5 HBV HKV
      clear hyv hbv hkv
      go_wp2_with (fail)
      have hxv : Blk (ansF w w4 (.int .i64 a) (.int .i64 b) (.slice cA cn cc) (.slice mA mn mc) (.slice sA sn sc) (.slice oA on oc)).drew w2.heap.size 42 _ := (blk_otherF HXE.out (by omega)).drew9
      have hrv : Blk (ansF w w4 (.int .i64 a) (.int .i64 b) (.slice cA cn cc) (.slice mA mn mc) (.slice sA sn sc) (.slice oA on oc)).drew R 126 _ := (blk_otherF HRE.out (by omega)).drew9
      unfold ansF at hxv hrv
      refine Free.region_seq [5] [0, 4] 8 (fun W' => W'.cell? ⟨w2.heap.size, 0, none⟩ = some (.int .i64 a) ∧ W'.cell? ⟨w2.heap.size, 1, none⟩ = some (.int .i64 b) ∧ W'.cell? ⟨w2.heap.size, 2, none⟩ = some (.slice cA cn cc) ∧ W'.cell? ⟨w2.heap.size, 3, none⟩ = some (.slice mA mn mc) ∧ W'.cell? ⟨w2.heap.size, 4, none⟩ = some (.slice sA sn sc) ∧ W'.cell? ⟨w2.heap.size, 5, none⟩ = some (.slice oA on oc) ∧ W'.cell? ⟨R, 3, none⟩ = some (.int .i64 (q : Int))) (by kernel_rfl) (by kernel_rfl) (by kernel_rfl) (by kernel_rfl) (⟨z0, z1, z2, z3, z4, z5, c3'⟩) (fun ops hops => ?_)
      clear hops
      iterate 5
        refine Free.Seq.quiet (v := ?_) (a' := ?_) rfl rfl (fun W' hW' => ?_) ?_ ?_
        rotate_left 2
        · first | obtain ⟨s0, s1, s2, s3, s4, s5, s6⟩ := hW' rfl | skip
          go_simp
          try with_reducible rfl
        · simp only [Act.put, List.setIfInBounds_toArray, List.set_cons_zero, List.set_cons_succ]
          try with_reducible rfl
      refine Free.Seq.loud_ rfl (.inl rfl) (fun K hK => ?_)
      go_simp
      refine hK.out _ _ rfl (fun _ => ⟨hxv.cell 0, hxv.cell 1, hxv.cell 2, hxv.cell 3, hxv.cell 4, hxv.cell 5, hrv.cell 3⟩) ?_
      clear hK K
      iterate 2
        refine Free.Seq.quiet (v := ?_) (a' := ?_) rfl rfl (fun W' hW' => ?_) ?_ ?_
        rotate_left 2
        · skip
          go_simp
          try with_reducible rfl
        · simp only [Act.put, List.setIfInBounds_toArray, List.set_cons_zero, List.set_cons_succ]
          try with_reducible rfl
      refine Free.Seq.nil_ ?_
      go_wp2
      refine bodyPost_ret (v := .tuple #[.agg #[.int .i64 a, .int .i64 b, .slice cA cn cc, .slice mA mn mc, .slice sA sn sc, .slice oA on oc], .int .i64 (q : Nat), .int .i64 (0 : Nat)]) (by simp [results, Tryz.results60, go_sem, v0, v1, v2, v3, v4, v5]) rfl ?_
      rw [← HRS.out]
      exact ⟨a, b, cA, cn, cc, mA, mn, mc, sA, sn, sc, oA, on, oc, rfl, HKV.out, HBV.out⟩
    | false =>
      rw [hrb] at HSR
      have HRS : Hid ((St.zero, p, 1) = res) := Lib.hid (by rw [← HRS0.out, hrb, if_neg (by decide)])
      clear hrb HRS0
      go_wp2_with (fail)
      refine HSR.out.mono ?_
      rintro e w4 ⟨rfl, hb4⟩
      have hn4 := HN.out.keep hb4
      have hfz := hn4.blk.frozen 3
      have c3' := hn4.c3
      have hR4 := hn4.lt
      have hn5 := hn4.go HPP.out
      have hr2' := HR2.out
      have hy5 := (HY.out.below hb4 HY.out.lt).other (p := ⟨R, 3, none⟩) (by show R ≠ _; omega) (.int .i64 (p : Int))
      have hbb : Below w.heap.size w (w4.setCell ⟨R, 3, none⟩ (.int .i64 (p : Int))) := (HB.out.trans (hb4.mono HB.out.size)).setCell (by show w.heap.size ≤ R; omega) _
      obtain ⟨W5, hW5⟩ : ∃ W5, w4.setCell ⟨R, 3, none⟩ (.int .i64 (p : Int)) = W5 := ⟨_, rfl⟩
      rw [hW5] at hn5 hy5 hbb
      have c5 := hn5.c3
      have hR5 := hn5.lt
      clear HY HB HN HX HSR HP c3 a0 a1 x0 x1 x2 x3 x4 x5
      have HY := Lib.hid hy5
      have HB := Lib.hid hbb
      have HRE := Lib.hid hn5.blk
      clear hb4 hn4 hn5 hy5 hbb HKS3
      have hyv : Blk (ansF w W5 (.int .i64 0) (.int .i64 0) (.slice none 0 0) (.slice none 0 0) (.slice none 0 0) (.slice none 0 0)).drew (w.heap.size + 1) 42 #[.int .i64 0, .int .i64 0, .slice none 0 0, .slice none 0 0, .slice none 0 0, .slice none 0 0] := (blk_ansF HY.out).drew9
      have hbv : Below w.heap.size w (ansF w W5 (.int .i64 0) (.int .i64 0) (.slice none 0 0) (.slice none 0 0) (.slice none 0 0) (.slice none 0 0)).drew := (below_ansF HB.out).drew
      have hkv := KSt.zero w.heap.size (ansF w W5 (.int .i64 0) (.int .i64 0) (.slice none 0 0) (.slice none 0 0) (.slice none 0 0) (.slice none 0 0)).drew
      have y0 : W5.cell? ⟨w.heap.size + 1, 0, none⟩ = some (.int .i64 0) := HY.out.cell 0
      have f0 : W5.frozen? ⟨w.heap.size + 1, 0, none⟩ = false := HY.out.frozen 0
      have v0 := hyv.cell 0
      have y1 : W5.cell? ⟨w.heap.size + 1, 1, none⟩ = some (.int .i64 0) := HY.out.cell 1
      have f1 : W5.frozen? ⟨w.heap.size + 1, 1, none⟩ = false := HY.out.frozen 1
      have v1 := hyv.cell 1
      have y2 : W5.cell? ⟨w.heap.size + 1, 2, none⟩ = some (.slice none 0 0) := HY.out.cell 2
      have f2 : W5.frozen? ⟨w.heap.size + 1, 2, none⟩ = false := HY.out.frozen 2
      have v2 := hyv.cell 2
      have y3 : W5.cell? ⟨w.heap.size + 1, 3, none⟩ = some (.slice none 0 0) := HY.out.cell 3
      have f3 : W5.frozen? ⟨w.heap.size + 1, 3, none⟩ = false := HY.out.frozen 3
      have v3 := hyv.cell 3
      have y4 : W5.cell? ⟨w.heap.size + 1, 4, none⟩ = some (.slice none 0 0) := HY.out.cell 4
      have f4 : W5.frozen? ⟨w.heap.size + 1, 4, none⟩ = false := HY.out.frozen 4
      have v4 := hyv.cell 4
      have y5 : W5.cell? ⟨w.heap.size + 1, 5, none⟩ = some (.slice none 0 0) := HY.out.cell 5
      have f5 : W5.frozen? ⟨w.heap.size + 1, 5, none⟩ = false := HY.out.frozen 5
      have v5 := hyv.cell 5
      have HBV := Lib.hid hbv
      have HKV := Lib.hid hkv
      have hylt := HY.out.lt
      unfold ansF at v0 v1 v2 v3 v4 v5 HBV HKV
      clear hyv hbv hkv
      go_wp2_with (fail)
      have hrv : Blk (ansF w W5 (.int .i64 0) (.int .i64 0) (.slice none 0 0) (.slice none 0 0) (.slice none 0 0) (.slice none 0 0)).drew R 126 _ := (blk_otherF HRE.out (by omega)).drew9
      unfold ansF at hrv
      refine Free.region_seq [6] [4] 9 (fun W' => W'.cell? ⟨R, 3, none⟩ = some (.int .i64 (p : Int))) (by kernel_rfl) (by kernel_rfl) (by kernel_rfl) (by kernel_rfl) (c5) (fun ops hops => ?_)
      clear hops
      iterate 6
        refine Free.Seq.quiet (v := ?_) (a' := ?_) rfl rfl (fun W' hW' => ?_) ?_ ?_
        rotate_left 2
        · first | obtain s6 := hW' rfl | skip
          go_simp
          try with_reducible rfl
        · simp only [Act.put, List.setIfInBounds_toArray, List.set_cons_zero, List.set_cons_succ]
          try with_reducible rfl
      refine Free.Seq.loud_ rfl (.inl rfl) (fun K hK => ?_)
      go_simp
      refine hK.out _ _ rfl (fun _ => hrv.cell 3) ?_
      clear hK K
      iterate 2
        refine Free.Seq.quiet (v := ?_) (a' := ?_) rfl rfl (fun W' hW' => ?_) ?_ ?_
        rotate_left 2
        · skip
          go_simp
          try with_reducible rfl
        · simp only [Act.put, List.setIfInBounds_toArray, List.set_cons_zero, List.set_cons_succ]
          try with_reducible rfl
      refine Free.Seq.nil_ ?_
      go_wp2
      refine bodyPost_ret (v := .tuple #[.agg #[.int .i64 0, .int .i64 0, .slice none 0 0, .slice none 0 0, .slice none 0 0, .slice none 0 0], .int .i64 (p : Nat), .int .i64 (1 : Nat)]) (by simp [results, Tryz.results60, go_sem, v0, v1, v2, v3, v4, v5]) rfl ?_
      rw [← HRS.out]
      exact ⟨0, 0, none, 0, 0, none, 0, 0, none, 0, 0, none, 0, 0, rfl, HKV.out, HBV.out⟩
  · have hz9 : ((er : Int) != 0) = true := by rw [bne_iff_ne]; omega
    have hz8 : ((er : Int) == 0) = false := by rw [beq_eq_false_iff_ne]; omega
    have HRS : Hid ((St.zero, q, er) = res) := Lib.hid (by rw [← HRS0.out, St.andP_no her])
    have HRE := Lib.hid HN.out.blk
    clear her HKS HRS0
    have hyv : Blk (ansF w W3 (.int .i64 0) (.int .i64 0) (.slice none 0 0) (.slice none 0 0) (.slice none 0 0) (.slice none 0 0)).drew (w.heap.size + 1) 42 #[.int .i64 0, .int .i64 0, .slice none 0 0, .slice none 0 0, .slice none 0 0, .slice none 0 0] := (blk_ansF HY.out).drew9
    have hbv : Below w.heap.size w (ansF w W3 (.int .i64 0) (.int .i64 0) (.slice none 0 0) (.slice none 0 0) (.slice none 0 0) (.slice none 0 0)).drew := (below_ansF HB.out).drew
    have hkv := KSt.zero w.heap.size (ansF w W3 (.int .i64 0) (.int .i64 0) (.slice none 0 0) (.slice none 0 0) (.slice none 0 0) (.slice none 0 0)).drew
    have y0 : W3.cell? ⟨w.heap.size + 1, 0, none⟩ = some (.int .i64 0) := HY.out.cell 0
    have f0 : W3.frozen? ⟨w.heap.size + 1, 0, none⟩ = false := HY.out.frozen 0
    have v0 := hyv.cell 0
    have y1 : W3.cell? ⟨w.heap.size + 1, 1, none⟩ = some (.int .i64 0) := HY.out.cell 1
    have f1 : W3.frozen? ⟨w.heap.size + 1, 1, none⟩ = false := HY.out.frozen 1
    have v1 := hyv.cell 1
    have y2 : W3.cell? ⟨w.heap.size + 1, 2, none⟩ = some (.slice none 0 0) := HY.out.cell 2
    have f2 : W3.frozen? ⟨w.heap.size + 1, 2, none⟩ = false := HY.out.frozen 2
    have v2 := hyv.cell 2
    have y3 : W3.cell? ⟨w.heap.size + 1, 3, none⟩ = some (.slice none 0 0) := HY.out.cell 3
    have f3 : W3.frozen? ⟨w.heap.size + 1, 3, none⟩ = false := HY.out.frozen 3
    have v3 := hyv.cell 3
    have y4 : W3.cell? ⟨w.heap.size + 1, 4, none⟩ = some (.slice none 0 0) := HY.out.cell 4
    have f4 : W3.frozen? ⟨w.heap.size + 1, 4, none⟩ = false := HY.out.frozen 4
    have v4 := hyv.cell 4
    have y5 : W3.cell? ⟨w.heap.size + 1, 5, none⟩ = some (.slice none 0 0) := HY.out.cell 5
    have f5 : W3.frozen? ⟨w.heap.size + 1, 5, none⟩ = false := HY.out.frozen 5
    have v5 := hyv.cell 5
    have HBV := Lib.hid hbv
    have HKV := Lib.hid hkv
    have hylt := HY.out.lt
    unfold ansF at v0 v1 v2 v3 v4 v5 HBV HKV
    clear hyv hbv hkv
    go_wp2_with (fail)
    have hrv : Blk (ansF w W3 (.int .i64 0) (.int .i64 0) (.slice none 0 0) (.slice none 0 0) (.slice none 0 0) (.slice none 0 0)).drew R 126 _ := (blk_otherF HRE.out (by omega)).drew9
    unfold ansF at hrv
    refine Free.region_seq [6] [4] 9 (fun W' => W'.cell? ⟨R, 3, none⟩ = some (.int .i64 (q : Int))) (by kernel_rfl) (by kernel_rfl) (by kernel_rfl) (by kernel_rfl) (c3) (fun ops hops => ?_)
    clear hops
    iterate 6
      refine Free.Seq.quiet (v := ?_) (a' := ?_) rfl rfl (fun W' hW' => ?_) ?_ ?_
      rotate_left 2
      · first | obtain s6 := hW' rfl | skip
        go_simp
        try with_reducible rfl
      · simp only [Act.put, List.setIfInBounds_toArray, List.set_cons_zero, List.set_cons_succ]
        try with_reducible rfl
    refine Free.Seq.loud_ rfl (.inl rfl) (fun K hK => ?_)
    go_simp
    refine hK.out _ _ rfl (fun _ => hrv.cell 3) ?_
    clear hK K
    iterate 2
      refine Free.Seq.quiet (v := ?_) (a' := ?_) rfl rfl (fun W' hW' => ?_) ?_ ?_
      rotate_left 2
      · skip
        go_simp
        try with_reducible rfl
      · simp only [Act.put, List.setIfInBounds_toArray, List.set_cons_zero, List.set_cons_succ]
        try with_reducible rfl
    refine Free.Seq.nil_ ?_
    go_wp2
    refine bodyPost_ret (v := .tuple #[.agg #[.int .i64 0, .int .i64 0, .slice none 0 0, .slice none 0 0, .slice none 0 0, .slice none 0 0], .int .i64 (q : Nat), .int .i64 (er : Nat)]) (by simp [results, Tryz.results60, go_sem, v0, v1, v2, v3, v4, v5]) rfl ?_
    rw [← HRS.out]
    exact ⟨0, 0, none, 0, 0, none, 0, 0, none, 0, 0, none, 0, 0, rfl, HKV.out, HBV.out⟩
end Go.Proofs.YtipbilmnknmhmaaGreatDoor

/- Walks of Whole (of states) and state.Parse (by gen_stmh.py). -/
namespace Go.Proofs.YtipbilmnknmhmaaGreatDoor
set_option maxRecDepth 100000
open Go.RowKit Go.Shelf Go.Sort
attribute [local go_sem] Oper.semAt_some
/-- What Parse answers. -/
def SPRes (w : World) (r : St.State × Int × Nat) (e : Ending) (w' : World) : Prop :=
  ∃ (a b : Int) (cA : Option Addr) (cn cc : Nat) (mA : Option Addr) (mn mc : Nat) (sA : Option Addr) (sn sc : Nat) (oA : Option Addr) (on oc : Nat), e = .returned (.tuple #[.agg #[.int .i64 a, .int .i64 b, .slice cA cn cc, .slice mA mn mc, .slice sA sn sc, .slice oA on oc], .int .i64 r.2.1, .int .i64 (r.2.2 : Nat)]) ∧
    KSt w.heap.size w' (.agg #[.int .i64 a, .int .i64 b, .slice cA cn cc, .slice mA mn mc, .slice sA sn sc, .slice oA on oc]) r.1 ∧ Below w.heap.size w w'
theorem fromS_lt {l : List Lx.Tk} (hf : Tb.Fine l) (names : List ByteArray) (k : Nat) {i : Nat} (h : i < l.length) : (St.fromS names k l i).2.1 < l.length := by
  have hW : ∀ (t : ByteArray) (i : Nat), i < l.length → (St.wordE l t i).2.1 < l.length := fun t i h => by
    rw [wordE_nxt]; exact isK_next hf h (by decide)
  have hM : ∀ (t : ByteArray) (i : Nat), i < l.length → (St.markE l t i).2.1 < l.length := fun t i h => by
    rw [markE_nxt]; exact isK_next hf h (by decide)
  have hA : ∀ {α β : Type} (r : α × Nat × Nat) (z : β) (f : α → Nat → β × Nat × Nat), r.2.1 < l.length → (∀ a j, j < l.length → (f a j).2.1 < l.length) → (St.andP r z f).2.1 < l.length := fun r z f hr hf => by
    by_cases h0 : r.2.2 = 0
    · rw [St.andP_yes h0]; exact hf _ _ hr
    · rw [St.andP_no h0]; exact hr
  have hat : ∀ i, i < l.length → (St.atomP names l i).2.1 < l.length := fun i h => by
    unfold St.atomP
    exact hA _ _ _ (Cd.intP_lt hf h) fun a j hj => hA _ _ _ (Cd.labP_lt hf names hj) fun _ _ hj => hj
  have hsl : ∀ rets i, i < l.length → (St.slotP names rets l i).2.1 < l.length := fun rets i h => by
    unfold St.slotP
    refine hA _ _ _ (hat _ ?_) fun _ _ hj => hj
    by_cases hr : St.retP rets l i = true
    · rw [if_pos hr]
      unfold St.retP at hr
      rw [Bool.and_eq_true] at hr
      exact Cd.kind_next hf h (by have := (of_decide_eq_true hr.2).1; omega)
    · rw [if_neg hr]; exact h
  have hrow : ∀ most rets (n : Nat) (out : List St.Slot) i, i < l.length → (St.rowP names l most rets n out i).2.1 < l.length := fun most rets n => by
    induction n with
    | zero => intro out i h; exact h
    | succ n ih =>
      intro out i h
      unfold St.rowP
      by_cases hm : out.length = most
      · rw [if_pos hm]; exact h
      · rw [if_neg hm]
        refine hA _ _ _ (hsl _ _ h) fun x j hj => ?_
        split
        · rename_i hc
          exact ih _ _ (Cd.isM_next hf hj hc)
        · split
          · rename_i hc
            exact Cd.isM_next hf hj hc
          · exact hj
  have hword : ∀ word most rets i, i < l.length → (St.wordP names l word most rets i).2.1 < l.length := fun word most rets i h => by
    unfold St.wordP
    refine hA _ _ _ (hW _ _ h) fun _ j hj => ?_
    split
    · rename_i hc
      exact Cd.isM_next hf hj hc
    · exact hrow _ _ _ _ _ hj
  unfold St.fromS
  refine hA _ _ _ (hW _ _ h) fun _ j hj => hA _ _ _ (hat _ hj) fun _ j hj => hA _ _ _ (hM _ _ hj) fun _ j hj => hA _ _ _ (hW _ _ hj) fun _ j hj => hA _ _ _ (Cd.fromP_lt hf names k 13 [] j hj) fun _ j hj => hA _ _ _ (hword _ _ _ _ hj) fun _ j hj => hA _ _ _ (hword _ _ _ _ hj) fun _ j hj => hA _ _ _ (hword _ _ _ _ hj) fun _ j hj => ?_
  unfold St.endS
  split
  · exact hj
  · exact h
theorem heap_ansF {w W : World} {k : Nat} {a b c d e f : Value} (hk : k ≠ w.heap.size + 1) : (ansF w W a b c d e f).heap[k]? = W.heap[k]? := by
  unfold ansF
  exact (Below.heap_setCell _ ⟨w.heap.size + 1, 5, none⟩ f k hk).trans ((Below.heap_setCell _ ⟨w.heap.size + 1, 4, none⟩ e k hk).trans ((Below.heap_setCell _ ⟨w.heap.size + 1, 3, none⟩ d k hk).trans ((Below.heap_setCell _ ⟨w.heap.size + 1, 2, none⟩ c k hk).trans ((Below.heap_setCell _ ⟨w.heap.size + 1, 1, none⟩ b k hk).trans (Below.heap_setCell _ ⟨w.heap.size + 1, 0, none⟩ a k hk)))))
theorem cell_drew9 (W : World) (p : Addr) : W.drew.cell? p = W.cell? p := rfl
theorem cell_ansF9 {w W : World} {p : Addr} {u a b c d e f : Value} (h : W.cell? p = some u) (hp : p.block ≠ w.heap.size + 1) : (ansF w W a b c d e f).drew.cell? p = some u := by
  rw [cell_drew9, World.cell?_of_block (w := W) (heap_ansF hp)]
  exact h
/-- A token's row does not lie in a state's block. -/
theorem toks_ne {w : World} {ad : Addr} {l : List Lx.Tk} {p g : Nat} {cs : Array Value} (h : Row w w.heap.size (some ad) (tcells l)) (hp : p < l.length) (hb : Blk w g 42 cs) (hcs : ∀ (i : Nat) (t : ByteArray), cs[i]? ≠ some (Value.string t)) : (ad.add (p * 3)).block ≠ g := by
  obtain ⟨ad', t, e, hbl, ht, c0, c1, c2⟩ := trow_at h hp
  injection e with e
  subst e
  intro hg
  rw [show (⟨(ad.add (p * 3)).block, (ad.add (p * 3)).off + 1, none⟩ : Addr) = ⟨g, (ad.add (p * 3)).off + 1, none⟩ by rw [hg]] at c1
  rw [hb.cell] at c1
  exact hcs _ _ c1
theorem zcs_str (i : Nat) (t : ByteArray) : (#[.int .i64 0, .int .i64 0, .slice none 0 0, .slice none 0 0, .slice none 0 0, .slice none 0 0] : Array Value)[i]? ≠ some (Value.string t) := by
  rcases i with _ | _ | _ | _ | _ | _ | i <;> simp
set_option maxHeartbeats 16000000 in
theorem swhole_any {v : Value} {names : List ByteArray} {up : List Nat} (s : ByteArray) (hs : s.size ≤ maxLen) (w : World) (h : IsLat w w.heap.size v names up) (hi : Ins w) :
    Calls Tryz.prog 59 #[v, .string s, .func (.func 60) #[] #[]] w (SPRes w (St.parse names up s.data.toList)) := by
  obtain ⟨⟨N, U, c1, c2, rfl, hN, hU⟩, hsh, hfew, hcaps⟩ := id h
  have hb0 := ((((Below.refl _ w).alloc (Nat.le_refl _) (.cells #[.slice N names.length c1, .slice U up.length c2] 25)).alloc (by simp) (.cells #[.int .i64 0, .int .i64 0, .slice none 0 0, .slice none 0 0, .slice none 0 0, .slice none 0 0] 42)).alloc (by simp; omega) (.cells #[.int .i64 0, .int .i64 0, .slice none 0 0, .slice none 0 0, .slice none 0 0, .slice none 0 0] 42))
  obtain ⟨W0, hW0⟩ : ∃ W0, ((w.alloc (.cells #[.slice N names.length c1, .slice U up.length c2] 25)).alloc (.cells #[.int .i64 0, .int .i64 0, .slice none 0 0, .slice none 0 0, .slice none 0 0, .slice none 0 0] 42)).alloc (.cells #[.int .i64 0, .int .i64 0, .slice none 0 0, .slice none 0 0, .slice none 0 0, .slice none 0 0] 42) = W0 := ⟨_, rfl⟩
  have hp0 : Blk W0 w.heap.size 25 #[.slice N names.length c1, .slice U up.length c2] := hW0 ▸ ((Blk.new _ _ _).alloc _).alloc _
  have hy0 : Blk W0 (w.heap.size + 1) 42 #[.int .i64 0, .int .i64 0, .slice none 0 0, .slice none 0 0, .slice none 0 0, .slice none 0 0] := by
    have h1 := Blk.new (w.alloc (.cells #[.slice N names.length c1, .slice U up.length c2] 25)) 42 #[.int .i64 0, .int .i64 0, .slice none 0 0, .slice none 0 0, .slice none 0 0, .slice none 0 0]
    rw [show (w.alloc (.cells #[.slice N names.length c1, .slice U up.length c2] 25)).heap.size = w.heap.size + 1 by simp] at h1
    rw [← hW0]; exact h1.alloc _
  have ho0 : Blk W0 (w.heap.size + 2) 42 #[.int .i64 0, .int .i64 0, .slice none 0 0, .slice none 0 0, .slice none 0 0, .slice none 0 0] := by
    have h1 := Blk.new ((w.alloc (.cells #[.slice N names.length c1, .slice U up.length c2] 25)).alloc (.cells #[.int .i64 0, .int .i64 0, .slice none 0 0, .slice none 0 0, .slice none 0 0, .slice none 0 0] 42)) 42 #[.int .i64 0, .int .i64 0, .slice none 0 0, .slice none 0 0, .slice none 0 0, .slice none 0 0]
    rw [show ((w.alloc (.cells #[.slice N names.length c1, .slice U up.length c2] 25)).alloc (.cells #[.int .i64 0, .int .i64 0, .slice none 0 0, .slice none 0 0, .slice none 0 0, .slice none 0 0] 42)).heap.size = w.heap.size + 2 by simp] at h1
    rw [← hW0]; exact h1
  rw [hW0] at hb0
  have a0 : W0.cell? ⟨w.heap.size, 0, none⟩ = some (.slice N names.length c1) := hp0.cell 0
  have a1 : W0.cell? ⟨w.heap.size, 1, none⟩ = some (.slice U up.length c2) := hp0.cell 1
  have hch := check_any _ ((h.below hb0).more hb0.size)
  have HP0 := Lib.hid hp0
  have HY0 := Lib.hid hy0
  have HO0 := Lib.hid ho0
  have HB0 := Lib.hid hb0
  have H := Lib.hid h
  have HI := Lib.hid hi
  have hcf := Tryz.call60
  obtain ⟨n, hn⟩ : ∃ n, checkN names up = n := ⟨_, rfl⟩
  rw [hn] at hch
  have HCH := Lib.hid hch
  by_cases hz : n = 0
  · subst hz
    have HLX := Lib.hid (fun W => lex_any s W hs)
    obtain ⟨⟨l, a9, er⟩, hlex⟩ : ∃ r, Lx.lex s.data.toList = r := ⟨_, rfl⟩
    have hp : St.parse names up s.data.toList = St.parseL names up.length (l, a9, er) := by unfold St.parse; rw [if_pos hn, hlex]
    rw [hlex] at HLX
    rw [hp]
    have HLEX := Lib.hid hlex
    have HNN := Lib.hid hn
    clear h hi hN hU hp0 hy0 ho0 hb0 hch hn hp hlex
    by_cases her : er = 0
    · subst her
      obtain ⟨hfine, h0, h200, ha⟩ := Tb.lex_fine HLEX.out
      obtain ⟨⟨o, q, e2⟩, hfr⟩ : ∃ r, St.fromS names up.length l 0 = r := ⟨_, rfl⟩
      have hq := fromS_lt hfine names up.length h0
      have hpl : St.parseL names up.length (l, a9, 0) = St.endT l (o, q, e2) := by unfold St.parseL; rw [if_pos rfl, hfr]
      rw [hfr] at hq
      dsimp only at hq
      rw [hpl]
      have HFR := Lib.hid hfr
      have HFI := Lib.hid hfine
      unfold St.endT
      dsimp only
      have hcall : ∀ W A c, Row W W.heap.size A (tcells l) → Below w.heap.size w W → Calls Tryz.prog 60 #[.agg #[.slice N names.length c1, .slice U up.length c2], .slice A l.length c, .int .i64 0] W (SFromR W (o, q, e2)) := fun W A c hr hb => by
        have := sfrom_any c HFI.out h0 (by omega) HNN.out W ((H.out.below hb).more hb.size) hr (HI.out.below hb HI.out.lt)
        rw [HFR.out] at this
        exact this
      have HFC := Lib.hid hcall
      clear hfr hfine hpl hcall ha
      by_cases h2 : e2 = 0
      · subst h2
        rw [if_pos rfl]
        by_cases hk : (Tb.tok l q).kind = 0
        · rw [if_pos hk]
          go_enter Tryz.func59, Tryz.ntmps59
          go_wp2_with (go_at_call 27; refine HCH.out.mono ?_)
          rintro e w1 ⟨rfl, hb1⟩
          have HP1 := Lib.hid (HP0.out.below hb1 HP0.out.lt)
          have HY1 := Lib.hid (HY0.out.below hb1 HY0.out.lt)
          have HO1 := Lib.hid (HO0.out.below hb1 HO0.out.lt)
          have HB1 := Lib.hid (HB0.out.trans (hb1.mono HB0.out.size))
          clear hb1
          have HC2 := Lib.hid (HLX.out w1)
          go_wp2_with (fail)
          refine HC2.out.mono ?_
          rintro e w2 ⟨v2, rfl, htk, hb2⟩
          obtain ⟨A, ct, rfl, hr2, -⟩ := htk
          have hp2 := HP1.out.below hb2 HP1.out.lt
          have hc0 : w2.cell? ⟨w.heap.size, 0, none⟩ = some (.slice N names.length c1) := hp2.cell 0
          have hc1 : w2.cell? ⟨w.heap.size, 1, none⟩ = some (.slice U up.length c2) := hp2.cell 1
          have HB2 := Lib.hid (HB1.out.trans (hb2.mono HB1.out.size))
          have HR2 := Lib.hid hr2
          have HY2 := Lib.hid (HY1.out.below hb2 HY1.out.lt)
          have HO2 := Lib.hid (HO1.out.below hb2 HO1.out.lt)
          have HC3 := Lib.hid (HFC.out w2 A ct hr2 HB2.out)
          clear hb2 hp2 hr2 HY1 HO1 HP1 HB1
          go_wp2_with (fail)
          refine HC3.out.mono ?_
          rintro e w3 ⟨a, b, cA, cn, cc, mA, mn, mc, sA, sn, sc, oA, on, oc, rfl, hks, hb3⟩
          have hal := (Below.refl _ w3).alloc (Nat.le_refl _) (.cells #[.int .i64 a, .int .i64 b, .slice cA cn cc, .slice mA mn mc, .slice sA sn sc, .slice oA on oc] 42)
          have hb4 := hb3.alloc hb3.size (.cells #[.int .i64 a, .int .i64 b, .slice cA cn cc, .slice mA mn mc, .slice sA sn sc, .slice oA on oc] 42)
          have hbx := Blk.new w3 42 #[.int .i64 a, .int .i64 b, .slice cA cn cc, .slice mA mn mc, .slice sA sn sc, .slice oA on oc]
          have hks4 := hks.below hal
          have hy4 := HY2.out.below hb4 HY2.out.lt
          have ho4 := HO2.out.below hb4 HO2.out.lt
          have hbb := HB2.out.trans (hb4.mono HB2.out.size)
          have hr4 := (HR2.out.below hb4).more hb4.size
          have hw3 := hb3.size
          have hw2 := HB2.out.size
          have HZ2 := Lib.hid (show w.heap.size + 3 ≤ w2.heap.size by have := HO2.out.lt; omega)
          obtain ⟨W4, hW4⟩ : ∃ W4, w3.alloc (.cells #[.int .i64 a, .int .i64 b, .slice cA cn cc, .slice mA mn mc, .slice sA sn sc, .slice oA on oc] 42) = W4 := ⟨_, rfl⟩
          rw [hW4] at hbx hks4 hy4 ho4 hbb hr4
          have HY := Lib.hid hy4
          have HO := Lib.hid ho4
          have HB := Lib.hid hbb
          have HX := Lib.hid hbx
          have HKS := Lib.hid hks4
          clear hal hb4 hb3 hks hbx hks4 hy4 ho4 hbb hc0 hc1 HY2 HO2 HC3 HC2
          obtain ⟨ad, rfl, hbl, k0, k2⟩ := itok_at hr4 hq
          rw [hk] at k0
          have hz2 := HZ2.out
          have hxlt := HX.out.lt
          have x0 : W4.cell? ⟨w3.heap.size, 0, none⟩ = some (.int .i64 a) := HX.out.cell 0
          have x1 : W4.cell? ⟨w3.heap.size, 1, none⟩ = some (.int .i64 b) := HX.out.cell 1
          have x2 : W4.cell? ⟨w3.heap.size, 2, none⟩ = some (.slice cA cn cc) := HX.out.cell 2
          have x3 : W4.cell? ⟨w3.heap.size, 3, none⟩ = some (.slice mA mn mc) := HX.out.cell 3
          have x4 : W4.cell? ⟨w3.heap.size, 4, none⟩ = some (.slice sA sn sc) := HX.out.cell 4
          have x5 : W4.cell? ⟨w3.heap.size, 5, none⟩ = some (.slice oA on oc) := HX.out.cell 5
          clear k2 hr4
          have hyv : Blk (ansF w W4 (.int .i64 a) (.int .i64 b) (.slice cA cn cc) (.slice mA mn mc) (.slice sA sn sc) (.slice oA on oc)) (w.heap.size + 1) 42 #[.int .i64 a, .int .i64 b, .slice cA cn cc, .slice mA mn mc, .slice sA sn sc, .slice oA on oc] := (blk_ansF HY.out)
          have hbv : Below w.heap.size w (ansF w W4 (.int .i64 a) (.int .i64 b) (.slice cA cn cc) (.slice mA mn mc) (.slice sA sn sc) (.slice oA on oc)) := (below_ansF HB.out)
          have y0 : W4.cell? ⟨w.heap.size + 1, 0, none⟩ = some (.int .i64 0) := HY.out.cell 0
          have f0 : W4.frozen? ⟨w.heap.size + 1, 0, none⟩ = false := HY.out.frozen 0
          have v0 := hyv.cell 0
          have y1 : W4.cell? ⟨w.heap.size + 1, 1, none⟩ = some (.int .i64 0) := HY.out.cell 1
          have f1 : W4.frozen? ⟨w.heap.size + 1, 1, none⟩ = false := HY.out.frozen 1
          have v1 := hyv.cell 1
          have y2 : W4.cell? ⟨w.heap.size + 1, 2, none⟩ = some (.slice none 0 0) := HY.out.cell 2
          have f2 : W4.frozen? ⟨w.heap.size + 1, 2, none⟩ = false := HY.out.frozen 2
          have v2 := hyv.cell 2
          have y3 : W4.cell? ⟨w.heap.size + 1, 3, none⟩ = some (.slice none 0 0) := HY.out.cell 3
          have f3 : W4.frozen? ⟨w.heap.size + 1, 3, none⟩ = false := HY.out.frozen 3
          have v3 := hyv.cell 3
          have y4 : W4.cell? ⟨w.heap.size + 1, 4, none⟩ = some (.slice none 0 0) := HY.out.cell 4
          have f4 : W4.frozen? ⟨w.heap.size + 1, 4, none⟩ = false := HY.out.frozen 4
          have v4 := hyv.cell 4
          have y5 : W4.cell? ⟨w.heap.size + 1, 5, none⟩ = some (.slice none 0 0) := HY.out.cell 5
          have f5 : W4.frozen? ⟨w.heap.size + 1, 5, none⟩ = false := HY.out.frozen 5
          have v5 := hyv.cell 5
          have hkv : KSt w.heap.size (ansF w W4 (.int .i64 a) (.int .i64 b) (.slice cA cn cc) (.slice mA mn mc) (.slice sA sn sc) (.slice oA on oc)) (.agg #[.int .i64 a, .int .i64 b, .slice cA cn cc, .slice mA mn mc, .slice sA sn sc, .slice oA on oc]) o := (HKS.out.ansF (show w.heap.size + 1 < w2.heap.size by omega) _ _ _ _ _ _).less (show w.heap.size ≤ w2.heap.size by omega)
          have HBV := Lib.hid hbv
          have HKV := Lib.hid hkv
          have hylt := HY.out.lt
          unfold ansF at v0 v1 v2 v3 v4 v5 HBV HKV
          clear hyv hbv hkv
          go_wp2
          refine bodyPost_ret (v := .tuple #[.agg #[.int .i64 a, .int .i64 b, .slice cA cn cc, .slice mA mn mc, .slice sA sn sc, .slice oA on oc], .int .i64 0, .int .i64 (0 : Nat)]) (by simp [results, Tryz.results59, go_sem, v0, v1, v2, v3, v4, v5]) rfl ?_
          exact ⟨a, b, cA, cn, cc, mA, mn, mc, sA, sn, sc, oA, on, oc, rfl, HKV.out, HBV.out⟩
        · rw [if_neg hk]
          have hkb : ((Tb.tok l q).kind != 0) = true := by rw [bne_iff_ne]; exact hk
          go_enter Tryz.func59, Tryz.ntmps59
          go_wp2_with (go_at_call 27; refine HCH.out.mono ?_)
          rintro e w1 ⟨rfl, hb1⟩
          have HP1 := Lib.hid (HP0.out.below hb1 HP0.out.lt)
          have HY1 := Lib.hid (HY0.out.below hb1 HY0.out.lt)
          have HO1 := Lib.hid (HO0.out.below hb1 HO0.out.lt)
          have HB1 := Lib.hid (HB0.out.trans (hb1.mono HB0.out.size))
          clear hb1
          have HC2 := Lib.hid (HLX.out w1)
          go_wp2_with (fail)
          refine HC2.out.mono ?_
          rintro e w2 ⟨v2, rfl, htk, hb2⟩
          obtain ⟨A, ct, rfl, hr2, -⟩ := htk
          have hp2 := HP1.out.below hb2 HP1.out.lt
          have hc0 : w2.cell? ⟨w.heap.size, 0, none⟩ = some (.slice N names.length c1) := hp2.cell 0
          have hc1 : w2.cell? ⟨w.heap.size, 1, none⟩ = some (.slice U up.length c2) := hp2.cell 1
          have HB2 := Lib.hid (HB1.out.trans (hb2.mono HB1.out.size))
          have HR2 := Lib.hid hr2
          have HY2 := Lib.hid (HY1.out.below hb2 HY1.out.lt)
          have HO2 := Lib.hid (HO1.out.below hb2 HO1.out.lt)
          have HC3 := Lib.hid (HFC.out w2 A ct hr2 HB2.out)
          clear hb2 hp2 hr2 HY1 HO1 HP1 HB1
          go_wp2_with (fail)
          refine HC3.out.mono ?_
          rintro e w3 ⟨a, b, cA, cn, cc, mA, mn, mc, sA, sn, sc, oA, on, oc, rfl, hks, hb3⟩
          have hal := (Below.refl _ w3).alloc (Nat.le_refl _) (.cells #[.int .i64 a, .int .i64 b, .slice cA cn cc, .slice mA mn mc, .slice sA sn sc, .slice oA on oc] 42)
          have hb4 := hb3.alloc hb3.size (.cells #[.int .i64 a, .int .i64 b, .slice cA cn cc, .slice mA mn mc, .slice sA sn sc, .slice oA on oc] 42)
          have hbx := Blk.new w3 42 #[.int .i64 a, .int .i64 b, .slice cA cn cc, .slice mA mn mc, .slice sA sn sc, .slice oA on oc]
          have hks4 := hks.below hal
          have hy4 := HY2.out.below hb4 HY2.out.lt
          have ho4 := HO2.out.below hb4 HO2.out.lt
          have hbb := HB2.out.trans (hb4.mono HB2.out.size)
          have hr4 := (HR2.out.below hb4).more hb4.size
          have hw3 := hb3.size
          have hw2 := HB2.out.size
          have HZ2 := Lib.hid (show w.heap.size + 3 ≤ w2.heap.size by have := HO2.out.lt; omega)
          obtain ⟨W4, hW4⟩ : ∃ W4, w3.alloc (.cells #[.int .i64 a, .int .i64 b, .slice cA cn cc, .slice mA mn mc, .slice sA sn sc, .slice oA on oc] 42) = W4 := ⟨_, rfl⟩
          rw [hW4] at hbx hks4 hy4 ho4 hbb hr4
          have HY := Lib.hid hy4
          have HO := Lib.hid ho4
          have HB := Lib.hid hbb
          have HX := Lib.hid hbx
          have HKS := Lib.hid hks4
          clear hal hb4 hb3 hks hbx hks4 hy4 ho4 hbb hc0 hc1 HY2 HO2 HC3 HC2
          obtain ⟨ad, rfl, hbl, k0, k2⟩ := itok_at hr4 hq
          have hadne := toks_ne hr4 hq HY.out zcs_str
          generalize (Tb.tok l q).kind = kd at *
          generalize (Tb.tok l q).pos = ps at *
          have n0 : W4.cell? ⟨w.heap.size + 2, 0, none⟩ = some (.int .i64 0) := HO.out.cell 0
          have n1 : W4.cell? ⟨w.heap.size + 2, 1, none⟩ = some (.int .i64 0) := HO.out.cell 1
          have n2 : W4.cell? ⟨w.heap.size + 2, 2, none⟩ = some (.slice none 0 0) := HO.out.cell 2
          have n3 : W4.cell? ⟨w.heap.size + 2, 3, none⟩ = some (.slice none 0 0) := HO.out.cell 3
          have n4 : W4.cell? ⟨w.heap.size + 2, 4, none⟩ = some (.slice none 0 0) := HO.out.cell 4
          have n5 : W4.cell? ⟨w.heap.size + 2, 5, none⟩ = some (.slice none 0 0) := HO.out.cell 5
          clear hr4 hk
          have hyv : Blk (ansF w W4 (.int .i64 0) (.int .i64 0) (.slice none 0 0) (.slice none 0 0) (.slice none 0 0) (.slice none 0 0)).drew (w.heap.size + 1) 42 #[.int .i64 0, .int .i64 0, .slice none 0 0, .slice none 0 0, .slice none 0 0, .slice none 0 0] := (blk_ansF HY.out).drew9
          have hbv : Below w.heap.size w (ansF w W4 (.int .i64 0) (.int .i64 0) (.slice none 0 0) (.slice none 0 0) (.slice none 0 0) (.slice none 0 0)).drew := (below_ansF HB.out).drew
          have y0 : W4.cell? ⟨w.heap.size + 1, 0, none⟩ = some (.int .i64 0) := HY.out.cell 0
          have f0 : W4.frozen? ⟨w.heap.size + 1, 0, none⟩ = false := HY.out.frozen 0
          have v0 := hyv.cell 0
          have y1 : W4.cell? ⟨w.heap.size + 1, 1, none⟩ = some (.int .i64 0) := HY.out.cell 1
          have f1 : W4.frozen? ⟨w.heap.size + 1, 1, none⟩ = false := HY.out.frozen 1
          have v1 := hyv.cell 1
          have y2 : W4.cell? ⟨w.heap.size + 1, 2, none⟩ = some (.slice none 0 0) := HY.out.cell 2
          have f2 : W4.frozen? ⟨w.heap.size + 1, 2, none⟩ = false := HY.out.frozen 2
          have v2 := hyv.cell 2
          have y3 : W4.cell? ⟨w.heap.size + 1, 3, none⟩ = some (.slice none 0 0) := HY.out.cell 3
          have f3 : W4.frozen? ⟨w.heap.size + 1, 3, none⟩ = false := HY.out.frozen 3
          have v3 := hyv.cell 3
          have y4 : W4.cell? ⟨w.heap.size + 1, 4, none⟩ = some (.slice none 0 0) := HY.out.cell 4
          have f4 : W4.frozen? ⟨w.heap.size + 1, 4, none⟩ = false := HY.out.frozen 4
          have v4 := hyv.cell 4
          have y5 : W4.cell? ⟨w.heap.size + 1, 5, none⟩ = some (.slice none 0 0) := HY.out.cell 5
          have f5 : W4.frozen? ⟨w.heap.size + 1, 5, none⟩ = false := HY.out.frozen 5
          have v5 := hyv.cell 5
          have hkv : KSt w.heap.size (ansF w W4 (.int .i64 0) (.int .i64 0) (.slice none 0 0) (.slice none 0 0) (.slice none 0 0) (.slice none 0 0)).drew (.agg #[.int .i64 0, .int .i64 0, .slice none 0 0, .slice none 0 0, .slice none 0 0, .slice none 0 0]) St.zero := KSt.zero _ _
          have HBV := Lib.hid hbv
          have HKV := Lib.hid hkv
          have hylt := HY.out.lt
          have hov : Blk (ansF w W4 (.int .i64 0) (.int .i64 0) (.slice none 0 0) (.slice none 0 0) (.slice none 0 0) (.slice none 0 0)).drew (w.heap.size + 2) 42 #[.int .i64 0, .int .i64 0, .slice none 0 0, .slice none 0 0, .slice none 0 0, .slice none 0 0] := (blk_otherF HO.out (by omega)).drew9
          have hkv2 : (ansF w W4 (.int .i64 0) (.int .i64 0) (.slice none 0 0) (.slice none 0 0) (.slice none 0 0) (.slice none 0 0)).drew.cell? ⟨(ad.add (q * 3)).block, (ad.add (q * 3)).off + 2, none⟩ = some (.int .i64 ps) := cell_ansF9 k2 (by show (ad.add (q * 3)).block ≠ _; exact hadne)
          unfold ansF at hov hkv2
          unfold ansF at v0 v1 v2 v3 v4 v5 HBV HKV
          clear hyv hbv hkv
          go_wp2_with (fail)
          refine Free.region_seq [7] [0, 5] 10 (fun W' => W'.cell? ⟨w.heap.size + 2, 0, none⟩ = some (.int .i64 0) ∧ W'.cell? ⟨w.heap.size + 2, 1, none⟩ = some (.int .i64 0) ∧ W'.cell? ⟨w.heap.size + 2, 2, none⟩ = some (.slice none 0 0) ∧ W'.cell? ⟨w.heap.size + 2, 3, none⟩ = some (.slice none 0 0) ∧ W'.cell? ⟨w.heap.size + 2, 4, none⟩ = some (.slice none 0 0) ∧ W'.cell? ⟨w.heap.size + 2, 5, none⟩ = some (.slice none 0 0) ∧ W'.cell? ⟨(ad.add (q * 3)).block, (ad.add (q * 3)).off + 2, none⟩ = some (.int .i64 ps)) (by kernel_rfl) (by kernel_rfl) (by kernel_rfl) (by kernel_rfl) (⟨n0, n1, n2, n3, n4, n5, k2⟩) (fun ops hops => ?_)
          clear hops
          iterate 7
            refine Free.Seq.quiet (v := ?_) (a' := ?_) rfl rfl (fun W' hW' => ?_) ?_ ?_
            rotate_left 2
            · first | obtain ⟨s0, s1, s2, s3, s4, s5, s6⟩ := hW' rfl | skip
              go_simp
              try with_reducible rfl
            · simp only [Act.put, List.setIfInBounds_toArray, List.set_cons_zero, List.set_cons_succ]
              try with_reducible rfl
          refine Free.Seq.loud_ rfl (.inl rfl) (fun K hK => ?_)
          go_simp
          refine hK.out _ _ rfl (fun _ => ⟨hov.cell 0, hov.cell 1, hov.cell 2, hov.cell 3, hov.cell 4, hov.cell 5, hkv2⟩) ?_
          clear hK K
          iterate 2
            refine Free.Seq.quiet (v := ?_) (a' := ?_) rfl rfl (fun W' hW' => ?_) ?_ ?_
            rotate_left 2
            · skip
              go_simp
              try with_reducible rfl
            · simp only [Act.put, List.setIfInBounds_toArray, List.set_cons_zero, List.set_cons_succ]
              try with_reducible rfl
          refine Free.Seq.nil_ ?_
          go_wp2
          refine bodyPost_ret (v := .tuple #[.agg #[.int .i64 0, .int .i64 0, .slice none 0 0, .slice none 0 0, .slice none 0 0, .slice none 0 0], .int .i64 ps, .int .i64 (4 : Nat)]) (by simp [results, Tryz.results59, go_sem, v0, v1, v2, v3, v4, v5]) rfl ?_
          exact ⟨0, 0, none, 0, 0, none, 0, 0, none, 0, 0, none, 0, 0, rfl, HKV.out, HBV.out⟩
      · rw [if_neg h2]
        have hz1 : ((e2 : Int) == 0) = false := by rw [beq_eq_false_iff_ne]; omega
        have hz2 : ((e2 : Int) != 0) = true := by rw [bne_iff_ne]; omega
        go_enter Tryz.func59, Tryz.ntmps59
        go_wp2_with (go_at_call 27; refine HCH.out.mono ?_)
        rintro e w1 ⟨rfl, hb1⟩
        have HP1 := Lib.hid (HP0.out.below hb1 HP0.out.lt)
        have HY1 := Lib.hid (HY0.out.below hb1 HY0.out.lt)
        have HO1 := Lib.hid (HO0.out.below hb1 HO0.out.lt)
        have HB1 := Lib.hid (HB0.out.trans (hb1.mono HB0.out.size))
        clear hb1
        have HC2 := Lib.hid (HLX.out w1)
        go_wp2_with (fail)
        refine HC2.out.mono ?_
        rintro e w2 ⟨v2, rfl, htk, hb2⟩
        obtain ⟨A, ct, rfl, hr2, -⟩ := htk
        have hp2 := HP1.out.below hb2 HP1.out.lt
        have hc0 : w2.cell? ⟨w.heap.size, 0, none⟩ = some (.slice N names.length c1) := hp2.cell 0
        have hc1 : w2.cell? ⟨w.heap.size, 1, none⟩ = some (.slice U up.length c2) := hp2.cell 1
        have HB2 := Lib.hid (HB1.out.trans (hb2.mono HB1.out.size))
        have HR2 := Lib.hid hr2
        have HY2 := Lib.hid (HY1.out.below hb2 HY1.out.lt)
        have HO2 := Lib.hid (HO1.out.below hb2 HO1.out.lt)
        have HC3 := Lib.hid (HFC.out w2 A ct hr2 HB2.out)
        clear hb2 hp2 hr2 HY1 HO1 HP1 HB1
        go_wp2_with (fail)
        refine HC3.out.mono ?_
        rintro e w3 ⟨a, b, cA, cn, cc, mA, mn, mc, sA, sn, sc, oA, on, oc, rfl, hks, hb3⟩
        have hal := (Below.refl _ w3).alloc (Nat.le_refl _) (.cells #[.int .i64 a, .int .i64 b, .slice cA cn cc, .slice mA mn mc, .slice sA sn sc, .slice oA on oc] 42)
        have hb4 := hb3.alloc hb3.size (.cells #[.int .i64 a, .int .i64 b, .slice cA cn cc, .slice mA mn mc, .slice sA sn sc, .slice oA on oc] 42)
        have hbx := Blk.new w3 42 #[.int .i64 a, .int .i64 b, .slice cA cn cc, .slice mA mn mc, .slice sA sn sc, .slice oA on oc]
        have hks4 := hks.below hal
        have hy4 := HY2.out.below hb4 HY2.out.lt
        have ho4 := HO2.out.below hb4 HO2.out.lt
        have hbb := HB2.out.trans (hb4.mono HB2.out.size)
        have hr4 := (HR2.out.below hb4).more hb4.size
        have hw3 := hb3.size
        have hw2 := HB2.out.size
        have HZ2 := Lib.hid (show w.heap.size + 3 ≤ w2.heap.size by have := HO2.out.lt; omega)
        obtain ⟨W4, hW4⟩ : ∃ W4, w3.alloc (.cells #[.int .i64 a, .int .i64 b, .slice cA cn cc, .slice mA mn mc, .slice sA sn sc, .slice oA on oc] 42) = W4 := ⟨_, rfl⟩
        rw [hW4] at hbx hks4 hy4 ho4 hbb hr4
        have HY := Lib.hid hy4
        have HO := Lib.hid ho4
        have HB := Lib.hid hbb
        have HX := Lib.hid hbx
        have HKS := Lib.hid hks4
        clear hal hb4 hb3 hks hbx hks4 hy4 ho4 hbb hc0 hc1 HY2 HO2 HC3 HC2
        obtain ⟨ad, rfl, hbl, k0, k2⟩ := itok_at hr4 hq
        have hadne := toks_ne hr4 hq HY.out zcs_str
        generalize (Tb.tok l q).kind = kd at *
        generalize (Tb.tok l q).pos = ps at *
        have n0 : W4.cell? ⟨w.heap.size + 2, 0, none⟩ = some (.int .i64 0) := HO.out.cell 0
        have n1 : W4.cell? ⟨w.heap.size + 2, 1, none⟩ = some (.int .i64 0) := HO.out.cell 1
        have n2 : W4.cell? ⟨w.heap.size + 2, 2, none⟩ = some (.slice none 0 0) := HO.out.cell 2
        have n3 : W4.cell? ⟨w.heap.size + 2, 3, none⟩ = some (.slice none 0 0) := HO.out.cell 3
        have n4 : W4.cell? ⟨w.heap.size + 2, 4, none⟩ = some (.slice none 0 0) := HO.out.cell 4
        have n5 : W4.cell? ⟨w.heap.size + 2, 5, none⟩ = some (.slice none 0 0) := HO.out.cell 5
        clear hr4
        have hyv : Blk (ansF w W4 (.int .i64 0) (.int .i64 0) (.slice none 0 0) (.slice none 0 0) (.slice none 0 0) (.slice none 0 0)).drew (w.heap.size + 1) 42 #[.int .i64 0, .int .i64 0, .slice none 0 0, .slice none 0 0, .slice none 0 0, .slice none 0 0] := (blk_ansF HY.out).drew9
        have hbv : Below w.heap.size w (ansF w W4 (.int .i64 0) (.int .i64 0) (.slice none 0 0) (.slice none 0 0) (.slice none 0 0) (.slice none 0 0)).drew := (below_ansF HB.out).drew
        have y0 : W4.cell? ⟨w.heap.size + 1, 0, none⟩ = some (.int .i64 0) := HY.out.cell 0
        have f0 : W4.frozen? ⟨w.heap.size + 1, 0, none⟩ = false := HY.out.frozen 0
        have v0 := hyv.cell 0
        have y1 : W4.cell? ⟨w.heap.size + 1, 1, none⟩ = some (.int .i64 0) := HY.out.cell 1
        have f1 : W4.frozen? ⟨w.heap.size + 1, 1, none⟩ = false := HY.out.frozen 1
        have v1 := hyv.cell 1
        have y2 : W4.cell? ⟨w.heap.size + 1, 2, none⟩ = some (.slice none 0 0) := HY.out.cell 2
        have f2 : W4.frozen? ⟨w.heap.size + 1, 2, none⟩ = false := HY.out.frozen 2
        have v2 := hyv.cell 2
        have y3 : W4.cell? ⟨w.heap.size + 1, 3, none⟩ = some (.slice none 0 0) := HY.out.cell 3
        have f3 : W4.frozen? ⟨w.heap.size + 1, 3, none⟩ = false := HY.out.frozen 3
        have v3 := hyv.cell 3
        have y4 : W4.cell? ⟨w.heap.size + 1, 4, none⟩ = some (.slice none 0 0) := HY.out.cell 4
        have f4 : W4.frozen? ⟨w.heap.size + 1, 4, none⟩ = false := HY.out.frozen 4
        have v4 := hyv.cell 4
        have y5 : W4.cell? ⟨w.heap.size + 1, 5, none⟩ = some (.slice none 0 0) := HY.out.cell 5
        have f5 : W4.frozen? ⟨w.heap.size + 1, 5, none⟩ = false := HY.out.frozen 5
        have v5 := hyv.cell 5
        have hkv : KSt w.heap.size (ansF w W4 (.int .i64 0) (.int .i64 0) (.slice none 0 0) (.slice none 0 0) (.slice none 0 0) (.slice none 0 0)).drew (.agg #[.int .i64 0, .int .i64 0, .slice none 0 0, .slice none 0 0, .slice none 0 0, .slice none 0 0]) St.zero := KSt.zero _ _
        have HBV := Lib.hid hbv
        have HKV := Lib.hid hkv
        have hylt := HY.out.lt
        have hov : Blk (ansF w W4 (.int .i64 0) (.int .i64 0) (.slice none 0 0) (.slice none 0 0) (.slice none 0 0) (.slice none 0 0)).drew (w.heap.size + 2) 42 #[.int .i64 0, .int .i64 0, .slice none 0 0, .slice none 0 0, .slice none 0 0, .slice none 0 0] := (blk_otherF HO.out (by omega)).drew9
        have hkv2 : (ansF w W4 (.int .i64 0) (.int .i64 0) (.slice none 0 0) (.slice none 0 0) (.slice none 0 0) (.slice none 0 0)).drew.cell? ⟨(ad.add (q * 3)).block, (ad.add (q * 3)).off + 2, none⟩ = some (.int .i64 ps) := cell_ansF9 k2 (by show (ad.add (q * 3)).block ≠ _; exact hadne)
        unfold ansF at hov hkv2
        unfold ansF at v0 v1 v2 v3 v4 v5 HBV HKV
        clear hyv hbv hkv
        go_wp2_with (fail)
        refine Free.region_seq [7] [0, 5] 10 (fun W' => W'.cell? ⟨w.heap.size + 2, 0, none⟩ = some (.int .i64 0) ∧ W'.cell? ⟨w.heap.size + 2, 1, none⟩ = some (.int .i64 0) ∧ W'.cell? ⟨w.heap.size + 2, 2, none⟩ = some (.slice none 0 0) ∧ W'.cell? ⟨w.heap.size + 2, 3, none⟩ = some (.slice none 0 0) ∧ W'.cell? ⟨w.heap.size + 2, 4, none⟩ = some (.slice none 0 0) ∧ W'.cell? ⟨w.heap.size + 2, 5, none⟩ = some (.slice none 0 0) ∧ W'.cell? ⟨(ad.add (q * 3)).block, (ad.add (q * 3)).off + 2, none⟩ = some (.int .i64 ps)) (by kernel_rfl) (by kernel_rfl) (by kernel_rfl) (by kernel_rfl) (⟨n0, n1, n2, n3, n4, n5, k2⟩) (fun ops hops => ?_)
        clear hops
        iterate 7
          refine Free.Seq.quiet (v := ?_) (a' := ?_) rfl rfl (fun W' hW' => ?_) ?_ ?_
          rotate_left 2
          · first | obtain ⟨s0, s1, s2, s3, s4, s5, s6⟩ := hW' rfl | skip
            go_simp
            try with_reducible rfl
          · simp only [Act.put, List.setIfInBounds_toArray, List.set_cons_zero, List.set_cons_succ]
            try with_reducible rfl
        refine Free.Seq.loud_ rfl (.inl rfl) (fun K hK => ?_)
        go_simp
        refine hK.out _ _ rfl (fun _ => ⟨hov.cell 0, hov.cell 1, hov.cell 2, hov.cell 3, hov.cell 4, hov.cell 5, hkv2⟩) ?_
        clear hK K
        iterate 2
          refine Free.Seq.quiet (v := ?_) (a' := ?_) rfl rfl (fun W' hW' => ?_) ?_ ?_
          rotate_left 2
          · skip
            go_simp
            try with_reducible rfl
          · simp only [Act.put, List.setIfInBounds_toArray, List.set_cons_zero, List.set_cons_succ]
            try with_reducible rfl
        refine Free.Seq.nil_ ?_
        go_wp2
        refine bodyPost_ret (v := .tuple #[.agg #[.int .i64 0, .int .i64 0, .slice none 0 0, .slice none 0 0, .slice none 0 0, .slice none 0 0], .int .i64 ps, .int .i64 (e2 : Nat)]) (by simp [results, Tryz.results59, go_sem, v0, v1, v2, v3, v4, v5]) rfl ?_
        exact ⟨0, 0, none, 0, 0, none, 0, 0, none, 0, 0, none, 0, 0, rfl, HKV.out, HBV.out⟩
    · have hz1 : ((er : Int) != 0) = true := by rw [bne_iff_ne]; omega
      have hpl : St.parseL names up.length (l, a9, er) = (St.zero, (a9 : Int), er) := by unfold St.parseL; rw [if_neg her]
      rw [hpl]
      clear hpl her
      go_enter Tryz.func59, Tryz.ntmps59
      go_wp2_with (go_at_call 27; refine HCH.out.mono ?_)
      rintro e w1 ⟨rfl, hb1⟩
      have HP1 := Lib.hid (HP0.out.below hb1 HP0.out.lt)
      have HY1 := Lib.hid (HY0.out.below hb1 HY0.out.lt)
      have HO1 := Lib.hid (HO0.out.below hb1 HO0.out.lt)
      have HB1 := Lib.hid (HB0.out.trans (hb1.mono HB0.out.size))
      clear hb1
      have HC2 := Lib.hid (HLX.out w1)
      go_wp2_with (fail)
      refine HC2.out.mono ?_
      rintro e w2 ⟨v2, rfl, htk, hb2⟩
      have HY := Lib.hid (HY1.out.below hb2 HY1.out.lt)
      have ho2 := HO1.out.below hb2 HO1.out.lt
      have HB := Lib.hid (HB1.out.trans (hb2.mono HB1.out.size))
      have n0 : w2.cell? ⟨w.heap.size + 2, 0, none⟩ = some (.int .i64 0) := ho2.cell 0
      have n1 : w2.cell? ⟨w.heap.size + 2, 1, none⟩ = some (.int .i64 0) := ho2.cell 1
      have n2 : w2.cell? ⟨w.heap.size + 2, 2, none⟩ = some (.slice none 0 0) := ho2.cell 2
      have n3 : w2.cell? ⟨w.heap.size + 2, 3, none⟩ = some (.slice none 0 0) := ho2.cell 3
      have n4 : w2.cell? ⟨w.heap.size + 2, 4, none⟩ = some (.slice none 0 0) := ho2.cell 4
      have n5 : w2.cell? ⟨w.heap.size + 2, 5, none⟩ = some (.slice none 0 0) := ho2.cell 5
      have holt := ho2.lt
      clear hb2 ho2 HY1 HO1 HB1 htk
      have hyv : Blk (ansF w w2 (.int .i64 0) (.int .i64 0) (.slice none 0 0) (.slice none 0 0) (.slice none 0 0) (.slice none 0 0)) (w.heap.size + 1) 42 #[.int .i64 0, .int .i64 0, .slice none 0 0, .slice none 0 0, .slice none 0 0, .slice none 0 0] := (blk_ansF HY.out)
      have hbv : Below w.heap.size w (ansF w w2 (.int .i64 0) (.int .i64 0) (.slice none 0 0) (.slice none 0 0) (.slice none 0 0) (.slice none 0 0)) := (below_ansF HB.out)
      have y0 : w2.cell? ⟨w.heap.size + 1, 0, none⟩ = some (.int .i64 0) := HY.out.cell 0
      have f0 : w2.frozen? ⟨w.heap.size + 1, 0, none⟩ = false := HY.out.frozen 0
      have v0 := hyv.cell 0
      have y1 : w2.cell? ⟨w.heap.size + 1, 1, none⟩ = some (.int .i64 0) := HY.out.cell 1
      have f1 : w2.frozen? ⟨w.heap.size + 1, 1, none⟩ = false := HY.out.frozen 1
      have v1 := hyv.cell 1
      have y2 : w2.cell? ⟨w.heap.size + 1, 2, none⟩ = some (.slice none 0 0) := HY.out.cell 2
      have f2 : w2.frozen? ⟨w.heap.size + 1, 2, none⟩ = false := HY.out.frozen 2
      have v2 := hyv.cell 2
      have y3 : w2.cell? ⟨w.heap.size + 1, 3, none⟩ = some (.slice none 0 0) := HY.out.cell 3
      have f3 : w2.frozen? ⟨w.heap.size + 1, 3, none⟩ = false := HY.out.frozen 3
      have v3 := hyv.cell 3
      have y4 : w2.cell? ⟨w.heap.size + 1, 4, none⟩ = some (.slice none 0 0) := HY.out.cell 4
      have f4 : w2.frozen? ⟨w.heap.size + 1, 4, none⟩ = false := HY.out.frozen 4
      have v4 := hyv.cell 4
      have y5 : w2.cell? ⟨w.heap.size + 1, 5, none⟩ = some (.slice none 0 0) := HY.out.cell 5
      have f5 : w2.frozen? ⟨w.heap.size + 1, 5, none⟩ = false := HY.out.frozen 5
      have v5 := hyv.cell 5
      have hkv : KSt w.heap.size (ansF w w2 (.int .i64 0) (.int .i64 0) (.slice none 0 0) (.slice none 0 0) (.slice none 0 0) (.slice none 0 0)) (.agg #[.int .i64 0, .int .i64 0, .slice none 0 0, .slice none 0 0, .slice none 0 0, .slice none 0 0]) St.zero := KSt.zero _ _
      have HBV := Lib.hid hbv
      have HKV := Lib.hid hkv
      have hylt := HY.out.lt
      unfold ansF at v0 v1 v2 v3 v4 v5 HBV HKV
      clear hyv hbv hkv
      go_wp2
      refine bodyPost_ret (v := .tuple #[.agg #[.int .i64 0, .int .i64 0, .slice none 0 0, .slice none 0 0, .slice none 0 0, .slice none 0 0], .int .i64 (a9 : Int), .int .i64 (er : Nat)]) (by simp [results, Tryz.results59, go_sem, v0, v1, v2, v3, v4, v5]) rfl ?_
      exact ⟨0, 0, none, 0, 0, none, 0, 0, none, 0, 0, none, 0, 0, rfl, HKV.out, HBV.out⟩
  · have hp : St.parse names up s.data.toList = (St.zero, 0, n) := by unfold St.parse; rw [hn, if_neg hz]
    rw [hp]
    have hz1 : ((n : Int) != 0) = true := by rw [bne_iff_ne]; omega
    clear h hi hN hU hp0 hy0 ho0 hb0 hch hn hp hz
    go_enter Tryz.func59, Tryz.ntmps59
    go_wp2_with (go_at_call 27; refine HCH.out.mono ?_)
    rintro e w1 ⟨rfl, hb1⟩
    have HP1 := Lib.hid (HP0.out.below hb1 HP0.out.lt)
    have HY1 := Lib.hid (HY0.out.below hb1 HY0.out.lt)
    have HO1 := Lib.hid (HO0.out.below hb1 HO0.out.lt)
    have HB1 := Lib.hid (HB0.out.trans (hb1.mono HB0.out.size))
    clear hb1
    have HY := HY1
    have HB := HB1
    have n0 : w1.cell? ⟨w.heap.size + 2, 0, none⟩ = some (.int .i64 0) := HO1.out.cell 0
    have n1 : w1.cell? ⟨w.heap.size + 2, 1, none⟩ = some (.int .i64 0) := HO1.out.cell 1
    have n2 : w1.cell? ⟨w.heap.size + 2, 2, none⟩ = some (.slice none 0 0) := HO1.out.cell 2
    have n3 : w1.cell? ⟨w.heap.size + 2, 3, none⟩ = some (.slice none 0 0) := HO1.out.cell 3
    have n4 : w1.cell? ⟨w.heap.size + 2, 4, none⟩ = some (.slice none 0 0) := HO1.out.cell 4
    have n5 : w1.cell? ⟨w.heap.size + 2, 5, none⟩ = some (.slice none 0 0) := HO1.out.cell 5
    have holt := HO1.out.lt
    clear HY1 HB1
    have hyv : Blk (ansF w w1 (.int .i64 0) (.int .i64 0) (.slice none 0 0) (.slice none 0 0) (.slice none 0 0) (.slice none 0 0)) (w.heap.size + 1) 42 #[.int .i64 0, .int .i64 0, .slice none 0 0, .slice none 0 0, .slice none 0 0, .slice none 0 0] := (blk_ansF HY.out)
    have hbv : Below w.heap.size w (ansF w w1 (.int .i64 0) (.int .i64 0) (.slice none 0 0) (.slice none 0 0) (.slice none 0 0) (.slice none 0 0)) := (below_ansF HB.out)
    have y0 : w1.cell? ⟨w.heap.size + 1, 0, none⟩ = some (.int .i64 0) := HY.out.cell 0
    have f0 : w1.frozen? ⟨w.heap.size + 1, 0, none⟩ = false := HY.out.frozen 0
    have v0 := hyv.cell 0
    have y1 : w1.cell? ⟨w.heap.size + 1, 1, none⟩ = some (.int .i64 0) := HY.out.cell 1
    have f1 : w1.frozen? ⟨w.heap.size + 1, 1, none⟩ = false := HY.out.frozen 1
    have v1 := hyv.cell 1
    have y2 : w1.cell? ⟨w.heap.size + 1, 2, none⟩ = some (.slice none 0 0) := HY.out.cell 2
    have f2 : w1.frozen? ⟨w.heap.size + 1, 2, none⟩ = false := HY.out.frozen 2
    have v2 := hyv.cell 2
    have y3 : w1.cell? ⟨w.heap.size + 1, 3, none⟩ = some (.slice none 0 0) := HY.out.cell 3
    have f3 : w1.frozen? ⟨w.heap.size + 1, 3, none⟩ = false := HY.out.frozen 3
    have v3 := hyv.cell 3
    have y4 : w1.cell? ⟨w.heap.size + 1, 4, none⟩ = some (.slice none 0 0) := HY.out.cell 4
    have f4 : w1.frozen? ⟨w.heap.size + 1, 4, none⟩ = false := HY.out.frozen 4
    have v4 := hyv.cell 4
    have y5 : w1.cell? ⟨w.heap.size + 1, 5, none⟩ = some (.slice none 0 0) := HY.out.cell 5
    have f5 : w1.frozen? ⟨w.heap.size + 1, 5, none⟩ = false := HY.out.frozen 5
    have v5 := hyv.cell 5
    have hkv : KSt w.heap.size (ansF w w1 (.int .i64 0) (.int .i64 0) (.slice none 0 0) (.slice none 0 0) (.slice none 0 0) (.slice none 0 0)) (.agg #[.int .i64 0, .int .i64 0, .slice none 0 0, .slice none 0 0, .slice none 0 0, .slice none 0 0]) St.zero := KSt.zero _ _
    have HBV := Lib.hid hbv
    have HKV := Lib.hid hkv
    have hylt := HY.out.lt
    unfold ansF at v0 v1 v2 v3 v4 v5 HBV HKV
    clear hyv hbv hkv
    go_wp2
    refine bodyPost_ret (v := .tuple #[.agg #[.int .i64 0, .int .i64 0, .slice none 0 0, .slice none 0 0, .slice none 0 0, .slice none 0 0], .int .i64 0, .int .i64 (n : Nat)]) (by simp [results, Tryz.results59, go_sem, v0, v1, v2, v3, v4, v5]) rfl ?_
    exact ⟨0, 0, none, 0, 0, none, 0, 0, none, 0, 0, none, 0, 0, rfl, HKV.out, HBV.out⟩
set_option maxHeartbeats 4000000 in
theorem sparse_any {v : Value} {names : List ByteArray} {up : List Nat} (s : ByteArray) (hs : s.size ≤ maxLen) (w : World) (h : IsLat w w.heap.size v names up) (hi : Ins w) :
    Calls Tryz.prog 25 #[v, .string s] w (SPRes w (St.parse names up s.data.toList)) := by
  obtain ⟨⟨N, U, c1, c2, rfl, hN, hU⟩, hsh, hfew, hcaps⟩ := id h
  have hb0 := (((Below.refl _ w).alloc (Nat.le_refl _) (.cells #[.slice N names.length c1, .slice U up.length c2] 25)).alloc (by simp) (.cells #[.int .i64 0, .int .i64 0, .slice none 0 0, .slice none 0 0, .slice none 0 0, .slice none 0 0] 42))
  obtain ⟨W0, hW0⟩ : ∃ W0, (w.alloc (.cells #[.slice N names.length c1, .slice U up.length c2] 25)).alloc (.cells #[.int .i64 0, .int .i64 0, .slice none 0 0, .slice none 0 0, .slice none 0 0, .slice none 0 0] 42) = W0 := ⟨_, rfl⟩
  have hp0 : Blk W0 w.heap.size 25 #[.slice N names.length c1, .slice U up.length c2] := hW0 ▸ (Blk.new _ _ _).alloc _
  have hy0 : Blk W0 (w.heap.size + 1) 42 #[.int .i64 0, .int .i64 0, .slice none 0 0, .slice none 0 0, .slice none 0 0, .slice none 0 0] := by
    have h1 := Blk.new (w.alloc (.cells #[.slice N names.length c1, .slice U up.length c2] 25)) 42 #[.int .i64 0, .int .i64 0, .slice none 0 0, .slice none 0 0, .slice none 0 0, .slice none 0 0]
    rw [show (w.alloc (.cells #[.slice N names.length c1, .slice U up.length c2] 25)).heap.size = w.heap.size + 1 by simp] at h1
    rw [← hW0]; exact h1
  have hsz0 : W0.heap.size = w.heap.size + 2 := by rw [← hW0]; simp
  rw [hW0] at hb0
  have a0 : W0.cell? ⟨w.heap.size, 0, none⟩ = some (.slice N names.length c1) := hp0.cell 0
  have a1 : W0.cell? ⟨w.heap.size, 1, none⟩ = some (.slice U up.length c2) := hp0.cell 1
  have HW := Lib.hid (swhole_any s hs W0 ((h.below hb0).more hb0.size) (hi.below hb0 hi.lt))
  have HB0 := Lib.hid hb0
  have HY0 := Lib.hid hy0
  obtain ⟨⟨st, ps, er⟩, hr⟩ : ∃ r, St.parse names up s.data.toList = r := ⟨_, rfl⟩
  rw [hr] at HW ⊢
  clear h hi hN hU hb0 hp0 hy0 hr
  go_enter Tryz.func25, Tryz.ntmps25
  go_wp2_with (fail)
  refine HW.out.mono ?_
  rintro e w1 ⟨a, b, cA, cn, cc, mA, mn, mc, sA, sn, sc, oA, on, oc, rfl, hks, hb1⟩
  have HB := Lib.hid (HB0.out.trans (hb1.mono HB0.out.size))
  have HY := Lib.hid (HY0.out.below hb1 HY0.out.lt)
  have HK := Lib.hid hks
  clear hks hb1 a0 a1
  have hyv : Blk (ansF w w1 (.int .i64 a) (.int .i64 b) (.slice cA cn cc) (.slice mA mn mc) (.slice sA sn sc) (.slice oA on oc)) (w.heap.size + 1) 42 #[.int .i64 a, .int .i64 b, .slice cA cn cc, .slice mA mn mc, .slice sA sn sc, .slice oA on oc] := (blk_ansF HY.out)
  have hbv : Below w.heap.size w (ansF w w1 (.int .i64 a) (.int .i64 b) (.slice cA cn cc) (.slice mA mn mc) (.slice sA sn sc) (.slice oA on oc)) := (below_ansF HB.out)
  have y0 : w1.cell? ⟨w.heap.size + 1, 0, none⟩ = some (.int .i64 0) := HY.out.cell 0
  have f0 : w1.frozen? ⟨w.heap.size + 1, 0, none⟩ = false := HY.out.frozen 0
  have v0 := hyv.cell 0
  have y1 : w1.cell? ⟨w.heap.size + 1, 1, none⟩ = some (.int .i64 0) := HY.out.cell 1
  have f1 : w1.frozen? ⟨w.heap.size + 1, 1, none⟩ = false := HY.out.frozen 1
  have v1 := hyv.cell 1
  have y2 : w1.cell? ⟨w.heap.size + 1, 2, none⟩ = some (.slice none 0 0) := HY.out.cell 2
  have f2 : w1.frozen? ⟨w.heap.size + 1, 2, none⟩ = false := HY.out.frozen 2
  have v2 := hyv.cell 2
  have y3 : w1.cell? ⟨w.heap.size + 1, 3, none⟩ = some (.slice none 0 0) := HY.out.cell 3
  have f3 : w1.frozen? ⟨w.heap.size + 1, 3, none⟩ = false := HY.out.frozen 3
  have v3 := hyv.cell 3
  have y4 : w1.cell? ⟨w.heap.size + 1, 4, none⟩ = some (.slice none 0 0) := HY.out.cell 4
  have f4 : w1.frozen? ⟨w.heap.size + 1, 4, none⟩ = false := HY.out.frozen 4
  have v4 := hyv.cell 4
  have y5 : w1.cell? ⟨w.heap.size + 1, 5, none⟩ = some (.slice none 0 0) := HY.out.cell 5
  have f5 : w1.frozen? ⟨w.heap.size + 1, 5, none⟩ = false := HY.out.frozen 5
  have v5 := hyv.cell 5
  have hkv : KSt w.heap.size (ansF w w1 (.int .i64 a) (.int .i64 b) (.slice cA cn cc) (.slice mA mn mc) (.slice sA sn sc) (.slice oA on oc)) (.agg #[.int .i64 a, .int .i64 b, .slice cA cn cc, .slice mA mn mc, .slice sA sn sc, .slice oA on oc]) st := (HK.out.ansF (show w.heap.size + 1 < W0.heap.size by omega) _ _ _ _ _ _).less (show w.heap.size ≤ W0.heap.size by omega)
  have HBV := Lib.hid hbv
  have HKV := Lib.hid hkv
  have hylt := HY.out.lt
  unfold ansF at v0 v1 v2 v3 v4 v5 HBV HKV
  clear hyv hbv hkv
  go_wp2
  refine bodyPost_ret (v := .tuple #[.agg #[.int .i64 a, .int .i64 b, .slice cA cn cc, .slice mA mn mc, .slice sA sn sc, .slice oA on oc], .int .i64 ps, .int .i64 (er : Nat)]) (by simp [results, Tryz.results25, go_sem, v0, v1, v2, v3, v4, v5]) rfl ?_
  exact ⟨a, b, cA, cn, cc, mA, mn, mc, sA, sn, sc, oA, on, oc, rfl, HKV.out, HBV.out⟩
end Go.Proofs.YtipbilmnknmhmaaGreatDoor
