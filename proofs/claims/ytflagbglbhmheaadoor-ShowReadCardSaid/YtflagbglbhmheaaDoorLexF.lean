/- The walk of tokens. -/
import Derived.Test.YtflagbglbhmheaaDoorLexE
namespace Go.Proofs.YtflagbglbhmheaaDoor
set_option maxRecDepth 100000
open Go.RowKit Go.Shelf

theorem Pieces.below {w w' : World} {B : Nat} {ad : Addr} (h : Pieces w B ad) (hb : Below B w w') : Pieces w' B ad := by
  obtain ⟨a, b1, b2, b3, c, d, la, lb1, lb2, lb3, lc, ld, ka, kb1, kb2, kb3, kc, kd, hrow⟩ := h
  exact ⟨a, b1, b2, b3, c, d, la, lb1, lb2, lb3, lc, ld, (hb.cell (p := ⟨a, 0, none⟩) la).trans ka, (hb.cell (p := ⟨b1, 0, none⟩) lb1).trans kb1, (hb.cell (p := ⟨b2, 0, none⟩) lb2).trans kb2, (hb.cell (p := ⟨b3, 0, none⟩) lb3).trans kb3, (hb.cell (p := ⟨c, 0, none⟩) lc).trans kc, (hb.cell (p := ⟨d, 0, none⟩) ld).trans kd, hrow.below hb⟩
theorem Pieces.more {w : World} {B B' : Nat} {ad : Addr} (h : Pieces w B ad) (hB : B ≤ B') : Pieces w B' ad := by
  obtain ⟨a, b1, b2, b3, c, d, la, lb1, lb2, lb3, lc, ld, ka, kb1, kb2, kb3, kc, kd, hrow⟩ := h
  exact ⟨a, b1, b2, b3, c, d, by omega, by omega, by omega, by omega, by omega, by omega, ka, kb1, kb2, kb3, kc, kd, hrow.more hB⟩

/-- What tokens' loop holds in memory. -/
def ToksIn (w1 : World) (v : Value) (l : List Lx.Tk) (wr : World) : Prop := wr.ownsRow w1.heap.size 58 3 v l.length (tcells l) ∧ Below w1.heap.size w1 wr
theorem ToksIn.step {w1 : World} {v v' : Value} {l : List Lx.Tk} {t : Lx.Tk} {wr w' : World} {o : Obj} (h : ToksIn w1 v l wr) (hown : w'.ownsRow w1.heap.size 58 3 v' (l.length + 1) (tcells l ++ [.int .i64 t.kind, .string t.text, .int .i64 t.pos]))
    (hg : (wr.alloc o).grownBy w' v.ownBlock) : ToksIn w1 v' (l ++ [t]) w' := by
  obtain ⟨h1, h2⟩ := h
  refine ⟨?_, ?_⟩
  · rw [tcells_snoc, List.length_append]; exact hown
  · have := h2.size
    exact (h2.alloc h2.size o).grown hg (by simp; omega) (fun k he => (h1.lt k he).1)
theorem toks_le (n : Nat) : ∀ (r : List UInt8) (k : Nat), (Lx.toks n r k).1.length ≤ n := by
  induction n with
  | zero => intro r k; simp [Lx.toks]
  | succ n ih =>
    intro r k
    have := ih (r.drop (Lx.first r).2) (k + (Lx.first r).2)
    unfold Lx.toks
    split
    · simp
    · split
      · simp
      · split
        · simp only; omega
        · simp only [List.length_cons]; omega
theorem ToksAt.len {s : List UInt8} {k : Nat} {l : List Lx.Tk} (h : ToksAt s k l) : l.length ≤ s.length := by
  obtain ⟨n, _, e⟩ := h
  have := toks_le s.length s 0
  rw [e] at this
  simp only [List.length_append] at this
  omega
theorem pack_extract (s : ByteArray) (k n : Nat) : s.extract k (k + n) = Lx.pack ((s.data.toList.drop k).take n) := by
  rw [Lib.extract_eq]
  unfold Lx.pack
  rw [Nat.add_sub_cancel_left]

set_option maxRecDepth 100000 in
set_option maxHeartbeats 4000000 in
theorem tokens_any (s : ByteArray) (w : World) (hsz : s.size ≤ 2000) :
    Calls Tryd.prog 21 #[.string s] w fun e w' => ∃ v, e = .returned (.tuple #[v, .int .i64 ((Lx.toks s.data.toList.length s.data.toList 0).2 : Nat)]) ∧ w'.ownsRow w.heap.size 58 3 v (Lx.toks s.data.toList.length s.data.toList 0).1.length (tcells (Lx.toks s.data.toList.length s.data.toList 0).1) ∧ Below w.heap.size w w' := by
  obtain ⟨i0, hi, hz0, hz1, hz2⟩ := info_parts Tryd.infoTok
  go_enter Tryd.func21, Tryd.ntmps21
  go_wp2_with (fail)
  refine (pieces_any w).mono ?_
  rintro e w1 ⟨ad, rfl, hP, hb1⟩
  have HP := Lib.hid hP
  have HB1 := Lib.hid hb1
  clear hP hb1
  go_wp2
  go_loopw [4, 6] (fun v i wr => ∃ (l : List Lx.Tk) (k : Nat), k ≤ s.size ∧ i = .int .i64 k ∧ Hid (ToksAt s.data.toList k l) ∧ Hid (ToksIn w1 v l wr)) (fun _ i _ => s.size - (intOf i).toNat)
  case atStart => exact ⟨[], 0, Nat.zero_le _, rfl, ToksAt.start _, World.ownsRow_nil _ _ _ _, Below.refl _ _⟩
  case round =>
    obtain ⟨l, k, hk, rfl, HT, HI⟩ := hrel
    by_cases hlt : k < s.size
    · obtain ⟨c0, r0, hdrop⟩ : ∃ c r, s.data.toList.drop k = c :: r := by
        cases e : s.data.toList.drop k with
        | nil => have := congrArg List.length e; simp at this; rw [Lib.size_eq] at hlt; simp at hlt; omega
        | cons c r => exact ⟨c, r, rfl⟩
      have he : (s.extract k s.size).data.toList = s.data.toList.drop k := by rw [Lib.extract_data, List.take_of_length_le (by rw [List.length_drop, Lib.size_eq]; exact Nat.le_refl _)]
      have hcall := first_any (s.extract k s.size) c0 r0 ad wr (by rw [he, hdrop]) (by rw [Lib.size_eq, he, List.length_drop, ← Lib.size_eq]; omega) ((HP.out.below HI.out.2).more HI.out.2.size)
      rw [he] at hcall
      have hle := Lx.first_le (s.data.toList.drop k)
      rw [List.length_drop, ← Lib.size_eq] at hle
      obtain ⟨kd, n, hf⟩ : ∃ kd n, Lx.first (s.data.toList.drop k) = (kd, n) := ⟨_, _, rfl⟩
      rw [hf] at hcall hle
      have HF := Lib.hid hf
      have HC := Lib.hid hcall
      dsimp only at hle
      clear hcall hf he hdrop
      by_cases hn0 : n = 0
      · subst hn0
        go_wp2_with (fail)
        refine HC.out.mono ?_
        rintro e w2 ⟨rfl, hb2⟩
        have HB2 := Lib.hid hb2
        clear hb2
        go_wp2
        go_ret2
        have hfin := HT.out.bad (by rw [HF.out])
        rw [hfin]
        exact ⟨_, rfl, ownT_mono (ownT_below HI.out.1 HB2.out) HB1.out.size, (HB1.out.trans (HI.out.2.mono HB1.out.size)).trans (HB2.out.mono (by have := HB1.out.size; have := HI.out.2.size; omega))⟩
      · have hn1 : ((n : Int) == 0) = false := by rw [beq_eq_false_iff_ne]; omega
        by_cases hkd : kd = -1
        · subst hkd
          go_wp2_with (fail)
          refine HC.out.mono ?_
          rintro e w2 ⟨rfl, hb2⟩
          have HB2 := Lib.hid hb2
          clear hb2
          go_wp2
          go_roundw
          case rel => exact ⟨l, k + n, by omega, by go_num, by have := HT.out.skip (by rw [← Lib.size_eq]; exact hlt) (by rw [HF.out]; exact hn0) (by rw [HF.out]); rw [HF.out] at this; exact this, ownT_below HI.out.1 HB2.out, HI.out.2.trans (HB2.out.mono HI.out.2.size)⟩
          case measure => simp [intOf]; omega
        · have hk1 : (kd != -1) = true := by rw [bne_iff_ne]; exact hkd
          have HKD := Lib.hid hkd
          clear hkd
          go_wp2_with (fail)
          refine HC.out.mono ?_
          rintro e w2 ⟨rfl, hb2⟩
          have HI2 : Hid (ToksIn w1 _ l w2) := ⟨ownT_below HI.out.1 hb2, HI.out.2.trans (hb2.mono HI.out.2.size)⟩
          have hown := HI2.out.1
          have hsz2 := HI2.out.2.size
          have hlen := HT.out.len
          rw [← Lib.size_eq] at hlen
          have hsl : ∀ W : World, (Instr.slice 9 (.string s) (some (.int .i64 (k : Int))) (some (.int .i64 ((k : Int) + (n : Int)))) none).run Tryd.prog W = .ok (.string (s.extract k (k + n))) W := fun W => by
            have h := run_slice_string (P := Tryd.prog) (w := W) 9 s .i64 .i64 (k : Int) ((k : Int) + (n : Int)) Tryd.underlying9 (by omega) (by omega) (by omega)
            rw [h, show ((k : Int) + (n : Int)).toNat = k + n by omega, Int.toNat_natCast]
          clear hb2
          go_wp2_with (at_builtin; refine wpList_append_own _ rfl _ _ 29 rfl w1.heap.size 58 i0 (.agg #[.int .i64 0, .string ByteArray.empty, .int .i64 0]) 3 32 Tryd.underlying29 hi hz0 hz1 hz2 rfl (by decide) _ _ _ rfl (hown.alloc _) ⟨w2.heap.size, 0, none⟩ 1 1 [.int .i64 kd, .string (s.extract k (k + n)), .int .i64 (k : Int)] rfl rfl ?c1 ?c2 ?c3 ?c4 ?c5 ?_)
          case c1 => exact cells_new _ _ _
          case c2 => simp [Value.oneCell']
          case c3 => unfold maxLen; omega
          case c4 => omega
          case c5 => simp; omega
          intro v' w' hown' hgrow _
          have hst := HI2.out.step (t := ⟨kd, s.extract k (k + n), k⟩) hown' hgrow
          have HST := Lib.hid hst
          clear hst hown' hgrow hown
          go_wp2
          go_roundw
          case rel => exact ⟨l ++ [(⟨kd, s.extract k (k + n), (k : Int)⟩ : Lx.Tk)], k + n, by omega, by go_num, by have := HT.out.take (by rw [← Lib.size_eq]; exact hlt) (by rw [HF.out]; exact hn0) (by rw [HF.out]; exact HKD.out); rw [HF.out] at this; rw [pack_extract]; exact this, HST⟩
          case measure => simp [intOf]; omega
    · obtain rfl : k = s.size := by omega
      go_wp2
      go_ret2
      have hfin := HT.out.fin (by rw [← Lib.size_eq]; exact Nat.le_refl _)
      rw [hfin]
      exact ⟨_, rfl, ownT_mono HI.out.1 HB1.out.size, HB1.out.trans (HI.out.2.mono HB1.out.size)⟩
end Go.Proofs.YtflagbglbhmheaaDoor
