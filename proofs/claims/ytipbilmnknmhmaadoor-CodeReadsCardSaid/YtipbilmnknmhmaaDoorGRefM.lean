/- Walks of the reference's mark, kind, end. -/
import Derived.Handy
import Derived.Test.YtipbilmnknmhmaaDoorGLexD
import Derived.Test.YtipbilmnknmhmaaDoorGRulB
namespace Go.Proofs.YtipbilmnknmhmaaDoor
set_option maxRecDepth 100000
open Go.RowKit Go.Shelf

theorem marks_byte (k : Nat) (hk : k < 12) : ∃ m : UInt8, Lx.marks[k]? = some m := ⟨_, List.getElem?_eq_getElem (by exact hk)⟩
def markCells : List Value := Lx.marks.map fun m => .int .u8 (m.toNat : Int)
set_option maxHeartbeats 2000000 in
theorem rMark_any (c : UInt8) (w : World) : Calls Tryd.prog 55 #[.int .u8 (c.toNat : Int)] w (Tells w (Lx.marks.contains c)) := by
  have hb : Blk (w.alloc (.cells #[.int .u8 40, .int .u8 41, .int .u8 91, .int .u8 93, .int .u8 59, .int .u8 58, .int .u8 44, .int .u8 60, .int .u8 62, .int .u8 64, .int .u8 45, .int .u8 61] 5)) w.heap.size 5 #[.int .u8 40, .int .u8 41, .int .u8 91, .int .u8 93, .int .u8 59, .int .u8 58, .int .u8 44, .int .u8 60, .int .u8 62, .int .u8 64, .int .u8 45, .int .u8 61] := Blk.new w _ _
  have HB := Lib.hid hb
  clear hb
  go_enter Tryd.func55, Tryd.ntmps55
  go_wp2
  go_loopw [7] (fun i wr => ∃ k : Nat, k ≤ 12 ∧ i = .int .i64 k ∧ Hid (∀ (j : Nat) (m : UInt8), j < k → Lx.marks[j]? = some m → c ≠ m) ∧ wr = w.alloc (.cells #[.int .u8 40, .int .u8 41, .int .u8 91, .int .u8 93, .int .u8 59, .int .u8 58, .int .u8 44, .int .u8 60, .int .u8 62, .int .u8 64, .int .u8 45, .int .u8 61] 5)) (fun i _ => 12 - (intOf i).toNat)
  case atStart => exact ⟨0, Nat.zero_le _, rfl, fun j m h => absurd h (Nat.not_lt_zero j), rfl⟩
  case round =>
    obtain ⟨k, hk, rfl, HK, rfl⟩ := hrel
    by_cases hlt : k < 12
    · obtain ⟨m, hm⟩ := marks_byte k hlt
      have hc : (w.alloc (.cells #[.int .u8 40, .int .u8 41, .int .u8 91, .int .u8 93, .int .u8 59, .int .u8 58, .int .u8 44, .int .u8 60, .int .u8 62, .int .u8 64, .int .u8 45, .int .u8 61] 5)).cell? ⟨w.heap.size, k, none⟩ = some (.int .u8 (m.toNat : Int)) := by
        rw [HB.out.cell]
        have e2 : (#[.int .u8 40, .int .u8 41, .int .u8 91, .int .u8 93, .int .u8 59, .int .u8 58, .int .u8 44, .int .u8 60, .int .u8 62, .int .u8 64, .int .u8 45, .int .u8 61] : Array Value) = markCells.toArray := rfl
        rw [e2, List.getElem?_toArray]
        unfold markCells
        rw [List.getElem?_map, hm]
        rfl
      have HM := Lib.hid hm
      have HWA : Hid (Below w.heap.size w (w.alloc (.cells #[.int .u8 40, .int .u8 41, .int .u8 91, .int .u8 93, .int .u8 59, .int .u8 58, .int .u8 44, .int .u8 60, .int .u8 62, .int .u8 64, .int .u8 45, .int .u8 61] 5))) := (Below.refl _ w).alloc (Nat.le_refl _) _
      clear hm
      generalize hW : w.alloc (.cells #[.int .u8 40, .int .u8 41, .int .u8 91, .int .u8 93, .int .u8 59, .int .u8 58, .int .u8 44, .int .u8 60, .int .u8 62, .int .u8 64, .int .u8 45, .int .u8 61] 5) = W at *
      by_cases he : c = m
      · subst he
        go_wp2
        go_ret
        refine ⟨retb ?_, HWA.out⟩
        have hin := List.mem_of_getElem? HM.out
        have hcon : Lx.marks.contains c = true := by simpa using hin
        rw [hcon]
      · have hne : ((c.toNat : Int) == (m.toNat : Int)) = false := by
          rw [beq_eq_false_iff_ne]
          intro e
          exact he (UInt8.toNat_inj.1 (by omega))
        have HE := Lib.hid he
        clear he
        go_wp2
        go_roundw
        case rel => exact ⟨k + 1, by omega, by go_num, fun j m' hj e => by
          rcases Nat.lt_or_eq_of_le (Nat.le_of_lt_succ hj) with h | rfl
          · exact HK.out j m' h e
          · rw [HM.out] at e; injection e with e; subst e; exact HE.out, trivial⟩
        case measure => simp [intOf]; omega
    · obtain rfl : k = 12 := by omega
      go_wp2
      go_ret
      refine ⟨retb ?_, (Below.refl _ w).alloc (Nat.le_refl _) _⟩
      have hno : c ∉ Lx.marks := fun hin => by
        obtain ⟨j, hj, e⟩ := List.getElem_of_mem hin
        exact HK.out j c hj (by rw [← e]; exact List.getElem?_eq_getElem hj) rfl
      have : Lx.marks.contains c = false := by
        cases e : Lx.marks.contains c with
        | false => rfl
        | true => exact absurd (by simpa using e) hno
      rw [this]
def kindR (c : UInt8) : Int := if Lx.letter c = true then 1 else if Lx.digit c = true then 2 else 3
theorem rKind_any (c : UInt8) (w : World) : Calls Tryd.prog 30 #[.int .u8 (c.toNat : Int)] w fun e w' => e = .returned (.int .i64 (kindR c)) ∧ w = w' := by
  have h1 := rLetter_any c
  have h2 := rDigit_any c
  unfold kindR
  cases hl : Lx.letter c
  · cases hd : Lx.digit c
    · rw [hl] at h1
      rw [hd] at h2
      have H1 := Lib.hid h1
      have H2 := Lib.hid h2
      clear h1 h2 hl hd
      go_enter Tryd.func30, Tryd.ntmps30
      go_wp2_with (fail)
      refine (H1.out _).mono ?_
      rintro e w1 ⟨rfl, rfl⟩
      go_wp2_with (fail)
      refine (H2.out _).mono ?_
      rintro e w1 ⟨rfl, rfl⟩
      go_wp2
      go_ret
      exact ⟨rfl, rfl⟩
    · rw [hl] at h1
      rw [hd] at h2
      have H1 := Lib.hid h1
      have H2 := Lib.hid h2
      clear h1 h2 hl hd
      go_enter Tryd.func30, Tryd.ntmps30
      go_wp2_with (fail)
      refine (H1.out _).mono ?_
      rintro e w1 ⟨rfl, rfl⟩
      go_wp2_with (fail)
      refine (H2.out _).mono ?_
      rintro e w1 ⟨rfl, rfl⟩
      go_wp2
      go_ret
      exact ⟨rfl, rfl⟩
  · rw [hl] at h1
    have H1 := Lib.hid h1
    clear h1 h2 hl
    go_enter Tryd.func30, Tryd.ntmps30
    go_wp2_with (fail)
    refine (H1.out _).mono ?_
    rintro e w1 ⟨rfl, rfl⟩
    go_wp2
    go_ret
    exact ⟨rfl, rfl⟩
theorem drop_byte (s : ByteArray) (i : Nat) (hi : i < s.size) : s.data.toList.drop i = s[i] :: s.data.toList.drop (i + 1) := by
  have h := bytes_at i hi
  obtain ⟨h1, h2⟩ := List.getElem?_eq_some_iff.1 h
  rw [List.drop_eq_getElem_cons h1, h2]
def endN (r : List UInt8) : Nat :=
  match r with
  | [] => 0
  | c :: r => if Lx.letter c = true then Lx.run Lx.letter (c :: r) else if Lx.digit c = true then Lx.run Lx.digit (c :: r) else Lx.mark (c :: r)
theorem drop_get (s : ByteArray) (i k : Nat) (hik : i ≤ k) (hk : k < s.size) : (s.data.toList.drop i)[k - i]? = some s[k] := by
  rw [List.getElem?_drop, show i + (k - i) = k by omega]
  exact bytes_at k hk
set_option maxHeartbeats 4000000 in
theorem rEnd_letter (s : ByteArray) (i : Nat) (hi : i < s.size) (hs : s.size ≤ 1000000) (hl : Lx.letter s[i] = true) (w : World) : Calls Tryd.prog 29 #[.string s, .int .i64 i] w fun e w' => e = .returned (.int .i64 ((i + Lx.run Lx.letter (s.data.toList.drop i) : Nat) : Int)) ∧ w = w' := by
  have h1 := rLetter_any s[i]
  rw [hl] at h1
  have H1 := Lib.hid h1
  have hii : (i : Int) < (s.size : Int) := by omega
  clear h1 hl
  go_enter Tryd.func29, Tryd.ntmps29
  go_wp2_with (fail)
  refine (H1.out _).mono ?_
  rintro e w1 ⟨rfl, rfl⟩
  go_wp2
  go_loopw [5] (fun v wr => ∃ k : Nat, i ≤ k ∧ k ≤ s.size ∧ v = .int .i64 k ∧ wr = w ∧ Hid (∀ j c, j < k - i → (s.data.toList.drop i)[j]? = some c → Lx.letter c = true)) (fun v _ => s.size - (intOf v).toNat)
  case atStart => exact ⟨i, Nat.le_refl _, by omega, rfl, rfl, fun j c h => absurd h (by omega)⟩
  case round =>
    obtain ⟨k, hik, hk, rfl, rfl, HK⟩ := hrel
    have hfin : ∀ c, (s.data.toList.drop i)[k - i]? = some c → k < s.size := fun c e => by
      have := (List.getElem?_eq_some_iff.1 e).1
      rw [List.length_drop, ← Lib.size_eq] at this
      omega
    by_cases hlt : k < s.size
    · have hkk : (k : Int) < (s.size : Int) := by omega
      have h2 := rLetter_any s[k]
      have hg := drop_get s i k hik hlt
      cases hk2 : Lx.letter s[k]
      · rw [hk2] at h2
        have H2 := Lib.hid h2
        have HG := Lib.hid (run_at (s.data.toList.drop i) (k - i) HK.out (by rw [List.length_drop, ← Lib.size_eq]; omega) (fun c e => by rw [hg] at e; injection e with e; rw [← e]; exact hk2))
        clear h2 hg hk2 hfin
        go_wp2_with (fail)
        refine (H2.out _).mono ?_
        rintro e w1 ⟨rfl, rfl⟩
        go_wp2
        go_ret
        exact ⟨reti (by rw [HG.out]; omega), rfl⟩
      · rw [hk2] at h2
        have H2 := Lib.hid h2
        have HG := Lib.hid hg
        have HL := Lib.hid hk2
        clear h2 hg hk2 hfin
        go_wp2_with (fail)
        refine (H2.out _).mono ?_
        rintro e w1 ⟨rfl, rfl⟩
        go_wp2
        go_roundw
        case rel => exact ⟨k + 1, by omega, by omega, by go_num, trivial, fun j c hj e => by
          rcases Nat.lt_or_eq_of_le (show j ≤ k - i by omega) with h | rfl
          · exact HK.out j c h e
          · rw [HG.out] at e; injection e with e; rw [← e]; exact HL.out⟩
        case measure => simp [intOf]; omega
    · have hkk : decide ((k : Int) < (s.size : Int)) = false := by rw [decide_eq_false_iff_not]; omega
      have HG := Lib.hid (run_at (s.data.toList.drop i) (k - i) HK.out (by rw [List.length_drop, ← Lib.size_eq]; omega) (fun c e => absurd (hfin c e) hlt))
      clear hfin
      go_wp2
      go_ret
      exact ⟨reti (by rw [HG.out]; omega), rfl⟩
set_option maxHeartbeats 4000000 in
theorem rEnd_digit (s : ByteArray) (i : Nat) (hi : i < s.size) (hs : s.size ≤ 1000000) (hl0 : Lx.letter s[i] = false) (hl : Lx.digit s[i] = true) (w : World) : Calls Tryd.prog 29 #[.string s, .int .i64 i] w fun e w' => e = .returned (.int .i64 ((i + Lx.run Lx.digit (s.data.toList.drop i) : Nat) : Int)) ∧ w = w' := by
  have h0 := rLetter_any s[i]
  rw [hl0] at h0
  have H0 := Lib.hid h0
  have h1 := rDigit_any s[i]
  rw [hl] at h1
  have H1 := Lib.hid h1
  have hii : (i : Int) < (s.size : Int) := by omega
  clear h1 hl h0 hl0
  go_enter Tryd.func29, Tryd.ntmps29
  go_wp2_with (fail)
  refine (H0.out _).mono ?_
  rintro e w1 ⟨rfl, rfl⟩
  go_wp2_with (fail)
  refine (H1.out _).mono ?_
  rintro e w1 ⟨rfl, rfl⟩
  go_wp2
  go_loopw [5] (fun v wr => ∃ k : Nat, i ≤ k ∧ k ≤ s.size ∧ v = .int .i64 k ∧ wr = w ∧ Hid (∀ j c, j < k - i → (s.data.toList.drop i)[j]? = some c → Lx.digit c = true)) (fun v _ => s.size - (intOf v).toNat)
  case atStart => exact ⟨i, Nat.le_refl _, by omega, rfl, rfl, fun j c h => absurd h (by omega)⟩
  case round =>
    obtain ⟨k, hik, hk, rfl, rfl, HK⟩ := hrel
    have hfin : ∀ c, (s.data.toList.drop i)[k - i]? = some c → k < s.size := fun c e => by
      have := (List.getElem?_eq_some_iff.1 e).1
      rw [List.length_drop, ← Lib.size_eq] at this
      omega
    by_cases hlt : k < s.size
    · have hkk : (k : Int) < (s.size : Int) := by omega
      have h2 := rDigit_any s[k]
      have hg := drop_get s i k hik hlt
      cases hk2 : Lx.digit s[k]
      · rw [hk2] at h2
        have H2 := Lib.hid h2
        have HG := Lib.hid (run_at (s.data.toList.drop i) (k - i) HK.out (by rw [List.length_drop, ← Lib.size_eq]; omega) (fun c e => by rw [hg] at e; injection e with e; rw [← e]; exact hk2))
        clear h2 hg hk2 hfin
        go_wp2_with (fail)
        refine (H2.out _).mono ?_
        rintro e w1 ⟨rfl, rfl⟩
        go_wp2
        go_ret
        exact ⟨reti (by rw [HG.out]; omega), rfl⟩
      · rw [hk2] at h2
        have H2 := Lib.hid h2
        have HG := Lib.hid hg
        have HL := Lib.hid hk2
        clear h2 hg hk2 hfin
        go_wp2_with (fail)
        refine (H2.out _).mono ?_
        rintro e w1 ⟨rfl, rfl⟩
        go_wp2
        go_roundw
        case rel => exact ⟨k + 1, by omega, by omega, by go_num, trivial, fun j c hj e => by
          rcases Nat.lt_or_eq_of_le (show j ≤ k - i by omega) with h | rfl
          · exact HK.out j c h e
          · rw [HG.out] at e; injection e with e; rw [← e]; exact HL.out⟩
        case measure => simp [intOf]; omega
    · have hkk : decide ((k : Int) < (s.size : Int)) = false := by rw [decide_eq_false_iff_not]; omega
      have HG := Lib.hid (run_at (s.data.toList.drop i) (k - i) HK.out (by rw [List.length_drop, ← Lib.size_eq]; omega) (fun c e => absurd (hfin c e) hlt))
      clear hfin
      go_wp2
      go_ret
      exact ⟨reti (by rw [HG.out]; omega), rfl⟩
end Go.Proofs.YtipbilmnknmhmaaDoor

/- Walks of the reference's end, at a mark, and at any byte. -/
namespace Go.Proofs.YtipbilmnknmhmaaDoor
set_option maxRecDepth 100000
open Go.RowKit Go.Shelf

set_option maxHeartbeats 4000000 in
theorem rEnd_mark (s : ByteArray) (i : Nat) (hi : i < s.size) (hs : s.size ≤ 1000000) (hl0 : Lx.letter s[i] = false) (hl1 : Lx.digit s[i] = false) (w : World) : Calls Tryd.prog 29 #[.string s, .int .i64 i] w fun e w' => e = .returned (.int .i64 ((i + Lx.mark (s.data.toList.drop i) : Nat) : Int)) ∧ Below w.heap.size w w' := by
  have h0 := rLetter_any s[i]
  rw [hl0] at h0
  have h1 := rDigit_any s[i]
  rw [hl1] at h1
  have hm := rMark_any s[i]
  have hdr := drop_byte s i hi
  have hii : (i : Int) < (s.size : Int) := by omega
  have H0 := Lib.hid h0
  have H1 := Lib.hid h1
  clear h0 hl0 h1 hl1
  by_cases hc : s[i] = 60
  · have hcn : ((s[i].toNat : Int) == 60) = true := by rw [hc]; rfl
    by_cases hlt : i + 1 < s.size
    · have hlt1 : (i : Int) + 1 < (s.size : Int) := by omega
      have hd2 := drop_byte s (i + 1) hlt
      by_cases he : s[i + 1] = 61
      · have hen : ((s[i + 1].toNat : Int) == 61) = true := by rw [he]; rfl
        have hmk : Lx.mark (s.data.toList.drop i) = 2 := by rw [hdr, hd2, Lx.mark_cons, if_pos ⟨hc, by rw [he]; rfl⟩]
        have HMK := Lib.hid hmk
        clear hmk hd2 he hc hdr hm
        go_enter Tryd.func29, Tryd.ntmps29
        go_wp2_with (fail)
        refine (H0.out _).mono ?_
        rintro e w1 ⟨rfl, rfl⟩
        go_wp2_with (fail)
        refine (H1.out _).mono ?_
        rintro e w1 ⟨rfl, rfl⟩
        go_wp2
        go_ret
        exact ⟨reti (by rw [HMK.out]; omega), Below.refl _ _⟩
      · have hen : ((s[i + 1].toNat : Int) == 61) = false := by
          rw [beq_eq_false_iff_ne]
          exact fun e => he (UInt8.toNat_inj.1 (by show s[i + 1].toNat = 61; omega))
        have hmk : Lx.mark (s.data.toList.drop i) = 1 := by
          rw [hdr, hd2, Lx.mark_cons, if_neg (fun h => he (by have := h.2; simpa using this)), if_pos (by rw [hc]; decide)]
        have hmm : Lx.marks.contains s[i] = true := by rw [hc]; decide
        rw [hmm] at hm
        have HM := Lib.hid hm
        have HMK := Lib.hid hmk
        clear hmk hd2 he hc hdr hm hmm
        go_enter Tryd.func29, Tryd.ntmps29
        go_wp2_with (fail)
        refine (H0.out _).mono ?_
        rintro e w1 ⟨rfl, rfl⟩
        go_wp2_with (fail)
        refine (H1.out _).mono ?_
        rintro e w1 ⟨rfl, rfl⟩
        go_wp2_with (fail)
        refine (HM.out _).mono ?_
        rintro e w1 ⟨rfl, hb1⟩
        have HB := Lib.hid hb1
        clear hb1
        go_wp2
        go_ret
        exact ⟨reti (by rw [HMK.out]; omega), HB.out⟩
    · have hlt1 : decide ((i : Int) + 1 < (s.size : Int)) = false := by rw [decide_eq_false_iff_not]; omega
      have hnil : s.data.toList.drop (i + 1) = [] := List.drop_eq_nil_of_le (by rw [← Lib.size_eq]; omega)
      have hmk : Lx.mark (s.data.toList.drop i) = 1 := by
        rw [hdr, hnil, Lx.mark_cons, if_neg (fun h => by have := h.2; cases this), if_pos (by rw [hc]; decide)]
      have hmm : Lx.marks.contains s[i] = true := by rw [hc]; decide
      rw [hmm] at hm
      have HM := Lib.hid hm
      have HMK := Lib.hid hmk
      clear hmk hc hdr hm hmm hnil
      go_enter Tryd.func29, Tryd.ntmps29
      go_wp2_with (fail)
      refine (H0.out _).mono ?_
      rintro e w1 ⟨rfl, rfl⟩
      go_wp2_with (fail)
      refine (H1.out _).mono ?_
      rintro e w1 ⟨rfl, rfl⟩
      go_wp2_with (fail)
      refine (HM.out _).mono ?_
      rintro e w1 ⟨rfl, hb1⟩
      have HB := Lib.hid hb1
      clear hb1
      go_wp2
      go_ret
      exact ⟨reti (by rw [HMK.out]; omega), HB.out⟩
  · have hcn : ((s[i].toNat : Int) == 60) = false := by
      rw [beq_eq_false_iff_ne]
      exact fun e => hc (UInt8.toNat_inj.1 (by show s[i].toNat = 60; omega))
    have hmk : Lx.mark (s.data.toList.drop i) = if Lx.marks.contains s[i] = true then 1 else 0 := by
      rw [hdr, Lx.mark_cons, if_neg (fun h => hc h.1)]
    cases hmm : Lx.marks.contains s[i]
    all_goals
      rw [hmm] at hm hmk
      have HM := Lib.hid hm
      have HMK := Lib.hid hmk
      clear hmk hc hdr hm hmm
      go_enter Tryd.func29, Tryd.ntmps29
      go_wp2_with (fail)
      refine (H0.out _).mono ?_
      rintro e w1 ⟨rfl, rfl⟩
      go_wp2_with (fail)
      refine (H1.out _).mono ?_
      rintro e w1 ⟨rfl, rfl⟩
      go_wp2_with (fail)
      refine (HM.out _).mono ?_
      rintro e w1 ⟨rfl, hb1⟩
      have HB := Lib.hid hb1
      clear hb1
      go_wp2
      go_ret
      refine ⟨reti ?_, HB.out⟩
      rw [HMK.out]
      simp
/-- Where the token that begins at a place ends. -/
theorem rEnd_any (s : ByteArray) (i : Nat) (hi : i < s.size) (hs : s.size ≤ 1000000) (w : World) : Calls Tryd.prog 29 #[.string s, .int .i64 i] w fun e w' => e = .returned (.int .i64 ((i + endN (s.data.toList.drop i) : Nat) : Int)) ∧ Below w.heap.size w w' := by
  have hdr := drop_byte s i hi
  unfold endN
  rw [hdr]
  dsimp only
  rw [← hdr]
  cases hl : Lx.letter s[i]
  · rw [if_neg (by decide)]
    cases hd : Lx.digit s[i]
    · rw [if_neg (by decide)]
      exact rEnd_mark s i hi hs hl hd w
    · rw [if_pos rfl]
      exact (rEnd_digit s i hi hs hl hd w).mono fun e w' h => ⟨h.1, h.2 ▸ Below.refl _ _⟩
  · rw [if_pos rfl]
    exact (rEnd_letter s i hi hs hl w).mono fun e w' h => ⟨h.1, h.2 ▸ Below.refl _ _⟩
end Go.Proofs.YtipbilmnknmhmaaDoor
