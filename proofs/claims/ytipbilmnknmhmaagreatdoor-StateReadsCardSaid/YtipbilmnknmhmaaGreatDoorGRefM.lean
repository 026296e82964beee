/- Walks of the reference's mark, kind, end. -/
import Derived.Handy
import Derived.Deep.RegionLaw
import Derived.Test.YtipbilmnknmhmaaGreatDoorGLexD
import Derived.Test.YtipbilmnknmhmaaGreatDoorGRulA
namespace Go.Proofs.YtipbilmnknmhmaaGreatDoor
set_option maxRecDepth 100000
open Go.RowKit Go.Shelf

theorem marks_byte (k : Nat) (hk : k < 12) : ∃ m : UInt8, Lx.marks[k]? = some m := ⟨_, List.getElem?_eq_getElem (by exact hk)⟩
def markCells : List Value := Lx.marks.map fun m => .int .u8 (m.toNat : Int)
set_option maxHeartbeats 2000000 in
theorem rMark_any (c : UInt8) (w : World) : Calls Tryz.prog 115 #[.int .u8 (c.toNat : Int)] w (Tells w (Lx.marks.contains c)) := by
  have hb : Blk (w.alloc (.cells #[.int .u8 40, .int .u8 41, .int .u8 91, .int .u8 93, .int .u8 59, .int .u8 58, .int .u8 44, .int .u8 60, .int .u8 62, .int .u8 64, .int .u8 45, .int .u8 61] 5)) w.heap.size 5 #[.int .u8 40, .int .u8 41, .int .u8 91, .int .u8 93, .int .u8 59, .int .u8 58, .int .u8 44, .int .u8 60, .int .u8 62, .int .u8 64, .int .u8 45, .int .u8 61] := Blk.new w _ _
  have HB := Lib.hid hb
  clear hb
  go_enter Tryz.func115, Tryz.ntmps115
  go_wp2
  go_loopw [7] (fun i wr => ∃ k : Nat, k ≤ 12 ∧ i = .int .i64 k ∧ Hid (∀ (j : Nat) (m : UInt8), j < k → Lx.marks[j]? = some m → c ≠ m) ∧ wr = w.alloc (.cells #[.int .u8 40, .int .u8 41, .int .u8 91, .int .u8 93, .int .u8 59, .int .u8 58, .int .u8 44, .int .u8 60, .int .u8 62, .int .u8 64, .int .u8 45, .int .u8 61] 5)) (fun i _ => 12 - (intOf i).toNat)
  case atStart => exact ⟨0, Nat.zero_le _, rfl, fun j m h => absurd h (Nat.not_lt_zero j), rfl⟩
  case round =>
    obtain ⟨k, hk, rfl, HK, rfl⟩ := hrel
    by_cases hlt : k < 12
    · obtain ⟨m, hm⟩ := marks_byte k hlt
      have hc : (w.alloc (.cells #[.int .u8 40, .int .u8 41, .int .u8 91, .int .u8 93, .int .u8 59, .int .u8 58, .int .u8 44, .int .u8 60, .int .u8 62, .int .u8 64, .int .u8 45, .int .u8 61] 5)).cell? ⟨w.heap.size, k, none⟩ = some (.int .u8 (m.toNat : Int)) := by
        rw [HB.out.cell]
        have e2 : (#[.int .u8 40, .int .u8 41, .int .u8 91, .int .u8 93, .int .u8 59, .int .u8 58, .int .u8 44, .int .u8 60, .int .u8 62, .int .u8 64, .int .u8 45, .int .u8 61] : Array Value) = markCells.toArray := rfl
        rw [e2, List.getElem?_toArray]
        unfold markCells
        rw [List.getElem?_map, hm]
        rfl
      have HM := Lib.hid hm
      have HWA : Hid (Below w.heap.size w (w.alloc (.cells #[.int .u8 40, .int .u8 41, .int .u8 91, .int .u8 93, .int .u8 59, .int .u8 58, .int .u8 44, .int .u8 60, .int .u8 62, .int .u8 64, .int .u8 45, .int .u8 61] 5))) := (Below.refl _ w).alloc (Nat.le_refl _) _
      clear hm
      generalize hW : w.alloc (.cells #[.int .u8 40, .int .u8 41, .int .u8 91, .int .u8 93, .int .u8 59, .int .u8 58, .int .u8 44, .int .u8 60, .int .u8 62, .int .u8 64, .int .u8 45, .int .u8 61] 5) = W at *
      by_cases he : c = m
      · subst he
        go_wp2
        go_ret
        refine ⟨retb ?_, HWA.out⟩
        have hin := List.mem_of_getElem? HM.out
        have hcon : Lx.marks.contains c = true := by simpa using hin
        rw [hcon]
      · have hne : ((c.toNat : Int) == (m.toNat : Int)) = false := by
          rw [beq_eq_false_iff_ne]
          intro e
          exact he (UInt8.toNat_inj.1 (by omega))
        have HE := Lib.hid he
        clear he
        go_wp2
        go_roundw
        case rel => exact ⟨k + 1, by omega, by go_num, fun j m' hj e => by
          rcases Nat.lt_or_eq_of_le (Nat.le_of_lt_succ hj) with h | rfl
          · exact HK.out j m' h e
          · rw [HM.out] at e; injection e with e; subst e; exact HE.out, trivial⟩
        case measure => simp [intOf]; omega
    · obtain rfl : k = 12 := by omega
      go_wp2
      go_ret
      refine ⟨retb ?_, (Below.refl _ w).alloc (Nat.le_refl _) _⟩
      have hno : c ∉ Lx.marks := fun hin => by
        obtain ⟨j, hj, e⟩ := List.getElem_of_mem hin
        exact HK.out j c hj (by rw [← e]; exact List.getElem?_eq_getElem hj) rfl
      have : Lx.marks.contains c = false := by
        cases e : Lx.marks.contains c with
        | false => rfl
        | true => exact absurd (by simpa using e) hno
      rw [this]
def kindR (c : UInt8) : Int := if Lx.letter c = true then 1 else if Lx.digit c = true then 2 else 3
theorem rKind_any (c : UInt8) (w : World) : Calls Tryz.prog 87 #[.int .u8 (c.toNat : Int)] w fun e w' => e = .returned (.int .i64 (kindR c)) ∧ w = w' := by
  have h1 := rLetter_any c
  have h2 := rDigit_any c
  unfold kindR
  cases hl : Lx.letter c
  · cases hd : Lx.digit c
    · rw [hl] at h1
      rw [hd] at h2
      have H1 := Lib.hid h1
      have H2 := Lib.hid h2
      clear h1 h2 hl hd
      go_enter Tryz.func87, Tryz.ntmps87
      go_wp2_with (fail)
      refine (H1.out _).mono ?_
      rintro e w1 ⟨rfl, rfl⟩
      go_wp2_with (fail)
      refine (H2.out _).mono ?_
      rintro e w1 ⟨rfl, rfl⟩
      go_wp2
      go_ret
      exact ⟨rfl, rfl⟩
    · rw [hl] at h1
      rw [hd] at h2
      have H1 := Lib.hid h1
      have H2 := Lib.hid h2
      clear h1 h2 hl hd
      go_enter Tryz.func87, Tryz.ntmps87
      go_wp2_with (fail)
      refine (H1.out _).mono ?_
      rintro e w1 ⟨rfl, rfl⟩
      go_wp2_with (fail)
      refine (H2.out _).mono ?_
      rintro e w1 ⟨rfl, rfl⟩
      go_wp2
      go_ret
      exact ⟨rfl, rfl⟩
  · rw [hl] at h1
    have H1 := Lib.hid h1
    clear h1 h2 hl
    go_enter Tryz.func87, Tryz.ntmps87
    go_wp2_with (fail)
    refine (H1.out _).mono ?_
    rintro e w1 ⟨rfl, rfl⟩
    go_wp2
    go_ret
    exact ⟨rfl, rfl⟩
theorem drop_byte (s : ByteArray) (i : Nat) (hi : i < s.size) : s.data.toList.drop i = s[i] :: s.data.toList.drop (i + 1) := by
  have h := bytes_at i hi
  obtain ⟨h1, h2⟩ := List.getElem?_eq_some_iff.1 h
  rw [List.drop_eq_getElem_cons h1, h2]
def endN (r : List UInt8) : Nat :=
  match r with
  | [] => 0
  | c :: r => if Lx.letter c = true then Lx.run Lx.letter (c :: r) else if Lx.digit c = true then Lx.run Lx.digit (c :: r) else Lx.mark (c :: r)
theorem drop_get (s : ByteArray) (i k : Nat) (hik : i ≤ k) (hk : k < s.size) : (s.data.toList.drop i)[k - i]? = some s[k] := by
  rw [List.getElem?_drop, show i + (k - i) = k by omega]
  exact bytes_at k hk
set_option maxHeartbeats 4000000 in
theorem rEnd_letter (s : ByteArray) (i : Nat) (hi : i < s.size) (hs : s.size ≤ 1000000) (hl : Lx.letter s[i] = true) (w : World) : Calls Tryz.prog 86 #[.string s, .int .i64 i] w fun e w' => e = .returned (.int .i64 ((i + Lx.run Lx.letter (s.data.toList.drop i) : Nat) : Int)) ∧ w = w' := by
  have h1 := rLetter_any s[i]
  rw [hl] at h1
  have H1 := Lib.hid h1
  have hii : (i : Int) < (s.size : Int) := by omega
  clear h1 hl
  go_enter Tryz.func86, Tryz.ntmps86
  go_wp2_with (fail)
  refine (H1.out _).mono ?_
  rintro e w1 ⟨rfl, rfl⟩
  go_wp2
  go_loopw [5] (fun v wr => ∃ k : Nat, i ≤ k ∧ k ≤ s.size ∧ v = .int .i64 k ∧ wr = w ∧ Hid (∀ j c, j < k - i → (s.data.toList.drop i)[j]? = some c → Lx.letter c = true)) (fun v _ => s.size - (intOf v).toNat)
  case atStart => exact ⟨i, Nat.le_refl _, by omega, rfl, rfl, fun j c h => absurd h (by omega)⟩
  case round =>
    obtain ⟨k, hik, hk, rfl, rfl, HK⟩ := hrel
    have hfin : ∀ c, (s.data.toList.drop i)[k - i]? = some c → k < s.size := fun c e => by
      have := (List.getElem?_eq_some_iff.1 e).1
      rw [List.length_drop, ← Lib.size_eq] at this
      omega
    by_cases hlt : k < s.size
    · have hkk : (k : Int) < (s.size : Int) := by omega
      have h2 := rLetter_any s[k]
      have hg := drop_get s i k hik hlt
      cases hk2 : Lx.letter s[k]
      · rw [hk2] at h2
        have H2 := Lib.hid h2
        have HG := Lib.hid (run_at (s.data.toList.drop i) (k - i) HK.out (by rw [List.length_drop, ← Lib.size_eq]; omega) (fun c e => by rw [hg] at e; injection e with e; rw [← e]; exact hk2))
        clear h2 hg hk2 hfin
        go_wp2_with (fail)
        refine (H2.out _).mono ?_
        rintro e w1 ⟨rfl, rfl⟩
        go_wp2
        go_ret
        exact ⟨reti (by rw [HG.out]; omega), rfl⟩
      · rw [hk2] at h2
        have H2 := Lib.hid h2
        have HG := Lib.hid hg
        have HL := Lib.hid hk2
        clear h2 hg hk2 hfin
        go_wp2_with (fail)
        refine (H2.out _).mono ?_
        rintro e w1 ⟨rfl, rfl⟩
        go_wp2
        go_roundw
        case rel => exact ⟨k + 1, by omega, by omega, by go_num, trivial, fun j c hj e => by
          rcases Nat.lt_or_eq_of_le (show j ≤ k - i by omega) with h | rfl
          · exact HK.out j c h e
          · rw [HG.out] at e; injection e with e; rw [← e]; exact HL.out⟩
        case measure => simp [intOf]; omega
    · have hkk : decide ((k : Int) < (s.size : Int)) = false := by rw [decide_eq_false_iff_not]; omega
      have HG := Lib.hid (run_at (s.data.toList.drop i) (k - i) HK.out (by rw [List.length_drop, ← Lib.size_eq]; omega) (fun c e => absurd (hfin c e) hlt))
      clear hfin
      go_wp2
      go_ret
      exact ⟨reti (by rw [HG.out]; omega), rfl⟩
set_option maxHeartbeats 4000000 in
theorem rEnd_digit (s : ByteArray) (i : Nat) (hi : i < s.size) (hs : s.size ≤ 1000000) (hl0 : Lx.letter s[i] = false) (hl : Lx.digit s[i] = true) (w : World) : Calls Tryz.prog 86 #[.string s, .int .i64 i] w fun e w' => e = .returned (.int .i64 ((i + Lx.run Lx.digit (s.data.toList.drop i) : Nat) : Int)) ∧ w = w' := by
  have h0 := rLetter_any s[i]
  rw [hl0] at h0
  have H0 := Lib.hid h0
  have h1 := rDigit_any s[i]
  rw [hl] at h1
  have H1 := Lib.hid h1
  have hii : (i : Int) < (s.size : Int) := by omega
  clear h1 hl h0 hl0
  go_enter Tryz.func86, Tryz.ntmps86
  go_wp2_with (fail)
  refine (H0.out _).mono ?_
  rintro e w1 ⟨rfl, rfl⟩
  go_wp2_with (fail)
  refine (H1.out _).mono ?_
  rintro e w1 ⟨rfl, rfl⟩
  go_wp2
  go_loopw [5] (fun v wr => ∃ k : Nat, i ≤ k ∧ k ≤ s.size ∧ v = .int .i64 k ∧ wr = w ∧ Hid (∀ j c, j < k - i → (s.data.toList.drop i)[j]? = some c → Lx.digit c = true)) (fun v _ => s.size - (intOf v).toNat)
  case atStart => exact ⟨i, Nat.le_refl _, by omega, rfl, rfl, fun j c h => absurd h (by omega)⟩
  case round =>
    obtain ⟨k, hik, hk, rfl, rfl, HK⟩ := hrel
    have hfin : ∀ c, (s.data.toList.drop i)[k - i]? = some c → k < s.size := fun c e => by
      have := (List.getElem?_eq_some_iff.1 e).1
      rw [List.length_drop, ← Lib.size_eq] at this
      omega
    by_cases hlt : k < s.size
    · have hkk : (k : Int) < (s.size : Int) := by omega
      have h2 := rDigit_any s[k]
      have hg := drop_get s i k hik hlt
      cases hk2 : Lx.digit s[k]
      · rw [hk2] at h2
        have H2 := Lib.hid h2
        have HG := Lib.hid (run_at (s.data.toList.drop i) (k - i) HK.out (by rw [List.length_drop, ← Lib.size_eq]; omega) (fun c e => by rw [hg] at e; injection e with e; rw [← e]; exact hk2))
        clear h2 hg hk2 hfin
        go_wp2_with (fail)
        refine (H2.out _).mono ?_
        rintro e w1 ⟨rfl, rfl⟩
        go_wp2
        go_ret
        exact ⟨reti (by rw [HG.out]; omega), rfl⟩
      · rw [hk2] at h2
        have H2 := Lib.hid h2
        have HG := Lib.hid hg
        have HL := Lib.hid hk2
        clear h2 hg hk2 hfin
        go_wp2_with (fail)
        refine (H2.out _).mono ?_
        rintro e w1 ⟨rfl, rfl⟩
        go_wp2
        go_roundw
        case rel => exact ⟨k + 1, by omega, by omega, by go_num, trivial, fun j c hj e => by
          rcases Nat.lt_or_eq_of_le (show j ≤ k - i by omega) with h | rfl
          · exact HK.out j c h e
          · rw [HG.out] at e; injection e with e; rw [← e]; exact HL.out⟩
        case measure => simp [intOf]; omega
    · have hkk : decide ((k : Int) < (s.size : Int)) = false := by rw [decide_eq_false_iff_not]; omega
      have HG := Lib.hid (run_at (s.data.toList.drop i) (k - i) HK.out (by rw [List.length_drop, ← Lib.size_eq]; omega) (fun c e => absurd (hfin c e) hlt))
      clear hfin
      go_wp2
      go_ret
      exact ⟨reti (by rw [HG.out]; omega), rfl⟩
end Go.Proofs.YtipbilmnknmhmaaGreatDoor

/- Walks of the reference's end, at a mark, and at any byte. -/
namespace Go.Proofs.YtipbilmnknmhmaaGreatDoor
set_option maxRecDepth 100000
open Go.RowKit Go.Shelf

set_option maxHeartbeats 4000000 in
theorem rEnd_mark (s : ByteArray) (i : Nat) (hi : i < s.size) (hs : s.size ≤ 1000000) (hl0 : Lx.letter s[i] = false) (hl1 : Lx.digit s[i] = false) (w : World) : Calls Tryz.prog 86 #[.string s, .int .i64 i] w fun e w' => e = .returned (.int .i64 ((i + Lx.mark (s.data.toList.drop i) : Nat) : Int)) ∧ Below w.heap.size w w' := by
  have h0 := rLetter_any s[i]
  rw [hl0] at h0
  have h1 := rDigit_any s[i]
  rw [hl1] at h1
  have hm := rMark_any s[i]
  have hdr := drop_byte s i hi
  have hii : (i : Int) < (s.size : Int) := by omega
  have H0 := Lib.hid h0
  have H1 := Lib.hid h1
  clear h0 hl0 h1 hl1
  by_cases hc : s[i] = 60
  · have hcn : ((s[i].toNat : Int) == 60) = true := by rw [hc]; rfl
    by_cases hlt : i + 1 < s.size
    · have hlt1 : (i : Int) + 1 < (s.size : Int) := by omega
      have hd2 := drop_byte s (i + 1) hlt
      by_cases he : s[i + 1] = 61
      · have hen : ((s[i + 1].toNat : Int) == 61) = true := by rw [he]; rfl
        have hmk : Lx.mark (s.data.toList.drop i) = 2 := by rw [hdr, hd2, Lx.mark_cons, if_pos ⟨hc, by rw [he]; rfl⟩]
        have HMK := Lib.hid hmk
        clear hmk hd2 he hc hdr hm
        go_enter Tryz.func86, Tryz.ntmps86
        go_wp2_with (fail)
        refine (H0.out _).mono ?_
        rintro e w1 ⟨rfl, rfl⟩
        go_wp2_with (fail)
        refine (H1.out _).mono ?_
        rintro e w1 ⟨rfl, rfl⟩
        go_wp2
        go_ret
        exact ⟨reti (by rw [HMK.out]; omega), Below.refl _ _⟩
      · have hen : ((s[i + 1].toNat : Int) == 61) = false := by
          rw [beq_eq_false_iff_ne]
          exact fun e => he (UInt8.toNat_inj.1 (by show s[i + 1].toNat = 61; omega))
        have hmk : Lx.mark (s.data.toList.drop i) = 1 := by
          rw [hdr, hd2, Lx.mark_cons, if_neg (fun h => he (by have := h.2; simpa using this)), if_pos (by rw [hc]; decide)]
        have hmm : Lx.marks.contains s[i] = true := by rw [hc]; decide
        rw [hmm] at hm
        have HM := Lib.hid hm
        have HMK := Lib.hid hmk
        clear hmk hd2 he hc hdr hm hmm
        go_enter Tryz.func86, Tryz.ntmps86
        go_wp2_with (fail)
        refine (H0.out _).mono ?_
        rintro e w1 ⟨rfl, rfl⟩
        go_wp2_with (fail)
        refine (H1.out _).mono ?_
        rintro e w1 ⟨rfl, rfl⟩
        go_wp2_with (fail)
        refine (HM.out _).mono ?_
        rintro e w1 ⟨rfl, hb1⟩
        have HB := Lib.hid hb1
        clear hb1
        go_wp2
        go_ret
        exact ⟨reti (by rw [HMK.out]; omega), HB.out⟩
    · have hlt1 : decide ((i : Int) + 1 < (s.size : Int)) = false := by rw [decide_eq_false_iff_not]; omega
      have hnil : s.data.toList.drop (i + 1) = [] := List.drop_eq_nil_of_le (by rw [← Lib.size_eq]; omega)
      have hmk : Lx.mark (s.data.toList.drop i) = 1 := by
        rw [hdr, hnil, Lx.mark_cons, if_neg (fun h => by have := h.2; cases this), if_pos (by rw [hc]; decide)]
      have hmm : Lx.marks.contains s[i] = true := by rw [hc]; decide
      rw [hmm] at hm
      have HM := Lib.hid hm
      have HMK := Lib.hid hmk
      clear hmk hc hdr hm hmm hnil
      go_enter Tryz.func86, Tryz.ntmps86
      go_wp2_with (fail)
      refine (H0.out _).mono ?_
      rintro e w1 ⟨rfl, rfl⟩
      go_wp2_with (fail)
      refine (H1.out _).mono ?_
      rintro e w1 ⟨rfl, rfl⟩
      go_wp2_with (fail)
      refine (HM.out _).mono ?_
      rintro e w1 ⟨rfl, hb1⟩
      have HB := Lib.hid hb1
      clear hb1
      go_wp2
      go_ret
      exact ⟨reti (by rw [HMK.out]; omega), HB.out⟩
  · have hcn : ((s[i].toNat : Int) == 60) = false := by
      rw [beq_eq_false_iff_ne]
      exact fun e => hc (UInt8.toNat_inj.1 (by show s[i].toNat = 60; omega))
    have hmk : Lx.mark (s.data.toList.drop i) = if Lx.marks.contains s[i] = true then 1 else 0 := by
      rw [hdr, Lx.mark_cons, if_neg (fun h => hc h.1)]
    cases hmm : Lx.marks.contains s[i]
    all_goals
      rw [hmm] at hm hmk
      have HM := Lib.hid hm
      have HMK := Lib.hid hmk
      clear hmk hc hdr hm hmm
      go_enter Tryz.func86, Tryz.ntmps86
      go_wp2_with (fail)
      refine (H0.out _).mono ?_
      rintro e w1 ⟨rfl, rfl⟩
      go_wp2_with (fail)
      refine (H1.out _).mono ?_
      rintro e w1 ⟨rfl, rfl⟩
      go_wp2_with (fail)
      refine (HM.out _).mono ?_
      rintro e w1 ⟨rfl, hb1⟩
      have HB := Lib.hid hb1
      clear hb1
      go_wp2
      go_ret
      refine ⟨reti ?_, HB.out⟩
      rw [HMK.out]
      simp
/-- Where the token that begins at a place ends. -/
theorem rEnd_any (s : ByteArray) (i : Nat) (hi : i < s.size) (hs : s.size ≤ 1000000) (w : World) : Calls Tryz.prog 86 #[.string s, .int .i64 i] w fun e w' => e = .returned (.int .i64 ((i + endN (s.data.toList.drop i) : Nat) : Int)) ∧ Below w.heap.size w w' := by
  have hdr := drop_byte s i hi
  unfold endN
  rw [hdr]
  dsimp only
  rw [← hdr]
  cases hl : Lx.letter s[i]
  · rw [if_neg (by decide)]
    cases hd : Lx.digit s[i]
    · rw [if_neg (by decide)]
      exact rEnd_mark s i hi hs hl hd w
    · rw [if_pos rfl]
      exact (rEnd_digit s i hi hs hl hd w).mono fun e w' h => ⟨h.1, h.2 ▸ Below.refl _ _⟩
  · rw [if_pos rfl]
    exact (rEnd_letter s i hi hs hl w).mono fun e w' h => ⟨h.1, h.2 ▸ Below.refl _ _⟩
end Go.Proofs.YtipbilmnknmhmaaGreatDoor

/- The walk of the reference's Lex. -/
namespace Go.Proofs.YtipbilmnknmhmaaGreatDoor
set_option maxRecDepth 100000
open Go.RowKit Go.Shelf

/-- What the reference's Lex answers. -/
def RLexRes (w : World) (r : List Lx.Tk × Nat × Nat) (e : Ending) (w' : World) : Prop :=
  ∃ v, e = .returned (.agg #[v, .int .i64 (r.2.1 : Int), .int .i64 (r.2.2 : Int)]) ∧ IsToks w' w'.heap.size v r.1 ∧ Below w.heap.size w w'
/-- What Lex's loop holds in memory: the result's block, and the row. -/
structure LexIn (w : World) (v : Value) (l : List Lx.Tk) (W : World) : Prop where
  blk : Blk W w.heap.size 90 #[.slice none 0 0, .int .i64 0, .int .i64 0]
  own : W.ownsRow (w.heap.size + 1) 94 3 v l.length (tcells l)
  below : Below w.heap.size w W
theorem LexIn.call {w W W' : World} {v : Value} {l : List Lx.Tk} (h : LexIn w v l W) (hb : Below W.heap.size W W') : LexIn w v l W' := ⟨h.blk.below hb h.blk.lt, ownT_below h.own hb, h.below.trans (hb.mono h.below.size)⟩
theorem LexIn.step {w W W1 w' : World} {v v' : Value} {l : List Lx.Tk} {t : Lx.Tk} (h : LexIn w v l W) (h1 : Below W.heap.size W W1) (hown : w'.ownsRow (w.heap.size + 1) 94 3 v' (l.length + 1) (tcells l ++ [.int .i64 t.kind, .string t.text, .int .i64 t.pos])) (hg : W1.grownBy w' v.ownBlock) : LexIn w v' (l ++ [t]) w' := by
  have h2 := h.call h1
  have hlt := h2.blk.lt
  refine ⟨(hg.block _ hlt (fun e => ?_)).trans h2.blk, ?_, h2.below.grown hg (Nat.le_of_lt hlt) (fun k he => ?_)⟩
  · have := (h.own.lt _ e.symm).1
    omega
  · rw [tcells_snoc, List.length_append]; exact hown
  · have := (h.own.lt _ he).1
    omega
theorem LexIn.set_ {w W : World} {v : Value} {l : List Lx.Tk} (h : LexIn w v l W) (vs : Value) (a b : Int) :
    let W' := (((W.setCell ⟨w.heap.size, 0, none⟩ vs).setCell ⟨w.heap.size, 1, none⟩ (.int .i64 a)).setCell ⟨w.heap.size, 2, none⟩ (.int .i64 b))
    W'.cell? ⟨w.heap.size, 0, none⟩ = some vs ∧ W'.cell? ⟨w.heap.size, 1, none⟩ = some (.int .i64 a) ∧ W'.cell? ⟨w.heap.size, 2, none⟩ = some (.int .i64 b) ∧ Below w.heap.size w W' ∧ W'.ownsRow (w.heap.size + 1) 94 3 v l.length (tcells l) := by
  intro W'
  have hb : Blk W' w.heap.size 90 #[vs, .int .i64 a, .int .i64 b] := ((h.blk.set_ 0 _).set_ 1 _).set_ 2 _
  exact ⟨by rw [hb.cell]; rfl, by rw [hb.cell]; rfl, by rw [hb.cell]; rfl,
    ((h.below.setCell (p := ⟨w.heap.size, 0, none⟩) (Nat.le_refl _) _).setCell (p := ⟨w.heap.size, 1, none⟩) (Nat.le_refl _) _).setCell (p := ⟨w.heap.size, 2, none⟩) (Nat.le_refl _) _,
    ownsRow_setCell_below (ownsRow_setCell_below (ownsRow_setCell_below h.own (by simp) _) (by simp) _) (by simp) _⟩
theorem LexIn.facts {w W : World} {v : Value} {l : List Lx.Tk} (h : LexIn w v l W) : W.cell? ⟨w.heap.size, 0, none⟩ = some (.slice none 0 0) ∧ W.cell? ⟨w.heap.size, 1, none⟩ = some (.int .i64 0) ∧ W.cell? ⟨w.heap.size, 2, none⟩ = some (.int .i64 0) ∧ W.frozen? ⟨w.heap.size, 0, none⟩ = false ∧ W.frozen? ⟨w.heap.size, 1, none⟩ = false ∧ W.frozen? ⟨w.heap.size, 2, none⟩ = false :=
  ⟨by rw [h.blk.cell]; rfl, by rw [h.blk.cell]; rfl, by rw [h.blk.cell]; rfl, h.blk.frozen _, h.blk.frozen _, h.blk.frozen _⟩
theorem kind_of {c : UInt8} {r : List UInt8} (hb : Lx.blank c = false) (hc : c ≠ 35) (h0 : endN (c :: r) ≠ 0) : Lx.first (c :: r) = (kindR c, endN (c :: r)) := by
  rw [first_of hb hc]
  unfold endN at h0 ⊢
  unfold kindR
  dsimp only at h0 ⊢
  cases hl : Lx.letter c
  · cases hd : Lx.digit c
    · rw [hl, hd, if_neg (by decide), if_neg (by decide)] at h0
      rw [if_neg (by decide), if_neg (by decide), if_pos (by omega), if_neg (by decide), if_neg (by decide), if_neg (by decide), if_neg (by decide)]
    · rfl
  · rfl
theorem kind_no {c : UInt8} {r : List UInt8} (hb : Lx.blank c = false) (hc : c ≠ 35) (h0 : endN (c :: r) = 0) : (Lx.first (c :: r)).2 = 0 := by
  rw [first_of hb hc]
  unfold endN at h0
  dsimp only at h0
  cases hl : Lx.letter c
  · cases hd : Lx.digit c
    · rw [hl, hd, if_neg (by decide), if_neg (by decide)] at h0
      rw [if_neg (by decide), if_neg (by decide), if_neg (by omega)]
    · rw [hd, hl, if_neg (by decide), if_pos rfl] at h0
      rw [Lx.run_yes hd] at h0
      omega
  · rw [hl, if_pos rfl, Lx.run_yes hl] at h0
    omega
theorem kindR_ne (c : UInt8) : kindR c ≠ -1 := by
  unfold kindR
  split
  · decide
  · split <;> decide
theorem endN_le (r : List UInt8) : endN r ≤ r.length := by
  cases r with
  | nil => exact Nat.le_refl _
  | cons c r =>
    unfold endN
    dsimp only
    split
    · exact Lx.run_le _ _
    · split
      · exact Lx.run_le _ _
      · exact Lx.mark_le _
end Go.Proofs.YtipbilmnknmhmaaGreatDoor

/- The walk of the reference's Lex. -/
namespace Go.Proofs.YtipbilmnknmhmaaGreatDoor
set_option maxRecDepth 100000
open Go.RowKit Go.Shelf

theorem blank_split {c : UInt8} (h : Lx.blank c = true) : ((c.toNat : Int) == 9) = true ∨ (((c.toNat : Int) == 9) = false ∧ ((c.toNat : Int) == 10) = true) ∨ (((c.toNat : Int) == 9) = false ∧ ((c.toNat : Int) == 10) = false ∧ ((c.toNat : Int) == 32) = true) := by
  have := (blank_iff c).1 h
  rw [beq_iff_eq, beq_eq_false_iff_ne, beq_iff_eq, beq_eq_false_iff_ne, beq_iff_eq]
  omega
theorem blank_none {c : UInt8} (h : Lx.blank c = false) : ((c.toNat : Int) == 9) = false ∧ ((c.toNat : Int) == 10) = false ∧ ((c.toNat : Int) == 32) = false := by
  have h1 : ¬ (c.toNat = 9 ∨ c.toNat = 10 ∨ c.toNat = 32) := fun e => by rw [(blank_iff c).2 e] at h; cases h
  rw [beq_eq_false_iff_ne, beq_eq_false_iff_ne, beq_eq_false_iff_ne]
  omega
theorem RLexRes.err {w w' : World} (a n : Nat) (hb : Below w.heap.size w w') : RLexRes w ([], a, n) (.returned (.agg #[.slice none 0 0, .int .i64 (a : Int), .int .i64 (n : Int)])) w' := ⟨_, rfl, IsToks.nil _ _, hb⟩
set_option maxHeartbeats 8000000 in
theorem rLex_any (s : ByteArray) (w : World) (hs : s.size ≤ maxLen) : Calls Tryz.prog 61 #[.string s] w (RLexRes w (Lx.lex s.data.toList)) := by
  have HD : Hid (s.data.toList.length = s.size) := by unfold Hid; rw [← Lib.size_eq]
  have hs0 : s.size ≤ 9223372036854775807 := hs
  by_cases h2000 : 2000 < s.size
  · have hl : (2000 : Int) < (s.size : Int) := by omega
    rw [lex_long (by rw [HD.out]; omega)]
    clear hs
    go_enter Tryz.func61, Tryz.ntmps61
    go_wp2
    go_returns
    exact RLexRes.err 0 8 ((Below.refl _ w).alloc (Nat.le_refl _) _)
  · obtain ⟨i0, hi, hz0, hz1, hz2⟩ := info_parts Tryz.infoTok
    have hsz : s.size ≤ 2000 := by omega
    have hl : ¬ (2000 : Int) < (s.size : Int) := by omega
    clear hs hs0
    go_enter Tryz.func61, Tryz.ntmps61
    go_wp2
    go_loopw [3, 4] (fun v i wr => ∃ (l : List Lx.Tk) (k : Nat), k ≤ s.size ∧ i = .int .i64 k ∧ Hid (ToksAt s.data.toList k l) ∧ Hid (LexIn w v l wr)) (fun _ i _ => s.size - (intOf i).toNat)
    case atStart =>
      refine ⟨[], 0, Nat.zero_le _, rfl, ToksAt.start _, ?_⟩
      have hz : (w.alloc (.cells #[.slice none 0 0, .int .i64 0, .int .i64 0] 90)).heap.size = w.heap.size + 1 := by simp
      have ho := World.ownsRow_made (e := 94) (size := 3) (w.alloc (.cells #[.slice none 0 0, .int .i64 0, .int .i64 0] 90)) #[] 0 (Nat.le_refl _) (by decide) rfl
      rw [hz] at ho
      exact ⟨(Blk.new w 90 #[.slice none 0 0, .int .i64 0, .int .i64 0]).alloc _, ho, ((Below.refl _ w).alloc (Nat.le_refl _) _).alloc (by simp) _⟩
    case round =>
      obtain ⟨l, k, hk, rfl, HT, HI⟩ := hrel
      by_cases hlt : k < s.size
      · have hkk : (k : Int) < (s.size : Int) := by omega
        have hdr := drop_byte s k hlt
        cases hbl : Lx.blank s[k]
        · obtain ⟨b1, b2, b3⟩ := blank_none hbl
          by_cases h35 : s[k] = 35
          · have c35 : ((s[k].toNat : Int) == 35) = true := by rw [h35]; rfl
            have hf := first_35 (s.data.toList.drop (k + 1))
            rw [← h35, ← hdr] at hf
            have hsk := HT.out.skip (by rw [HD.out]; exact hlt) (by rw [hf]; exact (by omega : 1 + Lx.run Lx.inLine (s.data.toList.drop (k + 1)) ≠ 0)) (by rw [hf])
            rw [hf] at hsk
            have HSK := Lib.hid hsk
            have hin : Lx.inLine s[k] = true := by rw [h35]; decide
            have HIN := Lib.hid hin
            have hdr2 : s.data.toList.drop k = s[k] :: s.data.toList.drop (k + 1) := hdr
            have hrun : Lx.run Lx.inLine (s.data.toList.drop k) = 1 + Lx.run Lx.inLine (s.data.toList.drop (k + 1)) := by rw [hdr2, Lx.run_yes hin]; omega
            have HRUN := Lib.hid hrun
            clear hf hsk hin hdr2 hrun hdr h35 hbl
            go_wp2
            go_loopw [4] (fun i wr2 => ∃ j : Nat, k ≤ j ∧ j ≤ s.size ∧ i = .int .i64 j ∧ wr2 = wr ∧ Hid (∀ q c, q < j - k → (s.data.toList.drop k)[q]? = some c → Lx.inLine c = true)) (fun i _ => s.size - (intOf i).toNat)
            case atStart => exact ⟨k, Nat.le_refl _, by omega, rfl, rfl, fun q c h => absurd h (by omega)⟩
            case round =>
              obtain ⟨j, hkj, hj, rfl, rfl, HJ⟩ := hrel
              have hfin : ∀ c, (s.data.toList.drop k)[j - k]? = some c → j < s.size := fun c e => by
                have := (List.getElem?_eq_some_iff.1 e).1
                rw [List.length_drop, HD.out] at this
                omega
              by_cases hjl : j < s.size
              · have hjj : (j : Int) < (s.size : Int) := by omega
                have hg := drop_get s k j hkj hjl
                by_cases h10 : s[j] = 10
                · have c10 : ((s[j].toNat : Int) != 10) = false := by rw [h10]; rfl
                  have hr := run_at (s.data.toList.drop k) (j - k) HJ.out (by rw [List.length_drop, HD.out]; omega) (fun c e => by rw [hg] at e; injection e with e; rw [← e, h10]; decide)
                  have HR := Lib.hid (show k + (1 + Lx.run Lx.inLine (s.data.toList.drop (k + 1))) = j by rw [← HRUN.out, hr]; omega)
                  clear hfin hg h10 hr
                  go_wp2
                  go_roundw
                  case rel => exact ⟨l, j, by omega, by go_num, by have := HSK.out; rw [HR.out] at this; exact this, HI⟩
                  case measure => have := HR.out; simp [intOf]; omega
                · have c10 : ((s[j].toNat : Int) != 10) = true := by
                    rw [bne_iff_ne]
                    exact fun e => h10 (UInt8.toNat_inj.1 (by show s[j].toNat = 10; omega))
                  have hil : Lx.inLine s[j] = true := by rw [inLine_iff]; exact fun e => h10 (UInt8.toNat_inj.1 e)
                  have HIL := Lib.hid hil
                  have HG := Lib.hid hg
                  clear hfin hg h10 hil
                  go_wp2
                  go_roundw
                  case rel => exact ⟨j + 1, by omega, by omega, by go_num, trivial, fun q c hq e => by
                    rcases Nat.lt_or_eq_of_le (show q ≤ j - k by omega) with h | rfl
                    · exact HJ.out q c h e
                    · rw [HG.out] at e; injection e with e; rw [← e]; exact HIL.out⟩
                  case measure => simp [intOf]; omega
              · have hjj : decide ((j : Int) < (s.size : Int)) = false := by rw [decide_eq_false_iff_not]; omega
                have hr := run_at (s.data.toList.drop k) (j - k) HJ.out (by rw [List.length_drop, HD.out]; omega) (fun c e => absurd (hfin c e) hjl)
                have HR := Lib.hid (show k + (1 + Lx.run Lx.inLine (s.data.toList.drop (k + 1))) = j by rw [← HRUN.out, hr]; omega)
                clear hfin hr
                go_wp2
                go_roundw
                case rel => exact ⟨l, j, by omega, by go_num, by have := HSK.out; rw [HR.out] at this; exact this, HI⟩
                case measure => have := HR.out; simp [intOf]; omega
          · have c35 : ((s[k].toNat : Int) == 35) = false := by
              rw [beq_eq_false_iff_ne]
              exact fun e => h35 (UInt8.toNat_inj.1 (by show s[k].toNat = 35; omega))
            have he := fun W => rEnd_any s k hlt (by omega) W
            have hle := endN_le (s.data.toList.drop k)
            rw [List.length_drop, HD.out] at hle
            by_cases hn0 : endN (s.data.toList.drop k) = 0
            · have hbad : Lx.toks s.data.toList.length s.data.toList 0 = (l, k) := HT.out.bad (by rw [hdr] at hn0 ⊢; exact kind_no hbl h35 hn0)
              have HBAD := Lib.hid hbad
              rw [hn0, Nat.add_zero] at he
              have HE := Lib.hid he
              obtain ⟨z0, z1, z2, z3, z4, z5⟩ := HI.out.facts
              clear he hbad hdr hn0 hle hbl h35
              go_wp2_with (fail)
              refine (HE.out _).mono ?_
              rintro e w2 ⟨rfl, hb2⟩
              clear z0 z1 z2 z3 z4 z5
              have HI2 := Lib.hid (HI.out.call hb2)
              obtain ⟨z0, z1, z2, z3, z4, z5⟩ := HI2.out.facts
              clear hb2 HI
              go_wp2
              obtain ⟨r0, r1, r2, rB, -⟩ := HI2.out.set_ (.slice none 0 0) k 4
              have RB := Lib.hid rB
              clear rB z0 z1 z2 z3 z4 z5
              rw [lex_bad (by rw [HD.out]; exact hsz) (by rw [HBAD.out, HD.out]; exact hlt), HBAD.out]
              exact bodyPost_ret (v := .agg #[.slice none 0 0, .int .i64 k, .int .i64 4]) (by simp [results, Tryz.results61, go_sem, r0, r1, r2]) rfl (RLexRes.err k 4 RB.out)
            · obtain ⟨N, hN⟩ : ∃ N, endN (s.data.toList.drop k) = N := ⟨_, rfl⟩
              rw [hN] at he hle hn0
              have hf : Lx.first (s.data.toList.drop k) = (kindR s[k], N) := by
                have := kind_of (r := s.data.toList.drop (k + 1)) hbl h35 (by rw [← hdr, hN]; exact hn0)
                rw [← hdr, hN] at this
                exact this
              have htk := HT.out.take (by rw [HD.out]; exact hlt) (by rw [hf]; exact hn0) (by rw [hf]; exact kindR_ne _)
              rw [hf] at htk
              have HTK := Lib.hid htk
              have HE := Lib.hid he
              have hkd := fun W => rKind_any s[k] W
              have HKD := Lib.hid hkd
              have hne : (((k + N : Nat) : Int) == (k : Int)) = false := by rw [beq_eq_false_iff_ne]; omega
              have hlen := HT.out.len
              rw [HD.out] at hlen
              have hsl : ∀ W : World, (Instr.slice 9 (.string s) (some (.int .i64 (k : Int))) (some (.int .i64 ((k + N : Nat) : Int))) none).run Tryz.prog W = .ok (.string (s.extract k (k + N))) W := fun W => by
                have h := run_slice_string (P := Tryz.prog) (w := W) 9 s .i64 .i64 (k : Int) ((k + N : Nat) : Int) Tryz.underlying9 (by omega) (by omega) (by omega)
                rw [h, Int.toNat_natCast, Int.toNat_natCast]
              have hkN : k + N ≤ s.size := by omega
              have hN0 : 0 < N := Nat.pos_of_ne_zero hn0
              clear he hdr hle hn0 hN hf htk hkd hbl h35
              obtain ⟨kN, hkNe⟩ : ∃ x, k + N = x := ⟨_, rfl⟩
              have HKN := Lib.hid hkNe
              rw [hkNe] at HE hsl hne hkN
              clear hkNe
              generalize hkr : kindR s[k] = kd at *
              go_wp2_with (fail)
              refine (HE.out _).mono ?_
              rintro e w2 ⟨rfl, hb2⟩
              have HI2 := Lib.hid (HI.out.call hb2)
              have hown := HI2.out.own
              have hsz2 := HI2.out.blk.lt
              clear hb2 HI
              obtain ⟨A1, c1, rfl⟩ := ownT_slice hown
              go_wp2
              go_region_law (first
                | (refine step_append_own2 rfl (.tmp 57) (.tmp 68) 88 rfl (w.heap.size + 1) 94 i0 (.agg #[.int .i64 0, .string ByteArray.empty, .int .i64 0]) 3 32 Tryz.underlying88 hi hz0 hz1 hz2 rfl (by decide) (.slice A1 l.length c1) l.length (tcells l) (by simp [Act.eval]) (by exact hown.alloc _) ⟨w2.heap.size, 0, none⟩ 1 1 [.int .i64 kd, .string (s.extract k kN), .int .i64 k] (by simp [Act.eval]) rfl (by exact cells_new _ _ _) (by simp [Value.oneCell']) (by unfold maxLen; omega) (by omega) (by simp; omega) ?_; intro v' w' hown' hgrow hob; obtain ⟨g', cap', rfl⟩ := ownsRow_succ hown')
                | (go_simp; go_at_call 87; refine (HKD.out _).mono ?_; rintro e w1 ⟨rfl, rfl⟩))
              all_goals
                have hst := HI2.out.step (t := ⟨kd, s.extract k kN, k⟩) (((Below.refl _ w2).alloc (Nat.le_refl _) _).drew) hown' hgrow
                have HST := Lib.hid hst
                clear hst hown' hgrow hob hown HI2
                go_wp2
                go_roundw
                case rel => exact ⟨l ++ [(⟨kd, s.extract k kN, (k : Int)⟩ : Lx.Tk)], kN, by omega, by go_num, by have := HTK.out; rw [← HKN.out, pack_extract]; exact this, HST⟩
                case measure => have := HKN.out; simp [intOf]; omega
        · have hnx := HT.out.blank hdr hbl
          have HN := Lib.hid hnx
          rcases blank_split hbl with b1 | ⟨b1, b2⟩ | ⟨b1, b2, b3⟩
          all_goals
            clear hnx hdr hbl
            go_wp2
            go_roundw
            case rel => exact ⟨l, k + 1, by omega, by go_num, HN, HI⟩
            case measure => simp [intOf]; omega
      · obtain rfl : k = s.size := by omega
        have hfin := HT.out.fin (by rw [HD.out]; exact Nat.le_refl _)
        have hlen := HT.out.len
        rw [HD.out] at hlen
        have hown := HI.out.own
        have HFIN := Lib.hid hfin
        obtain ⟨z0, z1, z2, z3, z4, z5⟩ := HI.out.facts
        have hlt0 := HI.out.blk.lt
        clear hfin z0 z1 z2 z3 z4 z5
        go_wp2_with (at_builtin; refine wpList_append_own _ rfl _ _ 88 rfl (w.heap.size + 1) 94 i0 (.agg #[.int .i64 0, .string ByteArray.empty, .int .i64 0]) 3 32 Tryz.underlying88 hi hz0 hz1 hz2 rfl (by decide) _ _ _ rfl (hown.alloc _) ⟨wr.heap.size, 0, none⟩ 1 1 [.int .i64 0, .string ByteArray.empty, .int .i64 s.size] rfl rfl ?c1 ?c2 ?c3 ?c4 ?c5 ?_)
        case c1 => exact cells_new _ _ _
        case c2 => simp [Value.oneCell']
        case c3 => unfold maxLen; omega
        case c4 => omega
        case c5 => simp; omega
        intro v' w' hown' hgrow _
        have hst := HI.out.step (t := ⟨0, ByteArray.empty, s.size⟩) ((Below.refl _ wr).alloc (Nat.le_refl _) _) hown' hgrow
        obtain ⟨A1, c1, rfl⟩ := ownT_slice hown'
        obtain ⟨z0, z1, z2, z3, z4, z5⟩ := hst.facts
        have HST := Lib.hid hst
        clear hst hown' hgrow hown HI
        by_cases h200 : 200 < l.length + 1
        · have h2 : (200 : Int) < ((l.length + 1 : Nat) : Int) := by omega
          go_wp2
          obtain ⟨r0, r1, r2, rB, -⟩ := HST.out.set_ (.slice none 0 0) 0 8
          have RB := Lib.hid rB
          clear rB z0 z1 z2 z3 z4 z5
          rw [lex_many (by rw [HD.out]; exact hsz) (by rw [HFIN.out, HD.out]; omega) (by rw [HFIN.out]; exact h200)]
          exact bodyPost_ret (v := .agg #[.slice none 0 0, .int .i64 0, .int .i64 8]) (by simp [results, Tryz.results61, go_sem, r0, r1, r2]) rfl (RLexRes.err 0 8 RB.out)
        · have h2 : ¬ (200 : Int) < ((l.length + 1 : Nat) : Int) := by omega
          go_wp2
          obtain ⟨r0, r1, r2, rB, rO⟩ := HST.out.set_ (.slice A1 (l.length + 1) c1) 0 0
          rw [List.length_append, List.length_singleton] at rO
          have RB := Lib.hid rB
          have RO := Lib.hid rO
          clear rB z0 z1 z2 z3 z4 z5 rO
          have hlx : Lx.lex s.data.toList = (l ++ [⟨0, ByteArray.empty, (s.size : Nat)⟩], 0, 0) := by
            unfold Lx.lex
            rw [if_neg (by rw [HD.out]; omega), HFIN.out, if_neg (by rw [HD.out]; simp), if_neg (by exact h200)]
          rw [hlx]
          exact bodyPost_ret (v := .agg #[.slice A1 (l.length + 1) c1, .int .i64 0, .int .i64 0]) (by simp [results, Tryz.results61, go_sem, r0, r1, r2]) rfl
            ⟨_, rfl, ⟨A1, c1, by simp, by have := (ownT_row RO.out).1; exact this, by have h9 := (ownT_row RO.out).2; rw [List.length_append, List.length_singleton]; exact h9⟩, RB.out⟩
end Go.Proofs.YtipbilmnknmhmaaGreatDoor
