/- Walks of slices.Equal, slices.Index, and of Like and Same. -/
import Derived.RegionTactic
import Derived.Deep.QuietTactic
import Derived.BigQuiet
import Derived.Lib.SlicesS
import Derived.Test.YtipbilmnknmhmaaGreatDoorGOrdB
namespace Go.Proofs.YtipbilmnknmhmaaGreatDoor
set_option maxRecDepth 100000
open Go.RowKit Go.Shelf

theorem streq_eq (s t : ByteArray) : (s.toList == t.toList) = decide (s = t) := by
  rw [Bool.eq_iff_iff, decide_eq_true_eq]
  exact Lib.bytes_beq_iff s t

end Go.Proofs.YtipbilmnknmhmaaGreatDoor

/- Walks of slices.Index, Find, between, Edges. -/
namespace Go.Proofs.YtipbilmnknmhmaaGreatDoor
set_option maxRecDepth 100000
open Go.RowKit Go.Shelf

/-- The place of a name. -/
def idxN (l : List ByteArray) (s : ByteArray) : Option Nat := l.findIdx? fun x => decide (x = s)
theorem idxN_some {l : List ByteArray} {s : ByteArray} {k : Nat} (h : l[k]? = some s) (hn : ∀ j t, j < k → l[j]? = some t → t ≠ s) : idxN l s = some k := by
  unfold idxN
  obtain ⟨hk, hs⟩ := List.getElem?_eq_some_iff.1 h
  rw [List.findIdx?_eq_some_iff_getElem]
  refine ⟨hk, by simpa using hs, fun j hj => ?_⟩
  have := hn j l[j] hj (List.getElem?_eq_getElem (by omega))
  simpa using this
theorem idxN_none {l : List ByteArray} {s : ByteArray} (hn : ∀ j t, j < l.length → l[j]? = some t → t ≠ s) : idxN l s = none := by
  unfold idxN
  rw [List.findIdx?_eq_none_iff]
  intro x hx
  obtain ⟨j, hj, rfl⟩ := List.getElem_of_mem hx
  simpa using hn j l[j] hj (List.getElem?_eq_getElem hj)
def idxI (l : List ByteArray) (s : ByteArray) : Int := match idxN l s with | some k => (k : Int) | none => -1
theorem idxI_some {l : List ByteArray} {s : ByteArray} {k : Nat} (h : idxN l s = some k) : idxI l s = k := by unfold idxI; rw [h]
theorem idxI_none {l : List ByteArray} {s : ByteArray} (h : idxN l s = none) : idxI l s = -1 := by unfold idxI; rw [h]

set_option maxHeartbeats 1000000 in
theorem index_any {B : Nat} {A : Option Addr} {xs : List ByteArray} (c : Nat) (s : ByteArray) (w : World) (h : Row w B A (strs xs)) (hx : xs.length ≤ 1000) :
    Calls Tryz.prog 167 #[.slice A xs.length c, .string s] w fun e w' => e = .returned (.int .i64 (idxI xs s)) ∧ w = w' := by
  have H := Lib.hid h
  clear h
  go_enter Tryz.func167, Tryz.ntmps167
  go_wp2
  go_loop [8] (fun i => ∃ k : Nat, k ≤ xs.length ∧ i = .int .i64 k ∧ ∀ j t, j < k → xs[j]? = some t → t ≠ s) (fun i => xs.length - (intOf i).toNat)
  case atStart => exact ⟨0, Nat.zero_le _, rfl, fun j t h => absurd h (Nat.not_lt_zero j)⟩
  case round =>
    obtain ⟨k, hk, rfl, hno⟩ := hrel
    have HN := Lib.hid hno
    clear hno
    by_cases hlt : k < xs.length
    · obtain ⟨ad, t, rfl, _, ht, hct⟩ := strs_at H.out hlt
      have hst := streq_eq s t
      have HT := Lib.hid ht
      clear ht
      by_cases he : s = t
      · subst he
        clear hst
        go_wp2
        go_ret
        exact ⟨ret_i64 (idxI_some (idxN_some HT.out HN.out)).symm, rfl⟩
      · have h1 : (s.toList == t.toList) = false := by rw [hst, decide_eq_false_iff_not]; exact he
        have HE := Lib.hid he
        clear hst he
        go_wp2
        go_round
        case rel => exact ⟨k + 1, by omega, by go_num, fun j u hj hu => by
          rcases Nat.lt_or_eq_of_le (Nat.le_of_lt_succ hj) with h | rfl
          · exact HN.out j u h hu
          · rw [HT.out] at hu; injection hu with hu; rw [← hu]; exact fun e => HE.out e.symm⟩
        case measure => simp [intOf]; omega
    · obtain rfl : k = xs.length := by omega
      go_wp2
      go_ret
      exact ⟨ret_i64 (idxI_none (idxN_none HN.out)).symm, rfl⟩

def findN (names : List ByteArray) (up : List Nat) (s : ByteArray) : Nat := if checkN names up = 0 then if (idxN names s).isSome then 0 else 9 else checkN names up
def findV (names : List ByteArray) (up : List Nat) (s : ByteArray) : Nat := if checkN names up = 0 then (idxN names s).getD 0 else 0

set_option maxHeartbeats 1000000 in
theorem find_any {v : Value} {names : List ByteArray} {up : List Nat} (s : ByteArray) (w : World) (h : IsLat w w.heap.size v names up) :
    Calls Tryz.prog 156 #[v, .string s] w fun e w' => e = .returned (.tuple #[.int .i64 (findV names up s : Nat), .int .i64 (findN names up s : Nat)]) ∧ Below w.heap.size w w' := by
  have h' := h
  obtain ⟨⟨A, A', c, c', rfl, hN, hU⟩, hshort, ⟨hf1, hf2⟩, -⟩ := h'
  have hb0 : Below w.heap.size w (w.alloc (.cells #[.slice A names.length c, .slice A' up.length c'] 25)) := (Below.refl _ w).alloc (Nat.le_refl _) _
  have p0 : Blk (w.alloc (.cells #[.slice A names.length c, .slice A' up.length c'] 25)) w.heap.size 25 #[.slice A names.length c, .slice A' up.length c'] := Blk.new _ _ _
  have hch := check_any _ (h.boxed (.cells #[.slice A names.length c, .slice A' up.length c'] 25))
  have HP0 := Lib.hid p0
  have HH := Lib.hid hN
  have HB0 := Lib.hid hb0
  have hfn : ∀ n, checkN names up = n → findN names up s = (if n = 0 then if (idxN names s).isSome then 0 else 9 else n) ∧ findV names up s = (if n = 0 then (idxN names s).getD 0 else 0) := by rintro n rfl; exact ⟨rfl, rfl⟩
  have HFN := Lib.hid hfn
  obtain ⟨n, hn⟩ : ∃ n, checkN names up = n := ⟨_, rfl⟩
  rw [hn] at hch
  have HN := Lib.hid hn
  have HCH := Lib.hid hch
  clear hn hch p0 hN hb0 hfn h hU hshort
  by_cases hz : n = 0
  · subst hz
    go_enter Tryz.func156, Tryz.ntmps156
    go_wp2_with (go_at_call 27; refine HCH.out.mono ?_)
    rintro e w1 ⟨rfl, hb1⟩
    have hp1 := HP0.out.below hb1 (by simp)
    have hbw1 : Below w.heap.size w w1 := HB0.out.trans (hb1.mono (by simp))
    have hc0 : w1.cell? ⟨w.heap.size, 0, none⟩ = some (.slice A names.length c) := by rw [hp1.cell]; rfl
    have hix := index_any c s w1 (HH.out.below hbw1) hf1
    have HBW := Lib.hid hbw1
    clear hb1 hp1 hbw1
    cases ei : idxN names s with
    | none =>
      rw [idxI_none ei] at hix
      have HIX := Lib.hid hix
      have HEI := Lib.hid ei
      clear hix ei
      go_wp2_with (go_at_call 167; refine HIX.out.mono ?_; rintro e w' ⟨rfl, rfl⟩)
      go_ret2
      exact ⟨ret_ii (by rw [(HFN.out 0 HN.out).2, HEI.out]; rfl) (by rw [(HFN.out 0 HN.out).1, HEI.out]; rfl), HBW.out⟩
    | some k =>
      rw [idxI_some ei] at hix
      have HIX := Lib.hid hix
      have HEI := Lib.hid ei
      clear hix ei
      go_wp2_with (go_at_call 167; refine HIX.out.mono ?_; rintro e w' ⟨rfl, rfl⟩)
      go_ret2
      exact ⟨ret_ii (by rw [(HFN.out 0 HN.out).2, HEI.out]; rfl) (by rw [(HFN.out 0 HN.out).1, HEI.out]; rfl), HBW.out⟩
  · have hz1 : ((n : Int) == 0) = false := by rw [beq_eq_false_iff_ne]; omega
    have hz2 : ((n : Int) != 0) = true := by rw [bne_iff_ne]; omega
    go_enter Tryz.func156, Tryz.ntmps156
    go_wp2_with (go_at_call 27; refine HCH.out.mono ?_; rintro e w1 ⟨rfl, hb1⟩)
    go_ret2
    exact ⟨ret_ii (by rw [(HFN.out n HN.out).2, if_neg hz]; rfl) (by rw [(HFN.out n HN.out).1, if_neg hz]), HB0.out.trans (hb1.mono (by simp))⟩

set_option maxHeartbeats 1000000 in
theorem rFind_any {v : Value} {names : List ByteArray} {up : List Nat} (s : ByteArray) (w : World) (h : IsLat w w.heap.size v names up) :
    Calls Tryz.prog 140 #[v, .string s] w fun e w' => e = .returned (.int .i64 (idxI names s)) ∧ Below w.heap.size w w' := by
  obtain ⟨⟨A, A', c, c', rfl, hN, hU⟩, hshort, ⟨hf1, hf2⟩, -⟩ := h
  have hb0 : Below w.heap.size w (w.alloc (.cells #[.slice A names.length c, .slice A' up.length c'] 25)) := (Below.refl _ w).alloc (Nat.le_refl _) _
  have H := Lib.hid (hN.below hb0)
  have HB0 := Lib.hid hb0
  clear hN hU hb0 hshort
  go_enter Tryz.func140, Tryz.ntmps140
  go_wp2
  obtain ⟨W0, hW0⟩ : ∃ W0, (w.alloc (.cells #[.slice A names.length c, .slice A' up.length c'] 25)) = W0 := ⟨_, rfl⟩
  rw [hW0] at H HB0 ⊢
  clear hW0
  go_loop [10] (fun i => ∃ k : Nat, k ≤ names.length ∧ i = .int .i64 k ∧ ∀ j t, j < k → names[j]? = some t → t ≠ s) (fun i => names.length - (intOf i).toNat)
  case atStart => exact ⟨0, Nat.zero_le _, rfl, fun j t h => absurd h (Nat.not_lt_zero j)⟩
  case round =>
    obtain ⟨k, hk, rfl, hno⟩ := hrel
    have HN := Lib.hid hno
    clear hno
    by_cases hlt : k < names.length
    · obtain ⟨ad, t, rfl, _, ht, hct⟩ := strs_at H.out hlt
      have hst := streq_eq t s
      have HT := Lib.hid ht
      clear ht
      by_cases he : t = s
      · subst he
        clear hst
        go_wp2
        go_ret
        exact ⟨ret_i64 (idxI_some (idxN_some HT.out HN.out)).symm, HB0.out⟩
      · have h1 : (t.toList == s.toList) = false := by rw [hst, decide_eq_false_iff_not]; exact he
        have HE := Lib.hid he
        clear hst he
        go_wp2
        go_round
        case rel => exact ⟨k + 1, by omega, by go_num, fun j u hj hu => by
          rcases Nat.lt_or_eq_of_le (Nat.le_of_lt_succ hj) with h | rfl
          · exact HN.out j u h hu
          · rw [HT.out] at hu; injection hu with hu; rw [← hu]; exact HE.out⟩
        case measure => simp [intOf]; omega
    · obtain rfl : k = names.length := by omega
      go_wp2
      go_ret
      exact ⟨ret_i64 (idxI_none (idxN_none HN.out)).symm, HB0.out⟩
end Go.Proofs.YtipbilmnknmhmaaGreatDoor

/- Walks of between and Edges. -/
namespace Go.Proofs.YtipbilmnknmhmaaGreatDoor
set_option maxRecDepth 100000
open Go.RowKit Go.Shelf

namespace Ordr
def bt (up : List Nat) (a b c : Nat) : Bool := decide (c ≠ a) && decide (c ≠ b) && Lat.fl up a c && Lat.fl up c b
end Ordr

/-- A slice of edges. -/
def IsEdges (w : World) (B : Nat) (v : Value) (es : List (Int × Int)) : Prop := ∃ A c, v = .slice A es.length c ∧ Row w B A (ecells es) ∧ es.length ≤ c ∧ es.length ≤ 1000
theorem IsEdges.below {w w' : World} {B : Nat} {v : Value} {es : List (Int × Int)} (h : IsEdges w B v es) (hb : Below B w w') : IsEdges w' B v es := by
  obtain ⟨A, c, e, hr, hc, hl⟩ := h
  exact ⟨A, c, e, hr.below hb, hc, hl⟩
theorem IsEdges.more {w : World} {B B' : Nat} {v : Value} {es : List (Int × Int)} (h : IsEdges w B v es) (hB : B ≤ B') : IsEdges w B' v es := by
  obtain ⟨A, c, e, hr, hc, hl⟩ := h
  exact ⟨A, c, e, hr.more hB, hc, hl⟩
theorem IsEdges.nil (w : World) (B : Nat) : IsEdges w B (.slice none 0 0) [] := ⟨none, 0, rfl, Row.nil, Nat.le_refl _, by simp⟩

end Go.Proofs.YtipbilmnknmhmaaGreatDoor
