/- The walk of the reference's Join. -/
import Derived.Test.YtimokabdkkboeaaLexI
namespace Go.Proofs.Ytimokabdkkboeaa
open Go.RowKit Go.Shelf

theorem join_snoc (xs : List (List UInt8)) (x : List UInt8) : Lib.join (xs ++ [x]) [32] = if xs = [] then x else Lib.join xs [32] ++ [32] ++ x := by
  cases xs with
  | nil => rw [if_pos rfl]; exact Lib.join_one _ _
  | cons y r =>
    rw [if_neg (List.cons_ne_nil _ _), List.cons_append, Lib.join_cons, Lib.join_cons]
    simp [Lib.joinTail]
theorem join_empty {xs : List (List UInt8)} (h : ∀ x ∈ xs, x ≠ []) : Lib.join xs [32] = [] ↔ xs = [] := by
  cases xs with
  | nil => exact ⟨fun _ => rfl, fun _ => rfl⟩
  | cons y r =>
    rw [Lib.join_cons]
    constructor
    · intro e
      exact absurd (List.append_eq_nil_iff.1 e).1 (h y (by simp))
    · intro e
      cases e
theorem texts_ne (l : List Lx.Tk) : ∀ x ∈ (Lx.texts l).map (·.data.toList), x ≠ [] := by
  intro x hx
  obtain ⟨s, hs, rfl⟩ := List.mem_map.1 hx
  have h := (List.mem_filter.1 hs).2
  intro e
  simp only [e] at h
  exact absurd h (by decide)
theorem joined_none {l : List Lx.Tk} {k : Nat} {x : ByteArray} (h : Lx.texts (l.take (k + 1)) = Lx.texts (l.take k) ++ (if x.data.toList = [] then [] else [x])) (hx : x.data.toList = []) : Lx.joined (l.take (k + 1)) = Lx.joined (l.take k) := by
  unfold Lx.joined
  rw [h, if_pos hx, List.append_nil]
theorem joined_first {l : List Lx.Tk} {k : Nat} {x : ByteArray} (h : Lx.texts (l.take (k + 1)) = Lx.texts (l.take k) ++ (if x.data.toList = [] then [] else [x])) (hx : x.data.toList ≠ []) (h0 : (Lx.joined (l.take k)).data.toList = []) : Lx.joined (l.take (k + 1)) = Lx.joined (l.take k) ++ x := by
  have h1 := (join_empty (texts_ne (l.take k))).1 h0
  have e : Lx.joined (l.take k) = Lx.pack [] := by unfold Lx.joined; rw [h1]; rfl
  rw [e]
  unfold Lx.joined
  rw [h, if_neg hx, List.map_append, h1, List.nil_append, List.map_cons, List.map_nil, Lib.join_one, Lx.pack_data]
  apply ByteArray.ext
  simp [Lx.pack]
theorem joined_more {l : List Lx.Tk} {k : Nat} {x : ByteArray} (h : Lx.texts (l.take (k + 1)) = Lx.texts (l.take k) ++ (if x.data.toList = [] then [] else [x])) (hx : x.data.toList ≠ []) (h0 : (Lx.joined (l.take k)).data.toList ≠ []) : Lx.joined (l.take (k + 1)) = Lx.joined (l.take k) ++ { data := #[32] } ++ x := by
  have h1 : (Lx.texts (l.take k)).map (·.data.toList) ≠ [] := fun e => h0 ((join_empty (texts_ne (l.take k))).2 e)
  unfold Lx.joined
  rw [h, if_neg hx, List.map_append, List.map_cons, List.map_nil, join_snoc, if_neg h1]
  apply ByteArray.ext
  simp [Lx.pack]

set_option maxRecDepth 100000 in
set_option maxHeartbeats 4000000 in
theorem refJoin_any {A : Option Addr} (c : Nat) (l : List Lx.Tk) (w : World) (h : Row w w.heap.size A (tcells l)) (hl : l.length ≤ 1000000) (hsum : ∀ k, (Lx.joined (l.take k)).size ≤ 1000000) :
    Calls Try.prog 7 #[.slice A l.length c] w fun e w' => e = .returned (.string (Lx.joined l)) ∧ Below w.heap.size w w' := by
  have H := Lib.hid h
  have HS := Lib.hid hsum
  clear h hsum
  go_enter Try.func7, Try.ntmps7
  go_wp2
  go_loopw [3, 8] (fun v i wr => ∃ k : Nat, k ≤ l.length ∧ i = .int .i64 k ∧ v = .string (Lx.joined (l.take k)) ∧ Hid (Below w.heap.size w wr)) (fun _ i _ => l.length - (intOf i).toNat)
  case atStart => exact ⟨0, Nat.zero_le _, rfl, rfl, Below.refl _ _⟩
  case round =>
    obtain ⟨k, hk, rfl, rfl, HI⟩ := hrel
    by_cases hlt : k < l.length
    · obtain ⟨ad, t, rfl, -, ht, c0, c1, c2⟩ := trow_at (H.out.below HI.out) hlt
      obtain ⟨kd, x, p⟩ := t
      dsimp only at c0 c1 c2
      have hnext := texts_take ht
      have HN := Lib.hid hnext
      clear hnext ht
      by_cases hx : x.data.toList = []
      · have he := empty_of hx
        have hj := joined_none HN.out hx
        have HJ := Lib.hid hj
        clear hx hj
        go_wp2
        go_roundw
        case rel => exact ⟨k + 1, by omega, by go_num, by rw [HJ.out], HI.out.alloc HI.out.size _⟩
        case measure => simp [intOf]; omega
      · have he := empty_not hx
        by_cases h0 : (Lx.joined (l.take k)).data.toList = []
        · have he2 := empty_of h0
          have hj := joined_first HN.out hx h0
          have hsz := HS.out (k + 1)
          rw [hj, ByteArray.size_append] at hsz
          dsimp only at hsz
          have HJ := Lib.hid hj
          clear hx hj h0
          have hno : ¬ 9223372036854775807 < (Lx.joined (l.take k)).size + x.size := by omega
          generalize Lx.joined (l.take k) = j0 at *
          go_wp2
          go_roundw
          case rel => exact ⟨k + 1, by omega, by go_num, by rw [HJ.out], HI.out.alloc HI.out.size _⟩
          case measure => simp [intOf]; omega
        · have he2 := empty_not h0
          have hj := joined_more HN.out hx h0
          have hsz := HS.out (k + 1)
          rw [hj, ByteArray.size_append, ByteArray.size_append, show ({ data := #[32] } : ByteArray).size = 1 from rfl] at hsz
          dsimp only at hsz
          have HJ := Lib.hid hj
          clear hx hj h0
          have hno : ¬ 9223372036854775807 < (Lx.joined (l.take k)).size + 1 := by omega
          have hno2 : ¬ 9223372036854775807 < (Lx.joined (l.take k)).size + 1 + x.size := by omega
          generalize Lx.joined (l.take k) = j0 at *
          go_wp2
          go_roundw
          case rel => exact ⟨k + 1, by omega, by go_num, by rw [HJ.out], HI.out.alloc HI.out.size _⟩
          case measure => simp [intOf]; omega
    · obtain rfl : k = l.length := by omega
      rw [List.take_length]
      go_wp2
      go_ret
      exact ⟨rfl, HI.out⟩
end Go.Proofs.Ytimokabdkkboeaa
