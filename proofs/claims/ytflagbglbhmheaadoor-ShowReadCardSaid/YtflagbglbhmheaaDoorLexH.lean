/- The walk of Join. -/
import Derived.Test.YtflagbglbhmheaaDoorLexG
namespace Go.Proofs.YtflagbglbhmheaaDoor
set_option maxRecDepth 100000
open Go.RowKit Go.Shelf

theorem Tryd.infoStrT : (Tryd.prog.info? 9).map (fun i => (i.zero, i.size, i.bytes)) = some (some (.string ByteArray.empty), 1, 16) := by kernel_rfl
theorem texts_snoc (l : List Lx.Tk) (t : Lx.Tk) : Lx.texts (l ++ [t]) = Lx.texts l ++ (if t.text.data.toList = [] then [] else [t.text]) := by
  unfold Lx.texts
  rw [List.map_append, List.filter_append]
  congr 1
  by_cases h : t.text.data.toList = []
  · have h2 : (!t.text.data.toList.isEmpty) = false := by rw [h]; rfl
    rw [if_pos h, List.map_cons, List.map_nil, List.filter_cons, if_neg (by rw [h2]; decide)]
    rfl
  · have h2 : (!t.text.data.toList.isEmpty) = true := by
      cases e : t.text.data.toList with
      | nil => exact absurd e h
      | cons _ _ => rfl
    rw [if_neg h, List.map_cons, List.map_nil, List.filter_cons, if_pos h2]
    rfl
theorem empty_of {x : ByteArray} (h : x.data.toList = []) : x.toList.isEmpty = true := by rw [Lib.toList_data, h]; rfl
theorem empty_not {x : ByteArray} (h : x.data.toList ≠ []) : x.toList.isEmpty = false := by
  rw [Lib.toList_data]
  cases e : x.data.toList with
  | nil => exact absurd e h
  | cons _ _ => rfl
theorem texts_take {l : List Lx.Tk} {k : Nat} {t : Lx.Tk} (h : l[k]? = some t) : Lx.texts (l.take (k + 1)) = Lx.texts (l.take k) ++ (if t.text.data.toList = [] then [] else [t.text]) := by
  rw [List.take_add_one, h]
  exact texts_snoc _ _
theorem texts_le (l : List Lx.Tk) : (Lx.texts l).length ≤ l.length := by
  unfold Lx.texts
  exact Nat.le_trans (List.length_filter_le _ _) (by simp)

def JoinIn (w : World) (v : Value) (l : List ByteArray) (wr : World) : Prop := wr.ownsRow w.heap.size 9 1 v l.length (strs l) ∧ Below w.heap.size w wr
theorem JoinIn.step {w : World} {v v' : Value} {l : List ByteArray} {x : ByteArray} {wr w' : World} {o o2 : Obj} (h : JoinIn w v l wr) (hown : w'.ownsRow w.heap.size 9 1 v' (l.length + 1) (strs l ++ [.string x]))
    (hg : ((wr.alloc o).alloc o2).grownBy w' v.ownBlock) : JoinIn w v' (l ++ [x]) w' := by
  obtain ⟨h1, h2⟩ := h
  refine ⟨?_, ?_⟩
  · rw [List.length_append, show strs (l ++ [x]) = strs l ++ [.string x] by simp [strs]]; exact hown
  · have := h2.size
    exact ((h2.alloc h2.size o).alloc (by simp; omega) o2).grown hg (by simp; omega) (fun k he => (h1.lt k he).1)

set_option maxRecDepth 100000 in
set_option maxHeartbeats 4000000 in
theorem lexJoin_any {A : Option Addr} (c : Nat) (l : List Lx.Tk) (w : World) (h : Row w w.heap.size A (tcells l)) (hl : l.length ≤ 1000000) (hsum : (Lx.joined l).size ≤ 140737488355328) :
    Calls Tryd.prog 14 #[.slice A l.length c] w fun e w' => e = .returned (.string (Lx.joined l)) ∧ Below w.heap.size w w' := by
  have H := Lib.hid h
  have HS := Lib.hid hsum
  clear h hsum
  obtain ⟨i0, hi, hz0, hz1, hz2⟩ := info_parts Tryd.infoStrT
  go_enter Tryd.func14, Tryd.ntmps14
  go_wp2
  go_loopw [3, 8] (fun v i wr => ∃ k : Nat, k ≤ l.length ∧ i = .int .i64 k ∧ Hid (JoinIn w v (Lx.texts (l.take k)) wr)) (fun _ i _ => l.length - (intOf i).toNat)
  case atStart => exact ⟨0, Nat.zero_le _, rfl, World.ownsRow_nil _ _ _ _, Below.refl _ _⟩
  case round =>
    obtain ⟨k, hk, rfl, HI⟩ := hrel
    by_cases hlt : k < l.length
    · obtain ⟨ad, t, rfl, _, ht, c0, c1, c2⟩ := trow_at (H.out.below HI.out.2) hlt
      obtain ⟨kd, x, p⟩ := t
      dsimp only at c0 c1 c2
      have hnext := texts_take ht
      have HN := Lib.hid hnext
      clear hnext ht
      have hle := texts_le (l.take k)
      rw [List.length_take] at hle
      by_cases hx : x.data.toList = []
      · have he := empty_of hx
        rw [if_pos hx, List.append_nil] at HN
        clear hx
        go_wp2
        go_roundw
        case rel => exact ⟨k + 1, by omega, by go_num, by rw [HN.out]; exact ⟨HI.out.1.alloc _, HI.out.2.alloc HI.out.2.size _⟩⟩
        case measure => simp [intOf]; omega
      · have he := empty_not hx
        rw [if_neg hx] at HN
        have hown := HI.out.1
        have hsz := HI.out.2.size
        clear hx
        go_wp2_with (at_builtin; refine wpList_append_own _ rfl _ _ 68 rfl w.heap.size 9 i0 (.string ByteArray.empty) 1 16 Tryd.underlying68 hi hz0 hz1 hz2 rfl (by decide) _ _ _ rfl ((hown.alloc _).alloc _) ⟨wr.heap.size + 1, 0, none⟩ 1 1 [.string x] rfl rfl ?c1 ?c2 ?c3 ?c4 ?c5 ?_)
        case c2 => simp [Value.oneCell']
        case c3 => unfold maxLen; omega
        case c4 => omega
        case c5 => first | omega | (simp; omega)
        intro v' w' hown' hgrow _
        have hst := HI.out.step hown' hgrow
        have HST := Lib.hid hst
        clear hst hown' hgrow hown
        go_wp2
        go_roundw
        case rel => exact ⟨k + 1, by omega, by go_num, by rw [HN.out]; exact HST⟩
        case measure => simp [intOf]; omega
    · obtain rfl : k = l.length := by omega
      rw [List.take_length] at HI
      have hown := HI.out.1
      obtain ⟨A2, c2, rfl⟩ := ownT_slice hown
      have hj : Lx.joined l = Lx.pack (Lib.join ((Lx.texts l).map (·.data.toList)) [32]) := rfl
      have hcall : Calls Tryd.prog 26 #[.slice A2 (Lx.texts l).length c2, .string { data := #[32] }] wr fun e w' => e = .returned (.string (Lx.joined l)) ∧ Below wr.heap.size wr w' := by
        obtain ⟨hr, hcap⟩ := ownT_row hown
        by_cases h0 : Lx.texts l = []
        · rw [hj, h0]
          exact (strings_Join_none A2 c2 _ wr).mono fun e w' ⟨he, hw⟩ => ⟨he, hw ▸ Below.refl _ _⟩
        · have hne : strs (Lx.texts l) ≠ [] := by unfold strs; rwa [ne_eq, List.map_eq_nil_iff]
          obtain ⟨ad, rfl, hadb, hcs⟩ := hr hne
          rcases hown.2 with ⟨he, _⟩ | ⟨g, cap, cur, he, _, hh, _⟩
          · cases he
          · injection he with e1 e2 e3
            injection e1 with e1
            subst e1 e3
            rw [hj]
            have hle := texts_le l
            refine strings_Join g 0 c2 (Lx.texts l) { data := #[32] } wr (fun j x hx => ?_) (Array.getElem?_eq_some_iff.1 hh).1 (by omega) hcap (by have := HS.out; rw [hj, Lx.pack_size] at this; exact this)
            have h1 := hcs j (.string x) (by unfold strs; rw [List.getElem?_map, hx]; rfl)
            have e : (⟨g, 0, none⟩ : Addr).add j = ⟨g, 0 + j, none⟩ := by unfold Addr.add; split <;> simp_all
            rw [e] at h1
            exact h1
      have HC := Lib.hid hcall
      clear hcall hj hown
      go_wp2_with (fail)
      refine HC.out.mono ?_
      rintro e w2 ⟨rfl, hb2⟩
      have HB2 := Lib.hid hb2
      clear hb2
      go_wp2
      go_ret
      exact ⟨rfl, HI.out.2.trans (HB2.out.mono HI.out.2.size)⟩
end Go.Proofs.YtflagbglbhmheaaDoor
