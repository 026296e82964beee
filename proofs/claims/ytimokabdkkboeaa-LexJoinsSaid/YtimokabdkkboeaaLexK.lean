/- The walk of the law on Join. -/
import Derived.Test.YtimokabdkkboeaaLexJ
namespace Go.Proofs.Ytimokabdkkboeaa
open Go.RowKit Go.Shelf

def cutT (t : Lx.Tk) : Lx.Tk := ⟨t.kind, t.text.extract 0 (min t.text.size 30), t.pos⟩
def fewT (l : List Lx.Tk) : List Lx.Tk := (l.take 60).map cutT
theorem fewT_length (l : List Lx.Tk) : (fewT l).length = min l.length 60 := by unfold fewT; rw [List.length_map, List.length_take, Nat.min_comm]
theorem fewT_take {l : List Lx.Tk} {k : Nat} {t : Lx.Tk} (h : l[k]? = some t) (hk : k < min l.length 60) : (fewT l).take (k + 1) = (fewT l).take k ++ [cutT t] := by
  rw [List.take_add_one]
  congr 1
  unfold fewT
  rw [List.getElem?_map, List.getElem?_take, if_pos (by omega), h]
  rfl
theorem cutT_size (t : Lx.Tk) : (cutT t).text.size ≤ 30 := by
  show (t.text.extract 0 (min t.text.size 30)).size ≤ 30
  rw [Lib.size_eq, Lib.extract_data, List.length_take]
  omega
theorem fewT_size {l : List Lx.Tk} : ∀ t ∈ fewT l, t.text.size ≤ 30 := by
  intro t ht
  obtain ⟨u, _, rfl⟩ := List.mem_map.1 ht
  exact cutT_size u
theorem lens_bound : ∀ (xs : List (List UInt8)), (∀ x ∈ xs, x.length ≤ 30) → Lib.lens xs ≤ 30 * xs.length
  | [], _ => by simp [Lib.lens]
  | x :: r, h => by
    have h1 := h x (by simp)
    have h2 := lens_bound r fun y hy => h y (by simp [hy])
    simp only [Lib.lens, List.map_cons, List.sum_cons, List.length_cons] at h2 ⊢
    omega
theorem joined_bound {l : List Lx.Tk} (h : ∀ t ∈ l, t.text.size ≤ 30) (hl : l.length ≤ 60) (k : Nat) : (Lx.joined (l.take k)).size ≤ 1000000 := by
  unfold Lx.joined
  rw [Lx.pack_size]
  have h1 := Lx.lens_join ((Lx.texts (l.take k)).map (·.data.toList))
  have h2 := lens_bound ((Lx.texts (l.take k)).map (·.data.toList)) (by
    intro x hx
    obtain ⟨s, hs, rfl⟩ := List.mem_map.1 hx
    obtain ⟨t, ht, rfl⟩ := List.mem_map.1 (List.mem_filter.1 hs).1
    have := h t (List.mem_of_mem_take ht)
    rwa [Lib.size_eq] at this)
  have h3 := texts_le (l.take k)
  rw [List.length_take] at h3
  rw [List.length_map] at h1 h2
  omega

theorem cells_new_at {w : World} {g : Nat} (xs : List Value) (t : TypeId) (h : w.heap.size = g) : ∀ j u, xs[j]? = some u → (w.alloc (.cells xs.toArray t)).cell? ((⟨g, 0, none⟩ : Addr).add j) = some u := h ▸ cells_new w xs t
def FewIn (w : World) (v : Value) (l : List Lx.Tk) (wr : World) : Prop := wr.ownsRow w.heap.size 24 3 v l.length (tcells l) ∧ Below w.heap.size w wr
theorem FewIn.step {w : World} {v v' : Value} {l : List Lx.Tk} {t : Lx.Tk} {wr w' : World} {o o2 : Obj} (h : FewIn w v l wr) (hown : w'.ownsRow w.heap.size 24 3 v' (l.length + 1) (tcells l ++ [.int .i64 t.kind, .string t.text, .int .i64 t.pos]))
    (hg : ((wr.alloc o).alloc o2).grownBy w' v.ownBlock) : FewIn w v' (l ++ [t]) w' := by
  obtain ⟨h1, h2⟩ := h
  refine ⟨?_, ?_⟩
  · rw [tcells_snoc, List.length_append]; exact hown
  · have := h2.size
    exact ((h2.alloc h2.size o).alloc (by simp; omega) o2).grown hg (by simp; omega) (fun k he => (h1.lt k he).1)
set_option maxRecDepth 100000 in
set_option maxHeartbeats 4000000 in
theorem joinsLaw_any {A : Option Addr} (c : Nat) (l : List Lx.Tk) (w : World) (h : Row w w.heap.size A (tcells l)) (hc : l.length ≤ c) (hm : c ≤ maxLen) (hs : ∀ t ∈ l, t.text.size ≤ maxLen) :
    Calls Try.prog 3 #[.slice A l.length c] w fun e w' => e = .returned (.bool true) ∧ Below w.heap.size w w' := by
  obtain ⟨i0, hi, hz0, hz1, hz2⟩ := info_parts Try.infoTok
  have H := Lib.hid h
  have HS := Lib.hid hs
  clear h hs
  unfold maxLen at hm
  obtain ⟨N, hN⟩ : ∃ N, min l.length 60 = N := ⟨_, rfl⟩
  have hmin : min (l.length : Int) 60 = (N : Int) := by omega
  have hmax : max (N : Int) 0 = (N : Int) := by omega
  have hN1 : N ≤ l.length := by omega
  have hN2 : N ≤ 60 := by omega
  have HN := Lib.hid hN
  have HF : Hid ((fewT l).length = N) := by unfold Hid; rw [fewT_length, hN]
  clear hN
  go_enter Try.func3, Try.ntmps3
  go_wp2
  go_loopw [3, 12] (fun v i wr => ∃ k : Nat, k ≤ N ∧ i = .int .i64 k ∧ Hid (FewIn w v ((fewT l).take k) wr)) (fun _ i _ => N - (intOf i).toNat)
  case atStart => exact ⟨0, Nat.zero_le _, rfl, World.ownsRow_nil _ _ _ _, Below.refl _ _⟩
  case round =>
    obtain ⟨k, hk, rfl, HI⟩ := hrel
    by_cases hlt : k < N
    · obtain ⟨ad, t, rfl, -, ht, c0, c1, c2⟩ := trow_at (H.out.below HI.out.2) (show k < l.length by omega)
      have hsz := HS.out t (List.mem_of_getElem? ht)
      have hnext := fewT_take ht (by rw [HN.out]; exact hlt)
      obtain ⟨kd, x, p⟩ := t
      dsimp only at c0 c1 c2 hsz
      unfold maxLen at hsz
      have HX := Lib.hid hnext
      have hlen : ((fewT l).take k).length = k := by rw [List.length_take, HF.out]; omega
      have hown := HI.out.1
      rw [hlen] at hown
      have hbsz := HI.out.2.size
      obtain ⟨m, hm⟩ : ∃ m, min x.size 30 = m := ⟨_, rfl⟩
      have hmin2 : min (x.size : Int) 30 = (m : Int) := by omega
      have hm1 : m ≤ x.size := by omega
      have HM := Lib.hid hm
      have HL := Lib.hid hlen
      clear hnext ht hlen hm
      go_wp2_with (at_builtin; refine wpList_append_own _ rfl _ _ 22 rfl w.heap.size 24 i0 (.agg #[.int .i64 0, .string ByteArray.empty, .int .i64 0]) 3 32 Try.underlying22 hi hz0 hz1 hz2 rfl (by decide) _ _ _ rfl ((hown.alloc _).alloc _) ⟨wr.heap.size + 1, 0, none⟩ 1 1 [.int .i64 kd, .string (x.extract 0 m), .int .i64 p] rfl rfl ?c1 ?c2 ?c3 ?c4 ?c5 ?_)
      case c1 => exact cells_new_at _ _ (by simp)
      case c2 => simp [Value.oneCell']
      case c3 => unfold maxLen; omega
      case c4 => omega
      case c5 => first | omega | (simp; omega)
      intro v' w' hown' hgrow _
      have hst := HI.out.step (t := ⟨kd, x.extract 0 m, p⟩) (by rw [HL.out]; exact hown') hgrow
      have HST := Lib.hid hst
      have hx : (⟨kd, x.extract 0 m, p⟩ : Lx.Tk) = cutT ⟨kd, x, p⟩ := by unfold cutT; rw [HM.out]
      have HXX := Lib.hid hx
      clear hst hown' hgrow hown hx
      go_wp2
      go_roundw
      case rel => exact ⟨k + 1, by omega, by go_num, by rw [HX.out, ← HXX.out]; exact HST⟩
      case measure => simp [intOf]; omega
    · obtain rfl : k = N := by omega
      have HI2 := HI
      rw [List.take_of_length_le (by rw [HF.out]; exact Nat.le_refl _)] at HI2
      have hown := HI2.out.1
      obtain ⟨A2, c2, rfl⟩ := ownT_slice hown
      have hrow := (ownT_row hown).1
      have hfl := joined_bound (l := fewT l) fewT_size (by rw [HF.out]; exact hN2)
      have hal := lexAlive_any wr
      have hjn := fun w2 (hb : Below wr.heap.size wr w2) => lexJoin_any c2 (fewT l) w2 ((hrow.below hb).more hb.size) (by rw [HF.out]; omega) (by have := hfl (fewT l).length; rw [List.take_length] at this; omega)
      have hrf := fun w2 (hb : Below wr.heap.size wr w2) => refJoin_any c2 (fewT l) w2 ((hrow.below hb).more hb.size) (by rw [HF.out]; omega) hfl
      rw [HF.out] at hjn hrf ⊢
      have HA := Lib.hid hal
      have HJ := Lib.hid hjn
      have HR := Lib.hid hrf
      clear hown hrow hfl hal hjn hrf
      go_wp2_with (fail)
      refine HA.out.mono ?_
      rintro e w1 ⟨rfl, hb1⟩
      have HB1 := Lib.hid hb1
      clear hb1
      go_wp2_with (fail)
      refine (HJ.out _ HB1.out).mono ?_
      rintro e w2 ⟨rfl, hb2⟩
      have HB2 : Hid (Below wr.heap.size wr w2) := HB1.out.trans (hb2.mono HB1.out.size)
      clear hb2
      go_wp2_with (fail)
      refine (HR.out _ HB2.out).mono ?_
      rintro e w3 ⟨rfl, hb3⟩
      have HB3 : Hid (Below wr.heap.size wr w3) := HB2.out.trans (hb3.mono HB2.out.size)
      clear hb3
      go_wp2
      go_ret
      exact ⟨retb (by simp), HI2.out.2.trans (HB3.out.mono HI2.out.2.size)⟩
end Go.Proofs.Ytimokabdkkboeaa
