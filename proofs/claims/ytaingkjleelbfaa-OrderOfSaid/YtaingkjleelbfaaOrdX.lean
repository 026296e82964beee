/- Walk of the reference's reach. -/
import Derived.Test.YtaingkjleelbfaaOrdW
import Derived.Test.YtaingkjleelbfaaOrdR
namespace Go.Proofs.Ytaingkjleelbfaa
open Go.RowKit Go.Shelf

theorem Try.infoBool : (Try.prog.info? 4).map (fun i => (i.zero, i.size, i.bytes)) = some (some (.bool false), 1, 1) := by kernel_rfl
def bools (l : List Bool) : List Value := l.map Value.bool
theorem bools_set (l : List Bool) (i : Nat) (x : Bool) : (bools l).set i (.bool x) = bools (l.set i x) := by simp [bools, List.map_set]
theorem bools_at {l : List Bool} {i : Nat} (h : i < l.length) : (bools l)[i]? = some (.bool (l.getD i false)) := by
  unfold bools
  rw [List.getElem?_map, List.getD_eq_getElem?_getD, List.getElem?_eq_getElem h]
  rfl

/-- What holds in reach's loops. -/
def ReachAt (w : World) (g n cap : Nat) (l : List Bool) (wr : World) : Prop :=
  wr.ownsRow w.heap.size 4 1 (.slice (some ⟨g, 0, none⟩) n cap) n (bools l) ∧ Below w.heap.size w wr
theorem ReachAt.len {w wr : World} {g n cap : Nat} {l : List Bool} (h : ReachAt w g n cap l wr) : l.length = n := by
  have := h.1.1
  simpa [bools] using this

set_option maxRecDepth 100000 in
set_option maxHeartbeats 2000000 in
theorem rReach_any {A : Option Addr} (c c2 n : Nat) (ad : Addr) (ps : List (Nat × Nat)) (l : List Bool) (w : World) (h : Row w w.heap.size A (ecells (toIs ps))) (h2 : Row w w.heap.size (some ad) (bools l)) (hn : l.length = n) (hn1 : 1 ≤ n) (hn8 : n ≤ 8) (hl : ps.length ≤ 1000) (hv : ∀ p ∈ ps, p.1 < n ∧ p.2 < n) :
    Calls Try.prog 34 #[.slice A ps.length c, .slice (some ad) n c2] w fun e w' => ∃ g cap, e = .returned (.slice (some ⟨g, 0, none⟩) n cap) ∧ w'.ownsRow w.heap.size 4 1 (.slice (some ⟨g, 0, none⟩) n cap) n (bools (Ordr.rounds ps l n)) ∧ Below w.heap.size w w' := by
  obtain ⟨i0, hi, hz0, hz1, hz2⟩ := info_parts Try.infoBool
  have H := Lib.hid h
  have H2 := Lib.hid h2
  have HN := Lib.hid hn
  have HV := Lib.hid hv
  have hpl : (toIs ps).length = ps.length := by simp [toIs]
  have HPL := Lib.hid hpl
  clear h h2 hn hv hpl
  go_enter Try.func34, Try.ntmps34
  go_wp2_with (at_builtin; refine wpList_append_own _ rfl _ _ 68 rfl w.heap.size 4 i0 (.bool false) 1 1 Try.underlying68 hi hz0 hz1 hz2 rfl (by decide) (.slice (some ⟨w.heap.size, 0, none⟩) 0 0) 0 [] rfl ?c0 ad n c2 (bools l) rfl ?c1 ?c2 ?c3 ?c4 ?c5 ?c6 ?_)
  case c0 => exact own_empty w 4
  case c1 => rw [← HN.out]; simp [bools]
  case c2 => exact fun j u hu => (Row.below H2.out ((Below.refl _ w).alloc (Nat.le_refl _) _)).cells_ hu
  case c3 => intro u hu; obtain ⟨s, _, rfl⟩ := List.mem_map.1 hu; rfl
  case c4 => unfold maxLen; omega
  case c5 => omega
  case c6 => simp
  intro v' w1 hown hg _
  obtain ⟨m, rfl⟩ : ∃ m, n = m + 1 := ⟨n - 1, by omega⟩
  have hown' : w1.ownsRow w.heap.size 4 1 v' (m + 1) (bools l) := hown
  obtain ⟨g, cap, rfl⟩ := ownsRow_succ hown'
  have hst : ReachAt w g (m + 1) cap (Ordr.rounds ps l 0) w1 := ⟨hown', ((Below.refl _ w).alloc (Nat.le_refl _) _).grown hg (by simp) (fun k he => by cases he; exact Nat.le_refl _)⟩
  have HST := Lib.hid hst
  clear hst hown hown' hg
  go_wp2
  go_loopw [14] (fun i wr => ∃ k : Nat, k ≤ m + 1 ∧ i = .int .i64 k ∧ ReachAt w g (m + 1) cap (Ordr.rounds ps l k) wr) (fun i _ => m + 1 - (intOf i).toNat)
  case atStart => exact ⟨0, Nat.zero_le _, rfl, HST.out⟩
  case round =>
    clear HST
    obtain ⟨k, hk, rfl, hat⟩ := hrel
    have HAT := Lib.hid hat
    clear hat
    by_cases hlt : k < m + 1
    · obtain ⟨wo, rfl⟩ : ∃ wo : World, wo = wr := ⟨_, rfl⟩
      go_wp2
      go_loopw [18] (fun i wr => ∃ j : Nat, j ≤ ps.length ∧ i = .int .i64 j ∧ ReachAt w g (m + 1) cap (Ordr.passTo ps (Ordr.rounds ps l k) j) wr) (fun i _ => ps.length - (intOf i).toNat)
      case atStart => exact ⟨0, Nat.zero_le _, rfl, HAT.out⟩
      case round =>
        clear HAT
        obtain ⟨j, hj, rfl, hat⟩ := hrel
        by_cases hlt2 : j < ps.length
        · obtain ⟨ad', e, rfl, _, he, hc0, hc1⟩ := erow_at (H.out.below hat.2) (show j < (toIs ps).length by rw [HPL.out]; exact hlt2)
          obtain ⟨⟨a, b⟩, hp, rfl⟩ := toIs_at he
          obtain ⟨hp1, hp2⟩ := HV.out (a, b) (List.mem_of_getElem? hp)
          dsimp only at hc0 hc1 hp1 hp2
          have hlen := hat.len
          have hca : wr.cell? ⟨g, a, none⟩ = some (.bool ((Ordr.passTo ps (Ordr.rounds ps l k) j).getD a false)) := by rw [hat.1.cellAt a (by omega), bools_at (by omega)]
          have hcb : wr.cell? ⟨g, b, none⟩ = some (.bool ((Ordr.passTo ps (Ordr.rounds ps l k) j).getD b false)) := by rw [hat.1.cellAt b (by omega), bools_at (by omega)]
          have hfb := hat.1.frozenAt b
          have hgl := hat.1.lt g rfl
          obtain ⟨hgl1, hgl2⟩ := hgl
          have hsuc := Ordr.passTo_succ (l := Ordr.rounds ps l k) hp
          have HP := Lib.hid hsuc
          have HA2 := Lib.hid hat
          clear hp he hat hlen hsuc
          cases ex : (Ordr.passTo ps (Ordr.rounds ps l k) j).getD a false
          · rw [ex] at hca
            have HX := Lib.hid ex
            clear ex hcb
            go_wp2
            go_roundw
            case rel => exact ⟨j + 1, by omega, by go_num, by rw [HP.out]; unfold Ordr.step1; rw [if_neg (by rw [HX.out]; decide)]; exact ⟨HA2.out.1.alloc _, HA2.out.2.alloc HA2.out.2.size _⟩⟩
            case measure => simp [intOf]; omega
          · rw [ex] at hca
            have HX := Lib.hid ex
            clear ex
            go_wp2
            go_roundw
            case rel =>
              refine ⟨j + 1, by omega, by go_num, ?_, ?_⟩
              · rw [HP.out]
                unfold Ordr.step1
                rw [if_pos HX.out, ← bools_set]
                exact (HA2.out.1.stored b _).1.alloc _
              · exact (HA2.out.2.setCell (p := ⟨g, b, none⟩) hgl1 _).alloc (by have := HA2.out.2.size; simpa [World.setCell] using this) _
            case measure => simp [intOf]; omega
        · obtain rfl : j = ps.length := by omega
          rw [Ordr.passTo_all] at hat
          have HA2 := Lib.hid hat
          clear hat
          go_wp2
          go_roundw
          case rel => exact ⟨k + 1, by omega, by go_num, HA2.out⟩
          case measure => simp [intOf]; omega
    · obtain rfl : k = m + 1 := by omega
      go_wp2
      go_ret
      exact ⟨g, cap, rfl, HAT.out.1, HAT.out.2⟩
end Go.Proofs.Ytaingkjleelbfaa
