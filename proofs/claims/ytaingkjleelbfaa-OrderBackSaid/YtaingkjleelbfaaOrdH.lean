/- Walks of made, checkEdges, Clone and Of. -/
import Derived.Test.YtaingkjleelbfaaOrdE
import Derived.Test.YtaingkjleelbfaaOrdG
import Derived.Deep.LoopGhost
namespace Go.Proofs.Ytaingkjleelbfaa
open Go.RowKit Go.Shelf

def toIs (ps : List (Nat × Nat)) : List (Int × Int) := ps.map Ordr.toI
theorem toIs_at {ps : List (Nat × Nat)} {k : Nat} {e : Int × Int} (h : (toIs ps)[k]? = some e) : ∃ p, ps[k]? = some p ∧ e = ((p.1 : Int), (p.2 : Int)) := by
  unfold toIs at h
  rw [List.getElem?_map] at h
  cases hp : ps[k]? with
  | none => rw [hp] at h; cases h
  | some p => rw [hp] at h; injection h with h; exact ⟨p, rfl, h.symm⟩
theorem getD_some {l : List Nat} {a : Nat} (h : a < l.length) : l[a]? = some (l.getD a 0) := by
  rw [List.getD_eq_getElem?_getD, List.getElem?_eq_getElem h]; rfl

/-- What holds in made's loops. -/
def MadeAt (w : World) (n : Nat) (ps : List (Nat × Nat)) (up : List Nat) (wr : World) : Prop :=
  Ordr.Part n ps up ∧ Blk wr w.heap.size 62 (u32s up).toArray ∧ Below w.heap.size w wr

set_option maxRecDepth 100000 in
set_option maxHeartbeats 2000000 in
theorem made_any {A : Option Addr} (c n : Nat) (ps : List (Nat × Nat)) (w : World) (h : Row w w.heap.size A (ecells (toIs ps))) (hn : n ≤ 31) (hl : ps.length ≤ 1000) (hv : ∀ p ∈ ps, p.1 < n ∧ p.2 < n) :
    Calls Try.prog 33 #[.int .i64 n, .slice A ps.length c] w fun e w' => e = .returned (.slice (some ⟨w.heap.size, 0, none⟩) n n) ∧ Blk w' w.heap.size 62 (u32s (Ordr.madeL n ps)).toArray ∧ Below w.heap.size w w' := by
  have hu := ups_any eqF n 51 w hn Try.call51 (fun W _ a b _ _ => made1_any a b W)
  have HU := Lib.hid hu
  have H := Lib.hid h
  have HV := Lib.hid hv
  have hpl : (toIs ps).length = ps.length := by simp [toIs]
  have HPL := Lib.hid hpl
  clear hu h hv hpl
  go_enter Try.func33, Try.ntmps33
  go_wp2
  go_step3
  go_wp2_with (go_at_call 50; refine HU.out.mono ?_; rintro e w1 ⟨rfl, hblk, hb1⟩)
  have hst : MadeAt w n ps (Ordr.ups eqF n) w1 := ⟨Ordr.start_part, hblk, hb1⟩
  have HST := Lib.hid hst
  clear hst hblk hb1
  go_step3
  go_wp2
  go_loopg [] (Ordr.room n (Ordr.ups eqF n)) (fun g wr => ∃ up, Ordr.room n up = g ∧ MadeAt w n ps up wr)
  case atStart => exact ⟨_, rfl, HST.out⟩
  case round =>
    clear HST
    obtain ⟨up, hg, hat⟩ := hrel
    have HG := Lib.hid hg
    have HAT := Lib.hid hat
    clear hg hat
    obtain ⟨wo, rfl⟩ : ∃ wo : World, wo = wr := ⟨_, rfl⟩
    go_wp2
    go_loopg [12] ps.length (fun g2 i wr => ∃ k : Nat, k + g2 = ps.length ∧ i = .int .i64 k ∧ (∀ j p, j < k → ps[j]? = some p → Lat.sub (up.getD p.2 0) (up.getD p.1 0) = true) ∧ MadeAt w n ps up wr)
    case atStart => exact ⟨0, by omega, rfl, fun j p h => absurd h (Nat.not_lt_zero j), HAT.out⟩
    case round =>
      obtain ⟨k, hk, rfl, hsub, hat⟩ := hrel
      by_cases hlt : k < ps.length
      · obtain ⟨ad, e, rfl, _, he, hc0, hc1⟩ := erow_at (H.out.below hat.2.2) (show k < (toIs ps).length by rw [HPL.out]; exact hlt)
        obtain ⟨p, hp, rfl⟩ := toIs_at he
        obtain ⟨hp1, hp2⟩ := HV.out p (List.mem_of_getElem? hp)
        obtain ⟨a, b⟩ := p
        dsimp only at hc0 hc1 hp1 hp2
        have hla : a < up.length := by rw [hat.1.len]; exact hp1
        have hlb : b < up.length := by rw [hat.1.len]; exact hp2
        have hca : wr.cell? ⟨w.heap.size, a, none⟩ = some (.int .u32 (up.getD a 0 : Nat)) := by rw [hat.2.1.cell]; simp only [u32s, List.getElem?_toArray, List.getElem?_map, getD_some hla]; rfl
        have hcb : wr.cell? ⟨w.heap.size, b, none⟩ = some (.int .u32 (up.getD b 0 : Nat)) := by rw [hat.2.1.cell]; simp only [u32s, List.getElem?_toArray, List.getElem?_map, getD_some hlb]; rfl
        have hfz : wr.frozen? ⟨w.heap.size, a, none⟩ = false := hat.2.1.frozen a
        have hlt0 := hat.2.1.lt
        have h32 : 2 ^ n ≤ 4294967296 := Nat.pow_le_pow_right (n := 2) (j := 32) (by decide) (by omega)
        have hxa : up.getD a 0 < 4294967296 := Nat.lt_of_lt_of_le (hat.1.rows a) h32
        have hxb : up.getD b 0 < 4294967296 := Nat.lt_of_lt_of_le (hat.1.rows b) h32
        have han := andNot_any _ _ hxb hxa
        have hor := u32_or_nat _ _ hxa hxb
        obtain ⟨x, hx⟩ : ∃ x, up.getD a 0 = x := ⟨_, rfl⟩
        obtain ⟨y, hy⟩ : ∃ y, up.getD b 0 = y := ⟨_, rfl⟩
        rw [hx] at hca hor hxa han
        rw [hy] at hcb hor hxb han
        have HX := Lib.hid hx
        have HY := Lib.hid hy
        have HP := Lib.hid hp
        have HSUB := Lib.hid hsub
        have HA2 := Lib.hid hat
        clear hx hy hp he hsub hat hla hlb h32
        cases hs : Lat.sub y x
        · rw [hs] at han
          have hne : (bits BinOp.andNot IntKind.u32 (y : Int) (x : Int) != 0) = true := by rw [bne, han]; rfl
          have HS := Lib.hid hs
          clear hs
          go_wp2
          go_quiet (fail)
          all_goals go_wp2
          go_region
          all_goals go_wp2
          all_goals
            go_roundg (Ordr.room n (Ordr.into up (a, b)))
            case measure => rw [← HG.out]; exact Ordr.into_room HA2.out.1 (by exact hp1) (by rw [HX.out, HY.out]; exact HS.out)
            case rel =>
              refine ⟨_, rfl, Ordr.into_part HA2.out.1 (List.mem_of_getElem? HP.out) hp1, ?_, ?_⟩
              · unfold Ordr.into
                rw [HX.out, HY.out, ← u32s_set]
                exact ((HA2.out.2.1.alloc _).set_ a _).drewN _
              · exact below_drewN_ ((HA2.out.2.2.alloc HA2.out.2.2.size _).setCell (p := ⟨w.heap.size, a, none⟩) (Nat.le_refl _) _) _
        · rw [hs] at han
          have hne : (bits BinOp.andNot IntKind.u32 (y : Int) (x : Int) != 0) = false := by rw [bne, han]; rfl
          have HS := Lib.hid hs
          clear hs
          go_wp2
          go_quiet (fail)
          all_goals go_wp2
          go_roundg (ps.length - (k + 1))
          case measure => omega
          case rel =>
            refine ⟨k + 1, by omega, by go_num, fun j p hj hp => ?_, HA2.out.1, (HA2.out.2.1.alloc _).drewN _, below_drewN_ (HA2.out.2.2.alloc HA2.out.2.2.size _) _⟩
            rcases Nat.lt_or_eq_of_le (Nat.le_of_lt_succ hj) with h | rfl
            · exact HSUB.out j p h hp
            · rw [HP.out] at hp
              injection hp with hp
              subst hp
              rw [HX.out, HY.out]
              exact HS.out
      · obtain rfl : k = ps.length := by omega
        have HSUB := Lib.hid hsub
        have HA2 := Lib.hid hat
        clear hsub hat
        go_wp2
        rw [Exit.noGoto_ret]
        go_ret
        have hd := Ordr.part_done HA2.out.1 (fun p hp => by obtain ⟨j, hj, rfl⟩ := List.getElem_of_mem hp; exact HSUB.out j _ hj (List.getElem?_eq_getElem hj)) HV.out
        exact ⟨rfl, by rw [← hd]; exact HA2.out.2.1, HA2.out.2.2⟩
end Go.Proofs.Ytaingkjleelbfaa
