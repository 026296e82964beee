/- Walks of between and Edges. -/
import Derived.Test.YtaingkjleelbfaaOrdD
namespace Go.Proofs.Ytaingkjleelbfaa
open Go.RowKit Go.Shelf

namespace Ordr
def bt (up : List Nat) (a b c : Nat) : Bool := decide (c ≠ a) && decide (c ≠ b) && Lat.fl up a c && Lat.fl up c b
def betw (up : List Nat) (a b : Nat) : Bool := (List.range up.length).any (bt up a b)
def isEdge (up : List Nat) (p : Nat × Nat) : Bool := decide (p.1 ≠ p.2) && Lat.fl up p.1 p.2 && !betw up p.1 p.2
def toI (p : Nat × Nat) : Int × Int := (p.1, p.2)
def edgesTo (up : List Nat) (k : Nat) : List (Int × Int) := ((Lat.upto up.length k).filter (isEdge up)).map toI
def edges (up : List Nat) : List (Int × Int) := ((Lat.pairs up.length).filter (isEdge up)).map toI
theorem edgesTo_all (up : List Nat) : edgesTo up (up.length * up.length) = edges up := rfl
theorem edgesTo_zero (up : List Nat) : edgesTo up 0 = [] := rfl
theorem edgesTo_yes {up : List Nat} {a b : Nat} (hb : b < up.length) (h : isEdge up (a, b) = true) : edgesTo up (a * up.length + b + 1) = edgesTo up (a * up.length + b) ++ [((a : Int), (b : Int))] := by
  unfold edgesTo
  rw [Lat.upto_succ hb, List.filter_append, List.map_append]
  simp [h, toI]
theorem edgesTo_no {up : List Nat} {a b : Nat} (hb : b < up.length) (h : isEdge up (a, b) = false) : edgesTo up (a * up.length + b + 1) = edgesTo up (a * up.length + b) := by
  unfold edgesTo
  rw [Lat.upto_succ hb, List.filter_append]
  simp [h]
theorem edgesTo_le {up : List Nat} {k : Nat} (h : up.length ≤ 31) (hk : k ≤ up.length * up.length) : (edgesTo up k).length ≤ 1000 := by
  unfold edgesTo
  rw [List.length_map]
  have h1 := List.length_filter_le (isEdge up) (Lat.upto up.length k)
  have h2 : (Lat.upto up.length k).length = k := by simp [Lat.upto]
  have h3 : up.length * up.length ≤ 31 * 31 := Nat.mul_le_mul h h
  omega
theorem betw_true {up : List Nat} {a b c : Nat} (hc : c < up.length) (h : bt up a b c = true) : betw up a b = true := by
  unfold betw
  rw [List.any_eq_true]
  exact ⟨c, by simpa using hc, h⟩
theorem betw_false {up : List Nat} {a b : Nat} (h : ∀ c, c < up.length → bt up a b c = false) : betw up a b = false := by
  unfold betw
  rw [List.any_eq_false]
  intro c hc
  rw [h c (by simpa using hc)]
  decide
theorem idx_lt {n a b : Nat} (ha : a < n) (hb : b < n) : a * n + b + 1 ≤ n * n := by
  have : (a + 1) * n ≤ n * n := Nat.mul_le_mul_right n ha
  rw [Nat.add_mul] at this
  omega
end Ordr

set_option maxHeartbeats 2000000 in
theorem between_any {B : Nat} {A : Option Addr} {up : List Nat} (c a b : Nat) (w : World) (h : Ups w B A up) (hl : up.length ≤ 31) (ha : a < up.length) (hb : b < up.length) :
    Calls Try.prog 36 #[.slice A up.length c, .int .i64 a, .int .i64 b] w fun e w' => e = .returned (.bool (Ordr.betw up a b)) ∧ w = w' := by
  have hfl := fun x y (hx : x < up.length) (hy : y < 32) => oFlows_any c x y w h hx hy
  have HFL := Lib.hid hfl
  clear hfl h
  go_enter Try.func36, Try.ntmps36
  go_wp2
  go_loop [10] (fun i => ∃ k : Nat, k ≤ up.length ∧ i = .int .i64 k ∧ ∀ j, j < k → Ordr.bt up a b j = false) (fun i => up.length - (intOf i).toNat)
  case atStart => exact ⟨0, Nat.zero_le _, rfl, fun j h => absurd h (Nat.not_lt_zero j)⟩
  case round =>
    obtain ⟨k, hk, rfl, hno⟩ := hrel
    have HN := Lib.hid hno
    clear hno
    by_cases hlt : k < up.length
    · have hstep : Ordr.bt up a b k = false → ∀ j, j < k + 1 → Ordr.bt up a b j = false := fun hk j hj => by
        rcases Nat.lt_or_eq_of_le (Nat.le_of_lt_succ hj) with h | rfl
        · exact HN.out j h
        · exact hk
      have HST := Lib.hid hstep
      clear hstep
      by_cases h1 : k = a
      · subst h1
        go_wp2
        go_round
        case rel => exact ⟨k + 1, by omega, by go_num, HST.out (by simp [Ordr.bt])⟩
        case measure => simp [intOf]; omega
      · have n1 : ((k : Int) != (a : Int)) = true := by rw [bne_iff_ne]; omega
        have m1 : ((k : Int) == (a : Int)) = false := by rw [beq_eq_false_iff_ne]; omega
        by_cases h2 : k = b
        · subst h2
          clear h1
          go_wp2
          go_round
          case rel => exact ⟨k + 1, by omega, by go_num, HST.out (by simp [Ordr.bt])⟩
          case measure => simp [intOf]; omega
        · have n2 : ((k : Int) != (b : Int)) = true := by rw [bne_iff_ne]; omega
          have m2 : ((k : Int) == (b : Int)) = false := by rw [beq_eq_false_iff_ne]; omega
          have H1 := Lib.hid h1
          have H2 := Lib.hid h2
          clear h1 h2
          cases e1 : Lat.fl up a k
          · have HE1 := Lib.hid e1
            have c1 := HFL.out a k ha (by omega)
            rw [e1] at c1
            have C1 := Lib.hid c1
            clear e1 c1
            go_wp2_with (go_at_call 35; refine C1.out.mono ?_; rintro e w' ⟨rfl, rfl⟩)
            go_round
            case rel => exact ⟨k + 1, by omega, by go_num, HST.out (by simp [Ordr.bt, HE1.out])⟩
            case measure => simp [intOf]; omega
          · have HE1 := Lib.hid e1
            have c1 := HFL.out a k ha (by omega)
            rw [e1] at c1
            have C1 := Lib.hid c1
            clear e1 c1
            cases e2 : Lat.fl up k b
            · have HE2 := Lib.hid e2
              have c2 := HFL.out k b hlt (by omega)
              rw [e2] at c2
              have C2 := Lib.hid c2
              clear e2 c2
              go_wp2_with (fail)
              refine C1.out.mono ?_
              rintro e w' ⟨rfl, rfl⟩
              go_wp2_with (fail)
              refine C2.out.mono ?_
              rintro e w' ⟨rfl, rfl⟩
              go_wp2
              go_round
              case rel => exact ⟨k + 1, by omega, by go_num, HST.out (by simp [Ordr.bt, HE2.out])⟩
              case measure => simp [intOf]; omega
            · have HE2 := Lib.hid e2
              have c2 := HFL.out k b hlt (by omega)
              rw [e2] at c2
              have C2 := Lib.hid c2
              clear e2 c2
              go_wp2_with (fail)
              refine C1.out.mono ?_
              rintro e w' ⟨rfl, rfl⟩
              go_wp2_with (fail)
              refine C2.out.mono ?_
              rintro e w' ⟨rfl, rfl⟩
              go_wp2
              go_ret
              exact ⟨ret_bool (Ordr.betw_true hlt (by simp [Ordr.bt, HE1.out, HE2.out, H1.out, H2.out])).symm, rfl⟩
    · obtain rfl : k = up.length := by omega
      go_wp2
      go_ret
      exact ⟨ret_bool (Ordr.betw_false HN.out).symm, rfl⟩

theorem Try.infoEdge : (Try.prog.info? 51).map (fun i => (i.zero, i.size, i.bytes)) = some (some (.agg #[.int .i64 0, .int .i64 0]), 2, 16) := by kernel_rfl

/-- Rows of cells that the call owns, edges among them. -/
theorem own_rowN {W : World} {base sz k cn : Nat} {e : TypeId} {An : Option Addr} {xs : List Value} (h : W.ownsRow base e sz (.slice An k cn) k xs) : Row W W.heap.size An xs ∧ k ≤ cn := by
  have hown := h
  obtain ⟨h1, h2⟩ := h
  rcases h2 with ⟨he, hk0⟩ | ⟨g, cap, cur, he, hb, hh, hkc, hcm, hcs, ht⟩
  · injection he with e1 e2 e3
    subst hk0
    have : xs = [] := List.eq_nil_of_length_eq_zero (by simpa using h1)
    subst this
    exact ⟨Row.nil, by omega⟩
  · injection he with e1 e2 e3
    subst e1 e3
    have hg := (Array.getElem?_eq_some_iff.1 hh).1
    exact ⟨fun _ => ⟨_, rfl, hg, fun j u hu => hown.cells rfl j u hu⟩, hkc⟩
theorem own_slice {W : World} {base sz k : Nat} {e : TypeId} {v : Value} {xs : List Value} (h : W.ownsRow base e sz v k xs) : ∃ A c, v = .slice A k c := by
  rcases h.2 with ⟨he, hk0⟩ | ⟨g, cap, cur, he, _⟩
  · exact ⟨none, 0, by rw [he, hk0]⟩
  · exact ⟨_, _, he⟩

/-- A slice of edges. -/
def IsEdges (w : World) (B : Nat) (v : Value) (es : List (Int × Int)) : Prop := ∃ A c, v = .slice A es.length c ∧ Row w B A (ecells es) ∧ es.length ≤ c ∧ es.length ≤ 1000
theorem IsEdges.below {w w' : World} {B : Nat} {v : Value} {es : List (Int × Int)} (h : IsEdges w B v es) (hb : Below B w w') : IsEdges w' B v es := by
  obtain ⟨A, c, e, hr, hc, hl⟩ := h
  exact ⟨A, c, e, hr.below hb, hc, hl⟩
theorem IsEdges.more {w : World} {B B' : Nat} {v : Value} {es : List (Int × Int)} (h : IsEdges w B v es) (hB : B ≤ B') : IsEdges w B' v es := by
  obtain ⟨A, c, e, hr, hc, hl⟩ := h
  exact ⟨A, c, e, hr.more hB, hc, hl⟩
theorem IsEdges.nil (w : World) (B : Nat) : IsEdges w B (.slice none 0 0) [] := ⟨none, 0, rfl, Row.nil, Nat.le_refl _, by simp⟩

/-- Edges, and an error. -/
def EdgesRes (w : World) (n : Nat) (es : List (Int × Int)) (e : Ending) (w' : World) : Prop :=
  ∃ v, e = .returned (.tuple #[v, .int .i64 (n : Int)]) ∧ IsEdges w' w'.heap.size v es ∧ Below w.heap.size w w'
def edgesR (names : List ByteArray) (up : List Nat) : List (Int × Int) := if checkN names up = 0 then Ordr.edges up else []

/-- What holds in Edges' loops. -/
def EdgesAt (w : World) (up : List Nat) (x0 x1 : Value) (k : Nat) (v : Value) (wr : World) : Prop :=
  wr.ownsRow (w.heap.size + 1) 51 2 v (Ordr.edgesTo up k).length (ecells (Ordr.edgesTo up k)) ∧ Blk wr w.heap.size 25 #[x0, x1] ∧ w.heap.size + 1 ≤ wr.heap.size ∧ Below w.heap.size w wr

theorem EdgesAt.step {w : World} {up : List Nat} {x0 x1 v v' : Value} {k k' : Nat} {wr w' : World} {o : Obj} {e : Int × Int} (h : EdgesAt w up x0 x1 k v wr) (hown : w'.ownsRow (w.heap.size + 1) 51 2 v' ((Ordr.edgesTo up k).length + 1) (ecells (Ordr.edgesTo up k) ++ [.int .i64 e.1, .int .i64 e.2]))
    (hg : (wr.alloc o).grownBy w' v.ownBlock) (hk : Ordr.edgesTo up k' = Ordr.edgesTo up k ++ [e]) : EdgesAt w up x0 x1 k' v' w' := by
  obtain ⟨h1, h2, h3, h4⟩ := h
  refine ⟨?_, ?_, ?_, ?_⟩
  · rw [hk, ecells_snoc, List.length_append]; exact hown
  · exact (hg.block w.heap.size (by simp; omega) (fun he => by have := (h1.lt _ he.symm).1; omega)).trans (h2.alloc o)
  · have := hg.size; simp at this; omega
  · exact (h4.alloc h4.size o).grown hg (by simp; omega) (fun k he => by have := (h1.lt k he).1; omega)
theorem edges_same {up : List Nat} {w : World} {x0 x1 v : Value} {k k' : Nat} {wr : World} (h : EdgesAt w up x0 x1 k v wr) (hk : Ordr.edgesTo up k' = Ordr.edgesTo up k) : EdgesAt w up x0 x1 k' v wr := by
  unfold EdgesAt
  rw [hk]
  exact h
theorem cell_two_new (w : World) (x y : Value) (t : TypeId) : ∀ j u, [x, y][j]? = some u → (w.alloc (.cells #[x, y] t)).cell? ((⟨w.heap.size, 0, none⟩ : Addr).add j) = some u := by
  intro j u hu
  have hb := Blk.new w t #[x, y]
  have e : (⟨w.heap.size, 0, none⟩ : Addr).add j = ⟨w.heap.size, j, none⟩ := by unfold Addr.add; split <;> simp_all
  rw [e, hb.cell]
  simpa using hu

set_option maxRecDepth 100000 in
set_option maxHeartbeats 2000000 in
theorem edges_any {v : Value} {names : List ByteArray} {up : List Nat} (w : World) (h : IsLat w w.heap.size v names up) :
    Calls Try.prog 15 #[v] w (EdgesRes w (checkN names up) (edgesR names up)) := by
  have h' := h
  obtain ⟨⟨A, A', c, c', rfl, hN, hU⟩, hshort, ⟨hf1, hf2⟩, -⟩ := h'
  have hb0 : Below w.heap.size w (w.alloc (.cells #[.slice A names.length c, .slice A' up.length c'] 25)) := (Below.refl _ w).alloc (Nat.le_refl _) _
  have p0 : Blk (w.alloc (.cells #[.slice A names.length c, .slice A' up.length c'] 25)) w.heap.size 25 #[.slice A names.length c, .slice A' up.length c'] := Blk.new _ _ _
  have hch := check_any _ (h.boxed (.cells #[.slice A names.length c, .slice A' up.length c'] 25))
  have HP0 := Lib.hid p0
  have HU := Lib.hid hU
  have HB0 := Lib.hid hb0
  have HR : Hid (edgesR names up = if checkN names up = 0 then Ordr.edges up else []) := rfl
  obtain ⟨n, hn⟩ : ∃ n, checkN names up = n := ⟨_, rfl⟩
  rw [hn] at hch
  have HN := Lib.hid hn
  rw [hn]
  have HCH := Lib.hid hch
  clear hn hch p0 hN hb0 h hU hshort
  by_cases hz : n = 0
  · subst hz
    have hup := len_of_checkN HN.out
    obtain ⟨l1, l8⟩ := hup
    obtain ⟨i0, hi, hz0, hz1, hz2⟩ := info_parts Try.infoEdge
    go_enter Try.func15, Try.ntmps15
    go_wp2_with (go_at_call 21; refine HCH.out.mono ?_)
    rintro e w1 ⟨rfl, hb1⟩
    have hp1 := HP0.out.below hb1 (by simp)
    have hbw1 : Below w.heap.size w w1 := HB0.out.trans (hb1.mono (by simp))
    have hc1 : w1.cell? ⟨w.heap.size, 1, none⟩ = some (.slice A' up.length c') := by rw [hp1.cell]; rfl
    have hst : EdgesAt w up (.slice A names.length c) (.slice A' up.length c') 0 (.slice none 0 0) w1 := ⟨World.ownsRow_nil _ _ _ _, hp1, by have := hp1.lt; omega, hbw1⟩
    have HST := Lib.hid hst
    clear hb1 hp1 hbw1 hst
    go_wp2
    go_loopw [5, 16] (fun v i wr => ∃ a : Nat, a ≤ up.length ∧ i = .int .i64 a ∧ EdgesAt w up (.slice A names.length c) (.slice A' up.length c') (a * up.length) v wr) (fun _ i _ => up.length - (intOf i).toNat)
    case atStart => exact ⟨0, Nat.zero_le _, rfl, by rw [Nat.zero_mul]; exact HST.out⟩
    case round =>
      obtain ⟨a, ha, rfl, hat⟩ := hrel
      by_cases hlt : a < up.length
      · obtain ⟨wo, rfl⟩ : ∃ wo : World, wo = wr := ⟨_, rfl⟩
        have hcw : wo.cell? ⟨w.heap.size, 1, none⟩ = some (.slice A' up.length c') := by rw [hat.2.1.cell]; rfl
        have HAT := Lib.hid hat
        clear hat hc1
        go_wp2
        go_loopw [5, 22] (fun v j wr => ∃ b : Nat, b ≤ up.length ∧ j = .int .i64 b ∧ EdgesAt w up (.slice A names.length c) (.slice A' up.length c') (a * up.length + b) v wr) (fun _ j _ => up.length - (intOf j).toNat)
        case atStart => exact ⟨0, Nat.zero_le _, rfl, HAT.out⟩
        case round =>
          obtain ⟨b, hb, rfl, hat⟩ := hrel
          by_cases hlt2 : b < up.length
          · have hcr : wr.cell? ⟨w.heap.size, 1, none⟩ = some (.slice A' up.length c') := by rw [hat.2.1.cell]; rfl
            have hups := HU.out.below hat.2.2.2
            have hfl := fun W (hW : Ups W w.heap.size A' up) => oFlows_any c' a b W hW hlt (by omega)
            have hbt := fun W (hW : Ups W w.heap.size A' up) => between_any c' a b W hW (by omega) hlt hlt2
            have hidx := Ordr.idx_lt hlt hlt2
            have HAT := Lib.hid hat
            clear hat hcw
            have he0 : Ordr.isEdge up (a, b) = (decide (a ≠ b) && Lat.fl up a b && !Ordr.betw up a b) := rfl
            have HE0 := Lib.hid he0
            clear he0
            by_cases hab : a = b
            · have n1 : ((a : Int) != (b : Int)) = false := by rw [bne_eq_false_iff_eq]; omega
              have HE : Hid (Ordr.isEdge up (a, b) = false) := by unfold Hid; rw [HE0.out]; simp [hab]
              clear hfl hbt hups hab
              go_wp2
              go_roundw
              case rel => exact ⟨b + 1, by omega, by go_num, edges_same HAT.out (Ordr.edgesTo_no hlt2 HE.out)⟩
              case measure => simp [intOf]; omega
            · have n1 : ((a : Int) != (b : Int)) = true := by rw [bne_iff_ne]; omega
              have HAB := Lib.hid hab
              clear hab
              cases e1 : Lat.fl up a b
              · have HE : Hid (Ordr.isEdge up (a, b) = false) := by unfold Hid; rw [HE0.out, e1]; simp
                rw [e1] at hfl
                have HFL := Lib.hid (hfl _ hups)
                clear hfl hbt hups e1
                go_wp2_with (go_at_call 35; refine HFL.out.mono ?_; rintro e w' ⟨rfl, rfl⟩)
                go_roundw
                case rel => exact ⟨b + 1, by omega, by go_num, edges_same HAT.out (Ordr.edgesTo_no hlt2 HE.out)⟩
                case measure => simp [intOf]; omega
              · rw [e1] at hfl
                have HFL := Lib.hid (hfl _ hups)
                cases e2 : Ordr.betw up a b
                · have HE : Hid (Ordr.isEdge up (a, b) = true) := by unfold Hid; rw [HE0.out, e1, e2]; simp [HAB.out]
                  rw [e2] at hbt
                  have HBT := Lib.hid (hbt _ hups)
                  clear hfl hbt hups e1 e2
                  have hown := HAT.out.1
                  have hsz := HAT.out.2.2.1
                  have hle := Ordr.edgesTo_le (up := up) (k := a * up.length + b) (by omega) (by omega)
                  go_wp2_with (first
                    | (go_at_call 35; refine HFL.out.mono ?_; rintro e w' ⟨rfl, rfl⟩)
                    | (go_at_call 36; refine HBT.out.mono ?_; rintro e w' ⟨rfl, rfl⟩)
                    | (at_builtin; refine wpList_append_own _ rfl _ _ 36 rfl (w.heap.size + 1) 51 i0 (.agg #[.int .i64 0, .int .i64 0]) 2 16 Try.underlying36 hi hz0 hz1 hz2 rfl (by decide) _ _ _ rfl (hown.alloc _) ⟨wr.heap.size, 0, none⟩ 1 1 [.int .i64 (a : Int), .int .i64 (b : Int)] rfl rfl ?c1 ?c2 ?c3 ?c4 ?c5 ?_))
                  case c1 => exact cell_two_new _ _ _ _
                  case c2 => simp [Value.oneCell']
                  case c3 => unfold maxLen; omega
                  case c4 => omega
                  case c5 => simp; omega
                  intro v' w' hown' hgrow _
                  have hst := HAT.out.step (e := ((a : Int), (b : Int))) hown' hgrow (Ordr.edgesTo_yes hlt2 HE.out)
                  have HST := Lib.hid hst
                  clear hst hown' hgrow hown
                  go_wp2
                  go_roundw
                  case rel => exact ⟨b + 1, by omega, by go_num, HST.out⟩
                  case measure => simp [intOf]; omega
                · have HE : Hid (Ordr.isEdge up (a, b) = false) := by unfold Hid; rw [HE0.out, e1, e2]; simp
                  rw [e2] at hbt
                  have HBT := Lib.hid (hbt _ hups)
                  clear hfl hbt hups e1 e2
                  go_wp2_with (first
                    | (go_at_call 35; refine HFL.out.mono ?_; rintro e w' ⟨rfl, rfl⟩)
                    | (go_at_call 36; refine HBT.out.mono ?_; rintro e w' ⟨rfl, rfl⟩))
                  go_roundw
                  case rel => exact ⟨b + 1, by omega, by go_num, edges_same HAT.out (Ordr.edgesTo_no hlt2 HE.out)⟩
                  case measure => simp [intOf]; omega
          · obtain rfl : b = up.length := by omega
            clear hcw
            go_wp2
            go_roundw
            case rel => exact ⟨a + 1, by omega, by go_num, by rw [Nat.add_mul, Nat.one_mul]; exact hat⟩
            case measure => simp [intOf]; omega
      · obtain rfl : a = up.length := by omega
        have HAT := Lib.hid hat
        clear hat hc1
        go_wp2
        go_ret2
        obtain ⟨hown, -, -, hbw⟩ := HAT.out
        obtain ⟨A2, c2, rfl⟩ := own_slice hown
        obtain ⟨hr, hc⟩ := own_rowN hown
        refine ⟨_, rfl, ?_, hbw⟩
        rw [HR.out, HN.out, if_pos rfl]
        exact ⟨A2, c2, rfl, hr, hc, Ordr.edgesTo_le (by omega) (Nat.le_refl _)⟩
  · have hz1 : ((n : Int) == 0) = false := by rw [beq_eq_false_iff_ne]; omega
    have hz2 : ((n : Int) != 0) = true := by rw [bne_iff_ne]; omega
    go_enter Try.func15, Try.ntmps15
    go_wp2_with (go_at_call 21; refine HCH.out.mono ?_; rintro e w1 ⟨rfl, hb1⟩)
    go_ret2
    exact ⟨_, rfl, by rw [HR.out, HN.out, if_neg hz]; exact IsEdges.nil _ _, HB0.out.trans (hb1.mono (by simp))⟩
end Go.Proofs.Ytaingkjleelbfaa
