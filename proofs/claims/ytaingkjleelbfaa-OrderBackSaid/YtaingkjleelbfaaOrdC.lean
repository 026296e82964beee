/- Walks of slices.Equal, slices.Index, and of Like and Same. -/
import Derived.Test.YtaingkjleelbfaaOrdB
import Derived.RegionTactic
import Derived.Deep.QuietTactic
import Derived.BigQuiet
import Derived.Lib.SlicesS
namespace Go.Proofs.Ytaingkjleelbfaa
open Go.RowKit Go.Shelf

theorem streq_eq (s t : ByteArray) : (s.toList == t.toList) = decide (s = t) := by
  rw [Bool.eq_iff_iff, decide_eq_true_eq]
  exact Lib.bytes_beq_iff s t

theorem eq_of_get {α : Type} {a b : List α} (hl : a.length = b.length) (h : ∀ j, j < a.length → a[j]? = b[j]?) : a = b := by
  refine List.ext_getElem? fun j => ?_
  by_cases hj : j < a.length
  · exact h j hj
  · rw [List.getElem?_eq_none (by omega), List.getElem?_eq_none (by omega)]

set_option maxHeartbeats 1000000 in
theorem equalS_any {B : Nat} {A A' : Option Addr} {xs ys : List ByteArray} (c c' : Nat) (w : World) (h : Row w B A (strs xs)) (h' : Row w B A' (strs ys)) (hx : xs.length ≤ 1000) (hy : ys.length ≤ 1000) :
    Calls Try.prog 29 #[.slice A xs.length c, .slice A' ys.length c'] w fun e w' => e = .returned (.bool (decide (xs = ys))) ∧ ∃ n, w' = w.drewN n := by
  by_cases hl : xs.length = ys.length
  · rw [← hl]
    have HL := Lib.hid hl
    have H := Lib.hid (And.intro h h')
    clear hl h h'
    go_enter Try.func29, Try.ntmps29
    go_wp2
    go_loopw [13] (fun i wr => ∃ k m : Nat, k ≤ xs.length ∧ i = .int .i64 k ∧ wr = w.drewN m ∧ ∀ j, j < k → xs[j]? = ys[j]?) (fun i _ => xs.length - (intOf i).toNat)
    case atStart => exact ⟨0, 0, Nat.zero_le _, rfl, rfl, fun j h => absurd h (Nat.not_lt_zero j)⟩
    case round =>
      obtain ⟨k, m, hk, rfl, rfl, hsame⟩ := hrel
      have HS := Lib.hid hsame
      clear hsame
      by_cases hlt : k < xs.length
      · obtain ⟨ad, s, rfl, _, hs, hcs⟩ := strs_at H.out.1 hlt
        obtain ⟨ad', t, rfl, _, ht, hct⟩ := strs_at H.out.2 (by rw [← HL.out]; exact hlt)
        have hst := streq_eq s t
        have HX := Lib.hid (And.intro hs ht)
        clear hs ht
        by_cases he : s = t
        · subst he
          have HST := Lib.hid hst
          clear hst
          go_wp2
          go_quiet (fail)
          all_goals go_wp2
          go_roundw
          case rel => exact ⟨k + 1, _, by omega, by go_num, rfl, fun j hj => by
            rcases Nat.lt_or_eq_of_le (Nat.le_of_lt_succ hj) with h | rfl
            · exact HS.out j h
            · rw [HX.out.1, HX.out.2]⟩
          case measure => simp [intOf]; omega
        · have h1 : (s.toList == t.toList) = false := by rw [hst, decide_eq_false_iff_not]; exact he
          have h2 : (s.toList != t.toList) = true := by rw [bne, h1]; rfl
          have HE := Lib.hid he
          clear hst he
          go_wp2
          go_quiet (fail)
          all_goals go_wp2
          go_ret
          exact ⟨ret_bool (by rw [eq_comm, decide_eq_false_iff_not]; rintro rfl; rw [HX.out.1] at HX; have := HX.out.2; injection this with this; exact HE.out this), _, World.drewN_drewN ..⟩
      · obtain rfl : k = xs.length := by omega
        go_wp2
        go_ret
        exact ⟨ret_bool (by rw [eq_comm, decide_eq_true_eq]; exact eq_of_get HL.out HS.out), _, rfl⟩
  · have hl1 : ((xs.length : Int) == (ys.length : Int)) = false := by rw [beq_eq_false_iff_ne]; omega
    have hl2 : ((xs.length : Int) != (ys.length : Int)) = true := by rw [bne_iff_ne]; omega
    have HL := Lib.hid hl
    clear hl
    go_enter Try.func29, Try.ntmps29
    go_wp2
    go_ret
    exact ⟨ret_bool (by rw [eq_comm, decide_eq_false_iff_not]; rintro rfl; exact HL.out rfl), 0, rfl⟩
set_option maxHeartbeats 1000000 in
theorem equalU_any {B : Nat} {A A' : Option Addr} {xs ys : List Nat} (c c' : Nat) (w : World) (h : Ups w B A xs) (h' : Ups w B A' ys) (hx : xs.length ≤ 1000) (hy : ys.length ≤ 1000) :
    Calls Try.prog 30 #[.slice A xs.length c, .slice A' ys.length c'] w fun e w' => e = .returned (.bool (decide (xs = ys))) ∧ ∃ n, w' = w.drewN n := by
  by_cases hl : xs.length = ys.length
  · rw [← hl]
    have HL := Lib.hid hl
    have H := Lib.hid (And.intro h h')
    clear hl h h'
    go_enter Try.func30, Try.ntmps30
    go_wp2
    go_loopw [13] (fun i wr => ∃ k m : Nat, k ≤ xs.length ∧ i = .int .i64 k ∧ wr = w.drewN m ∧ ∀ j, j < k → xs[j]? = ys[j]?) (fun i _ => xs.length - (intOf i).toNat)
    case atStart => exact ⟨0, 0, Nat.zero_le _, rfl, rfl, fun j h => absurd h (Nat.not_lt_zero j)⟩
    case round =>
      obtain ⟨k, m, hk, rfl, rfl, hsame⟩ := hrel
      have HS := Lib.hid hsame
      clear hsame
      by_cases hlt : k < xs.length
      · obtain ⟨ad, s, rfl, _, hs, _, hcs⟩ := H.out.1.at_ hlt
        obtain ⟨ad', t, rfl, _, ht, _, hct⟩ := H.out.2.at_ (by rw [← HL.out]; exact hlt)
        have HX := Lib.hid (And.intro hs ht)
        clear hs ht
        by_cases he : s = t
        · subst he
          go_wp2
          go_quiet (fail)
          all_goals go_wp2
          go_roundw
          case rel => exact ⟨k + 1, _, by omega, by go_num, rfl, fun j hj => by
            rcases Nat.lt_or_eq_of_le (Nat.le_of_lt_succ hj) with h | rfl
            · exact HS.out j h
            · rw [HX.out.1, HX.out.2]⟩
          case measure => simp [intOf]; omega
        · have h1 : ((s : Int) == (t : Int)) = false := by rw [beq_eq_false_iff_ne]; omega
          have h2 : ((s : Int) != (t : Int)) = true := by rw [bne, h1]; rfl
          have HE := Lib.hid he
          clear he
          go_wp2
          go_quiet (fail)
          all_goals go_wp2
          go_ret
          exact ⟨ret_bool (by rw [eq_comm, decide_eq_false_iff_not]; rintro rfl; rw [HX.out.1] at HX; have := HX.out.2; injection this with this; exact HE.out this), _, World.drewN_drewN ..⟩
      · obtain rfl : k = xs.length := by omega
        go_wp2
        go_ret
        exact ⟨ret_bool (by rw [eq_comm, decide_eq_true_eq]; exact eq_of_get HL.out HS.out), _, rfl⟩
  · have hl1 : ((xs.length : Int) == (ys.length : Int)) = false := by rw [beq_eq_false_iff_ne]; omega
    have hl2 : ((xs.length : Int) != (ys.length : Int)) = true := by rw [bne_iff_ne]; omega
    have HL := Lib.hid hl
    clear hl
    go_enter Try.func30, Try.ntmps30
    go_wp2
    go_ret
    exact ⟨ret_bool (by rw [eq_comm, decide_eq_false_iff_not]; rintro rfl; exact HL.out rfl), 0, rfl⟩

/-- Two lattices that hold the same. -/
def sameLat (n1 : List ByteArray) (u1 : List Nat) (n2 : List ByteArray) (u2 : List Nat) : Bool := decide (n1 = n2) && decide (u1 = u2)

set_option maxHeartbeats 1000000 in
theorem like_any {v v' : Value} {n1 n2 : List ByteArray} {u1 u2 : List Nat} (w : World) (h : IsLat w w.heap.size v n1 u1) (h' : IsLat w w.heap.size v' n2 u2) :
    Calls Try.prog 12 #[v, v'] w fun e w' => e = .returned (.bool (sameLat n1 u1 n2 u2)) ∧ Below w.heap.size w w' := by
  obtain ⟨⟨A, A', c, c', rfl, hN, hU⟩, -, ⟨hf1, hf2⟩, -⟩ := h
  obtain ⟨⟨D, D', d, d', rfl, hN', hU'⟩, -, ⟨hf1', hf2'⟩, -⟩ := h'
  have hb0 : Below w.heap.size w ((w.alloc (.cells #[.slice A n1.length c, .slice A' u1.length c'] 25)).alloc (.cells #[.slice D n2.length d, .slice D' u2.length d'] 25)) := ((Below.refl _ w).alloc (Nat.le_refl _) _).alloc (by simp) _
  have he1 := fun m => equalS_any c d (((w.alloc (.cells #[.slice A n1.length c, .slice A' u1.length c'] 25)).alloc (.cells #[.slice D n2.length d, .slice D' u2.length d'] 25)).drewN m) (hN.below (below_drewN_ hb0 m)) (hN'.below (below_drewN_ hb0 m)) hf1 hf1'
  have he2 := fun m => equalU_any c' d' (((w.alloc (.cells #[.slice A n1.length c, .slice A' u1.length c'] 25)).alloc (.cells #[.slice D n2.length d, .slice D' u2.length d'] 25)).drewN m) (hU.below (below_drewN_ hb0 m)) (hU'.below (below_drewN_ hb0 m)) hf2 hf2'
  have HB := Lib.hid hb0
  have HS : Hid (sameLat n1 u1 n2 u2 = (decide (n1 = n2) && decide (u1 = u2))) := rfl
  clear hN hU hN' hU' hb0
  cases e1 : decide (n1 = n2)
  · rw [e1] at he1 HS
    have HE1 := Lib.hid he1
    clear he1 he2 e1
    go_enter Try.func12, Try.ntmps12
    go_wp2_with (fail)
    refine (HE1.out 0).mono ?_
    rintro e w' ⟨rfl, m, rfl⟩
    go_wp2
    go_ret
    exact ⟨ret_bool (by rw [HS.out]; rfl), below_drewN_ HB.out _⟩
  · rw [e1] at he1 HS
    have HE1 := Lib.hid he1
    have HE2 := Lib.hid he2
    clear he1 he2 e1
    go_enter Try.func12, Try.ntmps12
    go_wp2_with (fail)
    refine (HE1.out 0).mono ?_
    rintro e w' ⟨rfl, m, rfl⟩
    go_wp2_with (fail)
    refine (HE2.out _).mono ?_
    rintro e w' ⟨rfl, m', rfl⟩
    go_wp2
    go_ret
    exact ⟨ret_bool (by rw [HS.out, Bool.true_and]), below_drewN_ HB.out _⟩

set_option maxRecDepth 100000 in
set_option maxHeartbeats 4000000 in
theorem rSame_any {v v' : Value} {n1 n2 : List ByteArray} {u1 u2 : List Nat} (w : World) (h : IsLat w w.heap.size v n1 u1) (h' : IsLat w w.heap.size v' n2 u2) :
    Calls Try.prog 11 #[v, v'] w fun e w' => e = .returned (.bool (sameLat n1 u1 n2 u2)) ∧ Below w.heap.size w w' := by
  obtain ⟨⟨A, A', c, c', rfl, hN, hU⟩, -, ⟨hf1, hf2⟩, -⟩ := h
  obtain ⟨⟨D, D', d, d', rfl, hN', hU'⟩, -, ⟨hf1', hf2'⟩, -⟩ := h'
  have hb0 : Below w.heap.size w ((w.alloc (.cells #[.slice A n1.length c, .slice A' u1.length c'] 25)).alloc (.cells #[.slice D n2.length d, .slice D' u2.length d'] 25)) := ((Below.refl _ w).alloc (Nat.le_refl _) _).alloc (by simp) _
  have p0 : Blk ((w.alloc (.cells #[.slice A n1.length c, .slice A' u1.length c'] 25)).alloc (.cells #[.slice D n2.length d, .slice D' u2.length d'] 25)) w.heap.size 25 #[.slice A n1.length c, .slice A' u1.length c'] := (Blk.new _ _ _).alloc _
  have p1 : Blk ((w.alloc (.cells #[.slice A n1.length c, .slice A' u1.length c'] 25)).alloc (.cells #[.slice D n2.length d, .slice D' u2.length d'] 25)) (w.heap.size + 1) 25 #[.slice D n2.length d, .slice D' u2.length d'] := Blk.new' _ _ _ _ (by simp)
  have HS : Hid (sameLat n1 u1 n2 u2 = (decide (n1 = n2) && decide (u1 = u2))) := rfl
  obtain ⟨W0, hW0⟩ : ∃ W0, ((w.alloc (.cells #[.slice A n1.length c, .slice A' u1.length c'] 25)).alloc (.cells #[.slice D n2.length d, .slice D' u2.length d'] 25)) = W0 := ⟨_, rfl⟩
  have hlen : ∀ (b1 b2 : Bool), (decide (n1 = n2)) = b1 → (decide (u1 = u2)) = b2 → sameLat n1 u1 n2 u2 = (b1 && b2) := by rintro _ _ rfl rfl; rfl
  have HLEN := Lib.hid hlen
  have H := Lib.hid (And.intro (And.intro (hN.below hb0) (hN'.below hb0)) (And.intro (hU.below hb0) (hU'.below hb0)))
  rw [hW0] at H hb0 p0 p1
  have c0 : W0.cell? ⟨w.heap.size, 0, none⟩ = some (.slice A n1.length c) := by rw [p0.cell]; rfl
  have c1 : W0.cell? ⟨w.heap.size, 1, none⟩ = some (.slice A' u1.length c') := by rw [p0.cell]; rfl
  have c2 : W0.cell? ⟨w.heap.size + 1, 0, none⟩ = some (.slice D n2.length d) := by rw [p1.cell]; rfl
  have c3 : W0.cell? ⟨w.heap.size + 1, 1, none⟩ = some (.slice D' u2.length d') := by rw [p1.cell]; rfl
  have HB := Lib.hid hb0
  have HW0 := Lib.hid hW0
  clear hN hU hN' hU' hb0 p0 p1 hW0 hlen
  by_cases hl : n1.length = n2.length
  · by_cases hm : u1.length = u2.length
    · have e1 : ((n1.length : Int) != (n2.length : Int)) = false := by rw [bne_eq_false_iff_eq]; omega
      have e2 : ((u1.length : Int) != (u2.length : Int)) = false := by rw [bne_eq_false_iff_eq]; omega
      have HL := Lib.hid hl
      have HM := Lib.hid hm
      clear hl hm
      go_enter Try.func11, Try.ntmps11
      go_wp2
      rw [HW0.out]
      go_loopw [26] (fun i wr => ∃ k m : Nat, k ≤ n1.length ∧ i = .int .i64 k ∧ wr = W0.drewN m ∧ ∀ j, j < k → n1[j]? = n2[j]?) (fun i _ => n1.length - (intOf i).toNat)
      case atStart => exact ⟨0, 0, Nat.zero_le _, rfl, rfl, fun j h => absurd h (Nat.not_lt_zero j)⟩
      case round =>
        obtain ⟨k, m, hk, rfl, rfl, hsame⟩ := hrel
        have HSM := Lib.hid hsame
        clear hsame
        by_cases hlt : k < n1.length
        · obtain ⟨ad, s, rfl, _, hs, hcs⟩ := strs_at H.out.1.1 hlt
          obtain ⟨ad', t, rfl, _, ht, hct⟩ := strs_at H.out.1.2 (by rw [← HL.out]; exact hlt)
          have hst := streq_eq s t
          have HX := Lib.hid (And.intro hs ht)
          have hlt2 : k < n2.length := by rw [← HL.out]; exact hlt
          clear hs ht
          by_cases he : s = t
          · subst he
            clear hst
            go_wp2
            go_quiet (fail)
            all_goals go_wp2
            go_roundw
            case rel => exact ⟨k + 1, _, by omega, by go_num, rfl, fun j hj => by
              rcases Nat.lt_or_eq_of_le (Nat.le_of_lt_succ hj) with h | rfl
              · exact HSM.out j h
              · rw [HX.out.1, HX.out.2]⟩
            case measure => simp [intOf]; omega
          · have h1 : (s.toList == t.toList) = false := by rw [hst, decide_eq_false_iff_not]; exact he
            have h2 : (s.toList != t.toList) = true := by rw [bne, h1]; rfl
            have HE := Lib.hid he
            clear hst he
            go_wp2
            go_quiet (fail)
            all_goals go_wp2
            go_ret
            exact ⟨ret_bool (by rw [HLEN.out false _ (by rw [decide_eq_false_iff_not]; rintro rfl; rw [HX.out.1] at HX; have := HX.out.2; injection this with this; exact HE.out this) rfl]; rfl), below_drewN_ (below_drewN_ HB.out _) _⟩
        · obtain rfl : k = n1.length := by omega
          have hsn : n1 = n2 := eq_of_get HL.out HSM.out
          have HSN := Lib.hid hsn
          clear hsn HSM
          go_wp2
          go_loopw [44] (fun i wr => ∃ k m : Nat, k ≤ u1.length ∧ i = .int .i64 k ∧ wr = W0.drewN m ∧ ∀ j, j < k → u1[j]? = u2[j]?) (fun i _ => u1.length - (intOf i).toNat)
          case atStart => exact ⟨0, m, Nat.zero_le _, rfl, rfl, fun j h => absurd h (Nat.not_lt_zero j)⟩
          case round =>
            obtain ⟨k, m, hk, rfl, rfl, hsame⟩ := hrel
            have HSM := Lib.hid hsame
            clear hsame
            by_cases hlt : k < u1.length
            · obtain ⟨ad, s, rfl, _, hs, _, hcs⟩ := H.out.2.1.at_ hlt
              obtain ⟨ad', t, rfl, _, ht, _, hct⟩ := H.out.2.2.at_ (by rw [← HM.out]; exact hlt)
              have HX := Lib.hid (And.intro hs ht)
              have hlt2 : k < u2.length := by rw [← HM.out]; exact hlt
              clear hs ht
              by_cases he : s = t
              · subst he
                go_wp2
                go_quiet (fail)
                all_goals go_wp2
                go_roundw
                case rel => exact ⟨k + 1, _, by omega, by go_num, rfl, fun j hj => by
                  rcases Nat.lt_or_eq_of_le (Nat.le_of_lt_succ hj) with h | rfl
                  · exact HSM.out j h
                  · rw [HX.out.1, HX.out.2]⟩
                case measure => simp [intOf]; omega
              · have h1 : ((s : Int) == (t : Int)) = false := by rw [beq_eq_false_iff_ne]; omega
                have h2 : ((s : Int) != (t : Int)) = true := by rw [bne, h1]; rfl
                have HE := Lib.hid he
                clear he
                go_wp2
                go_quiet (fail)
                all_goals go_wp2
                go_ret
                exact ⟨ret_bool (by rw [HLEN.out _ false rfl (by rw [decide_eq_false_iff_not]; rintro rfl; rw [HX.out.1] at HX; have := HX.out.2; injection this with this; exact HE.out this), Bool.and_false]), below_drewN_ (below_drewN_ HB.out _) _⟩
            · obtain rfl : k = u1.length := by omega
              go_wp2
              go_ret
              exact ⟨ret_bool (by rw [HLEN.out true true (by rw [decide_eq_true_eq]; exact HSN.out) (by rw [decide_eq_true_eq]; exact eq_of_get HM.out HSM.out)]; rfl), below_drewN_ HB.out _⟩
    · have e1 : ((n1.length : Int) != (n2.length : Int)) = false := by rw [bne_eq_false_iff_eq]; omega
      have e2 : ((u1.length : Int) != (u2.length : Int)) = true := by rw [bne_iff_ne]; omega
      have HM := Lib.hid hm
      clear hl hm
      go_enter Try.func11, Try.ntmps11
      go_wp2
      go_ret
      rw [HW0.out]
      exact ⟨ret_bool (by rw [HLEN.out _ false rfl (by rw [decide_eq_false_iff_not]; rintro rfl; exact HM.out rfl), Bool.and_false]), HB.out⟩
  · have e1 : ((n1.length : Int) != (n2.length : Int)) = true := by rw [bne_iff_ne]; omega
    have HL := Lib.hid hl
    clear hl
    go_enter Try.func11, Try.ntmps11
    go_wp2
    go_ret
    rw [HW0.out]
    exact ⟨ret_bool (by rw [HLEN.out false _ (by rw [decide_eq_false_iff_not]; rintro rfl; exact HL.out rfl) rfl]; rfl), HB.out⟩
end Go.Proofs.Ytaingkjleelbfaa
