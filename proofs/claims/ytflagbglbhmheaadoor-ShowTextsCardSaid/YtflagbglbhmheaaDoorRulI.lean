/- Walks of ofTwo and of done: a pile's last two things, and one number of a rule. -/
import Derived.Test.YtflagbglbhmheaaDoorRulB
namespace Go.Proofs.YtflagbglbhmheaaDoor
set_option maxRecDepth 100000
open Go.RowKit Go.Shelf

def bools (l : List Bool) : List Value := l.map Value.bool
theorem bools_length (l : List Bool) : (bools l).length = l.length := by simp [bools]
theorem bools_snoc (l : List Bool) (b : Bool) : bools (l ++ [b]) = bools l ++ [.bool b] := by simp [bools]
theorem bools_take (l : List Bool) (k : Nat) : (bools l).take k = bools (l.take k) := by simp [bools, List.map_take]
theorem Tryd.infoBool : (Tryd.prog.info? 4).map (fun i => (i.zero, i.size, i.bytes)) = some (some (.bool false), 1, 1) := by kernel_rfl
/-- A row of the call's own, cut short. -/
theorem own_take {W : World} {base n k cap g : Nat} {e : TypeId} {xs : List Value} (h : W.ownsRow base e 1 (.slice (some ⟨g, 0, none⟩) n cap) n xs) (hk : k ≤ n) : W.ownsRow base e 1 (.slice (some ⟨g, 0, none⟩) k cap) k (xs.take k) := by
  obtain ⟨h1, h2⟩ := h
  rcases h2 with ⟨he, _⟩ | ⟨g', cap', cur, he, hb, hh, hkc, hcm, hcs, ht⟩
  · cases he
  · injection he with e1 e2 e3
    injection e1 with e1
    injection e1 with e1
    subst e1 e3
    refine ⟨by rw [List.length_take, h1]; omega, .inr ⟨_, _, cur, rfl, hb, hh, by omega, hcm, hcs, ?_⟩⟩
    rw [← ht, List.take_take]
    congr 1
    omega
theorem own_cell {W : World} {base n cap g : Nat} {e : TypeId} {xs : List Value} (h : W.ownsRow base e 1 (.slice (some ⟨g, 0, none⟩) n cap) n xs) {j : Nat} {u : Value} (hj : xs[j]? = some u) : W.cell? ⟨g, j, none⟩ = some u := by
  have h1 := h.cells rfl j u hj
  have e : (⟨g, 0, none⟩ : Addr).add j = ⟨g, j, none⟩ := by unfold Addr.add; split <;> simp_all
  rwa [e] at h1
theorem own_addr {W : World} {base n : Nat} {v : Value} {e : TypeId} {xs : List Value} (h : W.ownsRow base e 1 v n xs) (hn : 0 < n) : ∃ g cap, v = .slice (some ⟨g, 0, none⟩) n cap ∧ base ≤ g := by
  rcases h.2 with ⟨_, h0⟩ | ⟨g, cap, cur, he, hb, _⟩
  · omega
  · exact ⟨g, cap, he, hb⟩

/-- A pile that is a call's own. -/
def Pile (base : Nat) (W : World) (v : Value) (q : List Bool) : Prop := W.ownsRow base 4 1 v q.length (bools q)
def PileOk (base : Nat) (w : World) (q : List Bool) (e : Ending) (w' : World) : Prop := ∃ v, e = .returned (.tuple #[v, .bool true]) ∧ Pile base w' v q ∧ Below base w w'
def PileNo (base : Nat) (w : World) (e : Ending) (w' : World) : Prop := e = .returned (.tuple #[.slice none 0 0, .bool false]) ∧ Below base w w'

theorem two_no {q : List Bool} {a b : Bool} {n : Nat} (hn : q.length = n + 2) (h : ¬ (q[n]? = some a ∧ q[n + 1]? = some a)) : Rl.two q a b = none := by
  unfold Rl.two
  rw [hn, show n + 2 - 2 = n by omega, show n + 2 - 1 = n + 1 by omega, if_neg]
  exact fun h1 => h h1.2
theorem two_yes {q : List Bool} {a b : Bool} {n : Nat} (hn : q.length = n + 2) (h : q[n]? = some a) (h1 : q[n + 1]? = some a) : Rl.two q a b = some (q.take n ++ [b]) := by
  unfold Rl.two
  rw [hn, show n + 2 - 2 = n by omega, show n + 2 - 1 = n + 1 by omega, if_pos ⟨by omega, h, h1⟩]
theorem two_few {q : List Bool} {a b : Bool} (hn : q.length < 2) : Rl.two q a b = none := by
  unfold Rl.two
  rw [if_neg]
  rintro ⟨h, _⟩
  omega

set_option maxHeartbeats 1000000 in
theorem ofTwo_no {base : Nat} {q : List Bool} {v : Value} (a b : Bool) (w : World) (h : Pile base w v q) (hl : q.length ≤ 1000000) (hn : Rl.two q a b = none) : Calls Tryd.prog 44 #[v, .bool a, .bool b] w (PileNo base w) := by
  by_cases hs : q.length < 2
  · obtain ⟨A, cap, rfl⟩ := ownT_slice h
    clear hn h
    have h0 : (q.length : Int) - 2 < 0 := by omega
    go_enter Tryd.func44, Tryd.ntmps44
    go_wp2
    go_ret2
    exact ⟨rfl, Below.refl _ _⟩
  · obtain ⟨n, hq⟩ : ∃ n, q.length = n + 2 := ⟨q.length - 2, by omega⟩
    obtain ⟨g, cap, rfl, hbg⟩ := own_addr h (by omega)
    have hx0 : q[n]? = some q[n] := List.getElem?_eq_getElem (by omega)
    have hx1 : q[n + 1]? = some q[n + 1] := List.getElem?_eq_getElem (by omega)
    obtain ⟨x0, e0⟩ : ∃ x, q[n] = x := ⟨_, rfl⟩
    obtain ⟨x1, e1⟩ : ∃ x, q[n + 1] = x := ⟨_, rfl⟩
    rw [e0] at hx0
    rw [e1] at hx1
    have c0 := own_cell h (j := n) (u := .bool x0) (by simp [bools, hx0])
    have c1 := own_cell h (j := n + 1) (u := .bool x1) (by simp [bools, hx1])
    have hne : ¬ (x0 = a ∧ x1 = a) := fun ⟨i0, i1⟩ => by
      rw [two_yes hq (by rw [hx0, i0]) (by rw [hx1, i1])] at hn
      cases hn
    have hnb : n ≤ 1000000 := by omega
    rw [hq]
    clear h hn hx0 hx1 e0 e1 hs hl hq
    cases a <;> cases x0 <;> cases x1
    all_goals first
      | (exfalso; exact hne ⟨rfl, rfl⟩)
      | (clear hne
         go_enter Tryd.func44, Tryd.ntmps44
         go_wp2
         go_ret2
         exact ⟨rfl, Below.refl _ _⟩)
set_option maxHeartbeats 1000000 in
theorem ofTwo_ok {base : Nat} {q r : List Bool} {v : Value} (a b : Bool) (w : World) (h : Pile base w v q) (hB : base ≤ w.heap.size) (hl : q.length ≤ 1000000) (hn : Rl.two q a b = some r) : Calls Tryd.prog 44 #[v, .bool a, .bool b] w (PileOk base w r) := by
  have hs : ¬ q.length < 2 := fun hs => by rw [two_few hs] at hn; cases hn
  obtain ⟨n, hq⟩ : ∃ n, q.length = n + 2 := ⟨q.length - 2, by omega⟩
  obtain ⟨g, cap, rfl, hbg⟩ := own_addr h (by omega)
  have hx : q[n]? = some a ∧ q[n + 1]? = some a := Classical.byContradiction fun hx => by rw [two_no hq hx] at hn; cases hn
  obtain ⟨hx0, hx1⟩ := hx
  rw [two_yes hq hx0 hx1] at hn
  injection hn with hn
  have c0 := own_cell h (j := n) (u := .bool a) (by simp [bools, hx0])
  have c1 := own_cell h (j := n + 1) (u := .bool a) (by simp [bools, hx1])
  have hown := own_take h (k := n) (by omega)
  rw [bools_take] at hown
  have hne : (a != a) = false := by simp
  have hnb : n ≤ 1000000 := by omega
  have hcap : n + 2 ≤ cap := by have := (ownT_row h).2; omega
  obtain ⟨i0, hi, hz0, hz1, hz2⟩ := info_parts Tryd.infoBool
  have HR := Lib.hid hn
  have HQ : Hid ((q.take n).length = n) := by unfold Hid; rw [List.length_take]; omega
  rw [hq]
  clear h hx0 hx1 hn hs hl hq hne
  cases a
  all_goals
    go_enter Tryd.func44, Tryd.ntmps44
    go_wp2_with (at_builtin; refine wpList_append_own _ rfl _ _ 65 rfl base 4 i0 (.bool false) 1 1 Tryd.underlying65 hi hz0 hz1 hz2 rfl (by decide) _ _ _ rfl (hown.alloc _) ⟨w.heap.size, 0, none⟩ 1 1 [.bool b] rfl rfl (cells_new _ _ _) (by simp [Value.oneCell']) (by unfold maxLen; omega) (by omega) (by simp; omega) ?_)
    intro v' w' hown' hgrow _
    have hown2 : Pile base w' v' r := by
      unfold Pile
      rw [← HR.out, bools_snoc, List.length_append, HQ.out]
      exact hown'
    have hb : Below base w w' := ((Below.refl _ w).alloc hB _).grown hgrow (by simp; omega) (fun k he => (hown.lt k he).1)
    have HO := Lib.hid hown2
    have HB := Lib.hid hb
    clear hown hown' hown2 hgrow hb
    go_wp2
    go_ret2
    exact ⟨_, rfl, HO.out, HB.out⟩

/- One number of a rule. -/
theorem push_any {base : Nat} {q : List Bool} {v : Value} (n : Int) (b : Bool) (hn : (n = 1 ∨ n = 2) ∧ b = false ∨ (n = 6 ∨ n = 7 ∨ n = 8 ∨ n = 9 ∨ n = 10 ∨ n = 11) ∧ b = true) (w : World) (h : Pile base w v q) (hB : base ≤ w.heap.size) (hl : q.length ≤ 1000000) :
    Calls Tryd.prog 25 #[v, .int .i64 n] w (PileOk base w (q ++ [b])) := by
  obtain ⟨i0, hi, hz0, hz1, hz2⟩ := info_parts Tryd.infoBool
  have hown : w.ownsRow base 4 1 v q.length (bools q) := h
  clear h
  rcases hn with ⟨h1, rfl⟩ | ⟨h1, rfl⟩
  · rcases h1 with rfl | rfl
    all_goals
      go_enter Tryd.func25, Tryd.ntmps25
      go_wp2_with (at_builtin; refine wpList_append_own _ rfl _ _ 65 rfl base 4 i0 (.bool false) 1 1 Tryd.underlying65 hi hz0 hz1 hz2 rfl (by decide) _ _ _ rfl (hown.alloc _) ⟨w.heap.size, 0, none⟩ 1 1 [.bool false] rfl rfl (cells_new _ _ _) (by simp [Value.oneCell']) (by unfold maxLen; omega) (by omega) (by simp; omega) ?_)
      intro v' w' hown' hgrow _
      have hown2 : Pile base w' v' (q ++ [false]) := by
        unfold Pile
        rw [bools_snoc, List.length_append]
        exact hown'
      have hb : Below base w w' := ((Below.refl _ w).alloc hB _).grown hgrow (by simp; omega) (fun k he => (hown.lt k he).1)
      have HO := Lib.hid hown2
      have HB := Lib.hid hb
      clear hown hown' hown2 hgrow hb
      go_wp2
      go_ret2
      exact ⟨_, rfl, HO.out, HB.out⟩
  · rcases h1 with rfl | rfl | rfl | rfl | rfl | rfl
    all_goals
      go_enter Tryd.func25, Tryd.ntmps25
      go_wp2_with (at_builtin; refine wpList_append_own _ rfl _ _ 65 rfl base 4 i0 (.bool false) 1 1 Tryd.underlying65 hi hz0 hz1 hz2 rfl (by decide) _ _ _ rfl (hown.alloc _) ⟨w.heap.size, 0, none⟩ 1 1 [.bool true] rfl rfl (cells_new _ _ _) (by simp [Value.oneCell']) (by unfold maxLen; omega) (by omega) (by simp; omega) ?_)
      intro v' w' hown' hgrow _
      have hown2 : Pile base w' v' (q ++ [true]) := by
        unfold Pile
        rw [bools_snoc, List.length_append]
        exact hown'
      have hb : Below base w w' := ((Below.refl _ w).alloc hB _).grown hgrow (by simp; omega) (fun k he => (hown.lt k he).1)
      have HO := Lib.hid hown2
      have HB := Lib.hid hb
      clear hown hown' hown2 hgrow hb
      go_wp2
      go_ret2
      exact ⟨_, rfl, HO.out, HB.out⟩
theorem done_two {base : Nat} {q : List Bool} {v : Value} (n : Int) (a b : Bool) (hn : (n = 3 ∨ n = 4) ∧ a = false ∧ b = false ∨ n = 5 ∧ a = true ∧ b = false ∨ (n = 12 ∨ n = 13) ∧ a = true ∧ b = true) (w : World) (h : Pile base w v q) (hB : base ≤ w.heap.size) (hl : q.length ≤ 1000000) :
    (∀ r, Rl.two q a b = some r → Calls Tryd.prog 25 #[v, .int .i64 n] w (PileOk base w r)) ∧ (Rl.two q a b = none → Calls Tryd.prog 25 #[v, .int .i64 n] w (PileNo base w)) := by
  have h1 := fun r hr => ofTwo_ok (r := r) a b w h hB hl hr
  have h2 := fun hr => ofTwo_no a b w h hl hr
  clear h
  constructor
  · intro r hr
    have HC := Lib.hid (h1 r hr)
    clear h1 h2 hr
    rcases hn with ⟨rfl | rfl, rfl, rfl⟩ | ⟨rfl, rfl, rfl⟩ | ⟨rfl | rfl, rfl, rfl⟩
    all_goals
      go_enter Tryd.func25, Tryd.ntmps25
      go_wp2_with (fail)
      refine HC.out.mono ?_
      rintro e w1 ⟨v1, rfl, hp, hb⟩
      have HP := Lib.hid hp
      have HB := Lib.hid hb
      clear hp hb
      go_wp2
      go_ret2
      exact ⟨_, rfl, HP.out, HB.out⟩
  · intro hr
    have HC := Lib.hid (h2 hr)
    clear h1 h2 hr
    rcases hn with ⟨rfl | rfl, rfl, rfl⟩ | ⟨rfl, rfl, rfl⟩ | ⟨rfl | rfl, rfl, rfl⟩
    all_goals
      go_enter Tryd.func25, Tryd.ntmps25
      go_wp2_with (fail)
      refine HC.out.mono ?_
      rintro e w1 ⟨rfl, hb⟩
      have HB := Lib.hid hb
      clear hb
      go_wp2
      go_ret2
      exact ⟨rfl, HB.out⟩
theorem done_none {base : Nat} {v : Value} (n : Int) (hn : n < 1 ∨ 13 < n) (w : World) : Calls Tryd.prog 25 #[v, .int .i64 n] w (PileNo base w) := by
  have h1 : (n == 1) = false := by rw [beq_eq_false_iff_ne]; omega
  have h2 : (n == 2) = false := by rw [beq_eq_false_iff_ne]; omega
  have h3 : (n == 3) = false := by rw [beq_eq_false_iff_ne]; omega
  have h4 : (n == 4) = false := by rw [beq_eq_false_iff_ne]; omega
  have h5 : (n == 5) = false := by rw [beq_eq_false_iff_ne]; omega
  have h6 : (n == 6) = false := by rw [beq_eq_false_iff_ne]; omega
  have h7 : (n == 7) = false := by rw [beq_eq_false_iff_ne]; omega
  have h8 : (n == 8) = false := by rw [beq_eq_false_iff_ne]; omega
  have h9 : (n == 9) = false := by rw [beq_eq_false_iff_ne]; omega
  have h10 : (n == 10) = false := by rw [beq_eq_false_iff_ne]; omega
  have h11 : (n == 11) = false := by rw [beq_eq_false_iff_ne]; omega
  have h12 : (n == 12) = false := by rw [beq_eq_false_iff_ne]; omega
  have h13 : (n == 13) = false := by rw [beq_eq_false_iff_ne]; omega
  clear hn
  go_enter Tryd.func25, Tryd.ntmps25
  go_wp2
  go_ret2
  exact ⟨rfl, Below.refl _ _⟩
/-- What done answers. -/
theorem done_ok {base : Nat} {q r : List Bool} {v : Value} (n : Int) (w : World) (h : Pile base w v q) (hB : base ≤ w.heap.size) (hl : q.length ≤ 1000000) (hs : Rl.step q n = some r) : Calls Tryd.prog 25 #[v, .int .i64 n] w (PileOk base w r) := by
  unfold Rl.step at hs
  split at hs
  · rename_i h1; injection hs with hs; subst hs; exact push_any n false (.inl ⟨h1, rfl⟩) w h hB hl
  · split at hs
    · rename_i h1; injection hs with hs; subst hs; exact push_any n true (.inr ⟨by omega, rfl⟩) w h hB hl
    · split at hs
      · rename_i h1; exact (done_two n false false (.inl ⟨h1, rfl, rfl⟩) w h hB hl).1 r hs
      · split at hs
        · rename_i h1; exact (done_two n true false (.inr (.inl ⟨h1, rfl, rfl⟩)) w h hB hl).1 r hs
        · split at hs
          · rename_i h1; exact (done_two n true true (.inr (.inr ⟨h1, rfl, rfl⟩)) w h hB hl).1 r hs
          · cases hs
theorem done_no {base : Nat} {q : List Bool} {v : Value} (n : Int) (w : World) (h : Pile base w v q) (hB : base ≤ w.heap.size) (hl : q.length ≤ 1000000) (hs : Rl.step q n = none) : Calls Tryd.prog 25 #[v, .int .i64 n] w (PileNo base w) := by
  unfold Rl.step at hs
  split at hs
  · cases hs
  · split at hs
    · cases hs
    · split at hs
      · rename_i h1; exact (done_two n false false (.inl ⟨h1, rfl, rfl⟩) w h hB hl).2 hs
      · split at hs
        · rename_i h1; exact (done_two n true false (.inr (.inl ⟨h1, rfl, rfl⟩)) w h hB hl).2 hs
        · split at hs
          · rename_i h1; exact (done_two n true true (.inr (.inr ⟨h1, rfl, rfl⟩)) w h hB hl).2 hs
          · exact done_none n (by omega) w
end Go.Proofs.YtflagbglbhmheaaDoor
