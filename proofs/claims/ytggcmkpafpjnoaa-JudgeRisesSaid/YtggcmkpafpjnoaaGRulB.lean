/- Walks of the reader's small methods. -/
import Derived.BigRegion
import Derived.RangeFuncBox
import Derived.Test.YtggcmkpafpjnoaaGRulA
import Derived.Test.YtggcmkpafpjnoaaGLexA
namespace Go.Proofs.Ytggcmkpafpjnoaa
set_option maxRecDepth 100000
open Go.RowKit Go.Shelf

theorem isN_of {l : List Lx.Tk} {k : Nat} {t : Lx.Tk} (h : l[k]? = some t) (x : ByteArray) : Rl.isN l k x = decide ((t.kind = 1 ∨ t.kind = 3) ∧ t.text = x) := by
  unfold Rl.isN
  rw [h]

theorem str_beq (a b : ByteArray) : (a.toList == b.toList) = decide (a = b) := by
  rw [Bool.eq_iff_iff, decide_eq_true_eq, beq_iff_eq, Lib.toList_data, Lib.toList_data]
  constructor
  · intro e
    rw [← Lib.mk_data a, ← Lib.mk_data b, e]
  · intro e
    rw [e]
theorem blk_grow {W W' : World} {o : Obj} {g : Nat} {t : TypeId} {cs : Array Value} {row : Option Nat} (hb : Blk W g t cs) (hne : some g ≠ row) (hgr : ((W.alloc o).drew).grownBy W' row) : Blk W' g t cs :=
  (hgr.block g (hb.alloc o).lt hne).trans (hb.alloc o)
theorem own_ne {W : World} {v : Value} {g n : Nat} {e : TypeId} {xs : List Value} (hown : W.ownsRow (g + 1) e 1 v n xs) : some g ≠ v.ownBlock := fun he => by
  have := (hown.lt g he.symm).1
  omega
theorem cell_one_new (w : World) (t : TypeId) (u : Value) : ∀ j v, [u][j]? = some v → (w.alloc (.cells #[u] t)).drew.cell? ((⟨w.heap.size, 0, none⟩ : Addr).add j) = some v := fun j v hv => cells_new w [u] t j v hv
end Go.Proofs.Ytggcmkpafpjnoaa

/- Walks of ofTwo and of done: a pile's last two things, and one number of a rule. -/
namespace Go.Proofs.Ytggcmkpafpjnoaa
set_option maxRecDepth 100000
open Go.RowKit Go.Shelf

def bools (l : List Bool) : List Value := l.map Value.bool
theorem bools_length (l : List Bool) : (bools l).length = l.length := by simp [bools]
theorem bools_snoc (l : List Bool) (b : Bool) : bools (l ++ [b]) = bools l ++ [.bool b] := by simp [bools]
theorem bools_take (l : List Bool) (k : Nat) : (bools l).take k = bools (l.take k) := by simp [bools, List.map_take]
theorem Try.infoBool : (Try.prog.info? 4).map (fun i => (i.zero, i.size, i.bytes)) = some (some (.bool false), 1, 1) := by kernel_rfl
/-- A row of the call's own, cut short. -/
theorem own_take {W : World} {base n k cap g : Nat} {e : TypeId} {xs : List Value} (h : W.ownsRow base e 1 (.slice (some ⟨g, 0, none⟩) n cap) n xs) (hk : k ≤ n) : W.ownsRow base e 1 (.slice (some ⟨g, 0, none⟩) k cap) k (xs.take k) := by
  obtain ⟨h1, h2⟩ := h
  rcases h2 with ⟨he, _⟩ | ⟨g', cap', cur, he, hb, hh, hkc, hcm, hcs, ht⟩
  · cases he
  · injection he with e1 e2 e3
    injection e1 with e1
    injection e1 with e1
    subst e1 e3
    refine ⟨by rw [List.length_take, h1]; omega, .inr ⟨_, _, cur, rfl, hb, hh, by omega, hcm, hcs, ?_⟩⟩
    rw [← ht, List.take_take]
    congr 1
    omega
theorem own_cell {W : World} {base n cap g : Nat} {e : TypeId} {xs : List Value} (h : W.ownsRow base e 1 (.slice (some ⟨g, 0, none⟩) n cap) n xs) {j : Nat} {u : Value} (hj : xs[j]? = some u) : W.cell? ⟨g, j, none⟩ = some u := by
  have h1 := h.cells rfl j u hj
  have e : (⟨g, 0, none⟩ : Addr).add j = ⟨g, j, none⟩ := by unfold Addr.add; split <;> simp_all
  rwa [e] at h1
theorem own_addr {W : World} {base n : Nat} {v : Value} {e : TypeId} {xs : List Value} (h : W.ownsRow base e 1 v n xs) (hn : 0 < n) : ∃ g cap, v = .slice (some ⟨g, 0, none⟩) n cap ∧ base ≤ g := by
  rcases h.2 with ⟨_, h0⟩ | ⟨g, cap, cur, he, hb, _⟩
  · omega
  · exact ⟨g, cap, he, hb⟩

/-- A pile that is a call's own. -/
def Pile (base : Nat) (W : World) (v : Value) (q : List Bool) : Prop := W.ownsRow base 4 1 v q.length (bools q)
def PileOk (base : Nat) (w : World) (q : List Bool) (e : Ending) (w' : World) : Prop := ∃ v, e = .returned (.tuple #[v, .bool true]) ∧ Pile base w' v q ∧ Below base w w'
def PileNo (base : Nat) (w : World) (e : Ending) (w' : World) : Prop := e = .returned (.tuple #[.slice none 0 0, .bool false]) ∧ Below base w w'

theorem two_no {q : List Bool} {a b : Bool} {n : Nat} (hn : q.length = n + 2) (h : ¬ (q[n]? = some a ∧ q[n + 1]? = some a)) : Rl.two q a b = none := by
  unfold Rl.two
  rw [hn, show n + 2 - 2 = n by omega, show n + 2 - 1 = n + 1 by omega, if_neg]
  exact fun h1 => h h1.2
theorem two_yes {q : List Bool} {a b : Bool} {n : Nat} (hn : q.length = n + 2) (h : q[n]? = some a) (h1 : q[n + 1]? = some a) : Rl.two q a b = some (q.take n ++ [b]) := by
  unfold Rl.two
  rw [hn, show n + 2 - 2 = n by omega, show n + 2 - 1 = n + 1 by omega, if_pos ⟨by omega, h, h1⟩]
theorem two_few {q : List Bool} {a b : Bool} (hn : q.length < 2) : Rl.two q a b = none := by
  unfold Rl.two
  rw [if_neg]
  rintro ⟨h, _⟩
  omega

set_option maxHeartbeats 1000000 in
theorem ofTwo_no {base : Nat} {q : List Bool} {v : Value} (a b : Bool) (w : World) (h : Pile base w v q) (hl : q.length ≤ 1000000) (hn : Rl.two q a b = none) : Calls Try.prog 55 #[v, .bool a, .bool b] w (PileNo base w) := by
  by_cases hs : q.length < 2
  · obtain ⟨A, cap, rfl⟩ := ownT_slice h
    clear hn h
    have h0 : (q.length : Int) - 2 < 0 := by omega
    go_enter Try.func55, Try.ntmps55
    go_wp2
    go_ret2
    exact ⟨rfl, Below.refl _ _⟩
  · obtain ⟨n, hq⟩ : ∃ n, q.length = n + 2 := ⟨q.length - 2, by omega⟩
    obtain ⟨g, cap, rfl, hbg⟩ := own_addr h (by omega)
    have hx0 : q[n]? = some q[n] := List.getElem?_eq_getElem (by omega)
    have hx1 : q[n + 1]? = some q[n + 1] := List.getElem?_eq_getElem (by omega)
    obtain ⟨x0, e0⟩ : ∃ x, q[n] = x := ⟨_, rfl⟩
    obtain ⟨x1, e1⟩ : ∃ x, q[n + 1] = x := ⟨_, rfl⟩
    rw [e0] at hx0
    rw [e1] at hx1
    have c0 := own_cell h (j := n) (u := .bool x0) (by simp [bools, hx0])
    have c1 := own_cell h (j := n + 1) (u := .bool x1) (by simp [bools, hx1])
    have hne : ¬ (x0 = a ∧ x1 = a) := fun ⟨i0, i1⟩ => by
      rw [two_yes hq (by rw [hx0, i0]) (by rw [hx1, i1])] at hn
      cases hn
    have hnb : n ≤ 1000000 := by omega
    rw [hq]
    clear h hn hx0 hx1 e0 e1 hs hl hq
    cases a <;> cases x0 <;> cases x1
    all_goals first
      | (exfalso; exact hne ⟨rfl, rfl⟩)
      | (clear hne
         go_enter Try.func55, Try.ntmps55
         go_wp2
         go_ret2
         exact ⟨rfl, Below.refl _ _⟩)
set_option maxHeartbeats 1000000 in
theorem ofTwo_ok {base : Nat} {q r : List Bool} {v : Value} (a b : Bool) (w : World) (h : Pile base w v q) (hB : base ≤ w.heap.size) (hl : q.length ≤ 1000000) (hn : Rl.two q a b = some r) : Calls Try.prog 55 #[v, .bool a, .bool b] w (PileOk base w r) := by
  have hs : ¬ q.length < 2 := fun hs => by rw [two_few hs] at hn; cases hn
  obtain ⟨n, hq⟩ : ∃ n, q.length = n + 2 := ⟨q.length - 2, by omega⟩
  obtain ⟨g, cap, rfl, hbg⟩ := own_addr h (by omega)
  have hx : q[n]? = some a ∧ q[n + 1]? = some a := Classical.byContradiction fun hx => by rw [two_no hq hx] at hn; cases hn
  obtain ⟨hx0, hx1⟩ := hx
  rw [two_yes hq hx0 hx1] at hn
  injection hn with hn
  have c0 := own_cell h (j := n) (u := .bool a) (by simp [bools, hx0])
  have c1 := own_cell h (j := n + 1) (u := .bool a) (by simp [bools, hx1])
  have hown := own_take h (k := n) (by omega)
  rw [bools_take] at hown
  have hne : (a != a) = false := by simp
  have hnb : n ≤ 1000000 := by omega
  have hcap : n + 2 ≤ cap := by have := (ownT_row h).2; omega
  obtain ⟨i0, hi, hz0, hz1, hz2⟩ := info_parts Try.infoBool
  have HR := Lib.hid hn
  have HQ : Hid ((q.take n).length = n) := by unfold Hid; rw [List.length_take]; omega
  rw [hq]
  clear h hx0 hx1 hn hs hl hq hne
  cases a
  all_goals
    go_enter Try.func55, Try.ntmps55
    go_wp2_with (at_builtin; refine wpList_append_own _ rfl _ _ 80 rfl base 4 i0 (.bool false) 1 1 Try.underlying80 hi hz0 hz1 hz2 rfl (by decide) _ _ _ rfl (hown.alloc _) ⟨w.heap.size, 0, none⟩ 1 1 [.bool b] rfl rfl (cells_new _ _ _) (by simp [Value.oneCell']) (by unfold maxLen; omega) (by omega) (by simp; omega) ?_)
    intro v' w' hown' hgrow _
    have hown2 : Pile base w' v' r := by
      unfold Pile
      rw [← HR.out, bools_snoc, List.length_append, HQ.out]
      exact hown'
    have hb : Below base w w' := ((Below.refl _ w).alloc hB _).grown hgrow (by simp; omega) (fun k he => (hown.lt k he).1)
    have HO := Lib.hid hown2
    have HB := Lib.hid hb
    clear hown hown' hown2 hgrow hb
    go_wp2
    go_ret2
    exact ⟨_, rfl, HO.out, HB.out⟩

/- One number of a rule. -/
theorem push_any {base : Nat} {q : List Bool} {v : Value} (n : Int) (b : Bool) (hn : (n = 1 ∨ n = 2) ∧ b = false ∨ (n = 6 ∨ n = 7 ∨ n = 8 ∨ n = 9 ∨ n = 10 ∨ n = 11) ∧ b = true) (w : World) (h : Pile base w v q) (hB : base ≤ w.heap.size) (hl : q.length ≤ 1000000) :
    Calls Try.prog 43 #[v, .int .i64 n] w (PileOk base w (q ++ [b])) := by
  obtain ⟨i0, hi, hz0, hz1, hz2⟩ := info_parts Try.infoBool
  have hown : w.ownsRow base 4 1 v q.length (bools q) := h
  clear h
  rcases hn with ⟨h1, rfl⟩ | ⟨h1, rfl⟩
  · rcases h1 with rfl | rfl
    all_goals
      go_enter Try.func43, Try.ntmps43
      go_wp2_with (at_builtin; refine wpList_append_own _ rfl _ _ 80 rfl base 4 i0 (.bool false) 1 1 Try.underlying80 hi hz0 hz1 hz2 rfl (by decide) _ _ _ rfl (hown.alloc _) ⟨w.heap.size, 0, none⟩ 1 1 [.bool false] rfl rfl (cells_new _ _ _) (by simp [Value.oneCell']) (by unfold maxLen; omega) (by omega) (by simp; omega) ?_)
      intro v' w' hown' hgrow _
      have hown2 : Pile base w' v' (q ++ [false]) := by
        unfold Pile
        rw [bools_snoc, List.length_append]
        exact hown'
      have hb : Below base w w' := ((Below.refl _ w).alloc hB _).grown hgrow (by simp; omega) (fun k he => (hown.lt k he).1)
      have HO := Lib.hid hown2
      have HB := Lib.hid hb
      clear hown hown' hown2 hgrow hb
      go_wp2
      go_ret2
      exact ⟨_, rfl, HO.out, HB.out⟩
  · rcases h1 with rfl | rfl | rfl | rfl | rfl | rfl
    all_goals
      go_enter Try.func43, Try.ntmps43
      go_wp2_with (at_builtin; refine wpList_append_own _ rfl _ _ 80 rfl base 4 i0 (.bool false) 1 1 Try.underlying80 hi hz0 hz1 hz2 rfl (by decide) _ _ _ rfl (hown.alloc _) ⟨w.heap.size, 0, none⟩ 1 1 [.bool true] rfl rfl (cells_new _ _ _) (by simp [Value.oneCell']) (by unfold maxLen; omega) (by omega) (by simp; omega) ?_)
      intro v' w' hown' hgrow _
      have hown2 : Pile base w' v' (q ++ [true]) := by
        unfold Pile
        rw [bools_snoc, List.length_append]
        exact hown'
      have hb : Below base w w' := ((Below.refl _ w).alloc hB _).grown hgrow (by simp; omega) (fun k he => (hown.lt k he).1)
      have HO := Lib.hid hown2
      have HB := Lib.hid hb
      clear hown hown' hown2 hgrow hb
      go_wp2
      go_ret2
      exact ⟨_, rfl, HO.out, HB.out⟩
theorem done_two {base : Nat} {q : List Bool} {v : Value} (n : Int) (a b : Bool) (hn : (n = 3 ∨ n = 4) ∧ a = false ∧ b = false ∨ n = 5 ∧ a = true ∧ b = false ∨ (n = 12 ∨ n = 13) ∧ a = true ∧ b = true) (w : World) (h : Pile base w v q) (hB : base ≤ w.heap.size) (hl : q.length ≤ 1000000) :
    (∀ r, Rl.two q a b = some r → Calls Try.prog 43 #[v, .int .i64 n] w (PileOk base w r)) ∧ (Rl.two q a b = none → Calls Try.prog 43 #[v, .int .i64 n] w (PileNo base w)) := by
  have h1 := fun r hr => ofTwo_ok (r := r) a b w h hB hl hr
  have h2 := fun hr => ofTwo_no a b w h hl hr
  clear h
  constructor
  · intro r hr
    have HC := Lib.hid (h1 r hr)
    clear h1 h2 hr
    rcases hn with ⟨rfl | rfl, rfl, rfl⟩ | ⟨rfl, rfl, rfl⟩ | ⟨rfl | rfl, rfl, rfl⟩
    all_goals
      go_enter Try.func43, Try.ntmps43
      go_wp2_with (fail)
      refine HC.out.mono ?_
      rintro e w1 ⟨v1, rfl, hp, hb⟩
      have HP := Lib.hid hp
      have HB := Lib.hid hb
      clear hp hb
      go_wp2
      go_ret2
      exact ⟨_, rfl, HP.out, HB.out⟩
  · intro hr
    have HC := Lib.hid (h2 hr)
    clear h1 h2 hr
    rcases hn with ⟨rfl | rfl, rfl, rfl⟩ | ⟨rfl, rfl, rfl⟩ | ⟨rfl | rfl, rfl, rfl⟩
    all_goals
      go_enter Try.func43, Try.ntmps43
      go_wp2_with (fail)
      refine HC.out.mono ?_
      rintro e w1 ⟨rfl, hb⟩
      have HB := Lib.hid hb
      clear hb
      go_wp2
      go_ret2
      exact ⟨rfl, HB.out⟩
theorem done_none {base : Nat} {v : Value} (n : Int) (hn : n < 1 ∨ 13 < n) (w : World) : Calls Try.prog 43 #[v, .int .i64 n] w (PileNo base w) := by
  have h1 : (n == 1) = false := by rw [beq_eq_false_iff_ne]; omega
  have h2 : (n == 2) = false := by rw [beq_eq_false_iff_ne]; omega
  have h3 : (n == 3) = false := by rw [beq_eq_false_iff_ne]; omega
  have h4 : (n == 4) = false := by rw [beq_eq_false_iff_ne]; omega
  have h5 : (n == 5) = false := by rw [beq_eq_false_iff_ne]; omega
  have h6 : (n == 6) = false := by rw [beq_eq_false_iff_ne]; omega
  have h7 : (n == 7) = false := by rw [beq_eq_false_iff_ne]; omega
  have h8 : (n == 8) = false := by rw [beq_eq_false_iff_ne]; omega
  have h9 : (n == 9) = false := by rw [beq_eq_false_iff_ne]; omega
  have h10 : (n == 10) = false := by rw [beq_eq_false_iff_ne]; omega
  have h11 : (n == 11) = false := by rw [beq_eq_false_iff_ne]; omega
  have h12 : (n == 12) = false := by rw [beq_eq_false_iff_ne]; omega
  have h13 : (n == 13) = false := by rw [beq_eq_false_iff_ne]; omega
  clear hn
  go_enter Try.func43, Try.ntmps43
  go_wp2
  go_ret2
  exact ⟨rfl, Below.refl _ _⟩
/-- What done answers. -/
theorem done_ok {base : Nat} {q r : List Bool} {v : Value} (n : Int) (w : World) (h : Pile base w v q) (hB : base ≤ w.heap.size) (hl : q.length ≤ 1000000) (hs : Rl.step q n = some r) : Calls Try.prog 43 #[v, .int .i64 n] w (PileOk base w r) := by
  unfold Rl.step at hs
  split at hs
  · rename_i h1; injection hs with hs; subst hs; exact push_any n false (.inl ⟨h1, rfl⟩) w h hB hl
  · split at hs
    · rename_i h1; injection hs with hs; subst hs; exact push_any n true (.inr ⟨by omega, rfl⟩) w h hB hl
    · split at hs
      · rename_i h1; exact (done_two n false false (.inl ⟨h1, rfl, rfl⟩) w h hB hl).1 r hs
      · split at hs
        · rename_i h1; exact (done_two n true false (.inr (.inl ⟨h1, rfl, rfl⟩)) w h hB hl).1 r hs
        · split at hs
          · rename_i h1; exact (done_two n true true (.inr (.inr ⟨h1, rfl, rfl⟩)) w h hB hl).1 r hs
          · cases hs
theorem done_no {base : Nat} {q : List Bool} {v : Value} (n : Int) (w : World) (h : Pile base w v q) (hB : base ≤ w.heap.size) (hl : q.length ≤ 1000000) (hs : Rl.step q n = none) : Calls Try.prog 43 #[v, .int .i64 n] w (PileNo base w) := by
  unfold Rl.step at hs
  split at hs
  · cases hs
  · split at hs
    · cases hs
    · split at hs
      · rename_i h1; exact (done_two n false false (.inl ⟨h1, rfl, rfl⟩) w h hB hl).2 hs
      · split at hs
        · rename_i h1; exact (done_two n true false (.inr (.inl ⟨h1, rfl, rfl⟩)) w h hB hl).2 hs
        · split at hs
          · rename_i h1; exact (done_two n true true (.inr (.inr ⟨h1, rfl, rfl⟩)) w h hB hl).2 hs
          · exact done_none n (by omega) w
end Go.Proofs.Ytggcmkpafpjnoaa

/- The walk of Right, and of Uses. -/
namespace Go.Proofs.Ytggcmkpafpjnoaa
set_option maxRecDepth 100000
open Go.RowKit Go.Shelf

theorem irow_at {w : World} {B : Nat} {A : Option Addr} {l : List Int} {k : Nat} (h : Row w B A (ints l)) (hk : k < l.length) : ∃ ad, A = some ad ∧ ad.block < B ∧ w.cell? (ad.add k) = some (.int .i64 l[k]) := by
  obtain ⟨ad, e, hb, hc⟩ := h.at_ (k := k) (by rw [ints_length]; exact hk)
  exact ⟨ad, e, hb, by simpa [ints] using hc⟩
/-- What holds at the head of Right's rounds. -/
structure RightAt (w : World) (rule : List Int) (v : Value) (k : Nat) (q : List Bool) (W : World) : Prop where
  own : Pile w.heap.size W v q
  below : Below w.heap.size w W
  go : Rl.pileOf [] rule = Rl.pileOf q (rule.drop k)
  len : q.length ≤ k
theorem step_len {q r : List Bool} {n : Int} (h : Rl.step q n = some r) : r.length ≤ q.length + 1 := by
  have h2 : ∀ a b, Rl.two q a b = some r → r.length ≤ q.length + 1 := fun a b h => by
    unfold Rl.two at h
    split at h
    · injection h with h; subst h; simp
    · cases h
  unfold Rl.step at h
  repeat' split at h
  all_goals first
    | exact h2 _ _ h
    | (injection h with h; subst h; simp)
    | cases h
theorem pile_on {rule : List Int} {q r : List Bool} {k : Nat} (hk : k < rule.length) (hs : Rl.step q rule[k] = some r) : Rl.pileOf q (rule.drop k) = Rl.pileOf r (rule.drop (k + 1)) := by
  rw [List.drop_eq_getElem_cons hk, Rl.pileOf, hs]
  rfl
theorem pile_stop {rule : List Int} {q : List Bool} {k : Nat} (hk : k < rule.length) (hs : Rl.step q rule[k] = none) : Rl.pileOf q (rule.drop k) = none := by
  rw [List.drop_eq_getElem_cons hk, Rl.pileOf, hs]
  rfl
theorem right_long {rule : List Int} {lab : Bool} (h : 40 < rule.length) : Rl.right rule lab = false := decide_eq_false fun h1 => by omega
theorem right_none {rule : List Int} {lab : Bool} (h : Rl.pileOf [] rule = none) : Rl.right rule lab = false := decide_eq_false fun h1 => by rw [h] at h1; cases h1.2
theorem right_some {rule : List Int} {lab : Bool} {q : List Bool} (hl : rule.length ≤ 40) (h : Rl.pileOf [] rule = some q) : Rl.right rule lab = decide (q = [lab]) := by
  unfold Rl.right
  rw [h]
  by_cases e : q = [lab]
  · subst e
    rw [decide_eq_true ⟨hl, rfl⟩, decide_eq_true rfl]
  · rw [decide_eq_false e, decide_eq_false fun h1 => e (by injection h1.2)]

/-- A bool is answered, and old memory stays. -/
def Tells (w : World) (b : Bool) (e : Ending) (w' : World) : Prop := e = .returned (.bool b) ∧ Below w.heap.size w w'

set_option maxHeartbeats 2000000 in
theorem right_any {A : Option Addr} {rule : List Int} (c : Nat) (lab : Bool) (w : World) (h : Row w w.heap.size A (ints rule)) (hl : rule.length ≤ 1000000) : Calls Try.prog 28 #[.slice A rule.length c, .bool lab] w (Tells w (Rl.right rule lab)) := by
  by_cases h40 : 40 < rule.length
  · rw [right_long h40]
    have h41 : (40 : Int) < (rule.length : Int) := by omega
    clear h h40
    go_enter Try.func28, Try.ntmps28
    go_wp2
    go_ret
    exact ⟨rfl, Below.refl _ _⟩
  · have h41 : ¬ (40 : Int) < (rule.length : Int) := by omega
    have hle : rule.length ≤ 40 := by omega
    have hp41 : ((40 : Int) < (rule.length : Int)) = False := eq_false h41
    have H := Lib.hid h
    clear h h40 h41
    go_enter Try.func28, Try.ntmps28
    go_wp2
    go_loopw [5, 14] (fun v i wr => ∃ (k : Nat) (q : List Bool), k ≤ rule.length ∧ i = .int .i64 k ∧ Hid (RightAt w rule v k q wr)) (fun _ i _ => rule.length - (intOf i).toNat)
    case atStart => exact ⟨0, [], Nat.zero_le _, rfl, ⟨World.ownsRow_nil _ _ _ _, Below.refl _ _, rfl, Nat.le_refl _⟩⟩
    case round =>
      obtain ⟨k, q, hk, rfl, HK⟩ := hrel
      by_cases hlt : k < rule.length
      · obtain ⟨ad, hA, hb, c0⟩ := irow_at (H.out.below HK.out.below) hlt
        have HA := Lib.hid hA
        rw [hA]
        have hql : q.length ≤ 1000000 := by have := HK.out.len; omega
        have hsz := HK.out.below.size
        cases hs : Rl.step q rule[k] with
        | none =>
          have hd := done_no rule[k] _ HK.out.own hsz hql hs
          have HD := Lib.hid hd
          have HE := Lib.hid (HK.out.go.trans (pile_stop hlt hs))
          clear hd hs hA
          generalize rule[k] = x at *
          go_wp2_with (fail)
          refine HD.out.mono ?_
          rintro e w1 ⟨rfl, hb1⟩
          have HB1 := Lib.hid hb1
          clear hb1
          go_wp2
          go_ret
          exact ⟨retb (right_none HE.out).symm, HK.out.below.trans HB1.out⟩
        | some r =>
          have hd := done_ok rule[k] _ HK.out.own hsz hql hs
          have HD := Lib.hid hd
          have HE := Lib.hid (HK.out.go.trans (pile_on hlt hs))
          have hrl := step_len hs
          clear hd hs hA
          generalize rule[k] = x at *
          go_wp2_with (fail)
          refine HD.out.mono ?_
          rintro e w1 ⟨v1, rfl, ho1, hb1⟩
          have hnx : RightAt w rule v1 (k + 1) r w1 := ⟨ho1, HK.out.below.trans hb1, HE.out, by have := HK.out.len; omega⟩
          have HNX := Lib.hid hnx
          clear hb1 ho1 hnx
          go_wp2
          go_roundw
          case rel => exact ⟨k + 1, r, by omega, by go_num, HNX⟩
          case measure => simp [intOf]; omega
      · obtain rfl : k = rule.length := by omega
        have hgo := HK.out.go
        rw [List.drop_length] at hgo
        have hr : Rl.right rule lab = decide (q = [lab]) := right_some hle hgo
        have HR := Lib.hid hr
        have HB := Lib.hid HK.out.below
        have hown : wr.ownsRow w.heap.size 4 1 _ q.length (bools q) := HK.out.own
        clear hgo hr
        match q, HK, HR, hown with
        | [], HK, HR, hown =>
          obtain ⟨A1, cap, rfl⟩ := ownT_slice hown
          clear hown HK
          go_wp2
          go_ret
          refine ⟨retb ?_, HB.out⟩
          rw [HR.out]
          simp
        | [x], HK, HR, hown =>
          obtain ⟨g, cap, rfl, -⟩ := own_addr hown (by simp)
          have c0 := own_cell hown (j := 0) (u := .bool x) rfl
          clear hown HK
          go_wp2
          go_ret
          refine ⟨retb ?_, HB.out⟩
          rw [HR.out]
          cases x <;> cases lab <;> rfl
        | x :: y :: r, HK, HR, hown =>
          obtain ⟨A1, cap, rfl⟩ := ownT_slice hown
          have hne : (((x :: y :: r).length : Int) == 1) = false := by rw [beq_eq_false_iff_ne]; simp; omega
          generalize (x :: y :: r).length = n at *
          clear hown HK
          go_wp2
          go_ret
          refine ⟨retb ?_, HB.out⟩
          rw [HR.out]
          simp
end Go.Proofs.Ytggcmkpafpjnoaa

/- The walk of Uses. -/
namespace Go.Proofs.Ytggcmkpafpjnoaa
set_option maxRecDepth 100000
open Go.RowKit Go.Shelf
namespace Rl
def usesOf (r : List Int) : Nat := (if (8 : Int) ∈ r then 1 else 0) + (if (9 : Int) ∈ r then 2 else 0) + (if (10 : Int) ∈ r then 4 else 0) + (if (11 : Int) ∈ r then 8 else 0)
theorem usesOf_lt (r : List Int) : usesOf r < 16 := by
  unfold usesOf
  split <;> split <;> split <;> split <;> omega
theorem uses_other {r : List Int} {n : Int} (h : n < 8 ∨ 11 < n) : usesOf (r ++ [n]) = usesOf r := by
  unfold usesOf
  simp only [List.mem_append, List.mem_singleton]
  have e8 : ¬ (8 : Int) = n := by omega
  have e9 : ¬ (9 : Int) = n := by omega
  have e10 : ¬ (10 : Int) = n := by omega
  have e11 : ¬ (11 : Int) = n := by omega
  simp only [e8, e9, e10, e11, or_false]
theorem uses_8 (r : List Int) : usesOf (r ++ [8]) = usesOf r ||| 1 := by
  unfold usesOf
  by_cases h8 : (8 : Int) ∈ r <;> by_cases h9 : (9 : Int) ∈ r <;> by_cases h10 : (10 : Int) ∈ r <;> by_cases h11 : (11 : Int) ∈ r <;> simp [h8, h9, h10, h11]
theorem uses_9 (r : List Int) : usesOf (r ++ [9]) = usesOf r ||| 2 := by
  unfold usesOf
  by_cases h8 : (8 : Int) ∈ r <;> by_cases h9 : (9 : Int) ∈ r <;> by_cases h10 : (10 : Int) ∈ r <;> by_cases h11 : (11 : Int) ∈ r <;> simp [h8, h9, h10, h11]
theorem uses_10 (r : List Int) : usesOf (r ++ [10]) = usesOf r ||| 4 := by
  unfold usesOf
  by_cases h8 : (8 : Int) ∈ r <;> by_cases h9 : (9 : Int) ∈ r <;> by_cases h10 : (10 : Int) ∈ r <;> by_cases h11 : (11 : Int) ∈ r <;> simp [h8, h9, h10, h11]
theorem uses_11 (r : List Int) : usesOf (r ++ [11]) = usesOf r ||| 8 := by
  unfold usesOf
  by_cases h8 : (8 : Int) ∈ r <;> by_cases h9 : (9 : Int) ∈ r <;> by_cases h10 : (10 : Int) ∈ r <;> by_cases h11 : (11 : Int) ∈ r <;> simp [h8, h9, h10, h11]
def made (r : List Int) : Bool := right r false || right r true
end Rl
theorem take_next {α : Type} {l : List α} {k : Nat} (h : k < l.length) : l.take (k + 1) = l.take k ++ [l[k]] := by rw [List.take_succ_eq_append_getElem h]

theorem or_bits1 : ∀ u : Nat, u < 16 → bits BinOp.or IntKind.u32 (u : Int) 1 = ((u ||| 1 : Nat) : Int) := by decide +kernel
theorem or_bits2 : ∀ u : Nat, u < 16 → bits BinOp.or IntKind.u32 (u : Int) 2 = ((u ||| 2 : Nat) : Int) := by decide +kernel
theorem or_bits4 : ∀ u : Nat, u < 16 → bits BinOp.or IntKind.u32 (u : Int) 4 = ((u ||| 4 : Nat) : Int) := by decide +kernel
theorem or_bits8 : ∀ u : Nat, u < 16 → bits BinOp.or IntKind.u32 (u : Int) 8 = ((u ||| 8 : Nat) : Int) := by decide +kernel

/-- What Uses answers. -/
def UsesRes (w : World) (rule : List Int) (e : Ending) (w' : World) : Prop :=
  e = .returned (.tuple #[.int .u32 (if Rl.made rule = true then (Rl.usesOf rule : Nat) else 0 : Int), .int .i64 (if Rl.made rule = true then 0 else 1)]) ∧ Below w.heap.size w w'
theorem UsesRes.no {w w' : World} {rule : List Int} (h : Rl.made rule = false) (hb : Below w.heap.size w w') : UsesRes w rule (.returned (.tuple #[.int .u32 0, .int .i64 1])) w' := by
  unfold UsesRes
  rw [if_neg (by rw [h]; decide), if_neg (by rw [h]; decide)]
  exact ⟨rfl, hb⟩
theorem UsesRes.yes {w w' : World} {rule : List Int} (h : Rl.made rule = true) (hb : Below w.heap.size w w') : UsesRes w rule (.returned (.tuple #[.int .u32 (Rl.usesOf rule : Nat), .int .i64 0])) w' := by
  unfold UsesRes
  rw [if_pos h, if_pos h]
  exact ⟨rfl, hb⟩

set_option maxHeartbeats 2000000 in
theorem uses_no {A : Option Addr} {rule : List Int} (c : Nat) (w : World) (h : Row w w.heap.size A (ints rule)) (hl : rule.length ≤ 1000000) (hm : Rl.made rule = false) : Calls Try.prog 17 #[.slice A rule.length c] w (UsesRes w rule) := by
  have h1 := right_any c false w h hl
  have h2 := fun W (hb : Below w.heap.size w W) => right_any c true W ((h.below hb).more hb.size) hl
  obtain ⟨e1, e2⟩ : Rl.right rule false = false ∧ Rl.right rule true = false := by simpa [Rl.made] using hm
  rw [e1] at h1
  rw [e2] at h2
  have H1 := Lib.hid h1
  have H2 := Lib.hid h2
  have HM := Lib.hid hm
  clear h h1 h2 e1 e2 hm
  go_enter Try.func17, Try.ntmps17
  go_wp2_with (fail)
  refine H1.out.mono ?_
  rintro e w1 ⟨rfl, hb1⟩
  have HB1 := Lib.hid hb1
  clear hb1
  go_wp2_with (fail)
  refine (H2.out _ HB1.out).mono ?_
  rintro e w2 ⟨rfl, hb2⟩
  have HB2 := Lib.hid (HB1.out.trans (hb2.mono HB1.out.size))
  clear hb2
  go_wp2
  go_ret2
  exact UsesRes.no HM.out HB2.out
set_option maxHeartbeats 4000000 in
theorem uses_yes {A : Option Addr} {rule : List Int} (c : Nat) (w : World) (h : Row w w.heap.size A (ints rule)) (hl : rule.length ≤ 1000000) (hm : Rl.made rule = true) : Calls Try.prog 17 #[.slice A rule.length c] w (UsesRes w rule) := by
  have h1 := right_any c false w h hl
  have h2 := fun W (hb : Below w.heap.size w W) => right_any c true W ((h.below hb).more hb.size) hl
  have H1 := Lib.hid h1
  have H2 := Lib.hid h2
  have HM := Lib.hid hm
  have H := Lib.hid h
  clear h h1 h2
  cases e1 : Rl.right rule false
  · have e2 : Rl.right rule true = true := by simpa [Rl.made, e1] using hm
    rw [e1] at H1
    rw [e2] at H2
    clear e1 e2 hm
    go_enter Try.func17, Try.ntmps17
    go_wp2_with (fail)
    refine H1.out.mono ?_
    rintro e w1 ⟨rfl, hb1⟩
    have HB1 := Lib.hid hb1
    clear hb1
    go_wp2_with (fail)
    refine (H2.out _ HB1.out).mono ?_
    rintro e w2 ⟨rfl, hb2⟩
    have HBW := Lib.hid (HB1.out.trans (hb2.mono HB1.out.size))
    clear hb2
    go_wp2
    go_loopw [4, 17] (fun v i wr => ∃ (k : Nat), k ≤ rule.length ∧ i = .int .i64 k ∧ v = .int .u32 (Rl.usesOf (rule.take k) : Nat) ∧ wr = w2) (fun _ i _ => rule.length - (intOf i).toNat)
    case atStart => exact ⟨0, Nat.zero_le _, rfl, rfl, rfl⟩
    case round =>
      obtain ⟨k, hk, rfl, rfl, rfl⟩ := hrel
      by_cases hlt : k < rule.length
      · obtain ⟨ad, hA, hb, c0⟩ := irow_at (H.out.below HBW.out) hlt
        have HN := Lib.hid (take_next hlt)
        have hu := Rl.usesOf_lt (rule.take k)
        rw [hA]
        clear hA
        generalize rule[k] = x at *
        by_cases hx : x < 8 ∨ 11 < x
        · have HE := Lib.hid (Rl.uses_other (r := rule.take k) hx)
          have HX := Lib.hid hx
          rcases hx with hx | hx
          all_goals
            generalize Rl.usesOf (rule.take k) = u at *
            go_wp2
            go_roundw
            case rel => exact ⟨k + 1, by omega, by go_num, by rw [HN.out, HE.out], trivial⟩
            case measure => simp [intOf]; omega
        · have hxs : x = 8 ∨ x = 9 ∨ x = 10 ∨ x = 11 := by omega
          clear hx
          rcases hxs with rfl | rfl | rfl | rfl
          · have HE := Lib.hid (Rl.uses_8 (rule.take k))
            generalize Rl.usesOf (rule.take k) = u at *
            have HO := Lib.hid (or_bits1 u hu)
            go_wp2
            go_roundw
            case rel => exact ⟨k + 1, by omega, by go_num, by rw [HN.out, HE.out, ← HO.out], trivial⟩
            case measure => simp [intOf]; omega
          · have HE := Lib.hid (Rl.uses_9 (rule.take k))
            generalize Rl.usesOf (rule.take k) = u at *
            have HO := Lib.hid (or_bits2 u hu)
            go_wp2
            go_roundw
            case rel => exact ⟨k + 1, by omega, by go_num, by rw [HN.out, HE.out, ← HO.out], trivial⟩
            case measure => simp [intOf]; omega
          · have HE := Lib.hid (Rl.uses_10 (rule.take k))
            generalize Rl.usesOf (rule.take k) = u at *
            have HO := Lib.hid (or_bits4 u hu)
            go_wp2
            go_roundw
            case rel => exact ⟨k + 1, by omega, by go_num, by rw [HN.out, HE.out, ← HO.out], trivial⟩
            case measure => simp [intOf]; omega
          · have HE := Lib.hid (Rl.uses_11 (rule.take k))
            generalize Rl.usesOf (rule.take k) = u at *
            have HO := Lib.hid (or_bits8 u hu)
            go_wp2
            go_roundw
            case rel => exact ⟨k + 1, by omega, by go_num, by rw [HN.out, HE.out, ← HO.out], trivial⟩
            case measure => simp [intOf]; omega
      · obtain rfl : k = rule.length := by omega
        rw [List.take_length]
        go_wp2
        go_ret2
        exact UsesRes.yes HM.out HBW.out
  · rw [e1] at H1
    clear e1 hm H2
    go_enter Try.func17, Try.ntmps17
    go_wp2_with (fail)
    refine H1.out.mono ?_
    rintro e w1 ⟨rfl, hb1⟩
    have HBW := Lib.hid hb1
    clear hb1
    go_wp2
    go_loopw [4, 17] (fun v i wr => ∃ (k : Nat), k ≤ rule.length ∧ i = .int .i64 k ∧ v = .int .u32 (Rl.usesOf (rule.take k) : Nat) ∧ wr = w1) (fun _ i _ => rule.length - (intOf i).toNat)
    case atStart => exact ⟨0, Nat.zero_le _, rfl, rfl, rfl⟩
    case round =>
      obtain ⟨k, hk, rfl, rfl, rfl⟩ := hrel
      by_cases hlt : k < rule.length
      · obtain ⟨ad, hA, hb, c0⟩ := irow_at (H.out.below HBW.out) hlt
        have HN := Lib.hid (take_next hlt)
        have hu := Rl.usesOf_lt (rule.take k)
        rw [hA]
        clear hA
        generalize rule[k] = x at *
        by_cases hx : x < 8 ∨ 11 < x
        · have HE := Lib.hid (Rl.uses_other (r := rule.take k) hx)
          have HX := Lib.hid hx
          rcases hx with hx | hx
          all_goals
            generalize Rl.usesOf (rule.take k) = u at *
            go_wp2
            go_roundw
            case rel => exact ⟨k + 1, by omega, by go_num, by rw [HN.out, HE.out], trivial⟩
            case measure => simp [intOf]; omega
        · have hxs : x = 8 ∨ x = 9 ∨ x = 10 ∨ x = 11 := by omega
          clear hx
          rcases hxs with rfl | rfl | rfl | rfl
          · have HE := Lib.hid (Rl.uses_8 (rule.take k))
            generalize Rl.usesOf (rule.take k) = u at *
            have HO := Lib.hid (or_bits1 u hu)
            go_wp2
            go_roundw
            case rel => exact ⟨k + 1, by omega, by go_num, by rw [HN.out, HE.out, ← HO.out], trivial⟩
            case measure => simp [intOf]; omega
          · have HE := Lib.hid (Rl.uses_9 (rule.take k))
            generalize Rl.usesOf (rule.take k) = u at *
            have HO := Lib.hid (or_bits2 u hu)
            go_wp2
            go_roundw
            case rel => exact ⟨k + 1, by omega, by go_num, by rw [HN.out, HE.out, ← HO.out], trivial⟩
            case measure => simp [intOf]; omega
          · have HE := Lib.hid (Rl.uses_10 (rule.take k))
            generalize Rl.usesOf (rule.take k) = u at *
            have HO := Lib.hid (or_bits4 u hu)
            go_wp2
            go_roundw
            case rel => exact ⟨k + 1, by omega, by go_num, by rw [HN.out, HE.out, ← HO.out], trivial⟩
            case measure => simp [intOf]; omega
          · have HE := Lib.hid (Rl.uses_11 (rule.take k))
            generalize Rl.usesOf (rule.take k) = u at *
            have HO := Lib.hid (or_bits8 u hu)
            go_wp2
            go_roundw
            case rel => exact ⟨k + 1, by omega, by go_num, by rw [HN.out, HE.out, ← HO.out], trivial⟩
            case measure => simp [intOf]; omega
      · obtain rfl : k = rule.length := by omega
        rw [List.take_length]
        go_wp2
        go_ret2
        exact UsesRes.yes HM.out HBW.out
end Go.Proofs.Ytggcmkpafpjnoaa

/- The walk of what stands between brackets. -/
namespace Go.Proofs.Ytggcmkpafpjnoaa
set_option maxRecDepth 100000
open Go.RowKit Go.Shelf

end Go.Proofs.Ytggcmkpafpjnoaa
