/- The walk of an atom. -/
import Derived.BigQuiet
import Derived.Deep.QuietTactic
import Derived.Test.YtggcmkpafpjnoaaGRulB
import Derived.Test.YtggcmkpafpjnoaaGLexD
namespace Go.Proofs.Ytggcmkpafpjnoaa
set_option maxRecDepth 100000
open Go.RowKit Go.Shelf
attribute [local go_sem] Oper.semAt_some

theorem word_of {l : List Lx.Tk} {k : Nat} {t : Lx.Tk} (h : l[k]? = some t) : Rl.word l k = if t.kind = 1 ∧ 6 ≤ Rl.opOf t.text ∧ Rl.opOf t.text ≤ 11 then Rl.opOf t.text else 0 := by
  unfold Rl.word
  rw [h]

end Go.Proofs.Ytggcmkpafpjnoaa

/- Walks of flow and of prim. -/
namespace Go.Proofs.Ytggcmkpafpjnoaa
set_option maxRecDepth 100000
open Go.RowKit Go.Shelf
attribute [local go_sem] Oper.semAt_some

end Go.Proofs.Ytggcmkpafpjnoaa

/- The walk of rows: parts with words between them. -/
namespace Go.Proofs.Ytggcmkpafpjnoaa
set_option maxRecDepth 100000
open Go.RowKit Go.Shelf

namespace Rl
theorem loop_no {l : List Lx.Tk} {more : St → Res} {w : ByteArray} {n : Nat} {s : St} (h : isN l s.pos w = false) : loop l more w n s = (s, 0) := by
  cases n with
  | zero => rfl
  | succ n => rw [loop, if_neg (by rw [h]; decide)]
theorem loop_bad {l : List Lx.Tk} {more : St → Res} {w : ByteArray} {n : Nat} {s : St} (h : isN l s.pos w = true) (h2 : (more (adv s)).2 ≠ 0) : loop l more w (n + 1) s = more (adv s) := by rw [loop, if_pos h, if_neg h2]
theorem loop_full {l : List Lx.Tk} {more : St → Res} {w : ByteArray} {n : Nat} {s : St} (h : isN l s.pos w = true) (h2 : (more (adv s)).2 = 0) (h3 : (put (opOf w) (more (adv s)).1).2 ≠ 0) : loop l more w (n + 1) s = put (opOf w) (more (adv s)).1 := by rw [loop, if_pos h, if_pos h2, if_neg h3]
theorem loop_on {l : List Lx.Tk} {more : St → Res} {w : ByteArray} {n : Nat} {s : St} (h : isN l s.pos w = true) (h2 : (more (adv s)).2 = 0) (h3 : (put (opOf w) (more (adv s)).1).2 = 0) : loop l more w (n + 1) s = loop l more w n (put (opOf w) (more (adv s)).1).1 := by rw [loop, if_pos h, if_pos h2, if_pos h3]
end Rl

def rpos (R : Nat) (W : World) : Nat := (intOf ((W.cell? ⟨R, 1, none⟩).getD (.int .i64 0))).toNat
end Go.Proofs.Ytggcmkpafpjnoaa

/- The walks of cond and of label, by the depth; and of From. -/
namespace Go.Proofs.Ytggcmkpafpjnoaa
set_option maxRecDepth 100000
open Go.RowKit Go.Shelf
attribute [local go_sem] Oper.semAt_some

section
variable {R M c : Nat} {A : Option Addr} {l : List Lx.Tk}
end

/-- A slice of numbers. -/
def IsInts (w : World) (B : Nat) (v : Value) (l : List Int) : Prop := ∃ A c, v = .slice A l.length c ∧ Row w B A (ints l) ∧ l.length ≤ c
theorem IsInts.below {w w' : World} {B : Nat} {v : Value} {l : List Int} (h : IsInts w B v l) (hb : Below B w w') : IsInts w' B v l := by
  obtain ⟨A, c, e, hr, hc⟩ := h
  exact ⟨A, c, e, hr.below hb, hc⟩
theorem IsInts.more {w : World} {B B' : Nat} {v : Value} {l : List Int} (h : IsInts w B v l) (hB : B ≤ B') : IsInts w B' v l := by
  obtain ⟨A, c, e, hr, hc⟩ := h
  exact ⟨A, c, e, hr.more hB, hc⟩
theorem IsInts.nil (w : World) (B : Nat) : IsInts w B (.slice none 0 0) [] := ⟨none, 0, rfl, Row.nil, Nat.le_refl _⟩
namespace Rl
/-- May tokens be read from a place on? -/
def may (l : List Lx.Tk) (i : Int) : Bool := decide (0 ≤ i ∧ i < l.length ∧ ∃ t, l[l.length - 1]? = some t ∧ t.kind = 0)
def told (r : Res) : List Int × Nat × Nat := if r.2 = 0 then (r.1.out, r.1.pos, 0) else ([], r.1.pos, r.2)
/-- What From answers. -/
def from_ (l : List Lx.Tk) (i : Int) (lab : Bool) : List Int × Nat × Nat := if may l i = true then told (read l lab i.toNat) else ([], 0, 1)
end Rl
def FromRes (w : World) (r : List Int × Nat × Nat) (e : Ending) (w' : World) : Prop :=
  ∃ v, e = .returned (.tuple #[v, .int .i64 (r.2.1 : Int), .int .i64 (r.2.2 : Int)]) ∧ IsInts w' w'.heap.size v r.1 ∧ Below w.heap.size w w'
/-- What From answers, in memory of its own. -/
def NewAt (B : Nat) (v : Value) : Prop := ∀ ad n c, v = .slice (some ad) n c → B ≤ ad.block
def FromNew (w : World) (r : List Int × Nat × Nat) (e : Ending) (w' : World) : Prop :=
  ∃ v, e = .returned (.tuple #[v, .int .i64 (r.2.1 : Int), .int .i64 (r.2.2 : Int)]) ∧ IsInts w' w'.heap.size v r.1 ∧ Below w.heap.size w w' ∧ NewAt w.heap.size v
theorem FromNew.res {w w' : World} {r : List Int × Nat × Nat} {e : Ending} (h : FromNew w r e w') : FromRes w r e w' := by
  obtain ⟨v, h1, h2, h3, _⟩ := h
  exact ⟨v, h1, h2, h3⟩
theorem own_new {W : World} {base sz n : Nat} {e : TypeId} {v : Value} {xs : List Value} (h : W.ownsRow base e sz v n xs) {B : Nat} (hB : B ≤ base) : NewAt B v := fun ad k c hv => by
  rcases h.2 with ⟨he, _⟩ | ⟨g, cap, cur, he, hb, _⟩
  · rw [hv] at he; cases he
  · rw [hv] at he
    injection he with e1 _ _
    injection e1 with e1
    subst e1
    exact Nat.le_trans hB hb
end Go.Proofs.Ytggcmkpafpjnoaa

/- Walks of the reference: two, Made, Right, Has, Uses, Same. -/
namespace Go.Proofs.Ytggcmkpafpjnoaa
set_option maxRecDepth 100000
open Go.RowKit Go.Shelf

/-- A pile, told by numbers. -/
def sortN (b : Bool) : Int := if b then 2 else 1
def sorts (q : List Bool) : List Int := q.map sortN
theorem sorts_length (q : List Bool) : (sorts q).length = q.length := by simp [sorts]
theorem sorts_snoc (q : List Bool) (b : Bool) : sorts (q ++ [b]) = sorts q ++ [sortN b] := by simp [sorts]
theorem sorts_take (q : List Bool) (k : Nat) : (ints (sorts q)).take k = ints (sorts (q.take k)) := by simp [sorts, ints, List.map_take]
def NPile (base : Nat) (W : World) (v : Value) (q : List Bool) : Prop := W.ownsRow base 3 1 v q.length (ints (sorts q))
/-- Are a pile's last two of a sort? -/
def lastTwo (q : List Bool) (b : Bool) : Bool := (Rl.two q b b).isSome
theorem two_eq (q : List Bool) (a b : Bool) : Rl.two q a b = if lastTwo q a = true then some (q.take (q.length - 2) ++ [b]) else none := by
  unfold lastTwo Rl.two
  by_cases h : 2 ≤ q.length ∧ q[q.length - 2]? = some a ∧ q[q.length - 1]? = some a
  · rw [if_pos h, if_pos h]; rfl
  · rw [if_neg h, if_neg h]; rfl
theorem sortN_inj {a b : Bool} (h : sortN a = sortN b) : a = b := by cases a <;> cases b <;> first | rfl | (exact absurd h (by decide))

set_option maxHeartbeats 1000000 in
theorem rTwo_any {base : Nat} {q : List Bool} {v : Value} (b : Bool) (w : World) (h : NPile base w v q) (hl : q.length ≤ 1000000) : Calls Try.prog 50 #[v, .int .i64 (sortN b)] w fun e w' => e = .returned (.bool (lastTwo q b)) ∧ w = w' := by
  by_cases hs : q.length < 2
  · have e : lastTwo q b = false := by unfold lastTwo; rw [two_few hs]; rfl
    rw [e]
    obtain ⟨A, cap, rfl⟩ := ownT_slice h
    have h0 : (q.length : Int) < 2 := by omega
    have h1 : ¬ (2 : Int) ≤ (q.length : Int) := by omega
    clear h e hs
    go_enter Try.func50, Try.ntmps50
    go_wp2
    go_ret
    exact ⟨rfl, rfl⟩
  · obtain ⟨n, hq⟩ : ∃ n, q.length = n + 2 := ⟨q.length - 2, by omega⟩
    obtain ⟨g, cap, rfl, -⟩ := own_addr h (by omega)
    have hx0 : q[n]? = some q[n] := List.getElem?_eq_getElem (by omega)
    have hx1 : q[n + 1]? = some q[n + 1] := List.getElem?_eq_getElem (by omega)
    obtain ⟨x0, e0⟩ : ∃ x, q[n] = x := ⟨_, rfl⟩
    obtain ⟨x1, e1⟩ : ∃ x, q[n + 1] = x := ⟨_, rfl⟩
    rw [e0] at hx0
    rw [e1] at hx1
    have c0 := own_cell h (j := n) (u := .int .i64 (sortN x0)) (by simp [ints, sorts, hx0])
    have c1 := own_cell h (j := n + 1) (u := .int .i64 (sortN x1)) (by simp [ints, sorts, hx1])
    have hr : lastTwo q b = decide (x0 = b ∧ x1 = b) := by
      unfold lastTwo
      by_cases hx : x0 = b ∧ x1 = b
      · rw [two_yes hq (by rw [hx0, hx.1]) (by rw [hx1, hx.2]), decide_eq_true hx]; rfl
      · rw [two_no hq (fun h1 => hx ⟨by have := h1.1; rw [hx0] at this; injection this, by have := h1.2; rw [hx1] at this; injection this⟩), decide_eq_false hx]; rfl
    have hnb : n ≤ 1000000 := by omega
    rw [hq, hr]
    clear h hx0 hx1 e0 e1 hs hl hq hr
    cases b <;> cases x0 <;> cases x1
    all_goals
      unfold sortN at c0 c1 ⊢
      go_enter Try.func50, Try.ntmps50
      go_wp2
      go_ret
      exact ⟨rfl, rfl⟩

/-- What holds at the head of Made's rounds. -/
structure RMadeAt (w : World) (rule : List Int) (v : Value) (k : Nat) (q : List Bool) (W : World) : Prop where
  own : NPile w.heap.size W v q
  below : Below w.heap.size w W
  go : Rl.pileOf [] rule = Rl.pileOf q (rule.drop k)
  len : q.length ≤ k
def soleN : List Bool → Int
  | [b] => sortN b
  | _ => 0
def madeN (rule : List Int) : Int := if rule.length ≤ 40 then (match Rl.pileOf [] rule with | some q => soleN q | none => 0) else 0
theorem madeN_none {rule : List Int} (h : Rl.pileOf [] rule = none) : madeN rule = 0 := by unfold madeN; rw [h]; split <;> rfl
theorem madeN_right (rule : List Int) : (Rl.right rule false = decide (madeN rule = 1)) ∧ (Rl.right rule true = decide (madeN rule = 2)) ∧ (Rl.made rule = decide (madeN rule ≠ 0)) := by
  have key : Rl.right rule false = decide (madeN rule = 1) ∧ Rl.right rule true = decide (madeN rule = 2) ∧ (madeN rule = 0 ∨ madeN rule = 1 ∨ madeN rule = 2) := by
    by_cases h40 : rule.length ≤ 40
    · cases hp : Rl.pileOf [] rule with
      | none => rw [right_none hp, right_none hp, madeN_none hp]; exact ⟨rfl, rfl, .inl rfl⟩
      | some q =>
        rw [right_some h40 hp, right_some h40 hp]
        unfold madeN
        rw [if_pos h40, hp]
        match q with
        | [] => exact ⟨rfl, rfl, .inl rfl⟩
        | [b] => cases b <;> exact ⟨rfl, rfl, by decide⟩
        | x :: y :: r => exact ⟨by simp [soleN], by simp [soleN], .inl rfl⟩
    · rw [right_long (by omega), right_long (by omega)]
      unfold madeN
      rw [if_neg h40]
      exact ⟨rfl, rfl, .inl rfl⟩
  obtain ⟨k1, k2, k3⟩ := key
  refine ⟨k1, k2, ?_⟩
  unfold Rl.made
  rw [k1, k2]
  rcases k3 with e | e | e <;> rw [e] <;> rfl
end Go.Proofs.Ytggcmkpafpjnoaa

/- The walk of the reference's Made. -/
namespace Go.Proofs.Ytggcmkpafpjnoaa
set_option maxRecDepth 100000
open Go.RowKit Go.Shelf

/-- A number is answered, and old memory stays. -/
def TellsN (w : World) (n : Int) (e : Ending) (w' : World) : Prop := e = .returned (.int .i64 n) ∧ Below w.heap.size w w'
theorem npile_two {base : Nat} {W : World} {v : Value} {q : List Bool} {b : Bool} (h : NPile base W v q) (ht : lastTwo q b = true) : ∃ g cap m, v = .slice (some ⟨g, 0, none⟩) (m + 2) cap ∧ q.length = m + 2 ∧ m + 2 ≤ cap ∧ q.take (m + 1) = q.take m ++ [b] := by
  have h2 : ¬ q.length < 2 := fun h2 => by unfold lastTwo at ht; rw [two_few h2] at ht; cases ht
  obtain ⟨m, hm⟩ : ∃ m, q.length = m + 2 := ⟨q.length - 2, by omega⟩
  have hx : q[m]? = some b := Classical.byContradiction fun hx => by unfold lastTwo at ht; rw [two_no hm (fun h1 => hx h1.1)] at ht; cases ht
  obtain ⟨g, cap, rfl, -⟩ := own_addr h (by omega)
  have hc := (ownT_row h).2
  exact ⟨g, cap, m, by rw [hm], hm, by omega, by rw [List.take_add_one, hx]; rfl⟩

set_option maxHeartbeats 8000000 in
theorem rMade_any {A : Option Addr} {rule : List Int} (c : Nat) (w : World) (h : Row w w.heap.size A (ints rule)) (hl : rule.length ≤ 100000) : Calls Try.prog 35 #[.slice A rule.length c] w (TellsN w (madeN rule)) := by
  obtain ⟨i0, hi, hz0, hz1, hz2⟩ := info_parts Try.infoInt
  have H := Lib.hid h
  have hstart : RMadeAt w rule (.slice (some ⟨w.heap.size, 0, none⟩) 0 0) 0 [] (w.alloc (.cells #[] 3)) := ⟨World.ownsRow_made w #[] 0 (Nat.le_refl _) (by decide) rfl, (Below.refl _ w).alloc (Nat.le_refl _) _, rfl, Nat.le_refl _⟩
  have HS := Lib.hid hstart
  clear h hstart
  go_enter Try.func35, Try.ntmps35
  go_wp2
  go_loopw [3, 10] (fun v i wr => ∃ (k : Nat) (q : List Bool), k ≤ rule.length ∧ i = .int .i64 k ∧ Hid (RMadeAt w rule v k q wr)) (fun _ i _ => rule.length - (intOf i).toNat)
  case atStart => exact ⟨0, [], Nat.zero_le _, rfl, HS⟩
  case round =>
    obtain ⟨k, q, hk, rfl, HK⟩ := hrel
    by_cases hlt : k < rule.length
    · obtain ⟨ad, hA, hb, c0⟩ := irow_at (H.out.below HK.out.below) hlt
      rw [hA]
      have hql : q.length ≤ 1000000 := by have := HK.out.len; omega
      have hsz := HK.out.below.size
      have hown : wr.ownsRow w.heap.size 3 1 _ q.length (ints (sorts q)) := HK.out.own
      obtain ⟨A1, cap1, rfl⟩ := ownT_slice hown
      have hgo := HK.out.go
      have hon := fun r hs => hgo.trans (pile_on (r := r) hlt hs)
      have hstop := fun hs => hgo.trans (pile_stop hlt hs)
      clear hA hgo
      generalize rule[k] = x at *
      by_cases x1 : x = 1 ∨ x = 2
      · have HE := Lib.hid (hon (q ++ [false]) (by unfold Rl.step; rw [if_pos x1]))
        clear hon hstop
        rcases x1 with rfl | rfl
        all_goals
          go_wp2_with (at_builtin; refine wpList_append_own _ rfl _ _ 26 rfl w.heap.size 3 i0 (.int .i64 0) 1 8 Try.underlying26 hi hz0 hz1 hz2 rfl (by decide) _ _ _ rfl (hown.alloc _) ⟨wr.heap.size, 0, none⟩ 1 1 [.int .i64 (1)] rfl rfl (cells_new _ _ _) (by simp [Value.oneCell']) (by unfold maxLen; omega) (by omega) (by simp; omega) ?_)
          intro v' w' hown' hgrow _
          have hnx : RMadeAt w rule v' (k + 1) (q ++ [false]) w' := ⟨by
            unfold NPile
            rw [sorts_snoc, ints_snoc, List.length_append]
            exact hown', (HK.out.below.alloc hsz _).grown hgrow (by simp; omega) (fun k he => (hown.lt k he).1), HE.out, by have := HK.out.len; simp; omega⟩
          have HNX := Lib.hid hnx
          clear hown hown' hgrow hnx
          go_wp2
          go_roundw
          case rel => exact ⟨k + 1, _, by omega, by go_num, HNX⟩
          case measure => simp [intOf]; omega
      · have n1 : (x == 1) = false := by rw [beq_eq_false_iff_ne]; omega
        have n2 : (x == 2) = false := by rw [beq_eq_false_iff_ne]; omega
        by_cases x6 : 6 ≤ x ∧ x ≤ 11
        · have HE := Lib.hid (hon (q ++ [true]) (by unfold Rl.step; rw [if_neg x1, if_pos x6]))
          obtain ⟨x6, x11⟩ := x6
          clear hon hstop x1
          go_wp2_with (at_builtin; refine wpList_append_own _ rfl _ _ 26 rfl w.heap.size 3 i0 (.int .i64 0) 1 8 Try.underlying26 hi hz0 hz1 hz2 rfl (by decide) _ _ _ rfl (hown.alloc _) ⟨wr.heap.size, 0, none⟩ 1 1 [.int .i64 (2)] rfl rfl (cells_new _ _ _) (by simp [Value.oneCell']) (by unfold maxLen; omega) (by omega) (by simp; omega) ?_)
          intro v' w' hown' hgrow _
          have hnx : RMadeAt w rule v' (k + 1) (q ++ [true]) w' := ⟨by
            unfold NPile
            rw [sorts_snoc, ints_snoc, List.length_append]
            exact hown', (HK.out.below.alloc hsz _).grown hgrow (by simp; omega) (fun k he => (hown.lt k he).1), HE.out, by have := HK.out.len; simp; omega⟩
          have HNX := Lib.hid hnx
          clear hown hown' hgrow hnx
          go_wp2
          go_roundw
          case rel => exact ⟨k + 1, _, by omega, by go_num, HNX⟩
          case measure => simp [intOf]; omega
        · by_cases x3 : x = 3 ∨ x = 4
          · have hs : Rl.step q x = Rl.two q false false := by unfold Rl.step; rw [if_neg x1, if_neg x6, if_pos x3]
            rw [two_eq] at hs
            have hc := rTwo_any false wr HK.out.own hql
            cases ht : lastTwo q false
            · rw [ht] at hs hc
              have HE := Lib.hid (hstop hs)
              have HC := Lib.hid hc
              clear hon hstop hs hc ht x1 x6 hown n1 n2
              rcases x3 with rfl | rfl
              all_goals
                go_wp2_with (fail)
                refine HC.out.mono ?_
                rintro e w1 ⟨rfl, rfl⟩
                go_wp2
                go_ret
                exact ⟨reti (madeN_none HE.out).symm, HK.out.below⟩
            · rw [ht] at hs hc
              obtain ⟨g, cap, m, hv, hqm, hcap, htk⟩ := npile_two HK.out.own ht
              have HE := Lib.hid (hon _ hs)
              have HC := Lib.hid hc
              injection hv with e1 e2 e3
              subst e1 e3
              have hown2 := own_take (k := m + 1) (by rw [hqm] at hown; exact hown) (by omega)
              rw [sorts_take, htk] at hown2
              have hnx : RMadeAt w rule (.slice (some ⟨g, 0, none⟩) (m + 1) cap1) (k + 1) (q.take (q.length - 2) ++ [false]) wr := ⟨by
                unfold NPile
                rw [hqm, Nat.add_sub_cancel, List.length_append, List.length_take, hqm, show min m (m + 2) = m by omega]
                exact hown2, HK.out.below, HE.out, by have := HK.out.len; rw [List.length_append, List.length_take]; simp; omega⟩
              have HNX := Lib.hid hnx
              have hmk : m ≤ 1000000 := by omega
              rw [hqm]
              rw [hqm] at HC
              clear hon hstop hs hc ht x1 x6 hown n1 n2 hown2 hnx htk e2 hqm
              rcases x3 with rfl | rfl
              all_goals
                go_wp2_with (fail)
                refine HC.out.mono ?_
                rintro e w1 ⟨rfl, rfl⟩
                go_wp2
                go_roundw
                case rel => exact ⟨k + 1, _, by omega, by go_num, HNX⟩
                case measure => simp [intOf]; omega
          · have n3 : (x == 3) = false := by rw [beq_eq_false_iff_ne]; omega
            have n4 : (x == 4) = false := by rw [beq_eq_false_iff_ne]; omega
            by_cases x5 : x = 5
            · have hs : Rl.step q x = Rl.two q true false := by unfold Rl.step; rw [if_neg x1, if_neg x6, if_neg x3, if_pos x5]
              rw [two_eq] at hs
              have hc := rTwo_any true wr HK.out.own hql
              cases ht : lastTwo q true
              · rw [ht] at hs hc
                have HE := Lib.hid (hstop hs)
                have HC := Lib.hid hc
                clear hon hstop hs hc ht x1 x3 x6 hown n1 n2 n3 n4
                subst x5
                go_wp2_with (fail)
                refine HC.out.mono ?_
                rintro e w1 ⟨rfl, rfl⟩
                go_wp2
                go_ret
                exact ⟨reti (madeN_none HE.out).symm, HK.out.below⟩
              · rw [ht] at hs hc
                obtain ⟨g, cap, m, hv, hqm, hcap, htk⟩ := npile_two HK.out.own ht
                have HE := Lib.hid (hon _ hs)
                have HC := Lib.hid hc
                injection hv with e1 e2 e3
                subst e1 e3
                have hown2 := own_take (k := m) (by rw [hqm] at hown; exact hown) (by omega)
                rw [sorts_take] at hown2
                have hmk : m ≤ 1000000 := by omega
                have HLM : Hid ((q.take (q.length - 2)).length = m) := by unfold Hid; rw [List.length_take]; omega
                have HQ2 : Hid (q.take (q.length - 2) = q.take m) := by unfold Hid; rw [hqm]; rfl
                have HQM := Lib.hid hqm
                rw [hqm]
                rw [hqm] at HC
                clear hon hstop hs hc ht x1 x3 x6 hown n1 n2 n3 n4 htk e2 hqm
                subst x5
                have hown := hown2
                clear hown2
                go_wp2_with (fail)
                refine HC.out.mono ?_
                rintro e w1 ⟨rfl, rfl⟩
                go_wp2_with (at_builtin; refine wpList_append_own _ rfl _ _ 26 rfl w.heap.size 3 i0 (.int .i64 0) 1 8 Try.underlying26 hi hz0 hz1 hz2 rfl (by decide) _ _ _ rfl (hown.alloc _) ⟨wr.heap.size, 0, none⟩ 1 1 [.int .i64 (1)] rfl rfl (cells_new _ _ _) (by simp [Value.oneCell']) (by unfold maxLen; omega) (by omega) (by simp; omega) ?_)
                intro v' w' hown' hgrow _
                have hnx : RMadeAt w rule v' (k + 1) (q.take (q.length - 2) ++ [false]) w' := ⟨by
                  unfold NPile
                  rw [sorts_snoc, ints_snoc, List.length_append, HLM.out, HQ2.out]
                  exact hown', (HK.out.below.alloc hsz _).grown hgrow (by simp; omega) (fun k he => (hown.lt k he).1), HE.out, by have := HK.out.len; rw [List.length_append, HLM.out]; have := HQM.out; simp; omega⟩
                have HNX := Lib.hid hnx
                clear hown hown' hgrow hnx
                go_wp2
                go_roundw
                case rel => exact ⟨k + 1, _, by omega, by go_num, HNX⟩
                case measure => simp [intOf]; omega
            · have n5 : (x == 5) = false := by rw [beq_eq_false_iff_ne]; exact x5
              by_cases x12 : x = 12 ∨ x = 13
              · have hs : Rl.step q x = Rl.two q true true := by unfold Rl.step; rw [if_neg x1, if_neg x6, if_neg x3, if_neg x5, if_pos x12]
                rw [two_eq] at hs
                have hc := rTwo_any true wr HK.out.own hql
                cases ht : lastTwo q true
                · rw [ht] at hs hc
                  have HE := Lib.hid (hstop hs)
                  have HC := Lib.hid hc
                  clear hon hstop hs hc ht x1 x3 x5 x6 hown n1 n2 n3 n4 n5
                  rcases x12 with rfl | rfl
                  all_goals
                    go_wp2_with (fail)
                    refine HC.out.mono ?_
                    rintro e w1 ⟨rfl, rfl⟩
                    go_wp2
                    go_ret
                    exact ⟨reti (madeN_none HE.out).symm, HK.out.below⟩
                · rw [ht] at hs hc
                  obtain ⟨g, cap, m, hv, hqm, hcap, htk⟩ := npile_two HK.out.own ht
                  have HE := Lib.hid (hon _ hs)
                  have HC := Lib.hid hc
                  injection hv with e1 e2 e3
                  subst e1 e3
                  have hown2 := own_take (k := m + 1) (by rw [hqm] at hown; exact hown) (by omega)
                  rw [sorts_take, htk] at hown2
                  have hnx : RMadeAt w rule (.slice (some ⟨g, 0, none⟩) (m + 1) cap1) (k + 1) (q.take (q.length - 2) ++ [true]) wr := ⟨by
                    unfold NPile
                    rw [hqm, Nat.add_sub_cancel, List.length_append, List.length_take, hqm, show min m (m + 2) = m by omega]
                    exact hown2, HK.out.below, HE.out, by have := HK.out.len; rw [List.length_append, List.length_take]; simp; omega⟩
                  have HNX := Lib.hid hnx
                  have hmk : m ≤ 1000000 := by omega
                  rw [hqm]
                  rw [hqm] at HC
                  clear hon hstop hs hc ht x1 x3 x5 x6 hown n1 n2 n3 n4 n5 hown2 hnx htk e2 hqm
                  rcases x12 with rfl | rfl
                  all_goals
                    go_wp2_with (fail)
                    refine HC.out.mono ?_
                    rintro e w1 ⟨rfl, rfl⟩
                    go_wp2
                    go_roundw
                    case rel => exact ⟨k + 1, _, by omega, by go_num, HNX⟩
                    case measure => simp [intOf]; omega
              · have n12 : (x == 12) = false := by rw [beq_eq_false_iff_ne]; omega
                have n13 : (x == 13) = false := by rw [beq_eq_false_iff_ne]; omega
                have HE := Lib.hid (hstop (by unfold Rl.step; rw [if_neg x1, if_neg x6, if_neg x3, if_neg x5, if_neg x12]))
                have x6' : x < 6 ∨ 11 < x := by omega
                clear hon hstop x1 x3 x5 x6 x12 hown
                rcases x6' with x6 | x6
                all_goals
                  go_wp2
                  go_ret
                  exact ⟨reti (madeN_none HE.out).symm, HK.out.below⟩
    · obtain rfl : k = rule.length := by omega
      have hgo := HK.out.go
      rw [List.drop_length] at hgo
      have hown : wr.ownsRow w.heap.size 3 1 _ q.length (ints (sorts q)) := HK.out.own
      have HB := Lib.hid HK.out.below
      have hmd : madeN rule = if rule.length ≤ 40 then soleN q else 0 := by unfold madeN; rw [hgo]; rfl
      have HM := Lib.hid hmd
      clear hgo hmd
      match q, HK, HM, hown with
      | [], HK, HM, hown =>
        obtain ⟨A1, cap, rfl⟩ := ownT_slice hown
        clear hown HK
        go_wp2
        go_ret
        exact ⟨reti (by rw [HM.out]; split <;> rfl), HB.out⟩
      | [x], HK, HM, hown =>
        obtain ⟨g, cap, rfl, -⟩ := own_addr hown (by simp)
        have c0 := own_cell hown (j := 0) (u := .int .i64 (sortN x)) rfl
        clear hown HK
        by_cases h40 : (40 : Int) < (rule.length : Int)
        · go_wp2
          go_ret
          exact ⟨reti (by rw [HM.out, if_neg (by omega)]), HB.out⟩
        · have hp40 : ((40 : Int) < (rule.length : Int)) = False := eq_false h40
          have HL : Hid (rule.length ≤ 40) := by unfold Hid; omega
          clear h40
          go_wp2
          go_ret
          exact ⟨reti (by rw [HM.out, if_pos HL.out]; rfl), HB.out⟩
      | x :: y :: r, HK, HM, hown =>
        obtain ⟨A1, cap, rfl⟩ := ownT_slice hown
        have hne : (((x :: y :: r).length : Int) != 1) = true := by rw [bne_iff_ne]; simp; omega
        generalize (x :: y :: r).length = n at *
        clear hown HK
        go_wp2
        go_ret
        exact ⟨reti (by rw [HM.out]; split <;> rfl), HB.out⟩
end Go.Proofs.Ytggcmkpafpjnoaa

/- Walks of the reference's Right, Has, Uses, Same. -/
namespace Go.Proofs.Ytggcmkpafpjnoaa
set_option maxRecDepth 100000
open Go.RowKit Go.Shelf

theorem rRight_any {A : Option Addr} {rule : List Int} (c : Nat) (lab : Bool) (w : World) (h : Row w w.heap.size A (ints rule)) (hl : rule.length ≤ 100000) : Calls Try.prog 21 #[.slice A rule.length c, .bool lab] w (Tells w (Rl.right rule lab)) := by
  have HC := Lib.hid (rMade_any c w h hl)
  obtain ⟨e1, e2, -⟩ := madeN_right rule
  cases lab
  · rw [e1]
    clear h e1 e2
    go_enter Try.func21, Try.ntmps21
    go_wp2_with (fail)
    refine HC.out.mono ?_
    rintro e w1 ⟨rfl, hb1⟩
    have HB1 := Lib.hid hb1
    clear hb1
    generalize madeN rule = x at *
    go_wp2
    go_ret
    exact ⟨retb (by first | rfl | simp [beq_eq_decide]), HB1.out⟩
  · rw [e2]
    clear h e1 e2
    go_enter Try.func21, Try.ntmps21
    go_wp2_with (fail)
    refine HC.out.mono ?_
    rintro e w1 ⟨rfl, hb1⟩
    have HB1 := Lib.hid hb1
    clear hb1
    generalize madeN rule = x at *
    go_wp2
    go_ret
    exact ⟨retb (by first | rfl | simp [beq_eq_decide]), HB1.out⟩

theorem mem_take_next {rule : List Int} {k : Nat} (hk : k < rule.length) (n : Int) : n ∈ rule.take (k + 1) ↔ n ∈ rule.take k ∨ n = rule[k] := by
  rw [take_next hk, List.mem_append, List.mem_singleton]
def usesTo (r : List Int) : Nat → Nat
  | 0 => 0
  | n + 1 => usesTo r n + (if (8 + (n : Int)) ∈ r then 2 ^ n else 0)
theorem usesTo_four (r : List Int) : usesTo r 4 = Rl.usesOf r := by
  have e0 : (8 : Int) + ((0 : Nat) : Int) = 8 := by decide
  have e1 : (8 : Int) + ((1 : Nat) : Int) = 9 := by decide
  have e2 : (8 : Int) + ((2 : Nat) : Int) = 10 := by decide
  have e3 : (8 : Int) + ((3 : Nat) : Int) = 11 := by decide
  have p0 : (2 : Nat) ^ 0 = 1 := rfl
  have p1 : (2 : Nat) ^ 1 = 2 := rfl
  have p2 : (2 : Nat) ^ 2 = 4 := rfl
  have p3 : (2 : Nat) ^ 3 = 8 := rfl
  simp only [usesTo, Rl.usesOf, e0, e1, e2, e3, p0, p1, p2, p3]
  omega
theorem usesTo_lt (r : List Int) : ∀ j, usesTo r j < 2 ^ j
  | 0 => by simp [usesTo]
  | j + 1 => by
    have := usesTo_lt r j
    rw [usesTo, Nat.pow_succ]
    split <;> omega
end Go.Proofs.Ytggcmkpafpjnoaa
