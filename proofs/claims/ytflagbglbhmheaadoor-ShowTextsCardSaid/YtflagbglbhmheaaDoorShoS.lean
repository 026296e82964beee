/- Things of two piles: what a rule's numbers make of them, and how large they get. Over no program. -/
import Derived.Test.YtflagbglbhmheaaDoorShoR
namespace Go.Proofs.YtflagbglbhmheaaDoor
set_option maxRecDepth 100000
namespace Sh
/-- A thing: its text, how it binds, how deep it is. -/
structure Th where
  s : ByteArray
  b : Nat
  d : Nat
def inBr (o e : ByteArray) (x : Th) : Th := ⟨o ++ x.s ++ e, x.b, x.d + 1⟩
def btw (x : Th) (n : Int) (y : Th) : Th := ⟨x.s ++ ({ data := #[32] } ++ nameOf n ++ { data := #[32] }) ++ y.s, binds n, max x.d y.d⟩
def brL (n : Int) (o e : ByteArray) (x : Th) : Th := if x.b < binds n then inBr o e x else x
def brR (n : Int) (o e : ByteArray) (x : Th) : Th := if x.b ≤ binds n then inBr o e x else x
def one (n : Int) : Th := ⟨nameOf n, binds n, 0⟩
def thOf (t : Tree) : Th := ⟨Lx.pack (txt t), bt t, deep t⟩
abbrev bOpen : Bool → ByteArray
  | true => { data := #[91] }
  | false => { data := #[40] }
abbrev bShut : Bool → ByteArray
  | true => { data := #[93] }
  | false => { data := #[41] }
theorem pack_append (a b : List UInt8) : Lx.pack (a ++ b) = Lx.pack a ++ Lx.pack b := by
  apply ByteArray.ext
  simp [Lx.pack]
theorem pack_name (n : Int) : Lx.pack (nameOf n).data.toList = nameOf n := by
  apply ByteArray.ext
  simp [Lx.pack]
theorem thOf_leaf (n : Int) : thOf (.leaf n) = one n := by
  unfold thOf one
  rw [show txt (.leaf n) = (nameOf n).data.toList from rfl, pack_name]
  rfl
theorem wrap_yes (sq : Bool) (s : List UInt8) : Lx.pack (wrapT true sq s) = bOpen sq ++ Lx.pack s ++ bShut sq := by
  cases sq
  · rw [show wrapT true false s = [40] ++ s ++ [41] by simp [wrapT], pack_append, pack_append]
    rfl
  · rw [show wrapT true true s = [91] ++ s ++ [93] by simp [wrapT], pack_append, pack_append]
    rfl
theorem brL_tree {n : Int} (h5 : n ≠ 5) (x : Tree) : brL n (bOpen (square n)) (bShut (square n)) (thOf x) = ⟨Lx.pack (wrapT (lowL n x) (square n) (txt x)), bt x, deep x + (lowL n x).toNat⟩ := by
  unfold brL lowL
  by_cases h : bt x < binds n
  · rw [if_pos (show (thOf x).b < binds n from h), decide_eq_true ⟨h5, h⟩, wrap_yes]
    rfl
  · rw [if_neg (show ¬ (thOf x).b < binds n from h), decide_eq_false (fun h1 => h h1.2)]
    rfl
theorem brR_tree {n : Int} (h5 : n ≠ 5) (x : Tree) : brR n (bOpen (square n)) (bShut (square n)) (thOf x) = ⟨Lx.pack (wrapT (lowR n x) (square n) (txt x)), bt x, deep x + (lowR n x).toNat⟩ := by
  unfold brR lowR
  by_cases h : bt x ≤ binds n
  · rw [if_pos (show (thOf x).b ≤ binds n from h), decide_eq_true ⟨h5, by omega⟩, wrap_yes]
    rfl
  · rw [if_neg (show ¬ (thOf x).b ≤ binds n from h), decide_eq_false (fun h1 => h (by omega))]
    rfl
theorem txt_node (n : Int) (x y : Tree) : Lx.pack (txt (.node n x y)) = Lx.pack (wrapT (lowL n x) (square n) (txt x)) ++ ({ data := #[32] } ++ nameOf n ++ { data := #[32] }) ++ Lx.pack (wrapT (lowR n y) (square n) (txt y)) := by
  have e : txt (.node n x y) = wrapT (lowL n x) (square n) (txt x) ++ ([32] ++ (nameOf n).data.toList ++ [32]) ++ wrapT (lowR n y) (square n) (txt y) := by simp [txt]
  rw [e, pack_append, pack_append, pack_append, pack_append, pack_name]
  rfl
theorem thOf_node {n : Int} (h5 : n ≠ 5) (x y : Tree) : thOf (.node n x y) = btw (brL n (bOpen (square n)) (bShut (square n)) (thOf x)) n (brR n (bOpen (square n)) (bShut (square n)) (thOf y)) := by
  rw [brL_tree h5, brR_tree h5]
  unfold btw thOf
  rw [txt_node]
  rfl
theorem thOf_five (x y : Tree) : thOf (.node 5 x y) = btw (thOf x) 5 (thOf y) := by
  unfold btw thOf
  rw [txt_node]
  rfl

/-- The last two of a pile. -/
def two? (l : List Th) : Option (List Th × Th × Th) :=
  match l.reverse with
  | y :: x :: r => some (r.reverse, x, y)
  | _ => none
theorem two_snoc (l : List Th) (x y : Th) : two? (l ++ [x] ++ [y]) = some (l, x, y) := by
  unfold two?
  simp
theorem two_some {l l0 : List Th} {x y : Th} (h : two? l = some (l0, x, y)) : l = l0 ++ [x] ++ [y] := by
  unfold two? at h
  split at h
  · rename_i y' x' r hr
    injection h with h
    injection h with h1 h2
    injection h2 with h2 h3
    subst h1 h2 h3
    have := congrArg List.reverse hr
    rw [List.reverse_reverse] at this
    rw [this]
    simp
  · cases h
abbrev Two := List Th × List Th
def isCond (n : Int) : Bool := decide (n = 1 ∨ n = 2)
def isLab (n : Int) : Bool := decide (n = 6 ∨ n = 7 ∨ n = 8 ∨ n = 9 ∨ n = 10 ∨ n = 11)
/-- What a number makes of the piles: conditions, labels. -/
def pstep (p : Two) (n : Int) : Option Two :=
  if n = 1 ∨ n = 2 then some (p.1 ++ [one n], p.2)
  else if 6 ≤ n ∧ n ≤ 11 then some (p.1, p.2 ++ [one n])
  else if n = 3 ∨ n = 4 then (two? p.1).map fun r => (r.1 ++ [btw (brL n { data := #[40] } { data := #[41] } r.2.1) n (brR n { data := #[40] } { data := #[41] } r.2.2)], p.2)
  else if n = 5 then (two? p.2).map fun r => (p.1 ++ [btw r.2.1 5 r.2.2], r.1)
  else if n = 12 ∨ n = 13 then (two? p.2).map fun r => (p.1, r.1 ++ [btw (brL n { data := #[91] } { data := #[93] } r.2.1) n (brR n { data := #[91] } { data := #[93] } r.2.2)])
  else none
def pmach : Two → List Int → Option Two
  | p, [] => some p
  | p, n :: r => (pstep p n).bind fun q => pmach q r
theorem pmach_append : ∀ (a b : List Int) (p : Two), pmach p (a ++ b) = (pmach p a).bind fun q => pmach q b
  | [], _, _ => rfl
  | n :: a, b, p => by
    simp only [List.cons_append, pmach]
    cases pstep p n with
    | none => rfl
    | some q => exact pmach_append a b q
def add (p : Two) (b : Bool) (x : Th) : Two := if b = true then (p.1, p.2 ++ [x]) else (p.1 ++ [x], p.2)
theorem pmach_post : ∀ (t : Tree) (b : Bool) (p : Two), Ok b t → pmach p (post t) = some (add p b (thOf t))
  | .leaf n, b, p, h => by
    unfold Ok at h
    rw [thOf_leaf]
    simp only [post, pmach, pstep]
    rcases h with ⟨rfl, h1, h2⟩ | ⟨rfl, h1⟩
    · rw [if_neg (by omega), if_pos ⟨h1, h2⟩]
      rfl
    · rw [if_pos h1]
      rfl
  | .node n x y, b, p, h => by
    unfold Ok at h
    simp only [post]
    rcases h with ⟨rfl, h1, hx, hy⟩ | ⟨rfl, rfl, hx, hy⟩ | ⟨rfl, h1, hx, hy⟩
    · rw [pmach_append, pmach_append, pmach_post x false p hx]
      simp only [Option.bind_some, add, Bool.false_eq_true, if_false]
      rw [pmach_post y false _ hy]
      simp only [Option.bind_some, add, Bool.false_eq_true, if_false, pmach, pstep]
      rw [if_neg (by omega), if_neg (by omega), if_pos h1, two_snoc, thOf_node (by omega)]
      have hs : square n = false := decide_eq_false (by omega)
      rw [hs]
      rfl
    · rw [pmach_append, pmach_append, pmach_post x true p hx]
      simp only [Option.bind_some, add, if_true]
      rw [pmach_post y true _ hy]
      simp only [Option.bind_some, add, Bool.false_eq_true, if_false, if_true, pmach, pstep]
      rw [if_neg (by decide), if_neg (by decide), if_neg (by decide), two_snoc, thOf_five]
      rfl
    · rw [pmach_append, pmach_append, pmach_post x true p hx]
      simp only [Option.bind_some, add, if_true]
      rw [pmach_post y true _ hy]
      simp only [Option.bind_some, add, if_true, pmach, pstep]
      rw [if_neg (by omega), if_neg (by omega), if_neg (by omega), if_neg (by omega), if_pos h1, two_snoc, thOf_node (by omega)]
      have hs : square n = true := decide_eq_true (by omega)
      rw [hs]
      rfl
/-- How large a pile is. -/
def wt (x : Th) : Nat := x.s.size + x.d + 1
def wts (l : List Th) : Nat := (l.map wt).sum
theorem wts_snoc (l : List Th) (x : Th) : wts (l ++ [x]) = wts l + wt x := by simp [wts]
def size2 (p : Two) : Nat := wts p.1 + wts p.2
theorem name_size (n : Int) : (nameOf n).size ≤ 5 := by
  have := nameOf_len n
  rwa [← Lib.size_eq] at this
theorem wt_one (n : Int) : wt (one n) ≤ 6 := by
  have := name_size n
  unfold wt one
  simp only
  omega
theorem one_size (c : UInt8) : ({ data := #[c] } : ByteArray).size = 1 := rfl
theorem wt_inBr (a b : UInt8) (x : Th) : wt (inBr { data := #[a] } { data := #[b] } x) = wt x + 3 := by
  unfold wt inBr
  simp only [ByteArray.size_append, one_size]
  omega
theorem wt_brL (n : Int) (a b : UInt8) (x : Th) : wt (brL n { data := #[a] } { data := #[b] } x) ≤ wt x + 3 := by
  unfold brL
  split
  · rw [wt_inBr]; exact Nat.le_refl _
  · omega
theorem wt_brR (n : Int) (a b : UInt8) (x : Th) : wt (brR n { data := #[a] } { data := #[b] } x) ≤ wt x + 3 := by
  unfold brR
  split
  · rw [wt_inBr]; exact Nat.le_refl _
  · omega
theorem wt_btw (x : Th) (n : Int) (y : Th) : wt (btw x n y) ≤ wt x + wt y + 7 := by
  have := name_size n
  unfold wt btw
  simp only [ByteArray.size_append, one_size]
  omega
theorem pstep_size {p q : Two} {n : Int} (h : pstep p n = some q) : size2 q ≤ size2 p + 13 := by
  unfold pstep at h
  split at h
  · injection h with h; subst h
    have := wt_one n
    unfold size2; simp only [wts_snoc]; omega
  · split at h
    · injection h with h; subst h
      have := wt_one n
      unfold size2; simp only [wts_snoc]; omega
    · split at h
      · obtain ⟨⟨l0, x, y⟩, h1, h2⟩ := Option.map_eq_some_iff.1 h
        subst h2
        have e := two_some h1
        unfold size2
        rw [e]
        simp only [wts_snoc]
        have := wt_btw (brL n { data := #[40] } { data := #[41] } x) n (brR n { data := #[40] } { data := #[41] } y)
        have := wt_brL n 40 41 x
        have := wt_brR n 40 41 y
        omega
      · split at h
        · obtain ⟨⟨l0, x, y⟩, h1, h2⟩ := Option.map_eq_some_iff.1 h
          subst h2
          have e := two_some h1
          unfold size2
          rw [e]
          simp only [wts_snoc]
          have := wt_btw x 5 y
          omega
        · split at h
          · obtain ⟨⟨l0, x, y⟩, h1, h2⟩ := Option.map_eq_some_iff.1 h
            subst h2
            have e := two_some h1
            unfold size2
            rw [e]
            simp only [wts_snoc]
            have := wt_btw (brL n { data := #[91] } { data := #[93] } x) n (brR n { data := #[91] } { data := #[93] } y)
            have := wt_brL n 91 93 x
            have := wt_brR n 91 93 y
            omega
          · cases h
theorem wts_len (l : List Th) : l.length ≤ wts l := by
  induction l with
  | nil => exact Nat.zero_le _
  | cons x r ih =>
    have e : wts (x :: r) = wt x + wts r := by simp [wts]
    rw [e]
    unfold wt
    simp only [List.length_cons]
    omega
theorem wts_mem {l : List Th} {x : Th} (h : x ∈ l) : wt x ≤ wts l := by
  induction l with
  | nil => cases h
  | cons y r ih =>
    have e : wts (y :: r) = wt y + wts r := by simp [wts]
    rw [e]
    rcases List.mem_cons.1 h with rfl | h
    · omega
    · have := ih h; omega
end Sh
end Go.Proofs.YtflagbglbhmheaaDoor
