/- Plain: a table's text, parted at its line ends, turned about. -/
import Derived.Lib.Split
import Derived.Lib.SplitLaws
import Derived.Test.YtdgelfjnppjbgaaGreatDoorGRulD
namespace Go.Proofs.YtdgelfjnppjbgaaGreatDoor
set_option maxRecDepth 100000
namespace Tb
open Sh (Tree Ok post toks txt deep)
open Lx (Tk pack)

theorem name_no10 (op : Int) : (10 : UInt8) ∉ (Sh.nameOf op).data.toList := by
  unfold Sh.nameOf
  repeat' split
  all_goals decide
theorem wrap_no10 {b sq : Bool} {s : List UInt8} (h : (10 : UInt8) ∉ s) : (10 : UInt8) ∉ Sh.wrapT b sq s := by
  unfold Sh.wrapT
  split
  · cases sq <;> simp [h]
  · exact h
theorem txt_no10 : ∀ t : Tree, (10 : UInt8) ∉ txt t
  | .leaf op => name_no10 op
  | .node op x y => by
    have h1 := wrap_no10 (b := Sh.lowL op x) (sq := Sh.square op) (txt_no10 x)
    have h2 := wrap_no10 (b := Sh.lowR op y) (sq := Sh.square op) (txt_no10 y)
    have h3 := name_no10 op
    unfold txt
    simp only [List.mem_append, List.mem_cons, not_or]
    exact ⟨h1, by decide, h3, by decide, h2⟩
theorem body_no10 {x : Row} (h : x.ok) : (10 : UInt8) ∉ rowBody x := by
  have h0 : (10 : UInt8) ∉ wordL x.op := fun hm => by
    have := (word_letters h.1).2.1 10 hm
    revert this
    decide
  have h1 := txt_no10 x.m
  have h2 := txt_no10 x.r
  have h3 := txt_no10 x.p
  unfold rowBody
  simp only [List.mem_append, List.mem_cons, List.not_mem_nil, or_false, not_or]
  exact ⟨h0, by decide, by decide, by decide, h1, by decide, by decide, by decide, h2, by decide, by decide, by decide, h3, by decide, by decide⟩
/-- The text but for its last line end; its lines. -/
def cutT : List Row → List UInt8
  | [] => []
  | [x] => rowBody x
  | x :: y :: r => rowTxt x ++ cutT (y :: r)
def pieces : List Row → List (List UInt8)
  | [] => []
  | [x] => [rowBody x]
  | x :: y :: r => rowTxt x :: pieces (y :: r)
theorem cut_all : ∀ (xs : List Row), xs ≠ [] → allTxt xs = cutT xs ++ [10]
  | [], h => absurd rfl h
  | [x], _ => by simp [allTxt, cutT, rowTxt]
  | x :: y :: r, _ => by
    have := cut_all (y :: r) (by simp)
    unfold cutT
    rw [List.append_assoc, ← this]
    simp [allTxt]
theorem pieces_length : ∀ (xs : List Row), (pieces xs).length = xs.length
  | [] => rfl
  | [x] => rfl
  | x :: y :: r => by
    unfold pieces
    rw [List.length_cons, pieces_length (y :: r)]
    rfl
theorem pieces_flat : ∀ (xs : List Row), (pieces xs).flatten = cutT xs
  | [] => rfl
  | [x] => by simp [pieces, cutT]
  | x :: y :: r => by
    unfold pieces cutT
    rw [List.flatten_cons, pieces_flat (y :: r)]
theorem pieces_drop : ∀ (xs : List Row) (k : Nat), (pieces xs).drop k = pieces (xs.drop k)
  | xs, 0 => by simp
  | [], k + 1 => by simp [pieces]
  | [x], k + 1 => by simp [pieces]
  | x :: y :: r, k + 1 => by
    show (rowTxt x :: pieces (y :: r)).drop (k + 1) = pieces ((y :: r).drop k)
    rw [List.drop_succ_cons, pieces_drop (y :: r) k]
theorem pieces_take : ∀ (xs : List Row) (k : Nat), k < xs.length → (pieces xs).take k = (xs.take k).map rowTxt
  | xs, 0, _ => by simp
  | [], k + 1, h => by simp at h
  | [x], k + 1, h => by simp at h
  | x :: y :: r, k + 1, h => by
    show (rowTxt x :: pieces (y :: r)).take (k + 1) = ((x :: (y :: r).take k)).map rowTxt
    rw [List.take_succ_cons, pieces_take (y :: r) k (by simpa using h)]
    rfl
/-- The lines from k on, a line end, the lines up to k: the text of the rows, turned. -/
theorem pieces_turn (xs : List Row) (k : Nat) (h : k < xs.length) : ((pieces xs).drop k ++ [[10]] ++ (pieces xs).take k).flatten = allTxt (xs.drop k ++ xs.take k) := by
  rw [pieces_drop, pieces_take xs k h, List.flatten_append, List.flatten_append, pieces_flat]
  have hne : xs.drop k ≠ [] := by
    intro e
    have := congrArg List.length e
    simp at this
    omega
  have e1 : allTxt (xs.drop k ++ xs.take k) = allTxt (xs.drop k) ++ allTxt (xs.take k) := by simp [allTxt]
  rw [e1, cut_all _ hne]
  simp [allTxt, List.flatMap_def]
theorem index10 : ∀ (l r : List UInt8), (10 : UInt8) ∉ l → Lib.index (l ++ 10 :: r) [10] = (l.length : Int)
  | [], r, _ => by simp [Lib.index, List.isPrefixOf]
  | b :: l, r, h => by
    have hb : b ≠ 10 := fun e => h (by rw [e]; exact List.mem_cons_self)
    have hi := index10 l r (fun e => h (List.mem_cons_of_mem _ e))
    have hp : ([10] : List UInt8).isPrefixOf (b :: (l ++ 10 :: r)) = false := by simp [List.isPrefixOf, Ne.symm hb]
    rw [List.cons_append, Lib.index, hp, hi]
    have h1 : (((l.length : Int) == -1) = true) = False := eq_false (by rw [beq_iff_eq]; omega)
    simp only [Bool.false_eq_true, if_false, h1, List.length_cons]
    omega
theorem split_cut : ∀ (xs : List Row), xs ≠ [] → (∀ x ∈ xs, (10 : UInt8) ∉ rowBody x) → Lib.splitK [10] 1 (xs.length - 1) (cutT xs) = pieces xs
  | [], h, _ => absurd rfl h
  | [x], _, _ => rfl
  | x :: y :: r, _, h => by
    have hx := h x List.mem_cons_self
    have hi := index10 (rowBody x) (cutT (y :: r)) hx
    have e : cutT (x :: y :: r) = rowBody x ++ 10 :: cutT (y :: r) := by simp [cutT, rowTxt]
    have hrec := split_cut (y :: r) (by simp) (fun z hz => h z (List.mem_cons_of_mem _ hz))
    rw [e]
    show Lib.splitK [10] 1 (r.length + 1) _ = _
    unfold Lib.splitK
    rw [hi]
    have h1 : (((rowBody x).length : Int) == -1) = false := by rw [beq_eq_false_iff_ne]; omega
    rw [h1]
    simp only [Bool.false_eq_true, if_false]
    unfold pieces
    have e1 : (rowBody x ++ 10 :: cutT (y :: r)).take (((rowBody x).length : Int).toNat + 1) = rowTxt x := by
      rw [Int.toNat_natCast, List.take_append, List.take_of_length_le (by omega)]
      simp [rowTxt]
    have e2 : (rowBody x ++ 10 :: cutT (y :: r)).drop (((rowBody x).length : Int).toNat + ([10] : List UInt8).length) = cutT (y :: r) := by
      rw [Int.toNat_natCast, List.drop_append, List.drop_of_length_le (by simp)]
      simp
    rw [e1, e2, ← hrec]
    rfl
theorem count_cut : ∀ (xs : List Row), (∀ x ∈ xs, (10 : UInt8) ∉ rowBody x) → (cutT xs).count 10 = xs.length - 1
  | [], _ => rfl
  | [x], h => by
    show (rowBody x).count 10 = 0
    exact List.count_eq_zero.2 (h x List.mem_cons_self)
  | x :: y :: r, h => by
    have h1 := count_cut (y :: r) (fun z hz => h z (List.mem_cons_of_mem _ hz))
    have h2 := List.count_eq_zero.2 (h x List.mem_cons_self)
    unfold cutT rowTxt
    rw [List.count_append, List.count_append, h1, h2]
    simp
    omega
theorem trim_all {xs : List Row} (h : xs ≠ []) : Lib.trimSuffix (allTxt xs) [10] = cutT xs := by
  rw [cut_all xs h]
  unfold Lib.trimSuffix
  have hs : Lib.hasSuffix (cutT xs ++ [10]) [10] = true := by simp [Lib.hasSuffix]
  rw [if_pos hs]
  simp
theorem cut_pos : ∀ {xs : List Row}, xs ≠ [] → xs.length ≤ (cutT xs).length + 1
  | [], h => absurd rfl h
  | [x], _ => by simp
  | x :: y :: r, _ => by
    have := cut_pos (xs := y :: r) (by simp)
    unfold cutT rowTxt
    simp only [List.length_append, List.length_cons, List.length_nil] at this ⊢
    omega
/-- The rows' order, as text, changes nothing. -/
theorem parse_turn {xs : List Row} {rows : List PR} (hg : ∀ x ∈ xs, x.good) (hn : (xs.map (·.op)).Nodup) (hl : rows.length = 13) (hx : ∀ k r, rows[k]? = some r → ∃ x ∈ xs, x.op = k ∧ x.pr = r) (k : Nat) :
    parse (allTxt (xs.drop k ++ xs.take k)) = parse (allTxt xs) := by
  have hp : (xs.drop k ++ xs.take k).Perm xs := by
    have := List.perm_append_comm (l₁ := xs.drop k) (l₂ := xs.take k)
    rwa [List.take_append_drop] at this
  have e1 : (allTxt (xs.drop k ++ xs.take k)).length = (allTxt xs).length := (hp.flatMap_right rowTxt).length_eq
  have e2 : (allToks (xs.drop k ++ xs.take k)).length = (allToks xs).length := (hp.flatMap_right rowToks).length_eq
  have h1 := parse_all hg hn hl hx
  have h2 := parse_all (xs := xs.drop k ++ xs.take k) (fun x hm => hg x (hp.mem_iff.1 hm)) ((hp.map (·.op)).nodup_iff.2 hn) hl (fun j r hr => by
    obtain ⟨x, hm, h⟩ := hx j r hr
    exact ⟨x, hp.mem_iff.2 hm, h⟩)
  rw [e1, e2] at h2
  rcases h1 with ⟨_, a1, a2⟩ | ⟨_, _, a1, a2, a3⟩
  · rcases h2 with ⟨_, b1, b2⟩ | ⟨_, _, b1, b2, b3⟩
    · rw [a2, b2]
    · rcases a1 with a1 | a1
      · exact absurd a1 b1
      · exact absurd a1 b2
  · rcases h2 with ⟨_, b1, b2⟩ | ⟨_, _, b1, b2, b3⟩
    · rcases b1 with b1 | b1
      · exact absurd b1 a1
      · exact absurd b1 a2
    · rw [a3, b3]
end Tb
end Go.Proofs.YtdgelfjnppjbgaaGreatDoor
