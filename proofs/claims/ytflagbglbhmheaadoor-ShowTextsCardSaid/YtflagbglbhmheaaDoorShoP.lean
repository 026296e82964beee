/- Rules as trees, and their texts; what Lex makes of such a text. Over no program. -/
import Derived.Test.YtflagbglbhmheaaDoorRulQ
import Derived.Test.YtflagbglbhmheaaDoorLexQ
namespace Go.Proofs.YtflagbglbhmheaaDoor
set_option maxRecDepth 100000
namespace Sh
open Rl (St Res opOf)

inductive Tree
  | leaf (op : Int)
  | node (op : Int) (x y : Tree)
def post : Tree → List Int
  | .leaf op => [op]
  | .node op x y => post x ++ post y ++ [op]
/-- Is a tree a thing of a sort (true: a label)? -/
def Ok : Bool → Tree → Prop
  | b, .leaf op => (b = true ∧ 6 ≤ op ∧ op ≤ 11) ∨ (b = false ∧ (op = 1 ∨ op = 2))
  | b, .node op x y => (b = false ∧ (op = 3 ∨ op = 4) ∧ Ok false x ∧ Ok false y) ∨ (b = false ∧ op = 5 ∧ Ok true x ∧ Ok true y) ∨ (b = true ∧ (op = 12 ∨ op = 13) ∧ Ok true x ∧ Ok true y)
theorem post_pos : ∀ t : Tree, 1 ≤ (post t).length
  | .leaf _ => Nat.le_refl _
  | .node _ x y => by simp [post]; omega

/-- How a number binds. -/
def binds (op : Int) : Nat := if op = 4 ∨ op = 12 then 1 else if op = 3 ∨ op = 13 then 2 else 3
def top : Tree → Int
  | .leaf op => op
  | .node op _ _ => op
def bt (t : Tree) : Nat := binds (top t)
theorem binds_pos (op : Int) : 1 ≤ binds op ∧ binds op ≤ 3 := by
  unfold binds
  split
  · decide
  · split <;> decide

/-- A number's word. -/
def nameOf (op : Int) : ByteArray :=
  if op = 1 then Rl.wTrue else if op = 2 then Rl.wFalse else if op = 3 then Rl.wAnd else if op = 4 then Rl.wOr else if op = 5 then Rl.wFlows
  else if op = 6 then { data := #[98, 111, 116] } else if op = 7 then { data := #[116, 111, 112] } else if op = 8 then { data := #[112, 99] }
  else if op = 9 then { data := #[111, 110, 101] } else if op = 10 then { data := #[116, 119, 111] } else if op = 11 then { data := #[116, 104, 114, 101, 101] }
  else if op = 12 then Rl.wJoin else Rl.wMeet
def kindOf (op : Int) : Int := if op = 5 then 3 else 1
def tok1 (op : Int) : Int × ByteArray := (kindOf op, nameOf op)
/-- Is op a label's (its brackets are square)? -/
def square (op : Int) : Bool := decide (12 ≤ op)
def wrapK (b sq : Bool) (ks : List (Int × ByteArray)) : List (Int × ByteArray) :=
  if b = true then (3, if sq = true then Rl.wOpenL else Rl.wOpen) :: (ks ++ [(3, if sq = true then Rl.wShutL else Rl.wShut)]) else ks
def wrapT (b sq : Bool) (s : List UInt8) : List UInt8 := if b = true then (if sq = true then 91 else 40) :: (s ++ [if sq = true then 93 else 41]) else s
/-- Does what stands left, or right, of op stand in brackets? -/
def lowL (op : Int) (x : Tree) : Bool := decide (op ≠ 5 ∧ bt x < binds op)
def lowR (op : Int) (y : Tree) : Bool := decide (op ≠ 5 ∧ bt y < binds op + 1)
/-- A rule's tokens, its text, and how deep that is. -/
def toks : Tree → List (Int × ByteArray)
  | .leaf op => [tok1 op]
  | .node op x y => wrapK (lowL op x) (square op) (toks x) ++ tok1 op :: wrapK (lowR op y) (square op) (toks y)
def txt : Tree → List UInt8
  | .leaf op => (nameOf op).data.toList
  | .node op x y => wrapT (lowL op x) (square op) (txt x) ++ (32 :: ((nameOf op).data.toList ++ (32 :: wrapT (lowR op y) (square op) (txt y))))
def deep : Tree → Nat
  | .leaf _ => 0
  | .node op x y => max (deep x + (lowL op x).toNat) (deep y + (lowR op y).toNat)

theorem wrapK_len (b sq : Bool) (ks : List (Int × ByteArray)) : (wrapK b sq ks).length ≤ ks.length + 2 := by
  unfold wrapK
  split <;> simp
theorem wrapT_len (b sq : Bool) (s : List UInt8) : (wrapT b sq s).length ≤ s.length + 2 := by
  unfold wrapT
  split <;> simp
theorem toks_len : ∀ t : Tree, (toks t).length + 2 ≤ 3 * (post t).length
  | .leaf _ => by simp [toks, post]
  | .node op x y => by
    have h1 := toks_len x
    have h2 := toks_len y
    have h3 := wrapK_len (lowL op x) (square op) (toks x)
    have h4 := wrapK_len (lowR op y) (square op) (toks y)
    simp only [toks, post, List.length_append, List.length_cons, List.length_nil]
    omega
theorem nameOf_len (op : Int) : (nameOf op).data.toList.length ≤ 5 := by
  unfold nameOf
  repeat' split
  all_goals decide
theorem nameOf_op (op : Int) (h : op = 3 ∨ op = 4 ∨ op = 5 ∨ op = 12 ∨ op = 13) : (nameOf op).data.toList.length ≤ 4 := by
  rcases h with rfl | rfl | rfl | rfl | rfl <;> decide
theorem ok_op {b : Bool} {op : Int} {x y : Tree} (h : Ok b (.node op x y)) : op = 3 ∨ op = 4 ∨ op = 5 ∨ op = 12 ∨ op = 13 := by
  unfold Ok at h
  omega
theorem ok_sub {b : Bool} {op : Int} {x y : Tree} (h : Ok b (.node op x y)) : ∃ b', Ok b' x ∧ Ok b' y := by
  unfold Ok at h
  rcases h with ⟨_, _, h1, h2⟩ | ⟨_, _, h1, h2⟩ | ⟨_, _, h1, h2⟩
  · exact ⟨_, h1, h2⟩
  · exact ⟨_, h1, h2⟩
  · exact ⟨_, h1, h2⟩
theorem txt_len : ∀ (t : Tree) (b : Bool), Ok b t → (txt t).length + 3 ≤ 8 * (post t).length
  | .leaf op, b, h => by
    have := nameOf_len op
    simp only [txt, post, List.length_cons, List.length_nil]
    omega
  | .node op x y, b, h => by
    obtain ⟨b', hx, hy⟩ := ok_sub h
    have h1 := txt_len x b' hx
    have h2 := txt_len y b' hy
    have h3 := wrapT_len (lowL op x) (square op) (txt x)
    have h4 := wrapT_len (lowR op y) (square op) (txt y)
    have h5 := nameOf_op op (ok_op h)
    simp only [txt, post, List.length_append, List.length_cons, List.length_nil]
    omega

/- What Lex makes of it. -/
open Lx (first letter run kt pack)
/-- A rest that ends a word. -/
def Fin (r : List UInt8) : Prop := ∀ c, r.head? = some c → letter c = false
/-- A text's tokens, whatever stands behind it. -/
def Reads (s : List UInt8) (ks : List (Int × ByteArray)) : Prop :=
  ∀ (r : List UInt8) (n k : Nat), Fin r → (s ++ r).length ≤ n → ∃ n' ts, r.length ≤ n' ∧ Lx.toks n (s ++ r) k = (ts ++ (Lx.toks n' r (k + s.length)).1, (Lx.toks n' r (k + s.length)).2) ∧ ts.map kt = ks
theorem run_letters {w r : List UInt8} (hw : ∀ c ∈ w, letter c = true) (hr : Fin r) : run letter (w ++ r) = w.length := by
  induction w with
  | nil =>
    cases r with
    | nil => rfl
    | cons c r => exact Lx.run_no (hr c rfl) r
  | cons c w ih =>
    rw [List.cons_append, Lx.run_yes (hw c (.head _)), ih fun d hd => hw d (.tail _ hd)]
    rfl
theorem reads_word {w : List UInt8} (h0 : w ≠ []) (hw : ∀ c ∈ w, letter c = true) : Reads w [(1, pack w)] := by
  intro r n k hr hn
  obtain ⟨c, w, rfl⟩ : ∃ c w', w = c :: w' := by
    cases w with
    | nil => exact absurd rfl h0
    | cons c w => exact ⟨c, w, rfl⟩
  have hf : first ((c :: w) ++ r) = (1, (c :: w).length) := by
    rw [List.cons_append, Lx.first_letter (hw c (.head _)), ← List.cons_append, run_letters hw hr]
  obtain ⟨m, rfl⟩ : ∃ m, n = m + 1 := ⟨n - 1, by simp at hn; omega⟩
  refine ⟨m, [⟨1, pack (c :: w), k⟩], by simp at hn; omega, ?_, rfl⟩
  rw [Lx.toks_take (by simp) (by rw [hf]; simp) (by rw [hf]; exact show (1 : Int) ≠ -1 by decide), hf]
  simp
theorem reads_flows : Reads [60, 61] [(3, Rl.wFlows)] := by
  intro r n k hr hn
  have hf : first ([60, 61] ++ r) = (3, 2) := by
    show first (60 :: 61 :: r) = _
    rw [Lx.first_mark (by decide)]
    rfl
  obtain ⟨m, rfl⟩ : ∃ m, n = m + 1 := ⟨n - 1, by simp at hn; omega⟩
  refine ⟨m, [⟨3, Rl.wFlows, k⟩], by simp at hn; omega, ?_, rfl⟩
  rw [Lx.toks_take (by simp) (by rw [hf]; decide) (by rw [hf]; decide), hf]
  rfl
/-- A bracket ahead. -/
theorem reads_bracket {c : UInt8} (hc : c = 40 ∨ c = 41 ∨ c = 91 ∨ c = 93) (r : List UInt8) (n k : Nat) (hn : (c :: r).length ≤ n) : ∃ m, r.length ≤ m ∧ Lx.toks n (c :: r) k = (⟨3, pack [c], k⟩ :: (Lx.toks m r (k + 1)).1, (Lx.toks m r (k + 1)).2) := by
  have hf : first (c :: r) = (3, 1) := by
    rcases hc with rfl | rfl | rfl | rfl
    all_goals
      rw [Lx.first_mark (by decide), Lx.mark_cons, if_neg (by rintro ⟨h, _⟩; exact absurd h (by decide)), if_pos (by decide)]
  obtain ⟨m, rfl⟩ : ∃ m, n = m + 1 := ⟨n - 1, by simp at hn; omega⟩
  refine ⟨m, by simp at hn; omega, ?_⟩
  rw [Lx.toks_take (by simp) (by rw [hf]; decide) (by rw [hf]; decide), hf]
  rfl
/-- A blank ahead of what is none. -/
theorem reads_blank {c : UInt8} (hc : Lx.blank c = false) (r : List UInt8) (n k : Nat) (hn : (32 :: c :: r).length ≤ n) : ∃ m, (c :: r).length ≤ m ∧ Lx.toks n (32 :: c :: r) k = Lx.toks m (c :: r) (k + 1) := by
  have hf : first (32 :: c :: r) = (-1, 1) := by
    rw [Lx.first_blank (by decide), Lx.run_yes (by decide), Lx.run_no hc]
  obtain ⟨m, rfl⟩ : ∃ m, n = m + 1 := ⟨n - 1, by simp at hn; omega⟩
  refine ⟨m, by simp at hn ⊢; omega, ?_⟩
  rw [Lx.toks_skip (by simp) (by rw [hf]; decide) (by rw [hf]), hf]
  rfl
/-- A text that begins with no blank. -/
def Solid (s : List UInt8) : Prop := ∃ c r, s = c :: r ∧ Lx.blank c = false
theorem reads_append {s s' : List UInt8} {ks ks' : List (Int × ByteArray)} (h : Reads s ks) (h' : Reads s' ks') (hf : ∀ r, Fin r → Fin (s' ++ r)) : Reads (s ++ s') (ks ++ ks') := by
  intro r n k hr hn
  obtain ⟨n1, ts, a1, a2, a3⟩ := h (s' ++ r) n k (hf r hr) (by rw [← List.append_assoc]; exact hn)
  obtain ⟨n2, ts', b1, b2, b3⟩ := h' r n1 (k + s.length) hr a1
  refine ⟨n2, ts ++ ts', b1, ?_, by rw [List.map_append, a3, b3]⟩
  rw [List.append_assoc, a2, b2, List.append_assoc, List.length_append, Nat.add_assoc]
theorem reads_gap {s : List UInt8} {ks : List (Int × ByteArray)} (h : Reads s ks) (hs : Solid s) : Reads (32 :: s) ks := by
  intro r n k hr hn
  obtain ⟨c, s, rfl, hc⟩ := hs
  obtain ⟨m, a1, a2⟩ := reads_blank hc (s ++ r) n k hn
  obtain ⟨n2, ts, b1, b2, b3⟩ := h r m (k + 1) hr a1
  refine ⟨n2, ts, b1, ?_, b3⟩
  show Lx.toks n (32 :: c :: (s ++ r)) k = _
  rw [a2]
  refine b2.trans ?_
  rw [show k + (32 :: c :: s).length = k + 1 + (c :: s).length by simp; omega]
theorem reads_wrap {s : List UInt8} {ks : List (Int × ByteArray)} (b sq : Bool) (h : Reads s ks) : Reads (wrapT b sq s) (wrapK b sq ks) := by
  cases b
  · exact h
  · intro r n k hr hn
    cases sq
    · obtain ⟨m, a1, a2⟩ := reads_bracket (c := 40) (by decide) (s ++ [41] ++ r) n k (by simpa [wrapT] using hn)
      obtain ⟨n1, ts, b1, b2, b3⟩ := h (41 :: r) m (k + 1) (fun c e => by injection e with e; subst e; decide) (by simpa using a1)
      obtain ⟨n2, c1, c2⟩ := reads_bracket (c := 41) (by decide) r n1 (k + 1 + s.length) b1
      refine ⟨n2, ⟨3, pack [40], k⟩ :: (ts ++ [⟨3, pack [41], (k + 1 + s.length : Nat)⟩]), c1, ?_, ?_⟩
      · show Lx.toks n (40 :: (s ++ [41] ++ r)) k = _
        rw [a2, show s ++ [41] ++ r = s ++ 41 :: r by simp, b2, c2]
        have e : k + (wrapT true false s).length = k + 1 + s.length + 1 := by simp [wrapT]; omega
        rw [e]
        simp
      · simp only [List.map_cons, List.map_append, List.map_nil, b3]
        rfl
    · obtain ⟨m, a1, a2⟩ := reads_bracket (c := 91) (by decide) (s ++ [93] ++ r) n k (by simpa [wrapT] using hn)
      obtain ⟨n1, ts, b1, b2, b3⟩ := h (93 :: r) m (k + 1) (fun c e => by injection e with e; subst e; decide) (by simpa using a1)
      obtain ⟨n2, c1, c2⟩ := reads_bracket (c := 93) (by decide) r n1 (k + 1 + s.length) b1
      refine ⟨n2, ⟨3, pack [91], k⟩ :: (ts ++ [⟨3, pack [93], (k + 1 + s.length : Nat)⟩]), c1, ?_, ?_⟩
      · show Lx.toks n (91 :: (s ++ [93] ++ r)) k = _
        rw [a2, show s ++ [93] ++ r = s ++ 93 :: r by simp, b2, c2]
        have e : k + (wrapT true true s).length = k + 1 + s.length + 1 := by simp [wrapT]; omega
        rw [e]
        simp
      · simp only [List.map_cons, List.map_append, List.map_nil, b3]
        rfl
theorem reads_name (op : Int) (h : 1 ≤ op ∧ op ≤ 13) : Reads (nameOf op).data.toList [tok1 op] := by
  have hops : op = 1 ∨ op = 2 ∨ op = 3 ∨ op = 4 ∨ op = 5 ∨ op = 6 ∨ op = 7 ∨ op = 8 ∨ op = 9 ∨ op = 10 ∨ op = 11 ∨ op = 12 ∨ op = 13 := by omega
  rcases hops with rfl | rfl | rfl | rfl | rfl | rfl | rfl | rfl | rfl | rfl | rfl | rfl | rfl
  all_goals first
    | exact reads_flows
    | exact reads_word (by decide) (by decide)
theorem solid_name (op : Int) (h : 1 ≤ op ∧ op ≤ 13) : Solid (nameOf op).data.toList := by
  have hops : op = 1 ∨ op = 2 ∨ op = 3 ∨ op = 4 ∨ op = 5 ∨ op = 6 ∨ op = 7 ∨ op = 8 ∨ op = 9 ∨ op = 10 ∨ op = 11 ∨ op = 12 ∨ op = 13 := by omega
  rcases hops with rfl | rfl | rfl | rfl | rfl | rfl | rfl | rfl | rfl | rfl | rfl | rfl | rfl
  all_goals exact ⟨_, _, rfl, by decide⟩
theorem solid_append {s s' : List UInt8} (h : Solid s) : Solid (s ++ s') := by
  obtain ⟨c, r, rfl, hc⟩ := h
  exact ⟨c, r ++ s', rfl, hc⟩
theorem solid_wrap {s : List UInt8} (b sq : Bool) (h : Solid s) : Solid (wrapT b sq s) := by
  cases b
  · exact h
  · cases sq
    · exact ⟨40, _, rfl, by decide⟩
    · exact ⟨91, _, rfl, by decide⟩
theorem ok_range {b : Bool} {t : Tree} (h : Ok b t) : 1 ≤ top t ∧ top t ≤ 13 := by
  cases t with
  | leaf op => unfold Ok at h; show 1 ≤ op ∧ op ≤ 13; omega
  | node op x y => have := ok_op h; show 1 ≤ op ∧ op ≤ 13; omega
theorem solid_txt : ∀ (t : Tree) (b : Bool), Ok b t → Solid (txt t)
  | .leaf op, b, h => solid_name op (ok_range h)
  | .node op x y, b, h => by
    obtain ⟨b', hx, _⟩ := ok_sub h
    exact solid_append (solid_wrap _ _ (solid_txt x b' hx))
theorem fin_blank (s r : List UInt8) : Fin (32 :: s ++ r) := fun c e => by
  injection e with e
  subst e
  decide
theorem reads_txt : ∀ (t : Tree) (b : Bool), Ok b t → Reads (txt t) (toks t)
  | .leaf op, b, h => reads_name op (ok_range h)
  | .node op x y, b, h => by
    obtain ⟨b', hx, hy⟩ := ok_sub h
    have r1 := reads_wrap (lowL op x) (square op) (reads_txt x b' hx)
    have r2 := reads_gap (reads_wrap (lowR op y) (square op) (reads_txt y b' hy)) (solid_wrap _ _ (solid_txt y b' hy))
    have r3 := reads_append (reads_name op (ok_range h)) r2 (fun r _ => fin_blank _ r)
    have r4 := reads_gap r3 (solid_append (solid_name op (ok_range h)))
    exact reads_append r1 r4 (fun r _ => fin_blank _ r)
/-- What is written is cut into its tokens, and an end. -/
theorem lex_txt {t : Tree} {b : Bool} (h : Ok b t) (hl : (post t).length ≤ 40) : ∃ l : List Lx.Tk, Lx.lex (txt t) = (l ++ [⟨0, ByteArray.empty, ((txt t).length : Nat)⟩], 0, 0) ∧ l.map kt = toks t := by
  obtain ⟨n', ts, _, a2, a3⟩ := reads_txt t b h [] (txt t).length 0 (fun c e => by cases e) (by simp)
  rw [List.append_nil, Lx.toks_end, List.append_nil, Nat.zero_add] at a2
  have h1 := txt_len t b h
  have h2 := toks_len t
  have h3 : ts.length = (toks t).length := by rw [← a3, List.length_map]
  refine ⟨ts, ?_, a3⟩
  unfold Lx.lex
  rw [if_neg (by omega), a2, if_neg (by simp), if_neg (by simp only; omega)]
end Sh
end Go.Proofs.YtflagbglbhmheaaDoor
