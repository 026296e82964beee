/- Rows of instructions; the reference's Number, Instr, Right, Same; hasNumber, hasLabel, Like. -/
import Derived.Handy
import Derived.DeepKeys
import Derived.BigRegion
import Derived.BigQuiet
import Derived.Test.YtmbgndcahlopdaaGreatGCodP
import Derived.Test.YtmbgndcahlopdaaGreatGLexD
import Derived.Test.YtmbgndcahlopdaaGreatGRulA
import Derived.Test.YtmbgndcahlopdaaGreatGMapLit
import Derived.Test.YtmbgndcahlopdaaGreatGOrd
namespace Go.Proofs.YtmbgndcahlopdaaGreat
set_option maxRecDepth 100000
open Go.RowKit Go.Shelf

def icells (l : List Cd.In) : List Value := l.flatMap fun x => [.int .i64 x.op, .int .i64 x.n, .int .i64 x.l]
theorem icells_length (l : List Cd.In) : (icells l).length = l.length * 3 := by
  induction l with
  | nil => rfl
  | cons e r ih => simp only [icells, List.flatMap_cons, List.length_append, List.length_cons, List.length_nil] at ih ⊢; omega
theorem icells_at : ∀ (l : List Cd.In) (k : Nat) (t : Cd.In), l[k]? = some t → (icells l)[k * 3]? = some (.int .i64 t.op) ∧ (icells l)[k * 3 + 1]? = some (.int .i64 t.n) ∧ (icells l)[k * 3 + 2]? = some (.int .i64 t.l)
  | [], k, t, h => by simp at h
  | e :: r, 0, t, h => by
    simp only [List.getElem?_cons_zero, Option.some.injEq] at h
    subst h
    exact ⟨rfl, rfl, rfl⟩
  | e :: r, k + 1, t, h => by
    have ih := icells_at r k t (by simpa using h)
    have e0 : icells (e :: r) = [.int .i64 e.op, .int .i64 e.n, .int .i64 e.l] ++ icells r := by simp [icells]
    rw [e0, List.getElem?_append_right (by simp; omega), List.getElem?_append_right (by simp; omega), List.getElem?_append_right (by simp; omega)]
    rw [show (k + 1) * 3 - [Value.int .i64 e.op, .int .i64 e.n, .int .i64 e.l].length = k * 3 by simp; omega, show (k + 1) * 3 + 1 - [Value.int .i64 e.op, .int .i64 e.n, .int .i64 e.l].length = k * 3 + 1 by simp; omega, show (k + 1) * 3 + 2 - [Value.int .i64 e.op, .int .i64 e.n, .int .i64 e.l].length = k * 3 + 2 by simp; omega]
    exact ih
theorem inrow_at {w : World} {B : Nat} {A : Option Addr} {l : List Cd.In} {k : Nat} (h : Row w B A (icells l)) (hk : k < l.length) : ∃ ad t, A = some ad ∧ ad.block < B ∧ l[k]? = some t ∧ w.cell? (ad.add (k * 3)) = some (.int .i64 t.op) ∧
    w.cell? ⟨(ad.add (k * 3)).block, (ad.add (k * 3)).off + 1, none⟩ = some (.int .i64 t.n) ∧ w.cell? ⟨(ad.add (k * 3)).block, (ad.add (k * 3)).off + 2, none⟩ = some (.int .i64 t.l) := by
  obtain ⟨ad, e, hb, hc⟩ := h (by intro e; have := icells_length l; rw [e] at this; simp at this; omega)
  have := icells_at l k l[k] (List.getElem?_eq_getElem hk)
  exact ⟨ad, l[k], e, hb, List.getElem?_eq_getElem hk, hc _ _ this.1, by rw [← addr_next _ _ _ (by decide)]; exact hc _ _ this.2.1, by rw [← addr_next _ _ _ (by decide)]; exact hc _ _ this.2.2⟩
/-- A bool is answered, behind a new block. -/
def Tld (w : World) (b : Bool) (e : Ending) (w' : World) : Prop := e = .returned (.bool b) ∧ Below w.heap.size w w'
set_option maxHeartbeats 4000000 in
theorem rInstr_any (k : Nat) (x : Cd.In) (w : World) : Calls Tryz.prog 76 #[.int .i64 (k : Int), .agg #[.int .i64 x.op, .int .i64 x.n, .int .i64 x.l]] w (Tld w (Cd.inB k x)) := by
  obtain ⟨op, n, l⟩ := x
  dsimp only
  obtain ⟨res, hres⟩ : ∃ res, Cd.inB k ⟨op, n, l⟩ = res := ⟨_, rfl⟩
  rw [hres]
  have HRES := Lib.hid hres
  clear hres
  have hal : Below w.heap.size w (w.alloc (.cells #[.int .i64 op, .int .i64 n, .int .i64 l] 58)) := (Below.refl _ w).alloc (Nat.le_refl _) _
  have HAL := Lib.hid hal
  clear hal
  go_enter Tryz.func76, Tryz.ntmps76
  go_wp2
  all_goals
    go_ret
    refine ⟨retb ?_, (Below.refl _ w).alloc (Nat.le_refl _) _⟩
    rw [← HRES.out]
    clear HRES HAL
    first
      | (simp_all [Cd.inB, Cd.most]; done)
      | (simp_all [Cd.inB, Cd.most]; omega)
      | (rw [Bool.eq_iff_iff]; simp_all [Cd.inB, Cd.most]; omega)
      | trace_state
/-! Programs in memory. -/
def inv (x : Cd.In) : Value := .agg #[.int .i64 x.op, .int .i64 x.n, .int .i64 x.l]
end Go.Proofs.YtmbgndcahlopdaaGreat

/- A map with ints for keys, over no program; the checks' closures; checks. -/
namespace Go.Proofs.YtmbgndcahlopdaaGreat
set_option maxRecDepth 100000
open Go.RowKit Go.Shelf
attribute [local go_sem] Oper.semAt_some

section
variable {P : Program} (w : World)
theorem run_iput_new (mty kt et : TypeId) (r clock : Nat) (es : Array MapEntry) (n : Int) (val : Value) (hm : P.underlying mty = some (.map kt et)) (hk : P.underlying kt = some (.int .i64)) (hb : w.heap[r]? = some (.map es clock)) (hf : Instr.findNow (.int .i64) (.int .i64 n) es.toList 0 = some none) :
    (Instr.mapUpdate mty (.map (some r)) (.int .i64 n) val).run P w = .ok () (w.putObj r (.map (es.push { key := .int .i64 n, val := val, born := clock }) (clock + 1))) := by
  have hc : (Instr.checkKey false 10000 kt (.int .i64 n)).run P w = .ok () w := MapKept.run_checkKey (k := .int .i64 n) hk (by simp [MapKept.IsKey]) false 9999
  simp [Instr.mapUpdate, run_underlying hm, MapKept.run_getObj_map hb, hc, MapKept.run_findKey hk hf, MapKept.run_setObj_map _ hb, Result.andThen, World.putObj]
theorem run_iput_old (mty kt et : TypeId) (r clock i : Nat) (es : Array MapEntry) (n : Int) (val v0 : Value) (e0 : MapEntry) (hm : P.underlying mty = some (.map kt et)) (hk : P.underlying kt = some (.int .i64)) (hb : w.heap[r]? = some (.map es clock)) (hf : Instr.findNow (.int .i64) (.int .i64 n) es.toList 0 = some (some (i, v0))) (h0 : es[i]? = some e0) (h1 : e0.key = .int .i64 n) :
    (Instr.mapUpdate mty (.map (some r)) (.int .i64 n) val).run P w = .ok () (w.putObj r (.map (es.modify i fun e => { e with key := .int .i64 n, val := val }) clock)) := by
  have hc : (Instr.checkKey false 10000 kt (.int .i64 n)).run P w = .ok () w := MapKept.run_checkKey (k := .int .i64 n) hk (by simp [MapKept.IsKey]) false 9999
  simp [Instr.mapUpdate, run_underlying hm, MapKept.run_getObj_map hb, hc, MapKept.run_findKey hk hf, h0, h1, MapKept.run_keyThatStays (d := .int .i64) (k := .int .i64 n) (by simp [MapKept.IsKey]), MapKept.run_setObj_map _ hb, Result.andThen, World.putObj]
theorem run_ilook_there (ok : Bool) (mty kt et : TypeId) (r clock i : Nat) (es : Array MapEntry) (n : Int) (val : Value) (hm : P.underlying mty = some (.map kt et)) (hk : P.underlying kt = some (.int .i64)) (hb : w.heap[r]? = some (.map es clock)) (hf : Instr.findNow (.int .i64) (.int .i64 n) es.toList 0 = some (some (i, val))) :
    (Instr.lookup mty (.map (some r)) (.int .i64 n) ok).run P w = .ok (if ok then .tuple #[val, .bool true] else val) w := by
  have hc : (Instr.checkKey es.isEmpty 10000 kt (.int .i64 n)).run P w = .ok () w := MapKept.run_checkKey (k := .int .i64 n) hk (by simp [MapKept.IsKey]) _ 9999
  cases ok <;> simp [Instr.lookup, run_underlying hm, MapKept.run_getObj_map hb, hc, MapKept.run_findKey hk hf, Result.andThen]
theorem run_ilook_not (mty kt et : TypeId) (r clock : Nat) (es : Array MapEntry) (n : Int) (z : Value) (hm : P.underlying mty = some (.map kt et)) (hk : P.underlying kt = some (.int .i64)) (hb : w.heap[r]? = some (.map es clock)) (hf : Instr.findNow (.int .i64) (.int .i64 n) es.toList 0 = some none) (hz : (zeroValue et).run P w = .ok z w) :
    (Instr.lookup mty (.map (some r)) (.int .i64 n) true).run P w = .ok (.tuple #[z, .bool false]) w := by
  have hc : (Instr.checkKey es.isEmpty 10000 kt (.int .i64 n)).run P w = .ok () w := MapKept.run_checkKey (k := .int .i64 n) hk (by simp [MapKept.IsKey]) _ 9999
  simp [Instr.lookup, run_underlying hm, MapKept.run_getObj_map hb, hc, MapKept.run_findKey hk hf, hz, Result.andThen]
end
/-- A map's entries at 0 to n - 1. -/
def entL (val : Nat → Value) (a n : Nat) : List MapEntry := (List.range' a n).map fun k => { key := .int .i64 (k : Nat), val := val k, born := k }
def entI (val : Nat → Value) (n : Nat) : Array MapEntry := (entL val 0 n).toArray
theorem entL_succ (val : Nat → Value) (a n : Nat) : entL val a (n + 1) = { key := .int .i64 (a : Nat), val := val a, born := a } :: entL val (a + 1) n := by
  unfold entL
  rw [List.range'_succ, List.map_cons]
theorem entL_no (val : Nat → Value) (m : Int) : ∀ (n a i : Nat), (∀ k : Nat, a ≤ k → k < a + n → (k : Int) ≠ m) → Instr.findNow (.int .i64) (.int .i64 m) (entL val a n) i = some none
  | 0, _, _, _ => rfl
  | n + 1, a, i, h => by
    have h1 : (m == (a : Int)) = false := by rw [beq_eq_false_iff_ne]; exact fun e => h a (Nat.le_refl _) (by omega) e.symm
    rw [entL_succ]
    simp only [Instr.findNow, Instr.sameNow, if_true, h1]
    exact entL_no val m n (a + 1) (i + 1) fun k hk hk2 => h k (by omega) (by omega)
theorem entL_yes (val : Nat → Value) (j : Nat) : ∀ (n a i : Nat), a ≤ j → j < a + n → Instr.findNow (.int .i64) (.int .i64 (j : Nat)) (entL val a n) i = some (some (i + (j - a), val j))
  | 0, a, i, h1, h2 => by omega
  | n + 1, a, i, h1, h2 => by
    rw [entL_succ]
    by_cases h : j = a
    · subst h
      simp [Instr.findNow, Instr.sameNow]
    · have hb : ((j : Int) == (a : Int)) = false := by rw [beq_eq_false_iff_ne]; omega
      simp only [Instr.findNow, Instr.sameNow, if_true, hb]
      rw [entL_yes val j n (a + 1) (i + 1) (by omega) (by omega)]
      congr 3
      omega
theorem entI_no (val : Nat → Value) (n : Nat) (m : Int) (h : m < 0 ∨ (n : Int) ≤ m) : Instr.findNow (.int .i64) (.int .i64 m) (entI val n).toList 0 = some none :=
  entL_no val m n 0 0 fun k _ hk => by omega
theorem entI_yes (val : Nat → Value) {n j : Nat} (h : j < n) : Instr.findNow (.int .i64) (.int .i64 (j : Nat)) (entI val n).toList 0 = some (some (j, val j)) := by
  have := entL_yes val j n 0 0 (Nat.zero_le _) (by omega)
  rwa [Nat.zero_add, Nat.sub_zero] at this
theorem entI_at (val : Nat → Value) {n j : Nat} (h : j < n) : (entI val n)[j]? = some { key := .int .i64 (j : Nat), val := val j, born := j } := by
  unfold entI entL
  rw [List.getElem?_toArray, List.getElem?_map, List.getElem?_range' h]
  simp
def updM (val : Nat → Value) (j : Nat) (v : Value) : Nat → Value := fun k => if k = j then v else val k
theorem entI_push (val : Nat → Value) (n : Nat) (v : Value) : (entI val n).push { key := .int .i64 (n : Nat), val := v, born := n } = entI (updM val n v) (n + 1) := by
  refine Array.ext_getElem? fun k => ?_
  unfold entI
  rw [Array.getElem?_push]
  simp only [List.size_toArray, List.getElem?_toArray, entL, List.length_map, List.length_range', List.getElem?_map]
  by_cases hk : k = n
  · subst hk
    rw [if_pos rfl, List.getElem?_range' (by omega)]
    simp [updM]
  · rw [if_neg hk]
    by_cases h2 : k < n
    · rw [List.getElem?_range' h2, List.getElem?_range' (by omega)]
      simp [updM, hk]
    · rw [List.getElem?_eq_none (by simp; omega), List.getElem?_eq_none (by simp; omega)]
      rfl
theorem entI_modify (val : Nat → Value) {n j : Nat} (v : Value) : (entI val n).modify j (fun e => { e with key := .int .i64 (j : Nat), val := v }) = entI (updM val j v) n := by
  refine Array.ext_getElem? fun k => ?_
  rw [Array.getElem?_modify]
  unfold entI
  simp only [List.getElem?_toArray, entL, List.getElem?_map]
  by_cases h2 : k < n
  · rw [List.getElem?_range' h2]
    by_cases hk : j = k
    · subst hk
      simp [updM]
    · simp [updM, hk, Ne.symm hk]
  · rw [List.getElem?_eq_none (by simp; omega)]
    simp

/-! The closures. -/
set_option maxHeartbeats 2000000 in
theorem upTo1_any (m : Int) (x : Cd.In) (b : Nat) (w : World) (h : Blk w b 3 #[.int .i64 m]) : Calls Tryz.prog 109 #[.agg #[.int .i64 x.op, .int .i64 x.n, .int .i64 x.l], .pointer (some ⟨b, 0, none⟩)] w (Tld w (decide (0 ≤ x.n ∧ x.n ≤ m ∧ x.l = 0))) := by
  obtain ⟨op, n, l⟩ := x
  dsimp only
  obtain ⟨res, hres⟩ : ∃ res, decide (0 ≤ n ∧ n ≤ m ∧ l = 0) = res := ⟨_, rfl⟩
  rw [hres]
  have HAL := Lib.hid ((Below.refl _ w).alloc (Nat.le_refl _) (.cells #[.int .i64 op, .int .i64 n, .int .i64 l] 58))
  have hc : w.cell? ⟨b, 0, none⟩ = some (.int .i64 m) := h.cell 0
  have hb := h.lt
  clear h
  by_cases h1 : 0 ≤ n
  · by_cases h2 : n ≤ m
    · have hr : res = decide (l = 0) := by rw [← hres]; simp [h1, h2]
      subst hr
      clear hres
      go_enter Tryz.func109, Tryz.ntmps109
      go_wp2
      go_ret
      exact ⟨rfl, HAL.out⟩
    · have hr : res = false := by rw [← hres]; exact decide_eq_false fun h => h2 h.2.1
      subst hr
      clear hres
      go_enter Tryz.func109, Tryz.ntmps109
      go_wp2
      go_ret
      exact ⟨rfl, HAL.out⟩
  · have hr : res = false := by rw [← hres]; exact decide_eq_false fun h => h1 h.1
    subst hr
    clear hres
    go_enter Tryz.func109, Tryz.ntmps109
    go_wp2
    go_ret
    exact ⟨rfl, HAL.out⟩
set_option maxHeartbeats 2000000 in
theorem pushes1_any (m : Int) (x : Cd.In) (b : Nat) (w : World) (h : Blk w b 3 #[.int .i64 m]) : Calls Tryz.prog 110 #[.agg #[.int .i64 x.op, .int .i64 x.n, .int .i64 x.l], .pointer (some ⟨b, 0, none⟩)] w (Tld w (decide (-20 ≤ x.n ∧ x.n ≤ 20 ∧ 0 ≤ x.l ∧ x.l < m))) := by
  obtain ⟨op, n, l⟩ := x
  dsimp only
  obtain ⟨res, hres⟩ : ∃ res, decide (-20 ≤ n ∧ n ≤ 20 ∧ 0 ≤ l ∧ l < m) = res := ⟨_, rfl⟩
  rw [hres]
  have HAL := Lib.hid ((Below.refl _ w).alloc (Nat.le_refl _) (.cells #[.int .i64 op, .int .i64 n, .int .i64 l] 58))
  have hc : w.cell? ⟨b, 0, none⟩ = some (.int .i64 m) := h.cell 0
  have hb := h.lt
  clear h
  by_cases h1 : -20 ≤ n
  · by_cases h2 : n ≤ 20
    · by_cases h3 : 0 ≤ l
      · by_cases h4 : l < m
        · have hr : res = true := by rw [← hres]; exact decide_eq_true ⟨h1, h2, h3, h4⟩
          subst hr
          clear hres
          go_enter Tryz.func110, Tryz.ntmps110
          go_wp2
          go_ret
          exact ⟨rfl, HAL.out⟩
        · have hr : res = false := by rw [← hres]; exact decide_eq_false fun h => h4 h.2.2.2
          subst hr
          clear hres
          go_enter Tryz.func110, Tryz.ntmps110
          go_wp2
          go_ret
          exact ⟨rfl, HAL.out⟩
      · have hr : res = false := by rw [← hres]; exact decide_eq_false fun h => h3 h.2.2.1
        subst hr
        clear hres
        go_enter Tryz.func110, Tryz.ntmps110
        go_wp2
        go_ret
        exact ⟨rfl, HAL.out⟩
    · have hr : res = false := by rw [← hres]; exact decide_eq_false fun h => h2 h.2.1
      subst hr
      clear hres
      go_enter Tryz.func110, Tryz.ntmps110
      go_wp2
      go_ret
      exact ⟨rfl, HAL.out⟩
  · have hr : res = false := by rw [← hres]; exact decide_eq_false fun h => h1 h.1
    subst hr
    clear hres
    go_enter Tryz.func110, Tryz.ntmps110
    go_wp2
    go_ret
    exact ⟨rfl, HAL.out⟩
/-- A check in the map. -/
def cUp (b : Nat) : Value := .func (.func 109) #[] #[.pointer (some ⟨b, 0, none⟩)]
def cPush (b : Nat) : Value := .func (.func 110) #[] #[.pointer (some ⟨b, 0, none⟩)]
theorem upTo_any (n : Int) (w : World) : Calls Tryz.prog 95 #[.int .i64 n] w fun e w' => e = .returned (cUp w.heap.size) ∧ w' = w.alloc (.cells #[.int .i64 n] 3) := by
  have hmf : ∀ (fn : Fn) (first cap : Array Value) (w : World), (Instr.makeFunc fn first cap).run Tryz.prog w = .ok (.func fn first cap) w := fun _ _ _ _ => rfl
  go_enter Tryz.func95, Tryz.ntmps95
  go_wp2
  go_ret
  exact ⟨rfl, rfl⟩
theorem pushes_any (n : Int) (w : World) : Calls Tryz.prog 96 #[.int .i64 n] w fun e w' => e = .returned (cPush w.heap.size) ∧ w' = w.alloc (.cells #[.int .i64 n] 3) := by
  have hmf : ∀ (fn : Fn) (first cap : Array Value) (w : World), (Instr.makeFunc fn first cap).run Tryz.prog w = .ok (.func fn first cap) w := fun _ _ _ _ => rfl
  go_enter Tryz.func96, Tryz.ntmps96
  go_wp2
  go_ret
  exact ⟨rfl, rfl⟩

/-- The checks of k labels: the map at M. -/
structure Chk (W : World) (B M k : Nat) : Prop where
  lt : M < B
  map : ∃ val, W.heap[M]? = some (.map (entI val 13) 13) ∧ ∀ j, j < 13 → ∃ b, b < B ∧ if j = 1 then val j = cPush b ∧ Blk W b 3 #[.int .i64 (k : Nat)] else val j = cUp b ∧ Blk W b 3 #[.int .i64 (Cd.most j)]
theorem Chk.below {W W' : World} {B M k : Nat} (h : Chk W B M k) (hb : Below B W W') : Chk W' B M k := by
  obtain ⟨val, h1, h2⟩ := h.map
  refine ⟨h.lt, val, (hb.block M h.lt).trans h1, fun j hj => ?_⟩
  obtain ⟨b, hbb, h3⟩ := h2 j hj
  refine ⟨b, hbb, ?_⟩
  by_cases hj1 : j = 1
  · rw [if_pos hj1] at h3 ⊢
    exact ⟨h3.1, h3.2.below hb hbb⟩
  · rw [if_neg hj1] at h3 ⊢
    exact ⟨h3.1, h3.2.below hb hbb⟩
def updI (f : Nat → Int) (j : Nat) (v : Int) : Nat → Int := fun k => if k = j then v else f k
def updB (f : Nat → Bool) (j : Nat) (v : Bool) : Nat → Bool := fun k => if k = j then v else f k
def cVal (p : Bool) (b : Nat) : Value := if p = true then cPush b else cUp b
/-- The map at M while it is filled: of n keys, the check of key j holds num j. -/
structure Fill (w W : World) (M n : Nat) (num : Nat → Int) (psh : Nat → Bool) : Prop where
  below : Below w.heap.size w W
  new : w.heap.size ≤ M
  map : ∃ val, W.heap[M]? = some (.map (entI val n) n) ∧ ∀ j, j < n → ∃ b, b ≠ M ∧ val j = cVal (psh j) b ∧ Blk W b 3 #[.int .i64 (num j)]
theorem Fill.step {w W : World} {M n n' j : Nat} {num : Nat → Int} {psh : Nat → Bool} (h : Fill w W M n num psh) (m : Int) (p : Bool) (val : Nat → Value) (hM : W.heap[M]? = some (.map (entI val n) n))
    (hv : ∀ j, j < n → ∃ b, b ≠ M ∧ val j = cVal (psh j) b ∧ Blk W b 3 #[.int .i64 (num j)]) (hn : ∀ i, i < n' → i = j ∨ i < n) :
    Fill w ((W.alloc (.cells #[.int .i64 m] 3)).putObj M (.map (entI (updM val j (cVal p W.heap.size)) n') n')) M n' (updI num j m) (updB psh j p) := by
  have hMl : M < W.heap.size := (Array.getElem?_eq_some_iff.1 hM).1
  have hMa : (W.alloc (.cells #[.int .i64 m] 3)).heap[M]? = some (.map (entI val n) n) := (Below.heap_alloc W _ M hMl).trans hM
  have hs := h.below.size
  have hn2 := h.new
  refine ⟨?_, h.new, _, World.putObj_heap_same (by simp; omega), fun i hi => ?_⟩
  · have h1 := h.below.alloc hs (.cells #[.int .i64 m] 3)
    refine ⟨h1.os, h1.tape, h1.output, ?_, fun k hk => (World.putObj_heap_other (by omega)).trans (h1.block k hk)⟩
    have := h1.size
    simpa [World.putObj] using this
  · by_cases hij : i = j
    · subst hij
      refine ⟨W.heap.size, by omega, by simp [updM, updB], ?_⟩
      have hb := Blk.new W 3 #[.int .i64 m]
      have e : updI num i m i = m := by simp [updI]
      rw [e]
      exact hb.putObj _ hMa rfl
    · rcases hn i hi with e | hin
      · exact absurd e hij
      · obtain ⟨b, hbM, hvb, hbb⟩ := hv i hin
        refine ⟨b, hbM, by simp [updM, updB, hij, hvb], ?_⟩
        have e : updI num j m i = num i := by simp [updI, hij]
        rw [e]
        exact (hbb.alloc _).putObj _ hMa rfl
theorem Fill.add {w W : World} {M n : Nat} {num : Nat → Int} {psh : Nat → Bool} (h : Fill w W M n num psh) (m : Int) (p : Bool) :
    ∃ W2, (Instr.mapUpdate 107 (.map (some M)) (.int .i64 (n : Nat)) (cVal p W.heap.size)).run Tryz.prog (W.alloc (.cells #[.int .i64 m] 3)) = .ok () W2 ∧ Fill w W2 M (n + 1) (updI num n m) (updB psh n p) := by
  obtain ⟨val, hM, hv⟩ := h.map
  have hMl : M < W.heap.size := (Array.getElem?_eq_some_iff.1 hM).1
  refine ⟨_, run_iput_new _ _ 3 68 M n (entI val n) (n : Nat) _ Tryz.underlying107 Tryz.underlying3 ((Below.heap_alloc W _ M hMl).trans hM) (entI_no val n _ (.inr (Int.le_refl _))), ?_⟩
  rw [entI_push]
  exact h.step m p val hM hv fun i hi => by omega
theorem Fill.set_ {w W : World} {M n j : Nat} {num : Nat → Int} {psh : Nat → Bool} (h : Fill w W M n num psh) (hj : j < n) (m : Int) (p : Bool) :
    ∃ W2, (Instr.mapUpdate 107 (.map (some M)) (.int .i64 (j : Nat)) (cVal p W.heap.size)).run Tryz.prog (W.alloc (.cells #[.int .i64 m] 3)) = .ok () W2 ∧ Fill w W2 M n (updI num j m) (updB psh j p) := by
  obtain ⟨val, hM, hv⟩ := h.map
  have hMl : M < W.heap.size := (Array.getElem?_eq_some_iff.1 hM).1
  refine ⟨_, run_iput_old _ _ 3 68 M n j (entI val n) (j : Nat) _ _ _ Tryz.underlying107 Tryz.underlying3 ((Below.heap_alloc W _ M hMl).trans hM) (entI_yes val hj) (entI_at val hj) rfl, ?_⟩
  rw [entI_modify]
  exact h.step m p val hM hv fun i hi => .inr hi
theorem Fill.chk {w W : World} {M k : Nat} (h : Fill w W M 13 (updI (updI (updI (updI (fun _ => 0) 1 (k : Nat)) 8 12) 9 3) 10 1) (updB (updB (updB (updB (fun _ => false) 1 true) 8 false) 9 false) 10 false)) : Chk W W.heap.size M k := by
  obtain ⟨val, hM, hv⟩ := h.map
  refine ⟨(Array.getElem?_eq_some_iff.1 hM).1, val, hM, fun j hj => ?_⟩
  obtain ⟨b, -, hvb, hbb⟩ := hv j hj
  refine ⟨b, hbb.lt, ?_⟩
  rcases Tb.op_cases hj with rfl | rfl | rfl | rfl | rfl | rfl | rfl | rfl | rfl | rfl | rfl | rfl | rfl <;> exact ⟨hvb, hbb⟩
theorem fill_zero (n : Nat) : updI (fun _ => 0) n 0 = fun _ => 0 := by funext k; simp [updI]
theorem fill_false (n : Nat) : updB (fun _ => false) n false = fun _ => false := by funext k; simp [updB]
set_option maxHeartbeats 4000000 in
theorem cChecks_any {v : Value} {names : List ByteArray} {up : List Nat} (w : World) (h : IsLat w w.heap.size v names up) :
    Calls Tryz.prog 83 #[v] w fun e w' => ∃ M, e = .returned (.map (some M)) ∧ Chk w' w'.heap.size M up.length ∧ Below w.heap.size w w' ∧ w.heap.size ≤ M := by
  obtain ⟨⟨A, A', c, c', rfl, hN, hU⟩, -, ⟨-, hf2⟩, -⟩ := h
  clear hN hU
  obtain ⟨W0, hW0⟩ : ∃ W0, w.alloc (.cells #[.slice A names.length c, .slice A' up.length c'] 25) = W0 := ⟨_, rfl⟩
  have hbox : Blk W0 w.heap.size 25 #[.slice A names.length c, .slice A' up.length c'] := by rw [← hW0]; exact Blk.new _ _ _
  have hz0 : W0.heap.size = w.heap.size + 1 := by rw [← hW0]; simp
  have hb0 : Below w.heap.size w W0 := by rw [← hW0]; exact (Below.refl _ w).alloc (Nat.le_refl _) _
  have hf : Fill W0 (W0.alloc (.map #[] 0)) W0.heap.size 0 (fun _ => 0) (fun _ => false) :=
    ⟨(Below.refl _ W0).alloc (Nat.le_refl _) _, Nat.le_refl _, fun _ => .nilFunc, World.alloc_heap_new W0 _, fun j hj => by omega⟩
  have HF := Lib.hid hf
  have HBOX := Lib.hid hbox
  have HB0 := Lib.hid hb0
  have HZ0 := Lib.hid hz0
  have HUP := Lib.hid (fun W => upTo_any 0 W)
  have hmm := @run_makeMap Tryz.prog
  clear hf hbox hb0
  go_enter Tryz.func83, Tryz.ntmps83
  go_wp2

  go_loopw [6] (fun i wr => ∃ n : Nat, n ≤ 13 ∧ i = .int .i64 n ∧ Hid (Fill W0 wr W0.heap.size n (fun _ => 0) (fun _ => false))) (fun i _ => 13 - (intOf i).toNat)
  case atStart => exact ⟨0, by decide, rfl, HF⟩
  case round =>
    obtain ⟨n, hn, rfl, HF⟩ := hrel
    by_cases hlt : n < 13
    · obtain ⟨W2, hrun, hfill⟩ := HF.out.add 0 false
      rw [fill_zero, fill_false] at hfill
      rw [show cVal false wr.heap.size = cUp wr.heap.size from rfl, HZ0.out] at hrun
      have HN := Lib.hid hfill
      clear hfill
      go_wp2_with (fail)
      refine (HUP.out wr).mono ?_
      rintro e w1 ⟨rfl, rfl⟩
      go_wp2
      go_roundw
      case rel => exact ⟨n + 1, by omega, by go_num, HN⟩
      case measure => simp [intOf]; omega
    · obtain rfl : n = 13 := by omega
      have hbx := HBOX.out.below HF.out.below (by omega)
      have hc1 : wr.cell? ⟨w.heap.size, 1, none⟩ = some (.slice A' up.length c') := by rw [hbx.cell]; rfl
      obtain ⟨W2, hrun, hfill⟩ := HF.out.set_ (j := 1) (by decide) (up.length : Nat) true
      rw [show cVal true wr.heap.size = cPush wr.heap.size from rfl, HZ0.out, show (((1 : Nat) : Int)) = 1 from rfl] at hrun
      have HN := Lib.hid hfill
      have HP := Lib.hid (pushes_any (up.length : Nat) wr)
      clear hfill hbx
      go_wp2_with (fail)
      refine HP.out.mono ?_
      rintro e w1 ⟨rfl, rfl⟩
      clear hc1 HP
      obtain ⟨W3, hrun2, hfill2⟩ := HN.out.set_ (j := 8) (by decide) 12 false
      rw [show cVal false W2.heap.size = cUp W2.heap.size from rfl, HZ0.out, show (((8 : Nat) : Int)) = 8 from rfl] at hrun2
      have HN2 := Lib.hid hfill2
      have HP := Lib.hid (upTo_any 12 W2)
      clear hfill2
      go_wp2_with (fail)
      refine HP.out.mono ?_
      rintro e w1 ⟨rfl, rfl⟩
      clear HP hrun
      obtain ⟨W4, hrun3, hfill3⟩ := HN2.out.set_ (j := 9) (by decide) 3 false
      rw [show cVal false W3.heap.size = cUp W3.heap.size from rfl, HZ0.out, show (((9 : Nat) : Int)) = 9 from rfl] at hrun3
      have HN3 := Lib.hid hfill3
      have HP := Lib.hid (upTo_any 3 W3)
      clear hfill3
      go_wp2_with (fail)
      refine HP.out.mono ?_
      rintro e w1 ⟨rfl, rfl⟩
      clear HP hrun2
      obtain ⟨W5, hrun4, hfill4⟩ := HN3.out.set_ (j := 10) (by decide) 1 false
      rw [show cVal false W4.heap.size = cUp W4.heap.size from rfl, HZ0.out, show (((10 : Nat) : Int)) = 10 from rfl] at hrun4
      have HN4 := Lib.hid hfill4
      have HP := Lib.hid (upTo_any 1 W4)
      clear hfill4
      go_wp2_with (fail)
      refine HP.out.mono ?_
      rintro e w1 ⟨rfl, rfl⟩
      clear HP hrun3
      go_wp2
      go_ret
      exact ⟨_, rfl, by rw [← HZ0.out]; exact HN4.out.chk, HB0.out.trans (HN4.out.below.mono (by omega)), by omega⟩
end Go.Proofs.YtmbgndcahlopdaaGreat

/- Which programs may be: mayBe, Right; the reference's Right. -/
namespace Go.Proofs.YtmbgndcahlopdaaGreat
set_option maxRecDepth 100000
open Go.RowKit Go.Shelf
attribute [local go_sem] Oper.semAt_some

theorem rightB_false {k j : Nat} {l : List Cd.In} {x : Cd.In} (h : l[j]? = some x) (hx : Cd.inB k x = false) : Cd.rightB k l = false := by
  unfold Cd.rightB
  rw [Bool.and_eq_false_iff]
  refine .inr ?_
  rw [List.all_eq_false]
  exact ⟨x, List.mem_of_getElem? h, by rw [hx]; decide⟩
theorem rightB_all {k : Nat} {l : List Cd.In} (hl : l.length ≤ 12) (h : ∀ (j : Nat) x, l[j]? = some x → Cd.inB k x = true) : Cd.rightB k l = true := by
  unfold Cd.rightB
  rw [Bool.and_eq_true]
  refine ⟨decide_eq_true hl, List.all_eq_true.2 fun x hx => ?_⟩
  obtain ⟨j, hj, rfl⟩ := List.getElem_of_mem hx
  exact h j _ (List.getElem?_eq_getElem hj)
theorem rightB_long {k : Nat} {l : List Cd.In} (hl : 12 < l.length) : Cd.rightB k l = false := by
  unfold Cd.rightB
  rw [Bool.and_eq_false_iff]
  exact .inl (decide_eq_false (by omega))
/-- What the map tells of an Op. -/
theorem Chk.no {W : World} {B M k : Nat} (h : Chk W B M k) {op : Int} (ho : op < 0 ∨ 13 ≤ op) :
    (Instr.lookup 107 (.map (some M)) (.int .i64 op) true).run Tryz.prog W = .ok (.tuple #[.nilFunc, .bool false]) W := by
  obtain ⟨val, h1, -⟩ := h.map
  exact run_ilook_not W _ 3 68 M 13 (entI val 13) op .nilFunc Tryz.underlying107 Tryz.underlying3 h1 (entI_no val 13 op ho) (by kernel_rfl)
/-- A check's function and its block: what the map tells. -/
theorem Chk.yes {W : World} {B M k : Nat} (h : Chk W B M k) {op : Int} (h0 : 0 ≤ op) (h1 : op < 13) :
    ∃ (g : FuncId) (b : Nat), b < B ∧ (∀ W' ok, Below B W W' → (Instr.lookup 107 (.map (some M)) (.int .i64 op) ok).run Tryz.prog W' = .ok (if ok = true then .tuple #[.func (.func g) #[] #[.pointer (some ⟨b, 0, none⟩)], .bool true] else .func (.func g) #[] #[.pointer (some ⟨b, 0, none⟩)]) W') ∧
      (∀ args W, (callFunc g args).run Tryz.prog W = .ok (.enter g args) W) ∧
      ∀ n l W', Below B W W' → Calls Tryz.prog g #[.agg #[.int .i64 op, .int .i64 n, .int .i64 l], .pointer (some ⟨b, 0, none⟩)] W' (Tld W' (Cd.inB k ⟨op, n, l⟩)) := by
  obtain ⟨val, hm, hv⟩ := h.map
  obtain ⟨j, rfl⟩ : ∃ j : Nat, op = (j : Int) := ⟨op.toNat, by omega⟩
  have hj : j < 13 := by omega
  obtain ⟨b, hb, hvb⟩ := hv j hj
  have hl := fun W' ok (hW : Below B W W') => run_ilook_there W' ok _ 3 68 M 13 j (entI val 13) (j : Nat) (val j) Tryz.underlying107 Tryz.underlying3 ((hW.block M h.lt).trans hm) (entI_yes val hj)
  by_cases h1 : j = 1
  · subst h1
    rw [if_pos rfl] at hvb
    rw [hvb.1] at hl
    refine ⟨110, b, hb, hl, Tryz.call110, fun n l W' hW => ?_⟩
    have := pushes1_any (k : Nat) ⟨1, n, l⟩ b W' (hvb.2.below hW hb)
    exact this
  · rw [if_neg h1] at hvb
    rw [hvb.1] at hl
    refine ⟨109, b, hb, hl, Tryz.call109, fun n l W' hW => ?_⟩
    have := upTo1_any (Cd.most j) ⟨j, n, l⟩ b W' (hvb.2.below hW hb)
    have e : Cd.inB k ⟨j, n, l⟩ = decide (0 ≤ n ∧ n ≤ Cd.most j ∧ l = 0) := by
      unfold Cd.inB
      rw [if_neg (by show ¬ (j : Int) = 1; omega)]
      refine decide_eq_decide.2 ?_
      dsimp only
      constructor
      · rintro ⟨_, _, h⟩; exact h
      · intro h; exact ⟨by omega, by omega, h⟩
    rw [e]
    exact this
theorem inB_no {k : Nat} {x : Cd.In} (h : x.op < 0 ∨ 13 ≤ x.op) : Cd.inB k x = false := by
  cases e : Cd.inB k x with
  | false => rfl
  | true => have := Cd.inB_op e; omega
set_option maxHeartbeats 4000000 in
theorem cmayBe_any {v : Value} {names : List ByteArray} {up : List Nat} {A : Option Addr} {l : List Cd.In} (c : Nat) (w : World) (h : IsLat w w.heap.size v names up) (hr : Row w w.heap.size A (icells l)) (hl : l.length ≤ 1000) :
    Calls Tryz.prog 54 #[v, .slice A l.length c] w (Tells w (Cd.rightB up.length l)) := by
  obtain ⟨⟨N, U, c1, c2, rfl, hN, hU⟩, hsh, hfew, hcaps⟩ := id h
  obtain ⟨res, hres⟩ : ∃ res, Cd.rightB up.length l = res := ⟨_, rfl⟩
  rw [hres]
  have HRES := Lib.hid hres
  clear hres
  have hb0 : Below w.heap.size w (w.alloc (.cells #[.slice N names.length c1, .slice U up.length c2] 25)) := (Below.refl _ w).alloc (Nat.le_refl _) _
  have HB0 := Lib.hid hb0
  by_cases h12 : 12 < l.length
  · have HR2 := Lib.hid (show false = res by rw [← HRES.out]; exact (rightB_long h12).symm)
    clear h hN hU hr hb0
    go_enter Tryz.func54, Tryz.ntmps54
    go_wp2
    go_ret
    exact ⟨retb HR2.out, HB0.out⟩
  · have HC := Lib.hid (cChecks_any _ (h.boxed (.cells #[.slice N names.length c1, .slice U up.length c2] 25)))
    have H := Lib.hid hr
    clear h hN hU hr hb0
    go_enter Tryz.func54, Tryz.ntmps54
    go_wp2_with (fail)
    refine HC.out.mono ?_
    rintro e w1 ⟨M, rfl, hchk, hb1, -⟩
    have hbw : Below w.heap.size w w1 := HB0.out.trans (hb1.mono (by simp))
    have HBW := Lib.hid hbw
    have HCHK := Lib.hid hchk
    clear hb1 hbw hchk HC
    go_wp2
    go_loopw [17] (fun i wr => ∃ k : Nat, k ≤ l.length ∧ i = .int .i64 k ∧ Hid (∀ (j : Nat) (x : Cd.In), j < k → l[j]? = some x → Cd.inB up.length x = true) ∧ Hid (Below w.heap.size w wr) ∧ Hid (Chk wr w1.heap.size M up.length) ∧ Hid (w1.heap.size ≤ wr.heap.size)) (fun i _ => l.length - (intOf i).toNat)
    case atStart => exact ⟨0, Nat.zero_le _, rfl, Lib.hid fun j x hj => absurd hj (Nat.not_lt_zero _), HBW, HCHK, Lib.hid (Nat.le_refl _)⟩
    case round =>
      obtain ⟨k, hk, rfl, HS, HBW, HCHK, HZ⟩ := hrel
      by_cases hlt : k < l.length
      · obtain ⟨ad, x, rfl, hxb, hx, x0, x1, x2⟩ := inrow_at (H.out.below HBW.out) hlt
        have hz := HBW.out.size
        have hz1 := HZ.out
        have hxb2 : (ad.add (k * 3)).block < wr.heap.size := by rw [add_block]; omega
        have HX := Lib.hid hx
        have hal := Lib.hid ((Below.refl wr.heap.size wr).alloc (Nat.le_refl _) (.cells #[.int .i64 x.op, .int .i64 x.n, .int .i64 x.l] 58))
        have HCA := Lib.hid (HCHK.out.below (hal.out.mono HZ.out))
        clear hx
        by_cases ho : 0 ≤ x.op ∧ x.op < 13
        · obtain ⟨g, b, hbb, hlook, hcf, hcall⟩ := HCA.out.yes ho.1 ho.2
          have hlk := hlook _ true (Below.refl _ _)
          rw [if_pos rfl] at hlk
          have hc := hcall x.n x.l _ (Below.refl _ _)
          cases hi : Cd.inB up.length x with
          | true =>
            rw [show (⟨x.op, x.n, x.l⟩ : Cd.In) = x from rfl, hi] at hc
            have HI := Lib.hid hi
            have HC := Lib.hid hc
            clear hi hc hlook hcall ho
            go_wp2_with (fail)
            refine HC.out.mono ?_
            rintro e w2 ⟨rfl, hb2⟩
            have HB2 := Lib.hid (hal.out.trans (hb2.mono (by simp)))
            clear hb2 hlk x0 x1 x2
            go_wp2
            go_roundw
            case rel => exact ⟨k + 1, by omega, by go_num, Lib.hid fun j u hj hu => by
              rcases Nat.lt_or_eq_of_le (Nat.le_of_lt_succ hj) with h | rfl
              · exact HS.out j u h hu
              · rw [HX.out] at hu
                injection hu with hu
                rw [← hu]; exact HI.out, Lib.hid (HBW.out.trans (HB2.out.mono HBW.out.size)), Lib.hid (HCHK.out.below (HB2.out.mono HZ.out)), Lib.hid (Nat.le_trans HZ.out HB2.out.size)⟩
            case measure => simp [intOf]; omega
          | false =>
            rw [show (⟨x.op, x.n, x.l⟩ : Cd.In) = x from rfl, hi] at hc
            have HR2 := Lib.hid (show false = res by rw [← HRES.out]; exact (rightB_false HX.out hi).symm)
            have HC := Lib.hid hc
            clear hi hc hlook hcall ho
            go_wp2_with (fail)
            refine HC.out.mono ?_
            rintro e w2 ⟨rfl, hb2⟩
            have HB2 := Lib.hid (hal.out.trans (hb2.mono (by simp)))
            clear hb2 hlk x0 x1 x2
            go_wp2
            go_ret
            exact ⟨retb HR2.out, HBW.out.trans (HB2.out.mono HBW.out.size)⟩
        · have hlk := HCA.out.no (op := x.op) (by omega)
          have HR2 := Lib.hid (show false = res by rw [← HRES.out]; exact (rightB_false HX.out (inB_no (by omega))).symm)
          clear ho
          go_wp2
          go_ret
          exact ⟨retb HR2.out, HBW.out.trans (hal.out.mono HBW.out.size)⟩
      · obtain rfl : k = l.length := by omega
        have HR2 := Lib.hid (show true = res by rw [← HRES.out]; exact (rightB_all (by omega) fun j x hx => HS.out j x (List.getElem?_eq_some_iff.1 hx).1 hx).symm)
        go_wp2
        go_ret
        exact ⟨retb HR2.out, HBW.out⟩
end Go.Proofs.YtmbgndcahlopdaaGreat

/- Right; the reference's Right. -/
namespace Go.Proofs.YtmbgndcahlopdaaGreat
set_option maxRecDepth 100000
open Go.RowKit Go.Shelf
attribute [local go_sem] Oper.semAt_some

def Cd.pubB (names : List ByteArray) (up : List Nat) (l : List Cd.In) : Bool := decide (checkN names up = 0) && Cd.rightB up.length l
set_option maxHeartbeats 4000000 in
theorem cRight_any {v : Value} {names : List ByteArray} {up : List Nat} {A : Option Addr} {l : List Cd.In} (c : Nat) (w : World) (h : IsLat w w.heap.size v names up) (hr : Row w w.heap.size A (icells l)) (hl : l.length ≤ 1000) :
    Calls Tryz.prog 26 #[v, .slice A l.length c] w (Tells w (Cd.pubB names up l)) := by
  obtain ⟨⟨N, U, c1, c2, rfl, hN, hU⟩, hsh, hfew, hcaps⟩ := id h
  have hch := check_any _ (h.boxed (.cells #[.slice N names.length c1, .slice U up.length c2] 25))
  have hb0 : Below w.heap.size w (w.alloc (.cells #[.slice N names.length c1, .slice U up.length c2] 25)) := (Below.refl _ w).alloc (Nat.le_refl _) _
  have p0 : Blk (w.alloc (.cells #[.slice N names.length c1, .slice U up.length c2] 25)) w.heap.size 25 #[.slice N names.length c1, .slice U up.length c2] := Blk.new _ _ _
  have P0 := Lib.hid p0
  have HB0 := Lib.hid hb0
  have H := Lib.hid h
  have HR := Lib.hid hr
  obtain ⟨n, hn⟩ : ∃ n, checkN names up = n := ⟨_, rfl⟩
  rw [hn] at hch
  have HCH := Lib.hid hch
  by_cases hz : n = 0
  · subst hz
    have hp : Cd.pubB names up l = Cd.rightB up.length l := by unfold Cd.pubB; rw [hn]; rfl
    rw [hp]
    clear hn hch h hN hU hr p0 hb0 hp
    go_enter Tryz.func26, Tryz.ntmps26
    go_wp2_with (go_at_call 25; refine HCH.out.mono ?_)
    rintro e w1 ⟨rfl, hb1⟩
    have hp1 := P0.out.below hb1 (by simp)
    have hc0 : w1.cell? ⟨w.heap.size, 0, none⟩ = some (.slice N names.length c1) := by rw [hp1.cell]; rfl
    have hc1 : w1.cell? ⟨w.heap.size, 1, none⟩ = some (.slice U up.length c2) := by rw [hp1.cell]; rfl
    have hbw : Below w.heap.size w w1 := HB0.out.trans (hb1.mono (by simp))
    have hm := cmayBe_any c w1 ((H.out.below hbw).more hbw.size) ((HR.out.below hbw).more hbw.size) hl
    generalize Cd.rightB up.length l = res at *
    have HM := Lib.hid hm
    have HBW := Lib.hid hbw
    clear hb1 hp1 hbw hm
    go_wp2_with (go_at_call 54; refine HM.out.mono ?_)
    rintro e w2 ⟨rfl, hb2⟩
    go_wp2
    go_ret
    exact ⟨rfl, HBW.out.trans (hb2.mono HBW.out.size)⟩
  · have hp : Cd.pubB names up l = false := by unfold Cd.pubB; rw [hn, decide_eq_false hz]; rfl
    rw [hp]
    have hz1 : ((n : Int) == 0) = false := by rw [beq_eq_false_iff_ne]; omega
    clear hn hch h hN hU hr p0 hb0 hp
    go_enter Tryz.func26, Tryz.ntmps26
    go_wp2_with (go_at_call 25; refine HCH.out.mono ?_)
    rintro e w1 ⟨rfl, hb1⟩
    go_wp2
    go_ret
    exact ⟨rfl, HB0.out.trans (hb1.mono (by simp))⟩
end Go.Proofs.YtmbgndcahlopdaaGreat

/- Walks of slices.Equal at []api.Instr, Like, the reference's Right. -/
namespace Go.Proofs.YtmbgndcahlopdaaGreat
set_option maxRecDepth 100000
open Go.RowKit Go.Shelf
attribute [local go_sem] Oper.semAt_some

/-- At the head of a round of the reference's Right. -/
structure RgIn (w : World) (lv : Array Value) (k K : Nat) (l : List Cd.In) (W : World) : Prop where
  below : Below w.heap.size w W
  lat : Blk W w.heap.size 25 lv
  ok : ∀ (j : Nat) (x : Cd.In), j < k → l[j]? = some x → Cd.inB K x = true
theorem rightB_len {k : Nat} {l : List Cd.In} (h : ∀ (j : Nat) (x : Cd.In), l[j]? = some x → Cd.inB k x = true) : Cd.rightB k l = decide (l.length ≤ 12) := by
  unfold Cd.rightB
  rw [List.all_eq_true.2 (fun x hx => by
    obtain ⟨j, hj⟩ := List.getElem?_of_mem hx
    exact h j x hj), Bool.and_true]
set_option maxHeartbeats 4000000 in
theorem rRightI_any {v : Value} {names : List ByteArray} {up : List Nat} {A : Option Addr} {l : List Cd.In} (c : Nat) (w : World) (h : IsLat w w.heap.size v names up) (hr : Row w w.heap.size A (icells l)) (hl : l.length ≤ 1000) :
    Calls Tryz.prog 47 #[v, .slice A l.length c] w (Tells w (Cd.rightB up.length l)) := by
  obtain ⟨⟨N, U, c1, c2, rfl, hN, hU⟩, hsh, hfew, hcaps⟩ := id h
  obtain ⟨res, hres⟩ : ∃ res, Cd.rightB up.length l = res := ⟨_, rfl⟩
  rw [hres]
  have HRES := Lib.hid hres
  have HR := Lib.hid hr
  have HIN := Lib.hid (fun x W => rInstr_any up.length x W)
  have HST := Lib.hid (show RgIn w #[.slice N names.length c1, .slice U up.length c2] 0 up.length l (w.alloc (.cells #[.slice N names.length c1, .slice U up.length c2] 25)) from ⟨(Below.refl _ w).alloc (Nat.le_refl _) _, Blk.new _ _ _, fun j x hj => absurd hj (Nat.not_lt_zero _)⟩)
  obtain ⟨n, hn⟩ : ∃ n, l.length = n := ⟨_, rfl⟩
  have HN := Lib.hid hn
  rw [hn] at hl ⊢
  have hul : (up.length : Int) ≤ 1000 := by omega
  clear hres hr h hN hU hsh hfew hcaps hn
  go_enter Tryz.func47, Tryz.ntmps47
  go_wp2
  go_loopw [9] (fun i wr => ∃ k : Nat, k ≤ n ∧ i = .int .i64 k ∧ Hid (RgIn w #[.slice N names.length c1, .slice U up.length c2] k up.length l wr)) (fun i _ => n - (intOf i).toNat)
  case atStart => exact ⟨0, Nat.zero_le _, rfl, HST⟩
  case round =>
    obtain ⟨k, hk, rfl, HG⟩ := hrel
    have hbw := HG.out.below
    have b1 := HG.out.lat.cell 1
    have hlt0 := HG.out.lat.lt
    by_cases hlt : k < n
    · obtain ⟨ad, x, rfl, hxb, hx, x0, x1, x2⟩ := inrow_at (HR.out.below hbw) (show k < l.length by rw [HN.out]; exact hlt)
      have hz := hbw.size
      have hxb2 : (ad.add (k * 3)).block < wr.heap.size := by rw [add_block]; omega
      have hi := HIN.out x
      obtain ⟨bi, hbi⟩ : ∃ bi, Cd.inB up.length x = bi := ⟨_, rfl⟩
      rw [hbi] at hi
      have HI := Lib.hid hi
      have HBI := Lib.hid hbi
      have HX := Lib.hid hx
      clear hi hbi hx hbw HIN
      have hob : Below wr.heap.size wr (wr.alloc (.cells #[.int .i64 x.op, .int .i64 x.n, .int .i64 x.l] 58)) := (Below.refl _ _).alloc (Nat.le_refl _) _
      have HOB := Lib.hid hob
      clear hob
      generalize hx1 : x.op = xo at *
      generalize hx2 : x.n = xn at *
      generalize hx3 : x.l = xl at *
      cases bi with
      | true =>
        have hnx : ∀ (j : Nat) (y : Cd.In), j < k + 1 → l[j]? = some y → Cd.inB up.length y = true := fun j y hj hy => by
          rcases Nat.lt_or_eq_of_le (Nat.le_of_lt_succ hj) with h | rfl
          · exact HG.out.ok j y h hy
          · rw [HX.out] at hy
            injection hy with hy
            rw [← hy]
            exact HBI.out
        have HNX := Lib.hid hnx
        clear hnx hx1 hx2 hx3
        go_wp2_with (fail)
        refine (HI.out _).mono ?_
        rintro e w1 ⟨rfl, hb1⟩
        have HNB := Lib.hid (HG.out.below.trans ((HOB.out.trans (hb1.mono HOB.out.size)).mono HG.out.below.size))
        have HLT := Lib.hid ((HG.out.lat.below HOB.out hlt0).below hb1 (by simp; omega))
        clear hb1
        go_wp2
        go_roundw
        case rel => exact ⟨k + 1, by omega, by go_num, Lib.hid ⟨HNB.out, HLT.out, HNX.out⟩⟩
        case measure => simp [intOf]; omega
      | false =>
        have hrf : res = false := by rw [← HRES.out]; exact rightB_false HX.out HBI.out
        have HRF := Lib.hid hrf.symm
        clear hrf hx1 hx2 hx3
        go_wp2_with (fail)
        refine (HI.out _).mono ?_
        rintro e w1 ⟨rfl, hb1⟩
        have HNB := Lib.hid (HG.out.below.trans ((HOB.out.trans (hb1.mono HOB.out.size)).mono HG.out.below.size))
        clear hb1
        go_wp2
        go_ret
        exact ⟨retb HRF.out, HNB.out⟩
    · obtain rfl : k = n := by omega
      have hrt : res = decide (k ≤ 12) := by
        rw [← HRES.out, rightB_len (fun j x hx => HG.out.ok j x (by have := (List.getElem?_eq_some_iff.1 hx).1; rw [HN.out] at this; exact this) hx), HN.out]
      have HB := Lib.hid hbw
      clear hbw
      have hrt2 : decide ((k : Int) ≤ 12) = res := by
        rw [hrt]
        by_cases h : k ≤ 12
        · rw [decide_eq_true h, decide_eq_true (by omega)]
        · rw [decide_eq_false h, decide_eq_false (by omega)]
      have HRT := Lib.hid hrt2
      clear hrt hrt2
      go_wp2
      go_ret
      exact ⟨retb HRT.out, HB.out⟩
end Go.Proofs.YtmbgndcahlopdaaGreat
