/- A region that draws its order, met once for all orders: each operation stands where all that it waits for is done. Over no program. -/
import Derived.Orders
import Derived.OrdersHeld
import Derived.Below
import Derived.WalkKit
namespace Go.Proofs.Ytmbgndcahlopdaa
set_option maxRecDepth 100000
open Go Go.RowKit

namespace Free
variable {P : Program} {ops : Array Oper} {Q : Exit → Act → World → Prop} {md : Region.Mode}

def left (listed : Array Bool) : Nat := (listed.toList.filter (fun b => !b)).length
theorem filter_set (l : List Bool) (i : Nat) (h : l[i]? = some false) : ((l.set i true).filter (fun b => !b)).length + 1 = (l.filter (fun b => !b)).length := by
  induction l generalizing i with
  | nil => simp at h
  | cons x r ih =>
    cases i with
    | zero => simp at h; subst h; simp
    | succ i =>
      have := ih i (by simpa using h)
      simp only [List.set_cons_succ]
      cases x <;> simp <;> omega
theorem left_set {listed : Array Bool} {i : Nat} (h : listed.getD i true = false) : left (listed.setIfInBounds i true) + 1 = left listed := by
  unfold left
  rw [Array.toList_setIfInBounds]
  apply filter_set
  rw [Array.getD_eq_getD_getElem?] at h
  rw [Array.getElem?_toList]
  cases e : listed[i]? with
  | none => rw [e] at h; cases h
  | some b => rw [e] at h; simp at h; rw [h]
theorem lt_of_unlisted {listed : Array Bool} {i : Nat} (h : listed.getD i true = false) : i < listed.size := by
  rw [Array.getD_eq_getD_getElem?] at h
  cases e : listed[i]? with
  | none => rw [e] at h; cases h
  | some b => exact (Array.getElem?_eq_some_iff.1 e).1

theorem any_inv {I : Array Bool → Act → World → Prop}
    (hstep : ∀ listed a w i, listed.size = ops.size → I listed a w → i ∈ Region.ready md ops listed → wpOp P ops Q i (I (listed.setIfInBounds i true)) a w)
    (hdone : ∀ listed a w, listed.size = ops.size → I listed a w → Region.ready md ops listed = [] → Q .normal a w) :
    ∀ fuel listed a w, listed.size = ops.size → left listed ≤ fuel → I listed a w → wpAny P md ops Q fuel listed a w
  | 0, listed, a, w, hs, hl, hI => by
    have hr : Region.ready md ops listed = [] := by
      cases hr : Region.ready md ops listed with
      | nil => rfl
      | cons i rs =>
        have hi : i ∈ Region.ready md ops listed := by rw [hr]; exact List.mem_cons_self
        have := left_set (mem_ready.1 hi).1
        omega
    exact ⟨hr, hdone _ _ _ hs hI hr⟩
  | fuel + 1, listed, a, w, hs, hl, hI => by
    refine ⟨fun hr => hdone _ _ _ hs hI hr, fun i hi => ?_⟩
    have h1 := hstep listed a w i hs hI hi
    refine wpOp_mono (fun a' w' h' => any_inv hstep hdone fuel _ a' w' (by simpa using hs) ?_ h') h1
    have := left_set (mem_ready.1 hi).1
    omega

/-- For what an operation waits. -/
def deps (o : Oper) : List Nat := (o.after.toList.filter fun e => Region.binds .any e).map (·.on)
def dstOf (ops : Array Oper) (j : Nat) : Option Tmp := (ops[j]?).bind (·.dst)
/-- Who makes a temporary. -/
def prodOf (ops : Array Oper) (t : Tmp) : Option Nat := (List.range ops.size).find? fun j => dstOf ops j == some t
/-- The region is of the form that the law asks. -/
def okB (ops : Array Oper) (n : Nat) : Bool :=
  Region.noSelect ops && (List.range ops.size).all fun k => match ops[k]? with
    | none => false
    | some o =>
      (deps o).all (fun j => decide (j < k)) &&
      (match o.dst with | none => true | some d => decide (d < n) && (prodOf ops d == some k) && (List.range ops.size).all fun j => decide (j = k) || !(dstOf ops j == some d)) &&
      (o.op.operands.toList.all fun x => match x with
        | .tmp t => (match prodOf ops t with
          | none => true
          | some j => (deps o).contains j || (match ops[j]? with | none => false | some oj => (deps oj).contains k))
        | _ => true) &&
      (match o.guard with | none => true | some (g, _) => (deps o).contains g && (dstOf ops g).isSome)

/-- What an operand is where operation k stands. -/
def rd (ops : Array Oper) (a0 : Act) (k : Nat) (r : Nat → Value) : Operand → Value
  | .tmp t => match prodOf ops t with
    | none => a0.eval (.tmp t)
    | some j => if (match ops[k]? with | none => [] | some o => deps o).contains j then r j else a0.eval (.tmp t)
  | x => a0.eval x
def boolOf : Value → Option Bool | .bool b => some b | _ => none
def wantedR (o : Oper) (r : Nat → Value) : Bool := match o.guard with | none => true | some (g, want) => boolOf (r g) == some want

def UponV (P : Program) (K : Value → World → Prop) : Result Next → Prop
  | .ok (.value v) w' => K v w'
  | .ok .skip w' => K undef w'
  | .ok (.enter f args) w' => Calls P f args w' fun e w'' => ∃ v, e = .returned v ∧ K v w''
  | .ok (.row row args) w' => Rows P row args w' K
  | _ => False
theorem UponV.upon {o : Oper} {a : Act} {next : Act → World → Prop} {K : Value → World → Prop} (hk : ∀ v w', K v w' → next (a.put o.dst v) w') : ∀ {x : Result Next}, UponV P K x → o.upon P a next Q x := by
  intro x h
  cases x with
  | ok n w' =>
    cases n with
    | value v => exact hk _ _ h
    | skip => exact hk _ _ h
    | enter f args => exact Calls.mono h fun e w'' ⟨v, he, hv⟩ => by subst he; exact hk _ _ hv
    | row row args => exact Rows.mono h fun v w'' hv => hk _ _ hv
    | _ => exact h.elim
  | halt _ _ => exact h.elim

def upd (done : Nat → Bool) (k : Nat) : Nat → Bool := fun j => if j = k then true else done j
def updR (r : Nat → Value) (k : Nat) (v : Value) : Nat → Value := fun j => if j = k then v else r j
/-- The operations' values, put where they belong. -/
def putAll : List Oper → Nat → (Nat → Value) → Act → Act
  | [], _, _, a => a
  | o :: l, k, r, a => putAll l (k + 1) r (a.put o.dst (r k))

theorem put_other {a : Act} {x : Option Tmp} {v : Value} {d : Nat} (h : x ≠ some d) : (a.put x v).tmps[d]? = a.tmps[d]? := by
  cases x with
  | none => rfl
  | some t =>
    show (a.tmps.setIfInBounds t v)[d]? = _
    rw [Array.getElem?_setIfInBounds_ne (fun e => h (by rw [e]))]
theorem put_same {a : Act} {v : Value} {d : Nat} : (a.put (some d) v).tmps[d]? = (a.tmps[d]?).map fun _ => v := by
  show (a.tmps.setIfInBounds d v)[d]? = _
  rw [Array.getElem?_setIfInBounds]
  by_cases h : d < a.tmps.size
  · simp [h]
  · simp [h]
theorem putAll_other {d : Nat} : ∀ (l : List Oper) (k : Nat) (r : Nat → Value) (a : Act), (∀ o ∈ l, o.dst ≠ some d) → (putAll l k r a).tmps[d]? = a.tmps[d]?
  | [], _, _, _, _ => rfl
  | o :: l, k, r, a, h => by
    unfold putAll
    rw [putAll_other l (k + 1) r _ (fun x hx => h x (List.mem_cons_of_mem _ hx)), put_other (h o List.mem_cons_self)]
theorem putAll_same {d : Nat} : ∀ (l : List Oper) (k : Nat) (r : Nat → Value) (a : Act) (j : Nat) (o : Oper), l[j]? = some o → o.dst = some d → (∀ i x, l[i]? = some x → i ≠ j → x.dst ≠ some d) →
    (putAll l k r a).tmps[d]? = (a.tmps[d]?).map fun _ => r (k + j)
  | [], _, _, _, _, _, h, _, _ => by simp at h
  | x :: l, k, r, a, 0, o, h, hd, hu => by
    simp only [List.getElem?_cons_zero, Option.some.injEq] at h
    subst h
    unfold putAll
    rw [putAll_other l (k + 1) r _ (fun y hy => by
      obtain ⟨i, hi, rfl⟩ := List.getElem_of_mem hy
      exact hu (i + 1) _ (by rw [List.getElem?_cons_succ, List.getElem?_eq_getElem hi]) (by omega)), hd, put_same]
    rfl
  | x :: l, k, r, a, j + 1, o, h, hd, hu => by
    unfold putAll
    rw [putAll_same l (k + 1) r _ j o (by simpa using h) hd (fun i y hy hne => hu (i + 1) y (by simpa using hy) (by omega)), put_other (hu 0 x rfl (by omega))]
    rw [show k + 1 + j = k + (j + 1) by omega]
theorem putAll_defers : ∀ (l : List Oper) (k : Nat) (r : Nat → Value) (a : Act), (putAll l k r a).defers = a.defers
  | [], _, _, _ => rfl
  | o :: l, k, r, a => by
    unfold putAll
    rw [putAll_defers l]
    cases o.dst <;> rfl

structure Ok (ops : Array Oper) (n k : Nat) (o : Oper) : Prop where
  lt : ∀ j ∈ deps o, j < k
  dst : ∀ d, o.dst = some d → d < n ∧ prodOf ops d = some k ∧ ∀ j, j < ops.size → j ≠ k → dstOf ops j ≠ some d
  reads : ∀ t, Operand.tmp t ∈ o.op.operands → ∀ j, prodOf ops t = some j → j ∈ deps o ∨ ∃ oj, ops[j]? = some oj ∧ k ∈ deps oj
  guard : ∀ g b, o.guard = some (g, b) → g ∈ deps o ∧ ∃ d, dstOf ops g = some d
theorem ok_of {n : Nat} (h : okB ops n = true) {k : Nat} {o : Oper} (ho : ops[k]? = some o) : Ok ops n k o := by
  unfold okB at h
  rw [Bool.and_eq_true] at h
  have hk : k < ops.size := (Array.getElem?_eq_some_iff.1 ho).1
  have := List.all_eq_true.1 h.2 k (by simpa using hk)
  rw [ho] at this
  simp only [Bool.and_eq_true] at this
  obtain ⟨⟨⟨h1, h2⟩, h3⟩, h4⟩ := this
  refine ⟨fun j hj => by simpa using List.all_eq_true.1 h1 j hj, fun d hd => ?_, fun t ht j hj => ?_, fun g b hg => ?_⟩
  · rw [hd] at h2
    simp only [Bool.and_eq_true, decide_eq_true_eq, beq_iff_eq] at h2
    refine ⟨h2.1.1, h2.1.2, fun j hjl hjk => ?_⟩
    have := List.all_eq_true.1 h2.2 j (by simpa using hjl)
    rw [Bool.or_eq_true, decide_eq_true_eq] at this
    rcases this with e | e
    · exact absurd e hjk
    · intro e2; rw [e2] at e; simp at e
  · have := List.all_eq_true.1 h3 (.tmp t) (by simpa using ht)
    simp only [hj, Bool.or_eq_true, List.contains_iff_mem] at this
    rcases this with e | e
    · exact .inl e
    · cases hoj : ops[j]? with
      | none => rw [hoj] at e; cases e
      | some oj => rw [hoj] at e; exact .inr ⟨oj, rfl, by simpa using e⟩
  · rw [hg] at h4
    simp only [Bool.and_eq_true, List.contains_iff_mem] at h4
    exact ⟨h4.1, Option.isSome_iff_exists.1 h4.2⟩
theorem prodOf_spec {t j : Nat} (h : prodOf ops t = some j) : j < ops.size ∧ dstOf ops j = some t := by
  unfold prodOf at h
  have h1 := List.mem_of_find?_eq_some h
  have h2 := List.find?_some h
  exact ⟨by simpa using h1, by simpa using h2⟩
theorem prodOf_none {t : Nat} (h : prodOf ops t = none) {j : Nat} (hj : j < ops.size) : dstOf ops j ≠ some t := by
  unfold prodOf at h
  rw [List.find?_eq_none] at h
  simpa using h j (by simpa using hj)

/-- Where all that the done operations wait for is done, too. -/
def Closed (ops : Array Oper) (done : Nat → Bool) : Prop := ∀ k o, ops[k]? = some o → done k = true → ∀ j ∈ deps o, done j = true
def Vals (V : Nat → Option Value) (done : Nat → Bool) (r : Nat → Value) : Prop := ∀ k x, done k = true → V k = some x → r k = x

/-- A slot, where some operations are done. -/
def slot (ops : Array Oper) (a0 : Act) (done : Nat → Bool) (r : Nat → Value) (d : Nat) : Option Value :=
  match prodOf ops d with
  | none => a0.tmps[d]?
  | some j => if done j then (a0.tmps[d]?).map fun _ => r j else a0.tmps[d]?

theorem region {id : Nat} {a0 : Act} {w : World} (hm : P.follows .mixedOrders = true) (hok : okB ops a0.tmps.size = true)
    (V : Nat → Option Value) (J : (Nat → Bool) → (Nat → Value) → World → Prop) (r0 : Nat → Value)
    (h0 : J (fun _ => false) r0 { w with drawn := w.drawn + 1 })
    (step : ∀ k o, ops[k]? = some o → ∀ done r W, J done r W → Vals V done r → Closed ops done → done k = false → (∀ j ∈ deps o, done j = true) →
      if wantedR o r then UponV P (fun v w' => (∀ x, V k = some x → v = x) ∧ J (upd done k) (updR r k v) w') ((execOp (rd ops a0 k r) o).run P W)
      else (∀ x, V k = some x → undef = x) ∧ J (upd done k) (updR r k undef) W)
    (fin : ∀ done r W, (∀ k, k < ops.size → done k = true) → J done r W → Vals V done r → Q .normal (putAll ops.toList 0 r a0) W) :
    (Code.region id ops true).wp P Q a0 w := by
  have hsel := Region.noSelect_spec (Bool.and_eq_true _ _ ▸ hok).1
  refine wp_region_any hm ?_
  have I0 : ∃ I : Array Bool → Act → World → Prop, I = fun listed a W => a.defers = a0.defers ∧ a.tmps.size = a0.tmps.size ∧ Closed ops (fun j => listed.getD j false) ∧ ∃ r, J (fun j => listed.getD j false) r W ∧ Vals V (fun j => listed.getD j false) r ∧ ∀ d, a.tmps[d]? = slot ops a0 (fun j => listed.getD j false) r d := ⟨_, rfl⟩
  obtain ⟨I, hI⟩ := I0
  refine any_inv (I := I) ?_ ?_ ops.size _ _ _ (by simp) ?_ ?_
  · intro listed a W k hsz hi hready
    rw [hI] at hi ⊢
    obtain ⟨hdf, htz, hcl, r, hJ, hV, hsl⟩ := hi
    obtain ⟨hun, o, ho, hdeps⟩ := mem_ready.1 hready
    have hk := lt_of_unlisted hun
    have hkf : listed.getD k false = false := by
      rw [Array.getD_eq_getD_getElem?] at hun ⊢
      rw [Array.getElem?_eq_getElem hk] at hun ⊢
      simpa using hun
    have hd : ∀ j ∈ deps o, listed.getD j false = true := by
      intro j hj
      unfold deps at hj
      obtain ⟨e, he, rfl⟩ := List.mem_map.1 hj
      obtain ⟨he1, he2⟩ := List.mem_filter.1 he
      exact hdeps e (by simpa using he1) he2
    have okk := ok_of hok ho
    have hset : (fun j => (listed.setIfInBounds k true).getD j false) = upd (fun j => listed.getD j false) k := by
      funext j
      unfold upd
      rw [Array.getD_eq_getD_getElem?, Array.getElem?_setIfInBounds]
      by_cases hjk : k = j
      · subst hjk; simp [hk]
      · rw [if_neg hjk, if_neg (fun e => hjk e.symm)]
        show _ = listed.getD j false
        rw [Array.getD_eq_getD_getElem?]
    have hcl' : Closed ops (upd (fun j => listed.getD j false) k) := by
      intro i oi hoi hdi j hj
      unfold upd at hdi ⊢
      by_cases hji : j = k
      · rw [if_pos hji]
      · rw [if_neg hji]
        by_cases hik : i = k
        · subst hik
          rw [ho] at hoi
          injection hoi with hoi
          subst hoi
          exact hd j hj
        · rw [if_neg hik] at hdi
          exact hcl i oi hoi hdi j hj
    have hst := step k o ho _ r W hJ hV hcl hkf hd
    -- what comes of a value
    have hnext : ∀ v W', (∀ x, V k = some x → v = x) → J (upd (fun j => listed.getD j false) k) (updR r k v) W' →
        (a.put o.dst v).defers = a0.defers ∧ (a.put o.dst v).tmps.size = a0.tmps.size ∧ Closed ops (fun j => (listed.setIfInBounds k true).getD j false) ∧ ∃ r, J (fun j => (listed.setIfInBounds k true).getD j false) r W' ∧ Vals V (fun j => (listed.setIfInBounds k true).getD j false) r ∧ ∀ d, (a.put o.dst v).tmps[d]? = slot ops a0 (fun j => (listed.setIfInBounds k true).getD j false) r d := by
      intro v W' hx hJ'
      rw [hset]
      refine ⟨by rw [← hdf]; cases o.dst <;> rfl, ?_, hcl', updR r k v, hJ', ?_, ?_⟩
      · rw [← htz]
        cases o.dst with
        | none => rfl
        | some d => exact Array.size_setIfInBounds
      · intro i x hdi hVi
        unfold upd at hdi
        unfold updR
        by_cases hik : i = k
        · subst hik; rw [if_pos rfl]; exact hx x hVi
        · rw [if_neg hik] at hdi ⊢; exact hV i x hdi hVi
      · intro d
        by_cases hod : o.dst = some d
        · obtain ⟨hdn, hp, -⟩ := okk.dst d hod
          rw [hod, put_same, hsl d]
          unfold slot
          rw [hp]
          simp only [hkf, Bool.false_eq_true, if_false]
          unfold upd updR
          simp
        · rw [put_other hod, hsl d]
          unfold slot
          cases hp : prodOf ops d with
          | none => rfl
          | some j =>
            have hjk : j ≠ k := by
              rintro rfl
              have := (prodOf_spec hp).2
              unfold dstOf at this
              rw [ho] at this
              exact hod this
            simp only [upd, updR, if_neg hjk]
    -- the operation reads what rd says
    have hrd : ∀ x ∈ o.op.operands, a.eval x = rd ops a0 k r x := by
      intro x hx
      cases x with
      | tmp t =>
        have e0 : a.eval (.tmp t) = (slot ops a0 (fun j => listed.getD j false) r t).getD undef := by
          show a.tmps.getD t undef = _
          rw [Array.getD_eq_getD_getElem?, hsl t]
        have e1 : a0.eval (.tmp t) = (a0.tmps[t]?).getD undef := by
          show a0.tmps.getD t undef = _
          rw [Array.getD_eq_getD_getElem?]
        rw [e0]
        cases hp : prodOf ops t with
        | none =>
          simp only [slot, rd, hp]
          exact e1.symm
        | some j =>
          have hdst := (prodOf_spec hp).2
          obtain ⟨oj, hoj⟩ : ∃ oj, ops[j]? = some oj := ⟨_, Array.getElem?_eq_getElem (prodOf_spec hp).1⟩
          have hdj : oj.dst = some t := by unfold dstOf at hdst; rw [hoj] at hdst; exact hdst
          have hlt := ((ok_of hok hoj).dst t hdj).1
          rcases okk.reads t hx j hp with hj | ⟨oj', hoj', hkj⟩
          · have hc : (deps o).contains j = true := by simpa using hj
            simp only [slot, rd, hp, ho, hd j hj, hc, if_true, Array.getElem?_eq_getElem hlt]
            rfl
          · rw [hoj] at hoj'
            injection hoj' with hoj'
            subst hoj'
            have hjf : listed.getD j false = false := by
              cases e : listed.getD j false with
              | false => rfl
              | true => have h2 : listed.getD k false = true := hcl j oj hoj e k hkj; rw [hkf] at h2; cases h2
            have hnot : (deps o).contains j = false := by
              cases e : (deps o).contains j with
              | false => rfl
              | true =>
                have h1 := okk.lt j (by simpa using e)
                have h2 := (ok_of hok hoj).lt k hkj
                omega
            simp only [slot, rd, hp, ho, hjf, hnot, Bool.false_eq_true, if_false]
            exact e1.symm
      | const v => rfl
      | global g => rfl
      | func f => rfl
    have hwant : Region.wanted o (yielded ops a.tmps) = wantedR o r := by
      unfold Region.wanted wantedR
      cases hg : o.guard with
      | none => rfl
      | some gb =>
        obtain ⟨g, b⟩ := gb
        obtain ⟨hgd, d, hgs⟩ := okk.guard g b hg
        have hgl : g < ops.size := by
          have := okk.lt g hgd
          have : k < ops.size := by rw [← hsz]; exact hk
          omega
        obtain ⟨og, hog⟩ : ∃ og, ops[g]? = some og := ⟨_, Array.getElem?_eq_getElem hgl⟩
        have hdg : og.dst = some d := by unfold dstOf at hgs; rw [hog] at hgs; exact hgs
        obtain ⟨hdn, hp, -⟩ := (ok_of hok hog).dst d hdg
        have e : yielded ops a.tmps g = boolOf (r g) := by
          have hs : a.tmps[d]? = some (r g) := by
            rw [hsl d]
            unfold slot
            rw [hp]
            simp only [hd g hgd, if_true, Array.getElem?_eq_getElem hdn, Option.map_some]
          unfold yielded
          rw [hog]
          simp only [Option.bind_some, hdg, hs]
          cases r g <;> rfl
        simp only [e]
    unfold wpOp
    rw [ho]
    simp only [hwant]
    split
    · rename_i hw
      rw [if_pos hw] at hst
      refine .inl ?_
      unfold Oper.wp
      rw [execOp_congr (ρ := a.eval) (ρ' := rd ops a0 k r) o (fun cs b => hsel k o cs b ho) hrd]
      exact UponV.upon (fun v W' ⟨hx, hJ'⟩ => hnext v W' hx hJ') hst
    · rename_i hw
      rw [if_neg hw] at hst
      exact hnext undef W hst.1 hst.2
  · intro listed a W hsz hi hr
    rw [hI] at hi
    obtain ⟨hdf, htz, hcl, r, hJ, hV, hsl⟩ := hi
    have hall : ∀ k, k < ops.size → listed.getD k false = true := by
      intro k
      induction k using Nat.strongRecOn with
      | _ k ih =>
        intro hk
        cases e : listed.getD k false with
        | true => rfl
        | false =>
          exfalso
          obtain ⟨o, ho⟩ : ∃ o, ops[k]? = some o := ⟨_, Array.getElem?_eq_getElem hk⟩
          have okk := ok_of hok ho
          have : k ∈ Region.ready .any ops listed := mem_ready.2 ⟨by
            rw [Array.getD_eq_getD_getElem?, Array.getElem?_eq_getElem (by omega)] at e ⊢
            simpa using e, o, ho, fun ed hed hb => by
              have hjd : ed.on ∈ deps o := List.mem_map.2 ⟨ed, List.mem_filter.2 ⟨by simpa using hed, hb⟩, rfl⟩
              have hlt := okk.lt _ hjd
              exact ih _ hlt (by omega)⟩
          rw [hr] at this
          cases this
    have hfin := fin _ r W hall hJ hV
    have ea : a = putAll ops.toList 0 r a0 := by
      have h1 : a.tmps = (putAll ops.toList 0 r a0).tmps := by
        refine Array.ext_getElem? fun d => ?_
        rw [hsl d]
        cases hp : prodOf ops d with
        | none =>
          simp only [slot, hp]
          rw [putAll_other]
          intro o ho
          obtain ⟨j, hj, rfl⟩ := List.getElem_of_mem ho
          have := prodOf_none hp (j := j) (by simpa using hj)
          unfold dstOf at this
          rw [Array.getElem?_eq_getElem (by simpa using hj)] at this
          simpa using this
        | some j =>
          obtain ⟨hjl, hdst⟩ := prodOf_spec hp
          obtain ⟨oj, hoj⟩ : ∃ oj, ops[j]? = some oj := ⟨_, Array.getElem?_eq_getElem hjl⟩
          have hdj : oj.dst = some d := by unfold dstOf at hdst; rw [hoj] at hdst; exact hdst
          have hj1 := hall j hjl
          simp only [slot, hp, hj1, if_true]
          rw [putAll_same ops.toList 0 r a0 j oj (by simpa using hoj) hdj, Nat.zero_add]
          intro i x hx hne
          have hil : i < ops.size := by
            have := (List.getElem?_eq_some_iff.1 hx).1
            simpa using this
          have := ((ok_of hok hoj).dst d hdj).2.2 i hil hne
          unfold dstOf at this
          rw [show ops[i]? = some x by simpa using hx] at this
          exact this
      have h2 : a.defers = (putAll ops.toList 0 r a0).defers := by rw [putAll_defers, hdf]
      cases a
      simp only at h1 h2
      rw [h1, h2]
    rw [ea]
    exact hfin
  · unfold left
    rw [Array.toList_replicate]
    exact Nat.le_trans (List.length_filter_le _ _) (by simp)
  · rw [hI]
    have hz : (fun j => (Array.replicate ops.size false).getD j false) = fun _ => false := by
      funext j
      rw [Array.getD_eq_getD_getElem?, Array.getElem?_replicate]
      split <;> rfl
    dsimp only
    rw [hz]
    refine ⟨rfl, rfl, fun _ _ _ h => by simp at h, r0, h0, fun _ _ h => by simp at h, fun d => ?_⟩
    unfold slot
    split <;> rfl

def StepAt (P : Program) (ops : Array Oper) (a0 : Act) (V : Nat → Option Value) (J : (Nat → Bool) → (Nat → Value) → World → Prop) (k : Nat) (o : Oper) : Prop :=
  ∀ done r W ρ, ρ = rd ops a0 k r → J done r W → Vals V done r → Closed ops done → done k = false → (∀ j ∈ deps o, done j = true) →
    (wantedR o r = true → UponV P (fun v w' => (∀ x, V k = some x → v = x) ∧ J (upd done k) (updR r k v) w') ((execOp ρ o).run P W)) ∧
    (wantedR o r = false → (∀ x, V k = some x → undef = x) ∧ J (upd done k) (updR r k undef) W)
def AllSteps (P : Program) (ops : Array Oper) (a0 : Act) (V : Nat → Option Value) (J : (Nat → Bool) → (Nat → Value) → World → Prop) : List Oper → Nat → Prop
  | [], _ => True
  | o :: l, k => StepAt P ops a0 V J k o ∧ AllSteps P ops a0 V J l (k + 1)
theorem allSteps_at {a0 : Act} {V : Nat → Option Value} {J : (Nat → Bool) → (Nat → Value) → World → Prop} : ∀ (l : List Oper) (k : Nat), AllSteps P ops a0 V J l k → ∀ j o, l[j]? = some o → StepAt P ops a0 V J (k + j) o
  | [], _, _, _, _, h => by simp at h
  | x :: l, k, h, 0, o, ho => by
    simp only [List.getElem?_cons_zero, Option.some.injEq] at ho
    subst ho
    exact h.1
  | x :: l, k, h, j + 1, o, ho => by
    have := allSteps_at l (k + 1) h.2 j o (by simpa using ho)
    rwa [show k + 1 + j = k + (j + 1) by omega] at this

/-- The law, operation by operation. -/
theorem region_each {id : Nat} {a0 : Act} {w : World} {l : List Oper} (hm : P.follows .mixedOrders = true) (hok : okB l.toArray a0.tmps.size = true)
    (V : Nat → Option Value) (J : (Nat → Bool) → (Nat → Value) → World → Prop) (r0 : Nat → Value)
    (h0 : J (fun _ => false) r0 { w with drawn := w.drawn + 1 })
    (step : AllSteps P l.toArray a0 V J l 0)
    (fin : ∀ done r W, (∀ k, k < l.length → done k = true) → J done r W → Vals V done r → Q .normal (putAll l 0 r a0) W) :
    (Code.region id l.toArray true).wp P Q a0 w := by
  refine region hm hok V J r0 h0 (fun k o ho done r W hJ hV hC hd hdeps => ?_) (fun done r W hall hJ hV => fin done r W (fun k hk => hall k (by simpa using hk)) hJ hV)
  have h := allSteps_at l 0 step k o (by simpa using ho)
  rw [Nat.zero_add] at h
  obtain ⟨h1, h2⟩ := h done r W _ rfl hJ hV hC hd hdeps
  split
  · rename_i hw; exact h1 hw
  · rename_i hw; exact h2 (by simpa using hw)

/-- What waits for an operation that is not done is not done. -/
theorem not_done {done : Nat → Bool} (hC : Closed ops done) (k j : Nat) {o : Oper} (ho : ops[k]? = some o) (hj : j ∈ deps o) (hd : done j = false) : done k = false := by
  cases e : done k with
  | false => rfl
  | true => have := hC k o ho e j hj; rw [hd] at this; cases this

/-- An operation that only makes a value. -/
theorem step_val {a0 : Act} {V : Nat → Option Value} {J : (Nat → Bool) → (Nat → Value) → World → Prop} {k : Nat} {o : Oper} (x : Value) (hg : o.guard = none) (hV : V k = some x)
    (h : ∀ done r W ρ, ρ = rd ops a0 k r → (∀ v, ρ (.const v) = v) → (∀ f, ρ (.func f) = .func (.func f) #[] #[]) → J done r W → Vals V done r → Closed ops done → done k = false → (∀ j ∈ deps o, done j = true) → (execOp ρ o).run P W = .ok (.value x) W ∧ J (upd done k) (updR r k x) W) : StepAt P ops a0 V J k o :=
  fun done r W ρ hρ hJ hVs hC hd hdeps => by
    obtain ⟨hrun, hJ'⟩ := h done r W ρ hρ (by rw [hρ]; exact fun _ => rfl) (by rw [hρ]; exact fun _ => rfl) hJ hVs hC hd hdeps
    refine ⟨fun _ => ?_, fun h => by unfold wantedR at h; rw [hg] at h; cases h⟩
    rw [hrun]
    exact ⟨fun y hy => by rw [hV] at hy; injection hy, hJ'⟩
/-- An operation that is always carried out. -/
theorem step_any {a0 : Act} {V : Nat → Option Value} {J : (Nat → Bool) → (Nat → Value) → World → Prop} {k : Nat} {o : Oper} (hg : o.guard = none) (hV : V k = none)
    (h : ∀ done r W ρ, ρ = rd ops a0 k r → (∀ v, ρ (.const v) = v) → (∀ f, ρ (.func f) = .func (.func f) #[] #[]) → J done r W → Vals V done r → Closed ops done → done k = false → (∀ j ∈ deps o, done j = true) → UponV P (fun v w' => J (upd done k) (updR r k v) w') ((execOp ρ o).run P W)) : StepAt P ops a0 V J k o :=
  fun done r W ρ hρ hJ hVs hC hd hdeps => by
    refine ⟨fun _ => ?_, fun h => by unfold wantedR at h; rw [hg] at h; cases h⟩
    have := h done r W ρ hρ (by rw [hρ]; exact fun _ => rfl) (by rw [hρ]; exact fun _ => rfl) hJ hVs hC hd hdeps
    have e : (fun (v : Value) w' => (∀ x, V k = some x → v = x) ∧ J (upd done k) (updR r k v) w') = fun v w' => J (upd done k) (updR r k v) w' := by
      funext v w'
      rw [hV]
      simp
    rw [e]
    exact this
end Free
end Go.Proofs.Ytmbgndcahlopdaa

/- A region that draws its order, walked once, in the text's order: operations that only make a value, whatever the world of a class, stand wherever they like; those that turn the world wait for one another. Over no program. -/
namespace Go.Proofs.Ytmbgndcahlopdaa
set_option maxRecDepth 100000
open Go Go.RowKit

namespace Free
section
variable {P : Program} {ops : Array Oper}

/-- For what each operation waits, through others too: a number's bits. -/
def masks : List Oper → List Nat → List Nat
  | [], acc => acc
  | o :: l, acc => masks l (acc ++ [(deps o).foldl (fun m d => m ||| (acc.getD d 0 ||| 1 <<< d)) 0])
def chainB (ops : Array Oper) (loud : List Nat) : Bool :=
  let ms := masks ops.toList []
  loud.all fun k => loud.all fun j => !decide (j < k) || (ms.getD k 0).testBit j

theorem bit_fold (g : Nat → Nat) (j : Nat) : ∀ (l : List Nat) (m : Nat), (l.foldl (fun m d => m ||| (g d ||| 1 <<< d)) m).testBit j = true → m.testBit j = true ∨ ∃ d ∈ l, (g d).testBit j = true ∨ j = d
  | [], m, h => .inl h
  | d :: l, m, h => by
    rcases bit_fold g j l _ h with h | ⟨d', hd, h⟩
    · rw [Nat.testBit_or, Nat.testBit_or, Bool.or_eq_true, Bool.or_eq_true] at h
      rcases h with h | h | h
      · exact .inl h
      · exact .inr ⟨d, List.mem_cons_self, .inl h⟩
      · refine .inr ⟨d, List.mem_cons_self, .inr ?_⟩
        rw [Nat.one_shiftLeft, Nat.testBit_two_pow] at h
        simpa using (of_decide_eq_true h).symm
    · exact .inr ⟨d', List.mem_cons_of_mem _ hd, h⟩
/-- What a mask tells: all that it names is done where all that the operation waits for is. -/
def MaskOk (ops : Array Oper) (acc : List Nat) : Prop :=
  ∀ (k m : Nat), acc[k]? = some m → ∃ o, ops[k]? = some o ∧ ∀ done, Closed ops done → (∀ d ∈ deps o, done d = true) → ∀ j, m.testBit j = true → done j = true
theorem masks_ok : ∀ (l : List Oper) (acc : List Nat), (∀ j, l[j]? = ops[acc.length + j]?) → MaskOk ops acc → MaskOk ops (masks l acc)
  | [], _, _, h => h
  | o :: l, acc, hl, h => by
    refine masks_ok l _ (fun j => ?_) ?_
    · have := hl (j + 1)
      simp only [List.getElem?_cons_succ] at this
      rw [this, List.length_append, List.length_singleton]
      congr 1
      omega
    · intro k m hk
      by_cases hlt : k < acc.length
      · rw [List.getElem?_append_left hlt] at hk
        exact h k m hk
      · have hkl : k < (acc ++ [(deps o).foldl (fun m d => m ||| (acc.getD d 0 ||| 1 <<< d)) 0]).length := (List.getElem?_eq_some_iff.1 hk).1
        rw [List.length_append, List.length_singleton] at hkl
        obtain rfl : k = acc.length := by omega
        rw [List.getElem?_append_right (Nat.le_refl _), Nat.sub_self] at hk
        simp only [List.getElem?_cons_zero, Option.some.injEq] at hk
        subst hk
        refine ⟨o, by rw [← Nat.add_zero acc.length, ← hl 0]; rfl, fun done hC hd j hj => ?_⟩
        rcases bit_fold _ _ _ _ hj with h0 | ⟨d, hdm, hb | rfl⟩
        · simp at h0
        · rw [List.getD_eq_getElem?_getD] at hb
          cases e : acc[d]? with
          | none => rw [e] at hb; simp at hb
          | some md =>
            rw [e] at hb
            obtain ⟨od, hod, h2⟩ := h d md e
            exact h2 done hC (fun d' hd' => hC d od hod (hd d hdm) d' hd') j hb
        · exact hd _ hdm
theorem chain_spec {loud : List Nat} (hc : chainB ops loud = true) {k j : Nat} (hk : k ∈ loud) (hj : j ∈ loud) (hjk : j < k) {o : Oper} (ho : ops[k]? = some o) {done : Nat → Bool} (hC : Closed ops done) (hd : ∀ d ∈ deps o, done d = true) : done j = true := by
  unfold chainB at hc
  have h1 := List.all_eq_true.1 (List.all_eq_true.1 hc k hk) j hj
  simp only [Bool.or_eq_true, Bool.not_eq_true', decide_eq_false_iff_not] at h1
  rcases h1 with h1 | h1
  · exact absurd hjk h1
  · have hm := masks_ok (ops := ops) ops.toList [] (by simp) (fun k m h => by simp at h)
    rw [List.getD_eq_getElem?_getD] at h1
    cases e : (masks ops.toList [])[k]? with
    | none => rw [e] at h1; simp at h1
    | some m =>
      rw [e] at h1
      obtain ⟨o', ho', h2⟩ := hm k m e
      rw [ho] at ho'
      injection ho' with ho'
      subst ho'
      exact h2 done hC hd j h1

/-- Where the last of those that turn the world stands, all others are done. -/
def endB (ops : Array Oper) (loud reads : List Nat) (last : Nat) : Bool :=
  decide (ops.size ≤ last) || (loud.contains last && (List.range ops.size).all fun k => loud.contains k || !reads.contains k || ((masks ops.toList []).getD last 0).testBit k)
theorem end_spec {loud reads : List Nat} {last : Nat} (h : endB ops loud reads last = true) (hlt : ∀ (i : Nat) oi, ops[i]? = some oi → ∀ d ∈ deps oi, d < i) :
    (last < ops.size → last ∈ loud) ∧ ∀ k, k < ops.size → k ∉ loud → reads.contains k = true → k < last ∧ ∀ done, Closed ops done → (last < ops.size → done last = true → done k = true) := by
  unfold endB at h
  rw [Bool.or_eq_true, decide_eq_true_eq] at h
  rcases h with h | h
  · exact ⟨fun h2 => by omega, fun k hk _ _ => ⟨by omega, fun done _ h2 => by omega⟩⟩
  · rw [Bool.and_eq_true] at h
    refine ⟨fun _ => by simpa using h.1, fun k hk hkl hrk => ?_⟩
    have h1 := List.all_eq_true.1 h.2 k (by simpa using hk)
    rw [hrk, Bool.not_true, Bool.or_false, Bool.or_eq_true] at h1
    rcases h1 with h1 | h1
    · exact absurd (by simpa using h1) hkl
    · have hm := masks_ok (ops := ops) ops.toList [] (by simp) (fun k m h => by simp at h)
      rw [List.getD_eq_getElem?_getD] at h1
      cases e : (masks ops.toList [])[last]? with
      | none => rw [e] at h1; simp at h1
      | some m =>
        rw [e] at h1
        obtain ⟨o, ho, h2⟩ := hm last m e
        refine ⟨?_, fun done hC _ hd => h2 done hC (fun d hdd => hC last o ho hd d hdd) k h1⟩
        have := h2 (fun j => decide (j < last)) (fun i oi hoi hi d hd => by
          have h3 := hlt i oi hoi d hd
          have h4 := of_decide_eq_true hi
          exact decide_eq_true (by omega)) (fun d hd => decide_eq_true (hlt last o ho d hd)) k h1
        exact of_decide_eq_true this

theorem UponV.mono {K K' : Value → World → Prop} (hk : ∀ v w', K v w' → K' v w') : ∀ {x : Result Next}, UponV P K x → UponV P K' x := by
  intro x h
  cases x with
  | ok n w' =>
    cases n with
    | value v => exact hk _ _ h
    | skip => exact hk _ _ h
    | enter f args => exact Calls.mono h fun e w'' ⟨v, he, hv⟩ => ⟨v, he, hk _ _ hv⟩
    | row row args => exact Rows.mono h fun v w'' hv => hk _ _ hv
    | _ => exact h.elim
  | halt _ _ => exact h.elim
/-- There is an outcome. -/
theorem UponV.some_ {K : Value → World → Prop} : ∀ {x : Result Next}, UponV P K x → ∃ v w', K v w' := by
  intro x h
  cases x with
  | ok n w' =>
    cases n with
    | value v => exact ⟨_, _, h⟩
    | skip => exact ⟨_, _, h⟩
    | enter f args =>
      obtain ⟨e, w'', fr, ⟨v, _, hv⟩, _⟩ := h []
      exact ⟨v, w'', hv⟩
    | row row args =>
      obtain ⟨v, w'', hv, _⟩ := h (Frame.ofRow P row args .normal) []
      exact ⟨v, w'', hv⟩
    | _ => exact h.elim
  | halt _ _ => exact h.elim

variable (P) (ops)
/-- The walk in the text's order, over the operations' values; what is done is passed over. -/
def SeqR (a0 : Act) (S : World → Prop) (loud reads : List Nat) (last : Nat) (fin : (Nat → Value) → World → Prop) (done : Nat → Bool) : List Oper → Nat → (Nat → Value) → World → Prop
  | [], _, r, w => fin r w
  | o :: l, k, r, w =>
    if done k = true then SeqR a0 S loud reads last fin done l (k + 1) r w
    else if wantedR o r = false then SeqR a0 S loud reads last fin done l (k + 1) (updR r k undef) w
    else if k ∈ loud then UponV P (fun v w' => (k < last → S w') ∧ SeqR a0 S loud reads last fin done l (k + 1) (updR r k v) w') ((execOp (rd ops a0 k r) o).run P w)
    else ∃ x, (∀ W, (reads.contains k = true → S W) → (execOp (rd ops a0 k r) o).run P W = .ok (.value x) W) ∧ SeqR a0 S loud reads last fin done l (k + 1) (updR r k x) w
variable {P} {ops}
variable {a0 : Act} {S : World → Prop} {loud reads : List Nat} {last : Nat} {fin : (Nat → Value) → World → Prop}

/-- Only what stands from here on is looked at. -/
theorem seqR_done {done done' : Nat → Bool} : ∀ (l : List Oper) (k : Nat) (r : Nat → Value) (w : World), (∀ j, k ≤ j → done j = done' j) → SeqR P ops a0 S loud reads last fin done l k r w → SeqR P ops a0 S loud reads last fin done' l k r w
  | [], _, _, _, _, h => h
  | o :: l, k, r, w, hd, h => by
    have hd' : ∀ j, k + 1 ≤ j → done j = done' j := fun j hj => hd j (by omega)
    unfold SeqR at h ⊢
    rw [← hd k (Nat.le_refl _)]
    split
    · rename_i e; rw [if_pos e] at h; exact seqR_done l _ _ _ hd' h
    · rename_i e
      rw [if_neg e] at h
      split
      · rename_i e2; rw [if_pos e2] at h; exact seqR_done l _ _ _ hd' h
      · rename_i e2
        rw [if_neg e2] at h
        split
        · rename_i e3
          rw [if_pos e3] at h
          exact UponV.mono (fun v w' ⟨h1, h2⟩ => ⟨h1, seqR_done l _ _ _ hd' h2⟩) h
        · rename_i e3
          rw [if_neg e3] at h
          obtain ⟨x, h1, h2⟩ := h
          exact ⟨x, h1, seqR_done l _ _ _ hd' h2⟩
theorem updR_comm (r : Nat → Value) {i k : Nat} (h : i ≠ k) (x y : Value) : updR (updR r i x) k y = updR (updR r k y) i x := by
  funext j
  unfold updR
  by_cases h1 : j = k
  · by_cases h2 : j = i
    · omega
    · simp [h1]; intro e; exact absurd e (fun e => h e.symm)
  · simp [h1]
theorem rd_upd {k i : Nat} {r : Nat → Value} {v : Value} {o : Oper} (ho : ops[k]? = some o) (h : i ∉ deps o) : rd ops a0 k (updR r i v) = rd ops a0 k r := by
  funext x
  cases x with
  | tmp t =>
    simp only [rd]
    cases prodOf ops t with
    | none => rfl
    | some j =>
      simp only [ho]
      by_cases hc : (deps o).contains j = true
      · rw [if_pos hc, if_pos hc]
        unfold updR
        rw [if_neg (fun e => h (by subst e; simpa using hc))]
      · rw [if_neg hc, if_neg hc]
  | _ => rfl
theorem wanted_upd {i : Nat} {r : Nat → Value} {v : Value} {o : Oper} (h : ∀ g b, o.guard = some (g, b) → g ≠ i) : wantedR o (updR r i v) = wantedR o r := by
  unfold wantedR
  cases e : o.guard with
  | none => rfl
  | some gb =>
    obtain ⟨g, b⟩ := gb
    have := h g b e
    simp only [updR, if_neg this]

/-- An operation that may come up now, taken ahead of those that stand before it. -/
structure May (ops : Array Oper) (loud : List Nat) (done : Nat → Bool) (k : Nat) (o : Oper) : Prop where
  at_ : ops[k]? = some o
  no : done k = false
  deps : ∀ d ∈ deps o, done d = true
  closed : Closed ops done
  lt : ∀ (i : Nat) oi, ops[i]? = some oi → ∀ d ∈ Free.deps oi, d < i
  guard : ∀ (i : Nat) oi, ops[i]? = some oi → ∀ g b, oi.guard = some (g, b) → g ∈ Free.deps oi
theorem upd_ne {done : Nat → Bool} {i k : Nat} (h : i ≠ k) : upd done k i = done i := by unfold upd; rw [if_neg h]

theorem take_skip {done : Nat → Bool} {k : Nat} {o : Oper} (m : May ops loud done k o) : ∀ (l : List Oper) (i : Nat) (r : Nat → Value) (w : World), (∀ j, l[j]? = ops[i + j]?) → i ≤ k → wantedR o r = false →
    SeqR P ops a0 S loud reads last fin done l i r w → SeqR P ops a0 S loud reads last fin (upd done k) l i (updR r k undef) w
  | [], i, r, w, hl, hi, _, _ => by
    have := hl (k - i)
    rw [show i + (k - i) = k by omega, m.at_] at this
    simp at this
  | o' :: l, i, r, w, hl, hi, hw, h => by
    have h0 : ops[i]? = some o' := by have := hl 0; simpa using this.symm
    have hl' : ∀ j, l[j]? = ops[i + 1 + j]? := fun j => by have := hl (j + 1); simp only [List.getElem?_cons_succ] at this; rw [this]; congr 1; omega
    by_cases hik : i = k
    · subst hik
      rw [m.at_] at h0
      injection h0 with h0
      subst h0
      unfold SeqR at h ⊢
      rw [if_neg (by rw [m.no]; exact fun e => by cases e), if_pos hw] at h
      rw [if_pos (by simp [upd])]
      exact seqR_done l _ _ _ (fun j hj => (upd_ne (by omega)).symm) h
    · have hdk : k ∉ Free.deps o' := fun e => by have := m.lt i o' h0 k e; omega
      have hgk : ∀ g b, o'.guard = some (g, b) → g ≠ k := fun g b e => by have := m.lt i o' h0 g (m.guard i o' h0 g b e); omega
      have hnd : done i = false → i ∉ Free.deps o := fun e hd => by rw [m.deps i hd] at e; cases e
      have hng : done i = false → ∀ g b, o.guard = some (g, b) → g ≠ i := fun e g b hg hgi => by have := m.deps g (m.guard k o m.at_ g b hg); rw [hgi, e] at this; cases this
      unfold SeqR at h ⊢
      rw [upd_ne hik, wanted_upd hgk, rd_upd h0 hdk]
      split
      · rename_i e; rw [if_pos e] at h; exact take_skip m l (i + 1) r w hl' (by omega) hw h
      · rename_i e
        have e' : done i = false := by simpa using e
        rw [if_neg e] at h
        split
        · rename_i e2
          rw [if_pos e2] at h
          rw [← updR_comm r hik]
          exact take_skip m l (i + 1) _ w hl' (by omega) (by rw [wanted_upd (hng e')]; exact hw) h
        · rename_i e2
          rw [if_neg e2] at h
          split
          · rename_i e3
            rw [if_pos e3] at h
            refine UponV.mono (fun v w' ⟨h1, h2⟩ => ⟨h1, ?_⟩) h
            rw [← updR_comm r hik]
            exact take_skip m l (i + 1) _ w' hl' (by omega) (by rw [wanted_upd (hng e')]; exact hw) h2
          · rename_i e3
            rw [if_neg e3] at h
            obtain ⟨x, h1, h2⟩ := h
            refine ⟨x, h1, ?_⟩
            rw [← updR_comm r hik]
            exact take_skip m l (i + 1) _ w hl' (by omega) (by rw [wanted_upd (hng e')]; exact hw) h2

theorem take_loud {done : Nat → Bool} {k : Nat} {o : Oper} (m : May ops loud done k o) (hk : k ∈ loud) (hc : chainB ops loud = true) : ∀ (l : List Oper) (i : Nat) (r : Nat → Value) (w : World), (∀ j, l[j]? = ops[i + j]?) → i ≤ k → wantedR o r = true →
    SeqR P ops a0 S loud reads last fin done l i r w → UponV P (fun v w' => (k < last → S w') ∧ SeqR P ops a0 S loud reads last fin (upd done k) l i (updR r k v) w') ((execOp (rd ops a0 k r) o).run P w)
  | [], i, r, w, hl, hi, _, _ => by
    have := hl (k - i)
    rw [show i + (k - i) = k by omega, m.at_] at this
    simp at this
  | o' :: l, i, r, w, hl, hi, hw, h => by
    have h0 : ops[i]? = some o' := by have := hl 0; simpa using this.symm
    have hl' : ∀ j, l[j]? = ops[i + 1 + j]? := fun j => by have := hl (j + 1); simp only [List.getElem?_cons_succ] at this; rw [this]; congr 1; omega
    by_cases hik : i = k
    · subst hik
      rw [m.at_] at h0
      injection h0 with h0
      subst h0
      unfold SeqR at h
      rw [if_neg (by rw [m.no]; exact fun e => by cases e), if_neg (by rw [hw]; exact fun e => by cases e), if_pos hk] at h
      refine UponV.mono (fun v w' ⟨h1, h2⟩ => ⟨h1, ?_⟩) h
      unfold SeqR
      rw [if_pos (by simp [upd])]
      exact seqR_done l _ _ _ (fun j hj => (upd_ne (by omega)).symm) h2
    · have hdk : k ∉ Free.deps o' := fun e => by have := m.lt i o' h0 k e; omega
      have hgk : ∀ g b, o'.guard = some (g, b) → g ≠ k := fun g b e => by have := m.lt i o' h0 g (m.guard i o' h0 g b e); omega
      have hnd : done i = false → i ∉ Free.deps o := fun e hd => by rw [m.deps i hd] at e; cases e
      have hng : done i = false → ∀ g b, o.guard = some (g, b) → g ≠ i := fun e g b hg hgi => by have := m.deps g (m.guard k o m.at_ g b hg); rw [hgi, e] at this; cases this
      unfold SeqR at h
      by_cases e : done i = true
      · rw [if_pos e] at h
        refine UponV.mono (fun v w' ⟨h1, h2⟩ => ⟨h1, ?_⟩) (take_loud m hk hc l (i + 1) r w hl' (by omega) hw h)
        unfold SeqR
        rw [upd_ne hik, if_pos e]
        exact h2
      · have e' : done i = false := by simpa using e
        rw [if_neg e] at h
        by_cases e2 : wantedR o' r = false
        · rw [if_pos e2] at h
          have := take_loud m hk hc l (i + 1) _ w hl' (by omega) (by rw [wanted_upd (hng e')]; exact hw) h
          rw [rd_upd m.at_ (hnd e')] at this
          refine UponV.mono (fun v w' ⟨h1, h2⟩ => ⟨h1, ?_⟩) this
          unfold SeqR
          rw [upd_ne hik, if_neg e, wanted_upd hgk, if_pos e2, ← updR_comm r hik]
          exact h2
        · rw [if_neg e2] at h
          by_cases e3 : i ∈ loud
          · exact absurd (chain_spec hc hk e3 (by omega) m.at_ m.closed m.deps) e
          · rw [if_neg e3] at h
            obtain ⟨x, hx, h⟩ := h
            have := take_loud m hk hc l (i + 1) _ w hl' (by omega) (by rw [wanted_upd (hng e')]; exact hw) h
            rw [rd_upd m.at_ (hnd e')] at this
            refine UponV.mono (fun v w' ⟨h1, h2⟩ => ⟨h1, ?_⟩) this
            unfold SeqR
            rw [upd_ne hik, if_neg e, wanted_upd hgk, if_neg e2, if_neg e3, rd_upd h0 hdk]
            refine ⟨x, hx, ?_⟩
            rw [← updR_comm r hik]
            exact h2

theorem take_quiet {done : Nat → Bool} {k : Nat} {o : Oper} (m : May ops loud done k o) (hk : k ∉ loud) (hkl : reads.contains k = true → k < last) : ∀ (l : List Oper) (i : Nat) (r : Nat → Value) (w : World), (reads.contains k = true → S w) → (∀ j, l[j]? = ops[i + j]?) → i ≤ k → wantedR o r = true →
    SeqR P ops a0 S loud reads last fin done l i r w → ∃ x, (∀ W, (reads.contains k = true → S W) → (execOp (rd ops a0 k r) o).run P W = .ok (.value x) W) ∧ SeqR P ops a0 S loud reads last fin (upd done k) l i (updR r k x) w
  | [], i, r, w, _, hl, hi, _, _ => by
    have := hl (k - i)
    rw [show i + (k - i) = k by omega, m.at_] at this
    simp at this
  | o' :: l, i, r, w, hS, hl, hi, hw, h => by
    have h0 : ops[i]? = some o' := by have := hl 0; simpa using this.symm
    have hl' : ∀ j, l[j]? = ops[i + 1 + j]? := fun j => by have := hl (j + 1); simp only [List.getElem?_cons_succ] at this; rw [this]; congr 1; omega
    by_cases hik : i = k
    · subst hik
      rw [m.at_] at h0
      injection h0 with h0
      subst h0
      unfold SeqR at h
      rw [if_neg (by rw [m.no]; exact fun e => by cases e), if_neg (by rw [hw]; exact fun e => by cases e), if_neg hk] at h
      obtain ⟨x, h1, h2⟩ := h
      refine ⟨x, h1, ?_⟩
      unfold SeqR
      rw [if_pos (by simp [upd])]
      exact seqR_done l _ _ _ (fun j hj => (upd_ne (by omega)).symm) h2
    · have hdk : k ∉ Free.deps o' := fun e => by have := m.lt i o' h0 k e; omega
      have hgk : ∀ g b, o'.guard = some (g, b) → g ≠ k := fun g b e => by have := m.lt i o' h0 g (m.guard i o' h0 g b e); omega
      have hnd : done i = false → i ∉ Free.deps o := fun e hd => by rw [m.deps i hd] at e; cases e
      have hng : done i = false → ∀ g b, o.guard = some (g, b) → g ≠ i := fun e g b hg hgi => by have := m.deps g (m.guard k o m.at_ g b hg); rw [hgi, e] at this; cases this
      unfold SeqR at h
      by_cases e : done i = true
      · rw [if_pos e] at h
        obtain ⟨x, h1, h2⟩ := take_quiet m hk hkl l (i + 1) r w hS hl' (by omega) hw h
        refine ⟨x, h1, ?_⟩
        unfold SeqR
        rw [upd_ne hik, if_pos e]
        exact h2
      · have e' : done i = false := by simpa using e
        rw [if_neg e] at h
        by_cases e2 : wantedR o' r = false
        · rw [if_pos e2] at h
          obtain ⟨x, h1, h2⟩ := take_quiet m hk hkl l (i + 1) _ w hS hl' (by omega) (by rw [wanted_upd (hng e')]; exact hw) h
          rw [rd_upd m.at_ (hnd e')] at h1
          refine ⟨x, h1, ?_⟩
          unfold SeqR
          rw [upd_ne hik, if_neg e, wanted_upd hgk, if_pos e2, ← updR_comm r hik]
          exact h2
        · rw [if_neg e2] at h
          by_cases e3 : i ∈ loud
          · rw [if_pos e3] at h
            have hall : UponV P (fun v w' => (i < last → S w') ∧ ∃ x, (∀ W, (reads.contains k = true → S W) → (execOp (rd ops a0 k r) o).run P W = .ok (.value x) W) ∧ SeqR P ops a0 S loud reads last fin (upd done k) l (i + 1) (updR (updR r k x) i v) w') ((execOp (rd ops a0 i r) o').run P w) := by
              refine UponV.mono (fun v w' ⟨hS', h1⟩ => ⟨hS', ?_⟩) h
              obtain ⟨x, h2, h3⟩ := take_quiet m hk hkl l (i + 1) _ w' (fun hn => hS' (by have := hkl hn; omega)) hl' (by omega) (by rw [wanted_upd (hng e')]; exact hw) h1
              rw [rd_upd m.at_ (hnd e')] at h2
              refine ⟨x, h2, ?_⟩
              rw [← updR_comm r hik]
              exact h3
            obtain ⟨v0, w0, _, x, hx, _⟩ := hall.some_
            refine ⟨x, hx, ?_⟩
            unfold SeqR
            rw [upd_ne hik, if_neg e, wanted_upd hgk, if_neg e2, if_pos e3, rd_upd h0 hdk]
            refine UponV.mono (fun v w' ⟨hS', x', hx', h3⟩ => ⟨hS', ?_⟩) hall
            have : x' = x := by
              have h1 := hx' w hS
              rw [hx w hS] at h1
              injection h1 with h1
              injection h1 with h1
              exact h1.symm
            subst this
            exact h3
          · rw [if_neg e3] at h
            obtain ⟨y, hy, h⟩ := h
            obtain ⟨x, h1, h2⟩ := take_quiet m hk hkl l (i + 1) _ w hS hl' (by omega) (by rw [wanted_upd (hng e')]; exact hw) h
            rw [rd_upd m.at_ (hnd e')] at h1
            refine ⟨x, h1, ?_⟩
            unfold SeqR
            rw [upd_ne hik, if_neg e, wanted_upd hgk, if_neg e2, if_neg e3, rd_upd h0 hdk]
            refine ⟨y, hy, ?_⟩
            rw [← updR_comm r hik]
            exact h2
theorem seqR_all {done : Nat → Bool} : ∀ (l : List Oper) (k : Nat) (r : Nat → Value) (w : World), (∀ j, k ≤ j → j < k + l.length → done j = true) → SeqR P ops a0 S loud reads last fin done l k r w → fin r w
  | [], _, _, _, _, h => h
  | o :: l, k, r, w, hd, h => by
    unfold SeqR at h
    rw [if_pos (hd k (Nat.le_refl _) (by simp))] at h
    exact seqR_all l (k + 1) r w (fun j h1 h2 => hd j (by omega) (by simp; omega)) h

theorem slot_put {n k : Nat} {o : Oper} {a : Act} {done : Nat → Bool} {r : Nat → Value} (okk : Ok ops n k o) (ho : ops[k]? = some o) (hkf : done k = false) (hsl : ∀ d, a.tmps[d]? = slot ops a0 done r d) (v : Value) : ∀ d, (a.put o.dst v).tmps[d]? = slot ops a0 (upd done k) (updR r k v) d := by
  intro d
  by_cases hod : o.dst = some d
  · obtain ⟨hdn, hp, -⟩ := okk.dst d hod
    rw [hod, put_same, hsl d]
    unfold slot
    rw [hp]
    simp only [hkf, Bool.false_eq_true, if_false]
    unfold upd updR
    simp
  · rw [put_other hod, hsl d]
    unfold slot
    cases hp : prodOf ops d with
    | none => rfl
    | some j =>
      have hjk : j ≠ k := by
        rintro rfl
        have := (prodOf_spec hp).2
        unfold dstOf at this
        rw [ho] at this
        exact hod this
      simp only [upd, updR, if_neg hjk]

variable (P) (ops)
/-- The walk in the text's order, over the frame. -/
def Seq (S : World → Prop) (loud reads : List Nat) (last : Nat) (Q : Act → World → Prop) : List Oper → Nat → Act → World → Prop
  | [], _, a, w => Q a w
  | o :: l, k, a, w =>
    if Region.wanted o (yielded ops a.tmps) = true then
      if k ∈ loud then UponV P (fun v w' => (k < last → S w') ∧ Seq S loud reads last Q l (k + 1) (a.put o.dst v) w') ((execOp a.eval o).run P w)
      else ∃ x, (∀ W, (reads.contains k = true → S W) → (execOp a.eval o).run P W = .ok (.value x) W) ∧ Seq S loud reads last Q l (k + 1) (a.put o.dst x) w
    else Seq S loud reads last Q l (k + 1) (a.put o.dst undef) w
variable {P} {ops}

theorem upd_lt (k : Nat) : upd (fun j => decide (j < k)) k = fun j => decide (j < k + 1) := by
  funext j
  unfold upd
  by_cases h : j = k
  · subst h; simp
  · rw [if_neg h]
    by_cases h2 : j < k
    · simp [h2]; omega
    · simp [h2]; omega

theorem seqR_of {Q : Act → World → Prop} (hok : okB ops a0.tmps.size = true) : ∀ (l : List Oper) (k : Nat) (r : Nat → Value) (a : Act) (w : World), (∀ j, l[j]? = ops[k + j]?) → a.defers = a0.defers → (∀ d, a.tmps[d]? = slot ops a0 (fun j => decide (j < k)) r d) →
    Seq P ops S loud reads last Q l k a w → SeqR P ops a0 S loud reads last (fun r w => Q (putAll ops.toList 0 r a0) w) (fun _ => false) l k r w
  | [], k, r, a, w, hl, hdf, hsl, h => by
    have hk : ops.size ≤ k := by
      have := hl 0
      simp only [List.getElem?_nil, Nat.add_zero] at this
      exact Array.getElem?_eq_none_iff.1 this.symm
    have hall : ∀ j, j < ops.size → decide (j < k) = true := fun j hj => decide_eq_true (by omega)
    have ea : a = putAll ops.toList 0 r a0 := by
      have h1 : a.tmps = (putAll ops.toList 0 r a0).tmps := by
        refine Array.ext_getElem? fun d => ?_
        rw [hsl d]
        cases hp : prodOf ops d with
        | none =>
          simp only [slot, hp]
          rw [putAll_other]
          intro o ho
          obtain ⟨j, hj, rfl⟩ := List.getElem_of_mem ho
          have := prodOf_none hp (j := j) (by simpa using hj)
          unfold dstOf at this
          rw [Array.getElem?_eq_getElem (by simpa using hj)] at this
          simpa using this
        | some j =>
          obtain ⟨hjl, hdst⟩ := prodOf_spec hp
          obtain ⟨oj, hoj⟩ : ∃ oj, ops[j]? = some oj := ⟨_, Array.getElem?_eq_getElem hjl⟩
          have hdj : oj.dst = some d := by unfold dstOf at hdst; rw [hoj] at hdst; exact hdst
          have hj1 := hall j hjl
          simp only [slot, hp, hj1, if_true]
          rw [putAll_same ops.toList 0 r a0 j oj (by simpa using hoj) hdj, Nat.zero_add]
          intro i x hx hne
          have hil : i < ops.size := by
            have := (List.getElem?_eq_some_iff.1 hx).1
            simpa using this
          have := ((ok_of hok hoj).dst d hdj).2.2 i hil hne
          unfold dstOf at this
          rw [show ops[i]? = some x by simpa using hx] at this
          exact this
      have h2 : a.defers = (putAll ops.toList 0 r a0).defers := by rw [putAll_defers, hdf]
      cases a
      simp only at h1 h2
      rw [h1, h2]
    show Q _ w
    rw [← ea]
    exact h
  | o :: l, k, r, a, w, hl, hdf, hsl, h => by
    have ho : ops[k]? = some o := by have := hl 0; simpa using this.symm
    have hl' : ∀ j, l[j]? = ops[k + 1 + j]? := fun j => by have := hl (j + 1); simp only [List.getElem?_cons_succ] at this; rw [this]; congr 1; omega
    have okk := ok_of hok ho
    have hks : k < ops.size := (Array.getElem?_eq_some_iff.1 ho).1
    have hrd : ∀ x ∈ o.op.operands, a.eval x = rd ops a0 k r x := by
      intro x hx
      cases x with
      | tmp t =>
        have e0 : a.eval (.tmp t) = (slot ops a0 (fun j => decide (j < k)) r t).getD undef := by
          show a.tmps.getD t undef = _
          rw [Array.getD_eq_getD_getElem?, hsl t]
        have e1 : a0.eval (.tmp t) = (a0.tmps[t]?).getD undef := by
          show a0.tmps.getD t undef = _
          rw [Array.getD_eq_getD_getElem?]
        rw [e0]
        cases hp : prodOf ops t with
        | none =>
          simp only [slot, rd, hp]
          exact e1.symm
        | some j =>
          have hdst := (prodOf_spec hp).2
          obtain ⟨oj, hoj⟩ : ∃ oj, ops[j]? = some oj := ⟨_, Array.getElem?_eq_getElem (prodOf_spec hp).1⟩
          have hdj : oj.dst = some t := by unfold dstOf at hdst; rw [hoj] at hdst; exact hdst
          have hlt := ((ok_of hok hoj).dst t hdj).1
          rcases okk.reads t hx j hp with hj | ⟨oj', hoj', hkj⟩
          · have hc : (deps o).contains j = true := by simpa using hj
            have hjk : decide (j < k) = true := decide_eq_true (okk.lt j hj)
            simp only [slot, rd, hp, ho, hjk, hc, if_true, Array.getElem?_eq_getElem hlt]
            rfl
          · rw [hoj] at hoj'
            injection hoj' with hoj'
            subst hoj'
            have hkj2 := (ok_of hok hoj).lt k hkj
            have hjf : decide (j < k) = false := decide_eq_false (by omega)
            have hnot : (deps o).contains j = false := by
              cases e : (deps o).contains j with
              | false => rfl
              | true =>
                have h1 := okk.lt j (by simpa using e)
                omega
            simp only [slot, rd, hp, ho, hjf, hnot, Bool.false_eq_true, if_false]
            exact e1.symm
      | const v => rfl
      | global g => rfl
      | func f => rfl
    have hwant : Region.wanted o (yielded ops a.tmps) = wantedR o r := by
      unfold Region.wanted wantedR
      cases hg : o.guard with
      | none => rfl
      | some gb =>
        obtain ⟨g, b⟩ := gb
        obtain ⟨hgd, d, hgs⟩ := okk.guard g b hg
        have hgk := okk.lt g hgd
        obtain ⟨og, hog⟩ : ∃ og, ops[g]? = some og := ⟨_, Array.getElem?_eq_getElem (by omega)⟩
        have hdg : og.dst = some d := by unfold dstOf at hgs; rw [hog] at hgs; exact hgs
        obtain ⟨hdn, hp, -⟩ := (ok_of hok hog).dst d hdg
        have e : yielded ops a.tmps g = boolOf (r g) := by
          have hs : a.tmps[d]? = some (r g) := by
            rw [hsl d]
            unfold slot
            rw [hp]
            simp only [decide_eq_true hgk, if_true, Array.getElem?_eq_getElem hdn, Option.map_some]
          unfold yielded
          rw [hog]
          simp only [Option.bind_some, hdg, hs]
          cases r g <;> rfl
        simp only [e]
    have hex : execOp (rd ops a0 k r) o = execOp a.eval o := execOp_congr o (fun cs b => (Region.noSelect_spec (Bool.and_eq_true _ _ ▸ hok).1) k o cs b ho) (fun x hx => (hrd x hx).symm)
    have hput : ∀ v d, (a.put o.dst v).tmps[d]? = slot ops a0 (fun j => decide (j < k + 1)) (updR r k v) d := fun v d => by
      rw [← upd_lt]
      exact slot_put okk ho (decide_eq_false (by omega)) hsl v d
    have hpd : ∀ v, (a.put o.dst v).defers = a0.defers := fun v => by rw [← hdf]; cases o.dst <;> rfl
    unfold Seq at h
    unfold SeqR
    rw [if_neg (by simp)]
    rw [hwant] at h
    by_cases hw : wantedR o r = true
    · rw [if_pos hw] at h
      rw [if_neg (by rw [hw]; simp), hex]
      by_cases hk : k ∈ loud
      · rw [if_pos hk] at h ⊢
        exact UponV.mono (fun v w' ⟨h1, h2⟩ => ⟨h1, seqR_of hok l (k + 1) _ _ w' hl' (hpd v) (hput v) h2⟩) h
      · rw [if_neg hk] at h ⊢
        obtain ⟨x, h1, h2⟩ := h
        exact ⟨x, h1, seqR_of hok l (k + 1) _ _ w hl' (hpd x) (hput x) h2⟩
    · rw [if_neg hw] at h
      rw [if_pos (by simpa using hw)]
      exact seqR_of hok l (k + 1) _ _ w hl' (hpd _) (hput _) h

/-- The law: a region that draws its order, walked once. `loud`: the operations that turn the world; each waits for those before it; where `last` of them stands, all others are done. Each of the others makes one value in all worlds of S. -/
theorem region_seq {id : Nat} {Q : Exit → Act → World → Prop} {w : World} {l : List Oper} (loud reads : List Nat) (last : Nat) (S : World → Prop) (hm : P.follows .mixedOrders = true) (hok : okB l.toArray a0.tmps.size = true) (hc : chainB l.toArray loud = true) (he : endB l.toArray loud reads last = true) (hS : S w.drew)
    (h : ∀ ops, ops = l.toArray → Seq P ops S loud reads last (fun a w => Q .normal a w) l 0 a0 w.drew) : (Code.region id l.toArray true).wp P Q a0 w := by
  have hR := seqR_of (P := P) (S := S) (loud := loud) (reads := reads) (last := last) hok l 0 (fun _ => undef) a0 w.drew (by simp) rfl (fun d => by unfold slot; cases prodOf l.toArray d <;> rfl) (h _ rfl)
  have hlt : ∀ (i : Nat) oi, l.toArray[i]? = some oi → ∀ d ∈ deps oi, d < i := fun i oi hoi d hdd => (ok_of hok hoi).lt d hdd
  obtain ⟨he1, he2⟩ := end_spec he hlt
  refine region hm hok (fun _ => none) (fun done r W => ((last < l.toArray.size → done last = false) → S W) ∧ SeqR P l.toArray a0 S loud reads last (fun r w => Q .normal (putAll l.toArray.toList 0 r a0) w) done l 0 r W) (fun _ => undef) ⟨fun _ => hS, hR⟩ ?_ ?_
  · intro k o ho done r W ⟨hSW, hJ⟩ _ hC hd hdeps
    have hks : k < l.toArray.size := (Array.getElem?_eq_some_iff.1 ho).1
    have m : May l.toArray loud done k o := ⟨ho, hd, hdeps, hC, hlt, fun i oi hoi g b hg => ((ok_of hok hoi).guard g b hg).1⟩
    have hup : upd done k last = false → done last = false := fun e => by
      unfold upd at e
      split at e
      · cases e
      · exact e
    by_cases hw : wantedR o r = true
    · rw [if_pos hw]
      by_cases hk : k ∈ loud
      · refine UponV.mono (fun v w' ⟨h1, h2⟩ => ⟨fun x hx => (nomatch hx), fun e' => h1 ?_, h2⟩) (take_loud m hk hc l 0 r W (by simp) (Nat.zero_le _) hw hJ)
        by_cases hl : last < l.toArray.size
        · have e := e' hl
          have hne : k ≠ last := fun e2 => by
            subst e2
            simp [upd] at e
          by_cases hkl : k < last
          · exact hkl
          · have := chain_spec hc hk (he1 hl) (by omega) ho hC hdeps
            rw [hup e] at this
            cases this
        · omega
      · have hS' : reads.contains k = true → S W := fun hn => hSW fun hl => by
          cases e : done last with
          | false => rfl
          | true =>
            have := (he2 k hks hk hn).2 done hC hl e
            rw [hd] at this
            cases this
        obtain ⟨x, h1, h2⟩ := take_quiet m hk (fun hn => (he2 k hks hk hn).1) l 0 r W hS' (by simp) (Nat.zero_le _) hw hJ
        rw [h1 W hS']
        exact ⟨fun y hy => (nomatch hy), fun e => hSW fun hl => hup (e hl), h2⟩
    · rw [if_neg hw]
      exact ⟨fun x hx => (nomatch hx), fun e => hSW fun hl => hup (e hl), take_skip m l 0 r W (by simp) (Nat.zero_le _) (by simpa using hw) hJ⟩
  · intro done r W hall ⟨_, hJ⟩ _
    exact seqR_all l 0 r W (fun j _ hj => hall j (by simpa using hj)) hJ

/-! The steps. -/
theorem Seq.nil_ {Q : Act → World → Prop} {k : Nat} {a : Act} {w : World} (h : Q a w) : Seq P ops S loud reads last Q [] k a w := h
/-- An operation that makes a value. -/
theorem Seq.quiet {Q : Act → World → Prop} {o : Oper} {l : List Oper} {k : Nat} {a : Act} {w : World} {v : Value} {a' : Act} (hl : loud.contains k = false) (hg : Region.wanted o (yielded ops a.tmps) = true)
    (hq : ∀ W, (reads.contains k = true → S W) → (execOp a.eval o).run P W = .ok (.value v) W) (ha : a.put o.dst v = a') (h : Seq P ops S loud reads last Q l (k + 1) a' w) : Seq P ops S loud reads last Q (o :: l) k a w := by
  unfold Seq
  rw [if_pos hg, if_neg (by simpa using hl)]
  exact ⟨v, hq, ha ▸ h⟩
/-- An operation that turns the world. -/
theorem Seq.loud_ {Q : Act → World → Prop} {o : Oper} {l : List Oper} {k : Nat} {a : Act} {w : World} (hl : loud.contains k = true) (hg : o.guard = none ∨ Region.wanted o (yielded ops a.tmps) = true)
    (h : ∀ K : Act → World → Prop, Hid (∀ a' w', a'.defers = a.defers → (k < last → S w') → Seq P ops S loud reads last Q l (k + 1) a' w' → K a' w') → if Region.wanted o (yielded ops a.tmps) = true then Oper.wp P o a w K (fun _ _ _ => False) else K (a.put o.dst undef) w) : Seq P ops S loud reads last Q (o :: l) k a w := by
  have hg' : Region.wanted o (yielded ops a.tmps) = true := by
    rcases hg with hg | hg
    · unfold Region.wanted; rw [hg]
    · exact hg
  have h1 := h (fun a' w' => a'.defers = a.defers ∧ (k < last → S w') ∧ Seq P ops S loud reads last Q l (k + 1) a' w') (show Hid _ from fun a' w' e1 e2 e3 => ⟨e1, e2, e3⟩)
  rw [if_pos hg'] at h1
  unfold Seq
  rw [if_pos hg', if_pos (by simpa using hl)]
  unfold Oper.wp at h1
  revert h1
  generalize (execOp a.eval o).run P w = x
  intro h1
  cases x with
  | ok n w' =>
    cases n with
    | value v => exact ⟨h1.2.1, h1.2.2⟩
    | skip => exact ⟨h1.2.1, h1.2.2⟩
    | defer d =>
      have := h1.1
      exfalso
      have e : d :: a.defers = a.defers := by
        generalize o.dst = x at this
        cases x <;> exact this
      exact absurd (congrArg List.length e) (by simp)
    | enter f args =>
      refine Calls.mono h1 fun e w'' he => ?_
      cases e with
      | returned v => exact ⟨v, rfl, he.2.1, he.2.2⟩
      | panicked c => exact he.elim
      | outgrown => obtain ⟨_, _, h⟩ := he; exact h.elim
    | row row args => exact Rows.mono h1 fun v w'' hv => ⟨hv.2.1, hv.2.2⟩
    | _ => exact h1.elim
  | halt c w' =>
    cases c <;> exact (h1 : False).elim
end
end Free
end Go.Proofs.Ytmbgndcahlopdaa
