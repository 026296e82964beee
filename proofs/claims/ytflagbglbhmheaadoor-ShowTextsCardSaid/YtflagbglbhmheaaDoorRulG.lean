/- The walks of cond and of label, by the depth; and of From. -/
import Derived.Test.YtflagbglbhmheaaDoorRulF
namespace Go.Proofs.YtflagbglbhmheaaDoor
set_option maxRecDepth 100000
open Go.RowKit Go.Shelf
attribute [local go_sem] Oper.semAt_some

theorem Rd.new_safe {R M c : Nat} {A : Option Addr} {l : List Lx.Tk} {s : Rl.St} {rv : Value} {w : World} (h : Rd R M A c l s rv w) (o : Obj) : Safe R rv (w.alloc o) w.heap.size := by
  refine ⟨by simp, by have := h.lt; omega, fun e => ?_⟩
  have := (h.own.lt _ e.symm).2
  omega
theorem rows_both {R M c : Nat} {A : Option Addr} {l : List Lx.Tk} {o : Nat} {sort : Bool} {g : FuncId} {p : Rl.St → Rl.Res} (hen : ∀ args W, (callFunc g args).run Tryd.prog W = .ok (.enter g args) W) (he : Rl.Ends l) (hl : l.length ≤ 1000000) (w1 w2 : ByteArray)
    (hw : ∀ w ∈ [w1, w2], ∀ q, Rl.step q (Rl.opOf w) = Rl.two q sort sort) (hg : Rl.Good l o sort p) (hp : ParsesAll R M A c l g p o) (b : Nat) : RowsAll R M A c l g b #[.string w1, .string w2] (.slice (some ⟨b, 0, none⟩) 2 2) (Rl.rows l p [w1, w2]) o :=
  rows_two he hl b _ rfl (Rl.rows_good he hg [w2] fun w h => hw w (.tail _ h)) (rows_one he hl b _ rfl (Rl.rows_good he hg [] fun w h => by cases h) (rows_none hen hp b _ _ _))

set_option maxHeartbeats 1000000 in
theorem label_of {R M c : Nat} {A : Option Addr} {l : List Lx.Tk} {o : Nat} {p : Rl.St → Rl.Res} (he : Rl.Ends l) (hl : l.length ≤ 1000000) (hg : Rl.Good l o true p) (hp : ParsesAll R M A c l 43 p o) :
    ParsesAll R M A c l 24 (Rl.rows l p [Rl.wJoin, Rl.wMeet]) o := by
  intro s hpos hd ho w rv h
  have hmf : ∀ (fn : Fn) (first cap : Array Value) (w : World), (Instr.makeFunc fn first cap).run Tryd.prog w = .ok (.func fn first cap) w := fun _ _ _ _ => rfl
  have hst := (Still.refl R rv w).alloc (.cells #[.string Rl.wJoin, .string Rl.wMeet] 9)
  have hr := rows_both (sort := true) Tryd.call43 he hl Rl.wJoin Rl.wMeet Rl.word_join hg hp w.heap.size s hpos hd ho _ rv (h.kept ((Below.refl _ w).alloc (Nat.le_refl _) _)) (Blk.new w 9 #[.string Rl.wJoin, .string Rl.wMeet]) (h.new_safe _)
  have HR := Lib.hid hr
  have HST := Lib.hid hst
  clear hr hst h hp hg
  go_enter Tryd.func24, Tryd.ntmps24
  go_wp2_with (fail)
  refine HR.out.mono ?_
  rintro e w1 ⟨rv1, rfl, h1, hs1⟩
  have H1 := Lib.hid h1
  have HS1 := Lib.hid hs1
  clear h1 hs1
  go_wp2
  go_ret
  exact ⟨_, rfl, H1.out, HST.out.trans HS1.out⟩
set_option maxHeartbeats 1000000 in
theorem cond_of {R M c : Nat} {A : Option Addr} {l : List Lx.Tk} {o : Nat} {p : Rl.St → Rl.Res} (he : Rl.Ends l) (hl : l.length ≤ 1000000) (hg : Rl.Good l o false p) (hp : ParsesAll R M A c l 42 p o) :
    ParsesAll R M A c l 23 (Rl.rows l p [Rl.wOr, Rl.wAnd]) o := by
  intro s hpos hd ho w rv h
  have hmf : ∀ (fn : Fn) (first cap : Array Value) (w : World), (Instr.makeFunc fn first cap).run Tryd.prog w = .ok (.func fn first cap) w := fun _ _ _ _ => rfl
  have hst := (Still.refl R rv w).alloc (.cells #[.string Rl.wOr, .string Rl.wAnd] 9)
  have hr := rows_both (sort := false) Tryd.call42 he hl Rl.wOr Rl.wAnd Rl.word_or hg hp w.heap.size s hpos hd ho _ rv (h.kept ((Below.refl _ w).alloc (Nat.le_refl _) _)) (Blk.new w 9 #[.string Rl.wOr, .string Rl.wAnd]) (h.new_safe _)
  have HR := Lib.hid hr
  have HST := Lib.hid hst
  clear hr hst h hp hg
  go_enter Tryd.func23, Tryd.ntmps23
  go_wp2_with (fail)
  refine HR.out.mono ?_
  rintro e w1 ⟨rv1, rfl, h1, hs1⟩
  have H1 := Lib.hid h1
  have HS1 := Lib.hid hs1
  clear h1 hs1
  go_wp2
  go_ret
  exact ⟨_, rfl, H1.out, HST.out.trans HS1.out⟩

section
variable {R M c : Nat} {A : Option Addr} {l : List Lx.Tk}
theorem label_all (he : Rl.Ends l) (hl : l.length ≤ 1000000) : ∀ (d o : Nat), o + d = 12 → ParsesAll R M A c l 24 (Rl.label l (d + 1)) o
  | 0, o, h => label_of he hl (Rl.atom_good he (by omega) fun h2 => absurd h2 (by omega)) fun s hpos hd ho w rv hr =>
      atom_any w hr he hl hpos (by omega) ho (fun h2 => absurd h2 (by omega)) fun h2 => absurd h2 (by omega)
  | d + 1, o, h => label_of he hl (Rl.atom_good he (by omega) fun _ => Rl.label_good he d (o + 1) (by omega)) fun s hpos hd ho w rv hr =>
      atom_any w hr he hl hpos (by omega) ho
        (fun _ hn => by
          obtain ⟨g1, _, g3⟩ := Rl.label_good he d (o + 1) (by omega) (Rl.into s) (Rl.isN_lt he hn) (by show s.deep + 1 = _; omega) ho
          exact ⟨g1, fun hh => by rw [(g3 hh).1, hd]⟩)
        fun _ hn => label_all he hl d (o + 1) (by omega) (Rl.into s) (Rl.isN_lt he hn) (by show s.deep + 1 = _; omega) ho
theorem cond_all (he : Rl.Ends l) (hl : l.length ≤ 1000000) : ∀ (d o : Nat), o + d = 12 → ParsesAll R M A c l 23 (Rl.cond l (d + 1)) o
  | 0, o, h => cond_of he hl (Rl.prim_good he (by omega) (fun h2 => absurd h2 (by omega)) (Rl.label_good he 0 o h))
      (prim_any he hl (by omega) (Rl.label_good he 0 o h) (label_all he hl 0 o h) (fun h2 => absurd h2 (by omega)) fun h2 => absurd h2 (by omega))
  | d + 1, o, h => cond_of he hl (Rl.prim_good he (by omega) (fun _ => Rl.cond_good he d (o + 1) (by omega)) (Rl.label_good he (d + 1) o h))
      (prim_any he hl (by omega) (Rl.label_good he (d + 1) o h) (label_all he hl (d + 1) o h) (fun _ => Rl.cond_good he d (o + 1) (by omega)) fun _ => cond_all he hl d (o + 1) (by omega))
end

/-- A slice of numbers. -/
def IsInts (w : World) (B : Nat) (v : Value) (l : List Int) : Prop := ∃ A c, v = .slice A l.length c ∧ Row w B A (ints l) ∧ l.length ≤ c
theorem IsInts.below {w w' : World} {B : Nat} {v : Value} {l : List Int} (h : IsInts w B v l) (hb : Below B w w') : IsInts w' B v l := by
  obtain ⟨A, c, e, hr, hc⟩ := h
  exact ⟨A, c, e, hr.below hb, hc⟩
theorem IsInts.more {w : World} {B B' : Nat} {v : Value} {l : List Int} (h : IsInts w B v l) (hB : B ≤ B') : IsInts w B' v l := by
  obtain ⟨A, c, e, hr, hc⟩ := h
  exact ⟨A, c, e, hr.more hB, hc⟩
theorem IsInts.nil (w : World) (B : Nat) : IsInts w B (.slice none 0 0) [] := ⟨none, 0, rfl, Row.nil, Nat.le_refl _⟩
namespace Rl
/-- May tokens be read from a place on? -/
def may (l : List Lx.Tk) (i : Int) : Bool := decide (0 ≤ i ∧ i < l.length ∧ ∃ t, l[l.length - 1]? = some t ∧ t.kind = 0)
def told (r : Res) : List Int × Nat × Nat := if r.2 = 0 then (r.1.out, r.1.pos, 0) else ([], r.1.pos, r.2)
/-- What From answers. -/
def from_ (l : List Lx.Tk) (i : Int) (lab : Bool) : List Int × Nat × Nat := if may l i = true then told (read l lab i.toNat) else ([], 0, 1)
end Rl
def FromRes (w : World) (r : List Int × Nat × Nat) (e : Ending) (w' : World) : Prop :=
  ∃ v, e = .returned (.tuple #[v, .int .i64 (r.2.1 : Int), .int .i64 (r.2.2 : Int)]) ∧ IsInts w' w'.heap.size v r.1 ∧ Below w.heap.size w w'
end Go.Proofs.YtflagbglbhmheaaDoor
