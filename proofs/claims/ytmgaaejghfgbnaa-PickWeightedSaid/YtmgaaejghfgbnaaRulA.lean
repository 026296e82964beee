/- The map of words; the reader in memory: what holds of it, and what a call keeps. -/
import Derived.Test.YtmgaaejghfgbnaaRulQ
import Derived.Test.YtmgaaejghfgbnaaPairs
import Derived.Test.YtmgaaejghfgbnaaLexE
import Derived.Test.YtmgaaejghfgbnaaMapLit
import Derived.Deep.RegionLaw
import Derived.Maps.AppendAt
import Derived.Laws.EntriesVeiled
namespace Go.Proofs.Ytmgaaejghfgbnaa
set_option maxRecDepth 100000
open Go.RowKit Go.Shelf

def ent : List (ByteArray × Int) → Nat → List MapEntry
  | [], _ => []
  | (k, n) :: r, i => ⟨.string k, .int .i64 n, i⟩ :: ent r (i + 1)
def putsTo (n : Nat) : Array MapEntry := (ent (Rl.table.take n) 0).toArray
theorem find_ent (s : ByteArray) : ∀ (l : List (ByteArray × Int)) (i j : Nat), (∃ q, Instr.findNow .string (.string s) (ent l i) j = some (some (q, .int .i64 (Rl.look s l)))) ∨ (Instr.findNow .string (.string s) (ent l i) j = some none ∧ Rl.look s l = 0)
  | [], i, j => .inr ⟨rfl, rfl⟩
  | (k, n) :: r, i, j => by
    by_cases h : k = s
    · subst h
      left
      refine ⟨j, ?_⟩
      have hb : (k == k) = true := (MapKept.bytes_beq k k).2 rfl
      simp [ent, Instr.findNow, Instr.sameNow, Rl.look, hb]
    · have hb : (s == k) = false := by
        cases e : s == k with
        | false => rfl
        | true => exact absurd ((MapKept.bytes_beq s k).1 e).symm h
      have e1 : Instr.findNow .string (.string s) (ent ((k, n) :: r) i) j = Instr.findNow .string (.string s) (ent r (i + 1)) (j + 1) := by simp [ent, Instr.findNow, Instr.sameNow, hb]
      have e2 : Rl.look s ((k, n) :: r) = Rl.look s r := by rw [Rl.look, if_neg h]
      rw [e1, e2]
      exact find_ent s r (i + 1) (j + 1)
section
variable {P : Program} (w : World)
theorem run_lookup1_there (mty kt et : TypeId) (r clock i : Nat) (es : Array MapEntry) (s : ByteArray) (val : Value) (hm : P.underlying mty = some (.map kt et)) (hk : P.underlying kt = some .string) (hb : w.heap[r]? = some (.map es clock)) (hf : Instr.findNow .string (.string s) es.toList 0 = some (some (i, val))) :
    (Instr.lookup mty (.map (some r)) (.string s) false).run P w = .ok val w := by
  have hc : (Instr.checkKey es.isEmpty 10000 kt (.string s)).run P w = .ok () w := MapKept.run_checkKey (k := .string s) hk (by simp [MapKept.IsKey]) _ 9999
  simp [Instr.lookup, run_underlying hm, MapKept.run_getObj_map hb, hc, MapKept.run_findKey hk hf, Result.andThen]
theorem run_lookup1_not (mty kt et : TypeId) (r clock : Nat) (es : Array MapEntry) (s : ByteArray) (z : Value) (hm : P.underlying mty = some (.map kt et)) (hk : P.underlying kt = some .string) (hb : w.heap[r]? = some (.map es clock)) (hf : Instr.findNow .string (.string s) es.toList 0 = some none) (hz : (zeroValue et).run P w = .ok z w) :
    (Instr.lookup mty (.map (some r)) (.string s) false).run P w = .ok z w := by
  have hc : (Instr.checkKey es.isEmpty 10000 kt (.string s)).run P w = .ok () w := MapKept.run_checkKey (k := .string s) hk (by simp [MapKept.IsKey]) _ 9999
  simp [Instr.lookup, run_underlying hm, MapKept.run_getObj_map hb, hc, MapKept.run_findKey hk hf, hz, Result.andThen]
end
theorem step_append_own2 {P : Program} {ops : Array Oper} {o : Oper} {a : Act} {w : World} {K : Act → World → Prop} {Q : Exit → Act → World → Prop} {E : Prop} (hgd : o.guard = none) (s x : Operand) (t : TypeId)
    (ho : o.op = .call { callee := .builtin .append, args := #[s, x], argTypes := #[t, t] })
    (base : Nat) (e : TypeId) (i : TypeInfo) (z : Value) (size bytes : Nat) (ht : P.underlying t = some (.slice e)) (hi : P.info? e = some i) (hz : i.zero = some z)
    (hsize : i.size = size) (hby : i.bytes = bytes) (hzs : z.cells.size = size) (hsz : 0 < size)
    (v : Value) (n : Nat) (xs : List Value) (hs : a.eval s = v) (hown : w.ownsRow base e size v n xs)
    (ad : Addr) (m c : Nat) (news : List Value) (hx : a.eval x = .slice (some ad) m c) (hn : news.length = m * size) (hc : ∀ j u, news[j]? = some u → w.cell? (ad.add j) = some u) (h1 : ∀ u ∈ news, u.oneCell' = true)
    (h63 : n + m ≤ maxLen) (hbytes : (n + m) * bytes ≤ 140737488355328) (hbase : base ≤ w.heap.size)
    (h : ∀ v' w', w'.ownsRow base e size v' (n + m) (xs ++ news) → w.grownBy w' v.ownBlock → (v'.ownBlock = v.ownBlock ∨ v'.ownBlock = some w.heap.size) → K (a.put o.dst v') w') :
    if Region.wanted o (yielded ops a.tmps) = true then Oper.wp P o a w K Q else E := by
  have hw : Region.wanted o (yielded ops a.tmps) = true := by simp [Region.wanted, hgd]
  rw [if_pos hw]
  obtain ⟨v', w', hrun, h2, h3, _, h5⟩ := run_append_own_at (P := P) w base t o.type e i z size bytes ht hi hz hsize hby hzs hsz v n xs hown ad m c news hn hc h1 h63 hbytes hbase
  unfold Oper.wp execOp
  simp only [ho, resolve, invoke, builtin, Sem.run_bind, Sem.run_pure, Result.andThen_ok, List.map_toArray, List.map_cons, List.map_nil, hs, hx, hrun]
  exact h v' w' h2 h3 h5

/-- A block that a reading keeps: not the reader, not its row. -/
def Safe (R : Nat) (rv : Value) (W : World) (k : Nat) : Prop := k < W.heap.size ∧ k ≠ R ∧ some k ≠ rv.ownBlock
/-- What a reading keeps: all blocks but the reader and its row. -/
structure Still (R : Nat) (rv rv' : Value) (w w' : World) : Prop where
  os : w'.os = w.os
  tape : w'.tape = w.tape
  output : w'.output = w.output
  size : w.heap.size ≤ w'.heap.size
  block : ∀ k, Safe R rv w k → w'.heap[k]? = w.heap[k]?
  own : rv'.ownBlock = rv.ownBlock ∨ ∃ k, rv'.ownBlock = some k ∧ w.heap.size ≤ k
section
variable {R k : Nat} {rv rv' rv2 : Value} {a w w' w2 : World}
theorem Still.refl (R : Nat) (rv : Value) (w : World) : Still R rv rv w w := ⟨rfl, rfl, rfl, Nat.le_refl _, fun _ _ => rfl, .inl rfl⟩
theorem Still.safe (h : Still R rv rv' w w') (hs : Safe R rv w k) : Safe R rv' w' k := by
  refine ⟨Nat.lt_of_lt_of_le hs.1 h.size, hs.2.1, ?_⟩
  rcases h.own with e | ⟨j, e, hj⟩
  · rw [e]; exact hs.2.2
  · rw [e]
    intro e2
    injection e2 with e2
    have := hs.1
    omega
theorem Still.trans (h : Still R rv rv' a w) (h2 : Still R rv' rv2 w w2) : Still R rv rv2 a w2 := by
  refine ⟨h2.os.trans h.os, h2.tape.trans h.tape, h2.output.trans h.output, Nat.le_trans h.size h2.size, fun k hk => (h2.block k (h.safe hk)).trans (h.block k hk), ?_⟩
  rcases h2.own with e | ⟨j, e, hj⟩
  · rw [e]; exact h.own
  · exact .inr ⟨j, e, Nat.le_trans h.size hj⟩
theorem Still.alloc (h : Still R rv rv' a w) (o : Obj) : Still R rv rv' a (w.alloc o) :=
  h.trans ⟨rfl, rfl, rfl, by simp, fun k hk => Below.heap_alloc _ _ _ hk.1, .inl rfl⟩
theorem Still.drew (h : Still R rv rv' a w) : Still R rv rv' a w.drew := ⟨h.os, h.tape, h.output, h.size, h.block, h.own⟩
theorem Still.drewN (h : Still R rv rv' a w) (n : Nat) : Still R rv rv' a (w.drewN n) := ⟨h.os, h.tape, h.output, h.size, h.block, h.own⟩
theorem Still.setR (h : Still R rv rv' a w) {p : Addr} (hp : p.block = R) (u : Value) : Still R rv rv' a (w.setCell p u) :=
  h.trans ⟨rfl, rfl, rfl, by simp [World.setCell], fun k hk => Below.heap_setCell _ _ _ _ (by rw [hp]; exact hk.2.1), .inl rfl⟩
/-- A store into a block made since. -/
theorem Still.setNew (h : Still R rv rv' a w) {p : Addr} (hp : a.heap.size ≤ p.block) (u : Value) : Still R rv rv' a (w.setCell p u) :=
  ⟨h.os, h.tape, h.output, by have := h.size; simpa [World.setCell] using this, fun k hk => (Below.heap_setCell _ _ _ _ (by have := hk.1; omega)).trans (h.block k hk), h.own⟩
theorem Still.grown (h : Still R rv rv' a w) (hg : w.grownBy w' rv'.ownBlock) (ho : rv2.ownBlock = rv'.ownBlock ∨ rv2.ownBlock = some w.heap.size) : Still R rv rv2 a w' :=
  h.trans ⟨hg.os, hg.tape, hg.output, hg.size, fun k hk => hg.block k hk.1 hk.2.2, ho.imp id fun e => ⟨_, e, Nat.le_refl _⟩⟩
theorem Still.below (h : Below w.heap.size w w') (rv : Value) : Still R rv rv w w' := ⟨h.os, h.tape, h.output, h.size, fun k hk => h.block k hk.1, .inl rfl⟩
end

/-- The slice at A holds the cells xs, in a block that a reading keeps. -/
def SRow (R : Nat) (rv : Value) (W : World) (A : Option Addr) (xs : List Value) : Prop := xs ≠ [] → ∃ ad, A = some ad ∧ Safe R rv W ad.block ∧ ∀ j u, xs[j]? = some u → W.cell? (ad.add j) = some u
section
variable {R : Nat} {rv rv' : Value} {w w' : World} {A : Option Addr} {xs : List Value}
theorem SRow.still (h : SRow R rv w A xs) (hs : Still R rv rv' w w') : SRow R rv' w' A xs := fun hn => by
  obtain ⟨ad, e, hb, hc⟩ := h hn
  exact ⟨ad, e, hs.safe hb, fun j u hu => (World.cell?_of_block (w := w) (hs.block _ (by rw [add_block]; exact hb))).trans (hc j u hu)⟩
theorem SRow.row (h : SRow R rv w A xs) : Row w w.heap.size A xs := fun hn => by
  obtain ⟨ad, e, hb, hc⟩ := h hn
  exact ⟨ad, e, hb.1, hc⟩
end
def ints (l : List Int) : List Value := l.map (Value.int .i64)
theorem ints_snoc (l : List Int) (n : Int) : ints (l ++ [n]) = ints l ++ [.int .i64 n] := by simp [ints]
theorem ints_length (l : List Int) : (ints l).length = l.length := by simp [ints]
theorem Try.infoInt : (Try.prog.info? 3).map (fun i => (i.zero, i.size, i.bytes)) = some (some (.int .i64 0), 1, 8) := by kernel_rfl

section
variable {R M c : Nat} {A : Option Addr} {l : List Lx.Tk} {s : Rl.St} {rv rv' : Value} {w w' : World}
end
end Go.Proofs.Ytmgaaejghfgbnaa
