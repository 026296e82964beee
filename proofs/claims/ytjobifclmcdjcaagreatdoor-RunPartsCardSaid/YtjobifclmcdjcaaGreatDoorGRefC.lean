/- The reference's inside. -/
import Derived.Deep.Cut
import Derived.LoopTactic
import Derived.Test.YtjobifclmcdjcaaGreatDoorGRefA
namespace Go.Proofs.YtjobifclmcdjcaaGreatDoor
set_option maxRecDepth 100000
open Go.RowKit Go.Shelf

section
variable {w W : World} {v1 v2 : Value} {p d e : Int}
end
theorem Row.kept_at {w w' : World} {B B' : Nat} {A : Option Addr} {xs : List Value} (h : Row w B A xs) (hB : B ≤ B') (hk : ∀ ad, A = some ad → w'.heap[ad.block]? = w.heap[ad.block]?) : Row w' B' A xs := fun hn => by
  obtain ⟨ad, e, hb, hc⟩ := h hn
  exact ⟨ad, e, Nat.lt_of_lt_of_le hb hB, fun j u hu => (World.cell?_of_block (w := w) (by rw [add_block]; exact hk ad e)).trans (hc j u hu)⟩
theorem ROut.inside {w w' : World} {S : Nat → Prop} {A2 : Option Addr} {c2 : Nat} {x : List Int} (h : ROut w S w' A2 c2 x) : ∀ ad, A2 = some ad → ad.block < w'.heap.size := fun ad e => by
  by_cases hx : x = []
  · rw [(h.nil hx).1] at e
    cases e
  · obtain ⟨ad', e', hb, _⟩ := h.row (by intro e0; have h1 := ints_length x; rw [e0] at h1; exact hx (List.eq_nil_of_length_eq_zero h1.symm))
    rw [e] at e'
    injection e' with e'
    subst e'
    exact hb
section
variable {A A2 : Option Addr} {c c2 : Nat} {l : List Lx.Tk} {S : Nat → Prop}
end
end Go.Proofs.YtjobifclmcdjcaaGreatDoor

/- The reference's row. -/
namespace Go.Proofs.YtjobifclmcdjcaaGreatDoor
set_option maxRecDepth 100000
open Go.RowKit Go.Shelf

section
variable {A A2 : Option Addr} {c c2 o : Nat} {l : List Lx.Tk} {S : Nat → Prop} {more : Rl.St → Rl.Res} {wd : ByteArray}
end
end Go.Proofs.YtjobifclmcdjcaaGreatDoor

/- The reference's one, of what it calls. -/
namespace Go.Proofs.YtjobifclmcdjcaaGreatDoor
set_option maxRecDepth 100000
open Go.RowKit Go.Shelf

/-- What is answered, stored into a result's block, and read again. -/
theorem RTold.stored {w w0 w1 w' : World} {S : Nat → Prop} {A : Option Addr} {n c : Nat} {r : Rl.Res} {A2 : Option Addr} {m c2 : Nat} {d : Int} (h0 : w.heap.size + 2 ≤ w0.heap.size) (hok : r.2 = 0 → d = r.1.deep ∧ m = r.1.out.length ∧ ROut w0 S w1 A2 c2 r.1.out) (hS : ∀ k, S k → k < w.heap.size)
    (hw : (∀ k, k ≠ w.heap.size + 1 → w'.heap[k]? = w1.heap[k]?) ∧ w'.heap.size = w1.heap.size) (hb : Below w.heap.size w w') : RTold w S A n c r (.returned (.agg #[.slice A n c, .int .i64 r.1.pos, .slice A2 m c2, .int .i64 d, .int .i64 r.2])) w' := by
  refine ⟨_, _, _, _, rfl, fun h => ?_, hb⟩
  obtain ⟨a1, a2, a3⟩ := hok h
  refine ⟨a1, a2, a3.row.kept_at (Nat.le_of_eq hw.2.symm) (fun ad e => hw.1 _ ?_), a3.cap, a3.nil, fun ad e => ?_⟩
  · rcases a3.side ad e with h1 | h1
    · have := hS _ h1; omega
    · omega
  · rcases a3.side ad e with h1 | h1
    · exact .inl h1
    · exact .inr (by omega)
section
variable {A : Option Addr} {l : List Lx.Tk} {c o : Nat} {part : Rl.St → Rl.Res} {w0 : World}
end
end Go.Proofs.YtjobifclmcdjcaaGreatDoor

/- The reference's atom, one and row, at a state with an error: it is handed back. -/
namespace Go.Proofs.YtjobifclmcdjcaaGreatDoor
set_option maxRecDepth 100000
open Go.RowKit Go.Shelf

section
variable {A A2 : Option Addr} {l : List Lx.Tk} {c p m c2 : Nat} {d : Int}
end
end Go.Proofs.YtjobifclmcdjcaaGreatDoor

/- The reference's atom. -/
namespace Go.Proofs.YtjobifclmcdjcaaGreatDoor
set_option maxRecDepth 100000
open Go.RowKit Go.Shelf
attribute [local go_sem] Oper.semAt_some

section
variable {A A2 : Option Addr} {c c2 : Nat} {l : List Lx.Tk} {S : Nat → Prop}
end
end Go.Proofs.YtjobifclmcdjcaaGreatDoor

/- The reference's prim (by gen_refh.py). -/
namespace Go.Proofs.YtjobifclmcdjcaaGreatDoor
set_option maxRecDepth 100000
open Go.RowKit Go.Shelf
attribute [local go_sem] Oper.semAt_some

/-- A state that is handed on by value: what it tells is r; if nothing is wrong, its rule lies in a block of S, or from b on. -/
def TV (b : Nat) (S : Nat → Prop) (A : Option Addr) (n c : Nat) (r : Rl.Res) (W : World) (v : Value) : Prop :=
  ∃ (A2 : Option Addr) (m c2 : Nat) (d : Int), v = .agg #[.slice A n c, .int .i64 r.1.pos, .slice A2 m c2, .int .i64 d, .int .i64 r.2] ∧ (r.2 = 0 → d = r.1.deep ∧ m = r.1.out.length ∧ RIn W (fun k => (S k ∨ b ≤ k) ∧ k < W.heap.size) A2 c2 r.1.out)
/-- What a call answers. -/
def Hands (b : Nat) (S : Nat → Prop) (A : Option Addr) (n c : Nat) (r : Rl.Res) (W : World) (e : Ending) (W' : World) : Prop := ∃ v, e = .returned v ∧ TV b S A n c r W' v ∧ Below W.heap.size W W'
section
variable {b : Nat} {S : Nat → Prop} {A : Option Addr} {c : Nat} {r : Rl.Res} {W W' : World} {v : Value} {l : List Lx.Tk}
theorem TV.told {n : Nat} {e : Ending} (h : RTold W (fun k => (S k ∨ b ≤ k) ∧ k < W.heap.size) A n c r e W') (hb : b ≤ W.heap.size) : Hands b S A n c r W e W' := by
  obtain ⟨A2, m, c2, d, rfl, hok, hbl⟩ := h
  refine ⟨_, rfl, ⟨A2, m, c2, d, rfl, fun h0 => ?_⟩, hbl⟩
  obtain ⟨h1, h2, h3⟩ := hok h0
  refine ⟨h1, h2, h3.row, h3.cap, h3.nil, fun ad e => ⟨?_, h3.inside ad e⟩, fun k hk => hk.2⟩
  rcases h3.side ad e with h4 | h4
  · exact h4.1
  · exact .inr (Nat.le_trans hb h4)
theorem TV.below {n : Nat} (h : TV b S A n c r W v) (hb : Below W.heap.size W W') : TV b S A n c r W' v := by
  obtain ⟨A2, m, c2, d, e, hok⟩ := h
  refine ⟨A2, m, c2, d, e, fun h0 => ?_⟩
  obtain ⟨h1, h2, h3⟩ := hok h0
  exact ⟨h1, h2, (h3.row.below hb).more hb.size, h3.cap, h3.nil, fun ad e => ⟨(h3.side ad e).1, Nat.lt_of_lt_of_le (h3.side ad e).2 hb.size⟩, fun k hk => hk.2⟩
theorem TV.keep {n g : Nat} (h : TV b S A n c r W v) (hk : (∀ k, k ≠ g → W'.heap[k]? = W.heap[k]?) ∧ W'.heap.size = W.heap.size) (hg : ∀ k, (S k ∨ b ≤ k) → k ≠ g) : TV b S A n c r W' v := by
  obtain ⟨A2, m, c2, d, e, hok⟩ := h
  refine ⟨A2, m, c2, d, e, fun h0 => ?_⟩
  obtain ⟨h1, h2, h3⟩ := hok h0
  exact ⟨h1, h2, h3.row.kept_at (Nat.le_of_eq hk.2.symm) (fun ad e => hk.1 _ (hg _ (h3.side ad e).1)), h3.cap, h3.nil, fun ad e => ⟨(h3.side ad e).1, by rw [hk.2]; exact (h3.side ad e).2⟩, fun k hk => hk.2⟩
end
section
variable {A A2 : Option Addr} {c c2 : Nat} {l : List Lx.Tk} {S : Nat → Prop}
end
end Go.Proofs.YtjobifclmcdjcaaGreatDoor

/- The reference's rows by their depth; and its From. -/
namespace Go.Proofs.YtjobifclmcdjcaaGreatDoor
set_option maxRecDepth 100000
open Go.RowKit Go.Shelf
attribute [local go_sem] Oper.semAt_some

section
variable {A : Option Addr} {l : List Lx.Tk} {c : Nat} {w0 : World}
theorem Row.up {W : World} {xs : List Value} (ht : Row w0 w0.heap.size A xs) (hb : Below w0.heap.size w0 W) : Row W W.heap.size A xs := (ht.below hb).more hb.size
end
end Go.Proofs.YtjobifclmcdjcaaGreatDoor
