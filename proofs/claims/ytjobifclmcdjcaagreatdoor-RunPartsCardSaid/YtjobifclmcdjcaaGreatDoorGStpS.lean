/- law10's alive: what its step comes to. -/
import Derived.Test.YtjobifclmcdjcaaGreatDoorGStpK
import Derived.Test.YtjobifclmcdjcaaGreatDoorGStpR
import Derived.Test.YtjobifclmcdjcaaGreatDoorGTabO
import Derived.Test.YtjobifclmcdjcaaGreatDoorGCodK
import Derived.Test.YtjobifclmcdjcaaGreatDoorGFree
namespace Go.Proofs.YtjobifclmcdjcaaGreatDoor
set_option maxRecDepth 100000
open Go.RowKit Go.Shelf
attribute [local go_sem] Oper.semAt_some
def bOut10 : St.State := ⟨⟨1, 0⟩, [⟨3, 0, 0⟩], [], [⟨false, 3, 1⟩], []⟩
end Go.Proofs.YtjobifclmcdjcaaGreatDoor

/- law10's alive. -/
namespace Go.Proofs.YtjobifclmcdjcaaGreatDoor
set_option maxRecDepth 100000
open Go.RowKit Go.Shelf
attribute [local go_sem] Oper.semAt_some
def af10 (B : Nat) (k : Nat) (v : Value) (W : World) : Prop :=
  match k with
  | 1 => ∃ x, v = .agg #[x] ∧ IsTab W W.heap.size x Tb.usualRows
  | 3 => ∃ b, v = .slice (some ⟨b, 0, none⟩) 1 1 ∧ Blk W b 57 #[.int .i64 3, .int .i64 0, .int .i64 0]
  | 6 => ∃ b, v = .slice (some ⟨b, 0, none⟩) 2 2 ∧ Blk W b 78 #[.bool false, .int .i64 1, .int .i64 0, .bool false, .int .i64 2, .int .i64 1]
  | 7 => ∃ b b', v = .agg #[.int .i64 0, .int .i64 0, .slice (some ⟨b, 0, none⟩) 1 1, .slice none 0 0, .slice (some ⟨b', 0, none⟩) 2 2, .slice none 0 0] ∧ Blk W b 57 #[.int .i64 3, .int .i64 0, .int .i64 0] ∧ Blk W b' 78 #[.bool false, .int .i64 1, .int .i64 0, .bool false, .int .i64 2, .int .i64 1]
  | 8 => ∃ A1 c1 A2 c2 A3 c3 A4 c4, v = .tuple #[.agg #[.int .i64 1, .int .i64 0, .slice A1 1 c1, .slice A2 0 c2, .slice A3 1 c3, .slice A4 0 c4], .int .i64 0, .int .i64 0] ∧ CopyOf B bOut10 (.slice A1 1 c1) (.slice A2 0 c2) (.slice A3 1 c3) (.slice A4 0 c4) W
  | 9 => ∃ A1 c1 A2 c2 A3 c3 A4 c4, v = .tuple #[.agg #[.int .i64 1, .int .i64 0, .slice A1 1 c1, .slice A2 0 c2, .slice A3 1 c3, .slice A4 0 c4], .int .i64 0, .int .i64 0] ∧ CopyOf B bOut10 (.slice A1 1 c1) (.slice A2 0 c2) (.slice A3 1 c3) (.slice A4 0 c4) W
  | 10 => ∃ A1 c1 A2 c2 A3 c3 A4 c4, v = .agg #[.int .i64 1, .int .i64 0, .slice A1 1 c1, .slice A2 0 c2, .slice A3 1 c3, .slice A4 0 c4] ∧ CopyOf B bOut10 (.slice A1 1 c1) (.slice A2 0 c2) (.slice A3 1 c3) (.slice A4 0 c4) W
  | _ => True
theorem af10.below {B k : Nat} {v : Value} {W W' : World} (h : af10 B k v W) (hb : Below W.heap.size W W') : af10 B k v W' := by
  unfold af10 at h ⊢
  split
  · obtain ⟨x, e, A, c, e2, h, hc⟩ := h
    exact ⟨x, e, A, c, e2, (h.below hb).more hb.size, hc⟩
  · obtain ⟨b, e, h⟩ := h; exact ⟨b, e, h.below hb h.lt⟩
  · obtain ⟨b, e, h⟩ := h; exact ⟨b, e, h.below hb h.lt⟩
  · obtain ⟨b, b', e, h, h'⟩ := h; exact ⟨b, b', e, h.below hb h.lt, h'.below hb h'.lt⟩
  · obtain ⟨A1, c1, A2, c2, A3, c3, A4, c4, e, h⟩ := h; exact ⟨A1, c1, A2, c2, A3, c3, A4, c4, e, h.below hb⟩
  · obtain ⟨A1, c1, A2, c2, A3, c3, A4, c4, e, h⟩ := h; exact ⟨A1, c1, A2, c2, A3, c3, A4, c4, e, h.below hb⟩
  · obtain ⟨A1, c1, A2, c2, A3, c3, A4, c4, e, h⟩ := h; exact ⟨A1, c1, A2, c2, A3, c3, A4, c4, e, h.below hb⟩
  · trivial
def BoxT (B b : Nat) (d : Bool) (W : World) : Prop :=
  if d then ∃ A1 c1 A2 c2 A3 c3 A4 c4, Blk W b 35 #[.int .i64 1, .int .i64 0, .slice A1 1 c1, .slice A2 0 c2, .slice A3 1 c3, .slice A4 0 c4] ∧ CopyOf B bOut10 (.slice A1 1 c1) (.slice A2 0 c2) (.slice A3 1 c3) (.slice A4 0 c4) W
  else Blk W b 35 #[.int .i64 0, .int .i64 0, .slice none 0 0, .slice none 0 0, .slice none 0 0, .slice none 0 0]
theorem BoxT.below {B b : Nat} {d : Bool} {W W' : World} (h : BoxT B b d W) (hb : Below W.heap.size W W') : BoxT B b d W' := by
  unfold BoxT at h ⊢
  split
  · rename_i hd
    rw [if_pos hd] at h
    obtain ⟨A1, c1, A2, c2, A3, c3, A4, c4, e, h⟩ := h
    exact ⟨A1, c1, A2, c2, A3, c3, A4, c4, e.below hb e.lt, h.below hb⟩
  · rename_i hd
    rw [if_neg hd] at h
    exact h.below hb h.lt
structure AJ10 (w0 : World) (done : Nat → Bool) (r : Nat → Value) (W : World) : Prop where
  below : Below w0.heap.size w0 W
  f : done 14 = false → ∀ k, done k = true → af10 w0.heap.size k (r k) W
  p : done 9 = true → ∃ x, r 9 = .tuple #[x, .int .i64 0, .int .i64 0]
  box : done 13 = true → ∃ b, r 13 = .pointer (some ⟨b, 0, none⟩) ∧ w0.heap.size ≤ b ∧ BoxT w0.heap.size b (done 14) W
section
variable {w0 : World} {done : Nat → Bool} {r : Nat → Value} {W W' : World}
theorem tupd_ne {k j : Nat} (h : j ≠ k) : Free.upd done k j = done j := by unfold Free.upd; rw [if_neg h]
theorem tupd_eq {k : Nat} : Free.upd done k k = true := by unfold Free.upd; rw [if_pos rfl]
theorem tupdR_ne {k j : Nat} {v : Value} (h : j ≠ k) : Free.updR r k v j = r j := by unfold Free.updR; rw [if_neg h]
theorem tupdR_eq {k : Nat} {v : Value} : Free.updR r k v k = v := by unfold Free.updR; rw [if_pos rfl]
theorem AJ10.start (r : Nat → Value) : AJ10 w0 (fun _ => false) r w0.drew :=
  ⟨(Below.refl _ _).drew, (fun _ k h => by cases h), (fun h => by cases h), (fun h => by cases h)⟩
theorem AJ10.made (h : AJ10 w0 done r W) {k : Nat} {v : Value} (hk : (k != 13 && k != 14) = true) (hb : Below W.heap.size W W') (ha : done 14 = false → af10 w0.heap.size k v W') (hp : k = 9 → ∃ x, v = .tuple #[x, .int .i64 0, .int .i64 0]) : AJ10 w0 (Free.upd done k) (Free.updR r k v) W' := by
  simp only [Bool.and_eq_true, bne_iff_ne] at hk
  refine ⟨h.below.trans (hb.mono h.below.size), fun hd j hj => ?_, fun hd => ?_, fun hd => ?_⟩
  · rw [tupd_ne (by omega)] at hd
    by_cases e : j = k
    · subst e; rw [tupdR_eq]; exact ha hd
    · rw [tupd_ne e] at hj; rw [tupdR_ne e]; exact (h.f hd j hj).below hb
  · by_cases e : 9 = k
    · subst e; rw [tupdR_eq]; exact hp rfl
    · rw [tupd_ne e] at hd; rw [tupdR_ne e]; exact h.p hd
  · rw [tupd_ne (by omega)] at hd
    rw [tupdR_ne (by omega), tupd_ne (by omega)]
    obtain ⟨b, e, hl, hx⟩ := h.box hd
    exact ⟨b, e, hl, hx.below hb⟩
theorem AJ10.store_ (h : AJ10 w0 done r W) (_hd : done 14 = false) {b : Nat} {A1 A2 A3 A4 : Option Addr} {c1 c2 c3 c4 : Nat} (h13 : r 13 = .pointer (some ⟨b, 0, none⟩)) (hl : w0.heap.size ≤ b)
    (hbk : Blk W b 35 #[.int .i64 0, .int .i64 0, .slice none 0 0, .slice none 0 0, .slice none 0 0, .slice none 0 0])
    (hc : CopyOf w0.heap.size bOut10 (.slice A1 1 c1) (.slice A2 0 c2) (.slice A3 1 c3) (.slice A4 0 c4) W) :
    AJ10 w0 (Free.upd done 14) (Free.updR r 14 undef) ((((((W.setCell ⟨b, 0, none⟩ (.int .i64 1)).setCell ⟨b, 1, none⟩ (.int .i64 0)).setCell ⟨b, 2, none⟩ (.slice A1 1 c1)).setCell ⟨b, 3, none⟩ (.slice A2 0 c2)).setCell ⟨b, 4, none⟩ (.slice A3 1 c3)).setCell ⟨b, 5, none⟩ (.slice A4 0 c4)) := by
  obtain ⟨WF, e, s1, s2, s3, s4⟩ := six_sets hbk (.int .i64 1) (.int .i64 0) (.slice A1 1 c1) (.slice A2 0 c2) (.slice A3 1 c3) (.slice A4 0 c4)
  rw [e]
  refine ⟨s2 _ _ h.below hl, fun h14 => ?_, fun h9 => ?_, fun _ => ⟨b, ?_, hl, ?_⟩⟩
  · rw [tupd_eq] at h14; cases h14
  · rw [tupd_ne (by omega)] at h9; rw [tupdR_ne (by omega)]; exact h.p h9
  · rw [tupdR_ne (by omega)]; exact h13
  · rw [tupd_eq]
    exact ⟨A1, c1, A2, c2, A3, c3, A4, c4, s1, s3 _ _ _ _ _ _ hc⟩
end
end Go.Proofs.YtjobifclmcdjcaaGreatDoor
