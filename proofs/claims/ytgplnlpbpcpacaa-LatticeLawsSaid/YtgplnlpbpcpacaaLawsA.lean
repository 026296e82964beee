/- The closures of the law LatticeLaws; join and meet as plain data. -/
import Derived.Test.YtgplnlpbpcpacaaLawKit
namespace Go.Proofs.Ytgplnlpbpcpacaa
open Go.RowKit

/-- The law's world: the box with the lattice, whose rows lie below Bm, and the variable good, which is true. -/
structure LawG (w : World) (x0 x1 : Value) (names : List ByteArray) (up : List Nat) (Bm bg : Nat) (W : World) : Prop where
  at_ : At w x0 x1 W
  lat : IsLat W Bm (.agg #[x0, x1]) names up
  low : w.heap.size < Bm
  le : Bm ≤ bg
  good : Box W bg (.bool true)
section
variable {w : World} {x0 x1 : Value} {names : List ByteArray} {up : List Nat} {Bm bg : Nat} {W W' : World}
theorem LawG.lat' (h : LawG w x0 x1 names up Bm bg W) : IsLat W W.heap.size (.agg #[x0, x1]) names up := h.lat.more (by have := h.le; have := h.good.lt; omega)
theorem LawG.next (h : LawG w x0 x1 names up Bm bg W) (hb : Below W.heap.size W W') : LawG w x0 x1 names up Bm bg W' :=
  ⟨h.at_.next hb, h.lat.below (hb.mono (by have := h.le; have := h.good.lt; omega)), h.low, h.le, h.good.below hb h.good.lt⟩
theorem LawG.store (h : LawG w x0 x1 names up Bm bg W) : LawG w x0 x1 names up Bm bg (W.setCell ⟨bg, 0, none⟩ (.bool true)) :=
  ⟨⟨h.at_.1.other (p := ⟨bg, 0, none⟩) (by have := h.low; have := h.le; show bg ≠ _; omega) _, h.at_.2.setCell (p := ⟨bg, 0, none⟩) (by have := h.low; have := h.le; show _ ≤ bg; omega) _⟩,
    h.lat.below ((Below.refl _ W).setCell (p := ⟨bg, 0, none⟩) h.le _), h.low, h.le, h.good.set_ _⟩
/-- What a walk holds of such a world. -/
def LawGR (w : World) (x0 x1 : Value) (names : List ByteArray) (up : List Nat) (Bm bg : Nat) (W : World) : Prop :=
  LawG w x0 x1 names up Bm bg W ∧ W.cell? ⟨w.heap.size, 0, none⟩ = some x0 ∧ W.cell? ⟨w.heap.size, 1, none⟩ = some x1 ∧ W.cell? ⟨bg, 0, none⟩ = some (.bool true) ∧ W.frozen? ⟨bg, 0, none⟩ = false
theorem LawG.r (h : LawG w x0 x1 names up Bm bg W) : LawGR w x0 x1 names up Bm bg W := ⟨h, h.at_.c0, h.at_.c1, h.good.1, h.good.2⟩
theorem LawG.call {f : FuncId} {args : Array Value} {r : Value} (h : LawG w x0 x1 names up Bm bg W) (hc : Calls Try.prog f args W fun e w' => e = .returned r ∧ Below W.heap.size W w') :
    Calls Try.prog f args W fun e w' => e = .returned r ∧ LawGR w x0 x1 names up Bm bg w' :=
  hc.mono fun _ _ ⟨he, hb⟩ => ⟨he, (h.next hb).r⟩

/-- The labels of two places. -/
theorem lab_ok (hc : checkN names up = 0) {a b : Nat} (ha : a < up.length) (hb : b < up.length) : labN names up a b = 0 := by
  unfold labN isLab
  rw [if_pos hc]
  simp only [Bool.and_eq_true, decide_eq_true_eq]
  rw [if_pos (by omega)]

set_option maxHeartbeats 1000000 in
theorem lawJoin_any (hc : checkN names up = 0) (h : LawG w x0 x1 names up Bm bg W) (a b : Nat) (ha : a < up.length) (hb : b < up.length) :
    Calls Try.prog 23 #[.int .i64 a, .int .i64 b, .pointer (some ⟨w.heap.size, 0, none⟩), .pointer (some ⟨bg, 0, none⟩)] W fun e w' => e = .returned (.int .i64 (Lat.leastN up (Lat.joinS up a b) : Nat)) ∧ LawGR w x0 x1 names up Bm bg w' := by
  obtain ⟨A0, A1, c0, c1, he, -, -⟩ := h.lat.form
  injection he with he
  injection he with he
  injection he with e1 he
  injection he with e2 he
  subst e1 e2
  have hj := Join_any a b W h.lat'
  have e3 : joinR names up a b = Lat.leastN up (Lat.joinS up a b) := by unfold joinR; rw [if_pos (lab_ok hc ha hb)]; rfl
  rw [e3, lab_ok hc ha hb] at hj
  obtain ⟨r, hr⟩ : ∃ r, Lat.leastN up (Lat.joinS up a b) = r := ⟨_, rfl⟩
  rw [hr] at hj ⊢
  have HJ := Lib.hid hj
  have HH := Lib.hid h
  have hc0 := h.at_.c0
  have hc1 := h.at_.c1
  clear hj e3 hr h he
  go_enter Try.func23, Try.ntmps23
  go_wp2_with (go_at_call 15; refine HJ.out.mono ?_)
  rintro e w' ⟨rfl, hb'⟩
  have hn := HH.out.next hb'
  have hg0 := hn.good.1
  have hg1 := hn.good.2
  go_wp2
  go_ret
  exact ⟨rfl, hn.store.r⟩

set_option maxHeartbeats 1000000 in
theorem lawMeet_any (hc : checkN names up = 0) (h : LawG w x0 x1 names up Bm bg W) (a b : Nat) (ha : a < up.length) (hb : b < up.length) :
    Calls Try.prog 24 #[.int .i64 a, .int .i64 b, .pointer (some ⟨w.heap.size, 0, none⟩), .pointer (some ⟨bg, 0, none⟩)] W fun e w' => e = .returned (.int .i64 (Lat.leastN (Lat.turned up) (Lat.joinS (Lat.turned up) a b) : Nat)) ∧ LawGR w x0 x1 names up Bm bg w' := by
  obtain ⟨A0, A1, c0, c1, he, -, -⟩ := h.lat.form
  injection he with he
  injection he with he
  injection he with e1 he
  injection he with e2 he
  subst e1 e2
  have hj := Meet_any a b W h.lat'
  have e3 : meetR names up a b = Lat.leastN (Lat.turned up) (Lat.joinS (Lat.turned up) a b) := by unfold meetR; rw [if_pos (lab_ok hc ha hb)]; rfl
  rw [e3, lab_ok hc ha hb] at hj
  obtain ⟨r, hr⟩ : ∃ r, Lat.leastN (Lat.turned up) (Lat.joinS (Lat.turned up) a b) = r := ⟨_, rfl⟩
  rw [hr] at hj ⊢
  have HJ := Lib.hid hj
  have HH := Lib.hid h
  have hc0 := h.at_.c0
  have hc1 := h.at_.c1
  clear hj e3 hr h he
  go_enter Try.func24, Try.ntmps24
  go_wp2_with (go_at_call 16; refine HJ.out.mono ?_)
  rintro e w' ⟨rfl, hb'⟩
  have hn := HH.out.next hb'
  have hg0 := hn.good.1
  have hg1 := hn.good.2
  go_wp2
  go_ret
  exact ⟨rfl, hn.store.r⟩
end

/-! Join and meet as plain data. -/
def J (up : List Nat) (a b : Nat) : Nat := Lat.leastN up (Lat.joinS up a b)
def M (up : List Nat) (a b : Nat) : Nat := Lat.leastN (Lat.turned up) (Lat.joinS (Lat.turned up) a b)
section
variable {up : List Nat} (h : Latt up)
include h
theorem J_spec {a b : Nat} (ha : a < up.length) (hb : b < up.length) : J up a b < up.length ∧ Lat.fl up a (J up a b) = true ∧ Lat.fl up b (J up a b) = true ∧ ∀ d, d < up.length → Lat.fl up a d = true → Lat.fl up b d = true → Lat.fl up (J up a b) d = true := by
  obtain ⟨c, hc, hs⟩ := h.join_spec ha hb
  rw [h.rJoin_eq ha hb] at hc
  have : J up a b = c := by unfold J; omega
  rw [this]
  exact hs
theorem M_spec {a b : Nat} (ha : a < up.length) (hb : b < up.length) : M up a b < up.length ∧ Lat.fl up (M up a b) a = true ∧ Lat.fl up (M up a b) b = true ∧ ∀ d, d < up.length → Lat.fl up d a = true → Lat.fl up d b = true → Lat.fl up d (M up a b) = true := by
  obtain ⟨c, hc, hs⟩ := h.meet_spec ha hb
  rw [h.rMeet_eq ha hb] at hc
  have : M up a b = c := by unfold M; omega
  rw [this]
  exact hs
theorem J_unique {a b j : Nat} (ha : a < up.length) (hb : b < up.length) (hj : j < up.length) (h1 : Lat.fl up a j = true) (h2 : Lat.fl up b j = true) (h3 : ∀ d, d < up.length → Lat.fl up a d = true → Lat.fl up b d = true → Lat.fl up j d = true) : J up a b = j := by
  obtain ⟨s0, s1, s2, s3⟩ := J_spec h ha hb
  exact Lat.ord_anti h.ord s0 hj (s3 j hj h1 h2) (h3 _ s0 s1 s2)
theorem M_unique {a b m : Nat} (ha : a < up.length) (hb : b < up.length) (hm : m < up.length) (h1 : Lat.fl up m a = true) (h2 : Lat.fl up m b = true) (h3 : ∀ d, d < up.length → Lat.fl up d a = true → Lat.fl up d b = true → Lat.fl up d m = true) : M up a b = m := by
  obtain ⟨s0, s1, s2, s3⟩ := M_spec h ha hb
  exact Lat.ord_anti h.ord s0 hm (h3 _ s0 s1 s2) (s3 m hm h1 h2)
theorem J_comm {a b : Nat} (ha : a < up.length) (hb : b < up.length) : J up b a = J up a b := by
  obtain ⟨s0, s1, s2, s3⟩ := J_spec h ha hb
  exact J_unique h hb ha s0 s2 s1 fun d hd h1 h2 => s3 d hd h2 h1
theorem M_comm {a b : Nat} (ha : a < up.length) (hb : b < up.length) : M up b a = M up a b := by
  obtain ⟨s0, s1, s2, s3⟩ := M_spec h ha hb
  exact M_unique h hb ha s0 s2 s1 fun d hd h1 h2 => s3 d hd h2 h1
theorem J_assoc {a b c : Nat} (ha : a < up.length) (hb : b < up.length) (hc : c < up.length) : J up a (J up b c) = J up (J up a b) c := by
  obtain ⟨p0, p1, p2, p3⟩ := J_spec h ha hb
  obtain ⟨q0, q1, q2, q3⟩ := J_spec h hb hc
  obtain ⟨r0, r1, r2, r3⟩ := J_spec h p0 hc
  refine J_unique h ha q0 r0 (Lat.ord_trans h.ord ha p0 p1 r1) (q3 _ r0 (Lat.ord_trans h.ord hb p0 p2 r1) r2) fun d hd h1 h2 => ?_
  exact r3 d hd (p3 d hd h1 (Lat.ord_trans h.ord hb q0 q1 h2)) (Lat.ord_trans h.ord hc q0 q2 h2)
theorem M_assoc {a b c : Nat} (ha : a < up.length) (hb : b < up.length) (hc : c < up.length) : M up a (M up b c) = M up (M up a b) c := by
  obtain ⟨p0, p1, p2, p3⟩ := M_spec h ha hb
  obtain ⟨q0, q1, q2, q3⟩ := M_spec h hb hc
  obtain ⟨r0, r1, r2, r3⟩ := M_spec h p0 hc
  refine M_unique h ha q0 r0 (Lat.ord_trans h.ord r0 p0 r1 p1) (q3 _ r0 (Lat.ord_trans h.ord r0 p0 r1 p2) r2) fun d hd h1 h2 => ?_
  exact r3 d hd (p3 d hd h1 (Lat.ord_trans h.ord hd q0 h2 q1)) (Lat.ord_trans h.ord hd q0 h2 q2)
theorem J_absorb {a b : Nat} (ha : a < up.length) (hb : b < up.length) : J up a (M up a b) = a := by
  obtain ⟨s0, s1, s2, s3⟩ := M_spec h ha hb
  exact J_unique h ha s0 ha (Lat.ord_refl h.ord ha) s1 fun d _ h1 _ => h1
theorem M_absorb {a b : Nat} (ha : a < up.length) (hb : b < up.length) : M up a (J up a b) = a := by
  obtain ⟨s0, s1, s2, s3⟩ := J_spec h ha hb
  exact M_unique h ha s0 ha (Lat.ord_refl h.ord ha) s1 fun d _ h1 _ => h1
theorem J_idem {a : Nat} (ha : a < up.length) : J up a a = a := J_unique h ha ha ha (Lat.ord_refl h.ord ha) (Lat.ord_refl h.ord ha) fun _ _ h1 _ => h1
theorem M_idem {a : Nat} (ha : a < up.length) : M up a a = a := M_unique h ha ha ha (Lat.ord_refl h.ord ha) (Lat.ord_refl h.ord ha) fun _ _ h1 _ => h1
theorem J_fl {a b : Nat} (ha : a < up.length) (hb : b < up.length) : Lat.fl up a b = true ↔ J up a b = b := by
  constructor
  · intro hf; exact J_unique h ha hb hb hf (Lat.ord_refl h.ord hb) fun d _ _ h2 => h2
  · intro he; have := (J_spec h ha hb).2.1; rwa [he] at this
theorem M_fl {a b : Nat} (ha : a < up.length) (hb : b < up.length) : Lat.fl up a b = true ↔ M up a b = a := by
  constructor
  · intro hf; exact M_unique h ha hb ha (Lat.ord_refl h.ord ha) hf fun d _ h1 _ => h1
  · intro he; have := (M_spec h ha hb).2.2.1; rwa [he] at this
theorem ht_fl {a b : Nat} (ha : a < up.length) (hb : b < up.length) (hf : Lat.fl up a b = true) (hne : a ≠ b) : Lat.htS up a < Lat.htS up b :=
  Lat.htS_lt h.ord hb ha (by simp [Lat.und, hne, hf])
theorem bot_fl {a : Nat} (ha : a < up.length) : rBotTo up up.length < up.length ∧ Lat.fl up (rBotTo up up.length) a = true := ⟨(h.bot_to _ (Nat.le_refl _)).1, (h.bot_to _ (Nat.le_refl _)).2 a ha⟩
theorem top_fl {a : Nat} (ha : a < up.length) : rTopTo up up.length < up.length ∧ Lat.fl up a (rTopTo up up.length) = true := ⟨(h.top_to _ (Nat.le_refl _)).1, (h.top_to _ (Nat.le_refl _)).2 a ha⟩
theorem bot_ht : Lat.htS up (rBotTo up up.length) = 0 := by
  obtain ⟨h1, h2⟩ := h.bot_to _ (Nat.le_refl _)
  refine Lat.htS_zero fun b hb => ?_
  unfold Lat.und
  cases e : Lat.fl up b (rBotTo up up.length) with
  | false => simp
  | true => simp [Lat.ord_anti h.ord hb h1 e (h2 b hb)]
end
end Go.Proofs.Ytgplnlpbpcpacaa
