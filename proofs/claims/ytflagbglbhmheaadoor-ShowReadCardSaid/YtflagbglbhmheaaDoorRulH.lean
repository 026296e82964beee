/- The walk of From. -/
import Derived.Test.YtflagbglbhmheaaDoorRulG
namespace Go.Proofs.YtflagbglbhmheaaDoor
set_option maxRecDepth 100000
open Go.RowKit Go.Shelf
attribute [local go_sem] Oper.semAt_some

theorem FromRes.bad {w w' : World} (a n : Nat) (hb : Below w.heap.size w w') : FromRes w ([], a, n) (.returned (.tuple #[.slice none 0 0, .int .i64 (a : Int), .int .i64 (n : Int)])) w' := ⟨_, rfl, IsInts.nil _ _, hb⟩
/-- The world at which the reading begins. -/
def began (w : World) (A : Option Addr) (n c : Nat) (i : Nat) : World := (w.alloc (.map (putsTo 13) 13)).alloc (.cells #[.slice A n c, .int .i64 (i : Int), .int .i64 0, .slice none 0 0, .map (some w.heap.size)] 63)
theorem began_rd {A : Option Addr} {l : List Lx.Tk} {w : World} (c i : Nat) (h : Row w w.heap.size A (tcells l)) : Rd (w.heap.size + 1) w.heap.size A c l ⟨i, 0, []⟩ (.slice none 0 0) (began w A l.length c i) := by
  have hb : Below w.heap.size w (began w A l.length c i) := ((Below.refl _ w).alloc (Nat.le_refl _) _).alloc (by simp) _
  have hz : (began w A l.length c i).heap.size = w.heap.size + 2 := by unfold began; simp
  have hblk : Blk (began w A l.length c i) (w.heap.size + 1) 63 #[.slice A l.length c, .int .i64 (i : Int), .int .i64 0, .slice none 0 0, .map (some w.heap.size)] := by
    have := Blk.new (w.alloc (.map (putsTo 13) 13)) 63 #[.slice A l.length c, .int .i64 (i : Int), .int .i64 0, .slice none 0 0, .map (some w.heap.size)]
    rwa [World.size_alloc] at this
  refine ⟨hblk, World.ownsRow_nil _ _ _ _, fun hn => ?_, ?_, ⟨by rw [hz]; omega, by omega, fun e => by cases e⟩⟩
  · obtain ⟨ad, e, hk, hc⟩ := h hn
    exact ⟨ad, e, ⟨by rw [hz]; omega, by omega, fun e => by cases e⟩, fun j u hu => (hb.cell (by rw [add_block]; exact hk)).trans (hc j u hu)⟩
  · exact (Below.heap_alloc _ _ _ (by simp)).trans (World.alloc_heap_new w _)
theorem began_still {A : Option Addr} {w w' : World} {n c i : Nat} {rv : Value} (h : Still (w.heap.size + 1) (.slice none 0 0) rv (began w A n c i) w') : Below w.heap.size w w' := by
  have hb : Below w.heap.size w (began w A n c i) := ((Below.refl _ w).alloc (Nat.le_refl _) _).alloc (by simp) _
  refine hb.trans ⟨h.os, h.tape, h.output, h.size, fun k hk => h.block k ⟨?_, by omega, fun e => by cases e⟩⟩
  have := hb.size
  omega
theorem may_no {l : List Lx.Tk} {i : Int} {lab : Bool} (h : Rl.may l i = false) : Rl.from_ l i lab = ([], 0, 1) := by unfold Rl.from_; rw [h]; rfl
theorem may_yes {l : List Lx.Tk} {i : Int} {lab : Bool} (h : Rl.may l i = true) : Rl.from_ l i lab = Rl.told (Rl.read l lab i.toNat) := by unfold Rl.from_; rw [h]; rfl

set_option maxHeartbeats 2000000 in
theorem from_out {A : Option Addr} {l : List Lx.Tk} (c : Nat) (i : Int) (lab : Bool) (w : World) (h : ¬ (0 ≤ i ∧ i < l.length)) : Calls Tryd.prog 11 #[.slice A l.length c, .int .i64 i, .bool lab] w (FromRes w (Rl.from_ l i lab)) := by
  have hm : Rl.may l i = false := decide_eq_false fun hh => h ⟨hh.1, hh.2.1⟩
  rw [may_no hm]
  clear hm
  by_cases h0 : i < 0
  · clear h
    go_enter Tryd.func11, Tryd.ntmps11
    go_wp2
    go_ret3
    exact FromRes.bad 0 1 (Below.refl _ _)
  · have h1 : (l.length : Int) ≤ i := by omega
    clear h
    go_enter Tryd.func11, Tryd.ntmps11
    go_wp2
    go_ret3
    exact FromRes.bad 0 1 (Below.refl _ _)
set_option maxHeartbeats 2000000 in
theorem from_last {A : Option Addr} {l : List Lx.Tk} (c : Nat) (i : Int) (lab : Bool) (w : World) (hr : Row w w.heap.size A (tcells l)) (hl : l.length ≤ 1000000) (h0 : 0 ≤ i) (h1 : i < l.length) (hm : Rl.may l i = false) : Calls Tryd.prog 11 #[.slice A l.length c, .int .i64 i, .bool lab] w (FromRes w (Rl.from_ l i lab)) := by
  rw [may_no hm]
  obtain ⟨n, hn⟩ : ∃ n, l.length = n + 1 := ⟨l.length - 1, by omega⟩
  obtain ⟨ad, t, rfl, -, ht, c0, -, -⟩ := trow_at hr (show n < l.length by omega)
  have hk : t.kind ≠ 0 := fun hk => by
    have : Rl.may l i = true := decide_eq_true ⟨h0, h1, t, by rw [hn]; exact ht, hk⟩
    rw [this] at hm
    cases hm
  have hk0 : (t.kind != 0) = true := by rw [bne_iff_ne]; exact hk
  rw [hn] at h1 ⊢
  have h2 : i < (n : Int) + 1 := by omega
  have hnb : n ≤ 1000000 := by omega
  clear hm hr ht hk hn h1 hl
  go_enter Tryd.func11, Tryd.ntmps11
  go_wp2
  go_ret3
  exact FromRes.bad 0 1 (Below.refl _ _)
set_option maxHeartbeats 4000000 in
theorem from_good {A : Option Addr} {l : List Lx.Tk} (c : Nat) (i : Int) (lab : Bool) (w : World) (hr : Row w w.heap.size A (tcells l)) (hl : l.length ≤ 1000000) (hm : Rl.may l i = true) : Calls Tryd.prog 11 #[.slice A l.length c, .int .i64 i, .bool lab] w (FromRes w (Rl.from_ l i lab)) := by
  rw [may_yes hm]
  obtain ⟨h0, h1, t, ht, hk⟩ := of_decide_eq_true hm
  obtain ⟨k, rfl⟩ : ∃ k : Nat, i = k := ⟨i.toNat, by omega⟩
  rw [Int.toNat_natCast]
  have hmf : ∀ (fn : Fn) (first cap : Array Value) (w : World), (Instr.makeFunc fn first cap).run Tryd.prog w = .ok (.func fn first cap) w := fun _ _ _ _ => rfl
  have he := Rl.ends_of ht hk
  have hkl : k < l.length := by omega
  have hrd := began_rd c k hr
  have hlab := label_all (R := w.heap.size + 1) (M := w.heap.size) (A := A) (c := c) he hl 12 0 rfl ⟨k, 0, []⟩ hkl rfl (by simp) _ _ hrd
  have hcnd := cond_all (R := w.heap.size + 1) (M := w.heap.size) (A := A) (c := c) he hl 12 0 rfl ⟨k, 0, []⟩ hkl rfl (by simp) _ _ hrd
  have hbst := fun w' rv => began_still (A := A) (w := w) (w' := w') (n := l.length) (c := c) (i := k) (rv := rv)
  obtain ⟨n, hn⟩ : ∃ n, l.length = n + 1 := ⟨l.length - 1, by omega⟩
  obtain ⟨ad, t', rfl, -, ht', c0, -, -⟩ := trow_at hr (show n < l.length by omega)
  rw [hn, Nat.add_sub_cancel, ht'] at ht
  injection ht with ht
  subst ht
  rw [hk] at c0
  have hb0 := World.size_alloc w (.map (putsTo 13) 13)
  unfold began at hlab hcnd hbst
  rw [hn] at hlab hcnd hbst ⊢
  have hk1 : (k : Int) < (n : Int) + 1 := by omega
  have hnb : n ≤ 1000000 := by omega
  have HN : Hid (l.length = n + 1) := hn
  have HP := Lib.hid (puts_any w)
  have HBS := Lib.hid hbst
  cases lab
  · have hread : Rl.read l false k = Rl.cond l 13 ⟨k, 0, []⟩ := rfl
    rw [hread]
    clear hread hlab
    generalize Rl.cond l 13 ⟨k, 0, []⟩ = r at *
    obtain ⟨s1, m⟩ := r
    have HC := Lib.hid hcnd
    clear hcnd hm hr hk ht' hn h1 hrd hbst hb0
    by_cases hm0 : m = 0
    · subst hm0
      go_enter Tryd.func11, Tryd.ntmps11
      go_wp2_with (go_at_call 22; refine HP.out.mono ?_; rintro e w' ⟨rfl, rfl⟩)
      refine HC.out.mono ?_
      rintro e w1 ⟨rv1, rfl, h1, hs1⟩
      obtain ⟨⟨-, c1, -, c3, -⟩, -⟩ := h1.facts
      obtain ⟨A1, cap, rfl⟩ := ownT_slice h1.own
      have hfin : ∀ q, FromRes w (Rl.told (s1, 0)) (.returned (.tuple #[.slice A1 s1.out.length cap, .int .i64 s1.pos, .int .i64 0])) (w1.drewN q) := fun q =>
        ⟨_, rfl, ⟨A1, cap, rfl, (ownT_row h1.own).1, (ownT_row h1.own).2⟩, below_drawn (HBS.out _ _ hs1) q⟩
      have HF := Lib.hid hfin
      clear h1 hs1 hfin
      go_wp2
      go_quiet (fail)
      go_wp2
      go_ret3
      exact HF.out _
    · have hn1 : ((m : Int) != 0) = true := by rw [bne_iff_ne]; omega
      go_enter Tryd.func11, Tryd.ntmps11
      go_wp2_with (go_at_call 22; refine HP.out.mono ?_; rintro e w' ⟨rfl, rfl⟩)
      refine HC.out.mono ?_
      rintro e w1 ⟨rv1, rfl, h1, hs1⟩
      obtain ⟨⟨-, c1, -, -, -⟩, -⟩ := h1.facts
      have hfin : ∀ q, FromRes w (Rl.told (s1, m)) (.returned (.tuple #[.slice none 0 0, .int .i64 s1.pos, .int .i64 m])) (w1.drewN q) := fun q => by
        unfold Rl.told
        rw [if_neg hm0]
        exact FromRes.bad _ _ (below_drawn (HBS.out _ _ hs1) q)
      have HF := Lib.hid hfin
      clear h1 hs1 hfin hm0
      go_wp2
      go_quiet (fail)
      go_wp2
      go_ret3
      exact HF.out _
  · have hread : Rl.read l true k = Rl.label l 13 ⟨k, 0, []⟩ := rfl
    rw [hread]
    clear hread hcnd
    generalize Rl.label l 13 ⟨k, 0, []⟩ = r at *
    obtain ⟨s1, m⟩ := r
    have HC := Lib.hid hlab
    clear hlab hm hr hk ht' hn h1 hrd hbst hb0
    by_cases hm0 : m = 0
    · subst hm0
      go_enter Tryd.func11, Tryd.ntmps11
      go_wp2_with (go_at_call 22; refine HP.out.mono ?_; rintro e w' ⟨rfl, rfl⟩)
      refine HC.out.mono ?_
      rintro e w1 ⟨rv1, rfl, h1, hs1⟩
      obtain ⟨⟨-, c1, -, c3, -⟩, -⟩ := h1.facts
      obtain ⟨A1, cap, rfl⟩ := ownT_slice h1.own
      have hfin : ∀ q, FromRes w (Rl.told (s1, 0)) (.returned (.tuple #[.slice A1 s1.out.length cap, .int .i64 s1.pos, .int .i64 0])) (w1.drewN q) := fun q =>
        ⟨_, rfl, ⟨A1, cap, rfl, (ownT_row h1.own).1, (ownT_row h1.own).2⟩, below_drawn (HBS.out _ _ hs1) q⟩
      have HF := Lib.hid hfin
      clear h1 hs1 hfin
      go_wp2
      go_quiet (fail)
      go_wp2
      go_ret3
      exact HF.out _
    · have hn1 : ((m : Int) != 0) = true := by rw [bne_iff_ne]; omega
      go_enter Tryd.func11, Tryd.ntmps11
      go_wp2_with (go_at_call 22; refine HP.out.mono ?_; rintro e w' ⟨rfl, rfl⟩)
      refine HC.out.mono ?_
      rintro e w1 ⟨rv1, rfl, h1, hs1⟩
      obtain ⟨⟨-, c1, -, -, -⟩, -⟩ := h1.facts
      have hfin : ∀ q, FromRes w (Rl.told (s1, m)) (.returned (.tuple #[.slice none 0 0, .int .i64 s1.pos, .int .i64 m])) (w1.drewN q) := fun q => by
        unfold Rl.told
        rw [if_neg hm0]
        exact FromRes.bad _ _ (below_drawn (HBS.out _ _ hs1) q)
      have HF := Lib.hid hfin
      clear h1 hs1 hfin hm0
      go_wp2
      go_quiet (fail)
      go_wp2
      go_ret3
      exact HF.out _
theorem from_any {A : Option Addr} {l : List Lx.Tk} (c : Nat) (i : Int) (lab : Bool) (w : World) (hr : Row w w.heap.size A (tcells l)) (hl : l.length ≤ 1000000) : Calls Tryd.prog 11 #[.slice A l.length c, .int .i64 i, .bool lab] w (FromRes w (Rl.from_ l i lab)) := by
  by_cases h : 0 ≤ i ∧ i < l.length
  · cases hm : Rl.may l i
    · exact from_last c i lab w hr hl h.1 h.2 hm
    · exact from_good c i lab w hr hl hm
  · exact from_out c i lab w h
end Go.Proofs.YtflagbglbhmheaaDoor
