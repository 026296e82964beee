/- Walks of the reader's small methods. -/
import Derived.Test.YtflagbglbhmheaaDoorRulA
import Derived.Test.YtflagbglbhmheaaDoorLexA
import Derived.BigRegion
import Derived.RangeFuncBox
namespace Go.Proofs.YtflagbglbhmheaaDoor
set_option maxRecDepth 100000
open Go.RowKit Go.Shelf

theorem isN_of {l : List Lx.Tk} {k : Nat} {t : Lx.Tk} (h : l[k]? = some t) (x : ByteArray) : Rl.isN l k x = decide ((t.kind = 1 ∨ t.kind = 3) ∧ t.text = x) := by
  unfold Rl.isN
  rw [h]

theorem str_beq (a b : ByteArray) : (a.toList == b.toList) = decide (a = b) := by
  rw [Bool.eq_iff_iff, decide_eq_true_eq, beq_iff_eq, Lib.toList_data, Lib.toList_data]
  constructor
  · intro e
    rw [← Lib.mk_data a, ← Lib.mk_data b, e]
  · intro e
    rw [e]
set_option maxHeartbeats 1000000 in
theorem isNext_any {R M c : Nat} {A : Option Addr} {l : List Lx.Tk} {s : Rl.St} {rv : Value} (x : ByteArray) (w : World) (h : Rd R M A c l s rv w) (hp : s.pos < l.length) (_ : l.length ≤ 1000000) :
    Calls Tryd.prog 63 #[.pointer (some ⟨R, 0, none⟩), .string x] w fun e w' => e = .returned (.bool (Rl.isN l s.pos x)) ∧ Below w.heap.size w w' := by
  obtain ⟨ad, t, rfl, hb, ht, t0, t1, t2⟩ := trow_at h.toks.row hp
  have hn := isN_of ht x
  have c0 : w.cell? ⟨R, 0, none⟩ = some (.slice (some ad) l.length c) := by rw [h.blk.cell]; rfl
  have c1 : w.cell? ⟨R, 1, none⟩ = some (.int .i64 s.pos) := by rw [h.blk.cell]; rfl
  have hblk : (ad.add (s.pos * 3)).block < w.heap.size := by rw [add_block]; exact hb
  have HN := Lib.hid hn
  have hR := h.lt
  have H := Lib.hid h
  clear hn ht h
  obtain ⟨kd, y, ps⟩ := t
  dsimp only at t0 t1 t2
  go_enter Tryd.func63, Tryd.ntmps63
  go_wp2
  go_region
  go_wp2
  all_goals
    go_ret
    refine ⟨retb ?_, ((Below.refl _ _).alloc (Nat.le_refl _) _).drew⟩
    rw [HN.out]
    first
      | (rw [str_beq, Bool.eq_iff_iff, decide_eq_true_eq, decide_eq_true_eq]; constructor
         · intro e; exact ⟨by omega, e⟩
         · intro e; exact e.2)
      | (symm; rw [decide_eq_false_iff_not]; rintro ⟨e, _⟩; omega)

/-- What a step makes of the reader. -/
def Went (R M : Nat) (A : Option Addr) (c : Nat) (l : List Lx.Tk) (rv : Value) (w : World) (b : Bool) (s : Rl.St) (e : Ending) (w' : World) : Prop :=
  e = .returned (.bool b) ∧ Rd R M A c l s rv w' ∧ Still R rv rv w w'
theorem Rd.facts {R M c : Nat} {A : Option Addr} {l : List Lx.Tk} {s : Rl.St} {rv : Value} {w : World} (h : Rd R M A c l s rv w) :
    (w.cell? ⟨R, 0, none⟩ = some (.slice A l.length c) ∧ w.cell? ⟨R, 1, none⟩ = some (.int .i64 s.pos) ∧ w.cell? ⟨R, 2, none⟩ = some (.int .i64 s.deep) ∧ w.cell? ⟨R, 3, none⟩ = some rv ∧ w.cell? ⟨R, 4, none⟩ = some (.map (some M))) ∧
    (w.frozen? ⟨R, 1, none⟩ = false ∧ w.frozen? ⟨R, 2, none⟩ = false ∧ w.frozen? ⟨R, 3, none⟩ = false) :=
  ⟨⟨by rw [h.blk.cell]; rfl, by rw [h.blk.cell]; rfl, by rw [h.blk.cell]; rfl, by rw [h.blk.cell]; rfl, by rw [h.blk.cell]; rfl⟩, h.blk.frozen _, h.blk.frozen _, h.blk.frozen _⟩

theorem takes_no {R M c : Nat} {A : Option Addr} {l : List Lx.Tk} {s : Rl.St} {rv : Value} (x : ByteArray) (w : World) (h : Rd R M A c l s rv w) (hp : s.pos < l.length) (hl : l.length ≤ 1000000) (hn : Rl.isN l s.pos x = false) :
    Calls Tryd.prog 61 #[.pointer (some ⟨R, 0, none⟩), .string x] w (Went R M A c l rv w false s) := by
  have hc := isNext_any x w h hp hl
  rw [hn] at hc
  have HC := Lib.hid hc
  have H := Lib.hid h
  clear hc hn h
  go_enter Tryd.func61, Tryd.ntmps61
  go_wp2_with (fail)
  refine HC.out.mono ?_
  rintro e w1 ⟨rfl, hb⟩
  have HB := Lib.hid hb
  clear hb
  go_wp2
  go_ret
  exact ⟨rfl, H.out.kept HB.out, .below HB.out rv⟩
theorem takes_yes {R M c : Nat} {A : Option Addr} {l : List Lx.Tk} {s : Rl.St} {rv : Value} (x : ByteArray) (w : World) (h : Rd R M A c l s rv w) (hp : s.pos < l.length) (hl : l.length ≤ 1000000) (hn : Rl.isN l s.pos x = true) :
    Calls Tryd.prog 61 #[.pointer (some ⟨R, 0, none⟩), .string x] w (Went R M A c l rv w true (Rl.adv s)) := by
  have hc := isNext_any x w h hp hl
  rw [hn] at hc
  have HC := Lib.hid hc
  have H := Lib.hid h
  clear hc hn h
  go_enter Tryd.func61, Tryd.ntmps61
  go_wp2_with (fail)
  refine HC.out.mono ?_
  rintro e w1 ⟨rfl, hb⟩
  have h1 := H.out.kept hb
  obtain ⟨⟨c0, c1, c2, c3, c4⟩, f1, f2, f3⟩ := h1.facts
  have HB := Lib.hid hb
  have H1 := Lib.hid h1
  clear hb h1 c0 c2 c3 c4 f2 f3
  go_wp2
  go_ret
  exact ⟨rfl, H1.out.set_ (s' := Rl.adv s) rfl rfl, (Still.below HB.out rv).setR (p := ⟨R, 1, none⟩) rfl _⟩

theorem put_full {R M c : Nat} {A : Option Addr} {l : List Lx.Tk} {s : Rl.St} {rv : Value} (x : ByteArray) (w : World) (h : Rd R M A c l s rv w) (ho : s.out.length = 40) :
    Calls Tryd.prog 62 #[.pointer (some ⟨R, 0, none⟩), .string x] w (Told R M A c l rv w (s, 8)) := by
  obtain ⟨⟨c0, c1, c2, c3, c4⟩, f1, f2, f3⟩ := h.facts
  obtain ⟨A1, cap, rfl⟩ := ownT_slice h.own
  have H := Lib.hid h
  have HO : Hid (s.out.length = 40) := ho
  have hlen : (s.out.length : Int) = 40 := by omega
  clear h c0 c1 c2 c4 ho
  go_enter Tryd.func62, Tryd.ntmps62
  go_wp2
  go_ret
  exact ⟨_, rfl, H.out, Still.refl _ _ _⟩
theorem blk_grow {W W' : World} {o : Obj} {g : Nat} {t : TypeId} {cs : Array Value} {row : Option Nat} (hb : Blk W g t cs) (hne : some g ≠ row) (hgr : ((W.alloc o).drew).grownBy W' row) : Blk W' g t cs :=
  (hgr.block g (hb.alloc o).lt hne).trans (hb.alloc o)
theorem own_ne {W : World} {v : Value} {g n : Nat} {e : TypeId} {xs : List Value} (hown : W.ownsRow (g + 1) e 1 v n xs) : some g ≠ v.ownBlock := fun he => by
  have := (hown.lt g he.symm).1
  omega
theorem cell_one_new (w : World) (t : TypeId) (u : Value) : ∀ j v, [u][j]? = some v → (w.alloc (.cells #[u] t)).drew.cell? ((⟨w.heap.size, 0, none⟩ : Addr).add j) = some v := fun j v hv => cells_new w [u] t j v hv
set_option maxHeartbeats 1000000 in
theorem put_room {R M c : Nat} {A : Option Addr} {l : List Lx.Tk} {s : Rl.St} {rv : Value} (x : ByteArray) (w : World) (h : Rd R M A c l s rv w) (ho : s.out.length < 40) :
    Calls Tryd.prog 62 #[.pointer (some ⟨R, 0, none⟩), .string x] w (Told R M A c l rv w ({ s with out := s.out ++ [Rl.opOf x] }, 0)) := by
  obtain ⟨⟨c0, c1, c2, c3, c4⟩, f1, f2, f3⟩ := h.facts
  have hown := h.own
  have hlook := run_word x w M h.map
  have hlook2 := run_word x w.drew M h.map
  have hblk := h.blk
  have hne2 := own_ne h.own
  obtain ⟨A1, cap, rfl⟩ := ownT_slice h.own
  obtain ⟨i0, hi, hz0, hz1, hz2⟩ := info_parts Tryd.infoInt
  have H := Lib.hid h
  have hne : ((s.out.length : Int) == 40) = false := by rw [beq_eq_false_iff_ne]; omega
  have hR := h.lt
  clear h c0 c1 c2
  go_enter Tryd.func62, Tryd.ntmps62
  go_wp2
  go_region_law (refine step_append_own2 rfl (.tmp 15) (.tmp 22) 22 rfl (R + 1) 3 i0 (.int .i64 0) 1 8 Tryd.underlying22 hi hz0 hz1 hz2 rfl (by decide) (.slice A1 s.out.length cap) s.out.length (ints s.out) (by simp [Act.eval]) (by exact hown.alloc _) ⟨w.heap.size, 0, none⟩ 1 1 [.int .i64 (Rl.opOf x)] (by simp [Act.eval]) rfl (by exact cell_one_new _ _ _) (by simp [Value.oneCell']) (by unfold maxLen; omega) (by omega) (by simp; omega) ?_; intro v' w' hown' hgrow hob; obtain ⟨g', cap', rfl⟩ := ownsRow_succ hown'; have hb2 := blk_grow hblk hne2 hgrow; have hcz : w'.cell? ⟨R, 3, none⟩ = some (.slice A1 s.out.length cap) := (by rw [hb2.cell]; rfl); have hfz := hb2.frozen 3)
  all_goals go_wp2
  all_goals
    go_ret
    have hst := (((Still.refl R _ w).alloc _).drew.grown hgrow hob).setR (p := ⟨R, 3, none⟩) rfl (.slice (some ⟨g', 0, none⟩) (s.out.length + 1) cap')
    refine ⟨_, rfl, H.out.still hst (s' := { s with out := s.out ++ [Rl.opOf x] }) (hb2.set_ 3 _) ?_, hst⟩
    rw [ints_snoc, List.length_append]
    exact ownsRow_setCell_below hown' (by simp) _
theorem put_any {R M c : Nat} {A : Option Addr} {l : List Lx.Tk} {s : Rl.St} {rv : Value} (x : ByteArray) (w : World) (h : Rd R M A c l s rv w) (ho : s.out.length ≤ 40) :
    Calls Tryd.prog 62 #[.pointer (some ⟨R, 0, none⟩), .string x] w (Told R M A c l rv w (Rl.put (Rl.opOf x) s)) := by
  unfold Rl.put
  by_cases h40 : s.out.length = 40
  · rw [if_pos h40]; exact put_full x w h h40
  · rw [if_neg h40]; exact put_room x w h (by omega)
end Go.Proofs.YtflagbglbhmheaaDoor
