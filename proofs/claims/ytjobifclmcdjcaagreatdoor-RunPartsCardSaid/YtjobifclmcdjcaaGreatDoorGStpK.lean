/- Walk of the machine's method step (by gen_stpk.py). -/
import Derived.BigRegion
import Derived.BigQuiet
import Derived.Deep.RegionHeld3
import Derived.Deep.Cut
import Derived.Deep.CutRange
import Derived.Defers
import Derived.Recover
import Derived.Handy
import Derived.Test.YtjobifclmcdjcaaGreatDoorGStpD
import Derived.Test.YtjobifclmcdjcaaGreatDoorGCodP
import Derived.Test.YtjobifclmcdjcaaGreatDoorGJudB
import Derived.Test.YtjobifclmcdjcaaGreatDoorGShoA
namespace Go.Proofs.YtjobifclmcdjcaaGreatDoor
set_option maxRecDepth 100000
open Go.RowKit Go.Shelf
attribute [local go_sem] Oper.semAt_some
/-- A table's row, as the judge reads it. -/
def rwT (up : List Nat) (l : List Tb.PR) (op : Int) : Sp.Rw :=
  ⟨fun labs => Jg.Is (Jg.val (jops up labs) (l.getD op.toNat Tb.PR.none).m), fun labs => ((Jg.A (Jg.val (jops up labs) (l.getD op.toNat Tb.PR.none).r) : Nat) : Int), fun labs => ((Jg.A (Jg.val (jops up labs) (l.getD op.toNat Tb.PR.none).p) : Nat) : Int)⟩
def SDone (q : MB) (w : World) (r : Option (Sp.M × Nat)) (e : Ending) (w' : World) : Prop :=
  match r with
  | some (m, n) => e = .returned (.int .i64 (n : Int)) ∧ (∃ x, Mach q m x w') ∧ Kpt q.B w w'
  | none => e = .panicked [cannotP] ∧ Kpt q.B w w'
theorem blk_neM {W : World} {g g' : Nat} {t t' : TypeId} {cs cs' : Array Value} (h : Blk W g t cs) (h' : Blk W g' t' cs') (ht : t ≠ t') : g ≠ g' := fun e => by
  subst e
  unfold Blk at h h'
  rw [h] at h'
  injection h' with h'
  injection h' with e1 e2
  exact ht e2
/-- The instruction is stored. -/
theorem Mach.withIns_ {q : MB} {m : Sp.M} {x : MV} {W : World} (h : Mach q m x W) (y : Cd.In) : Mach q { m with ins := y } x (((W.setCell ⟨q.g, 8, none⟩ (.int .i64 y.op)).setCell ⟨q.g, 9, none⟩ (.int .i64 y.n)).setCell ⟨q.g, 10, none⟩ (.int .i64 y.l)) :=
  ((h.set_ (m' := { m with ins := { m.ins with op := y.op } }) 8 _ rfl rfl rfl rfl rfl rfl).set_ (m' := { m with ins := { y with l := m.ins.l } }) 9 _ rfl rfl rfl rfl rfl rfl).set_ (m' := { m with ins := y }) 10 _ rfl rfl rfl rfl rfl rfl
theorem kpt3 {B g i j k : Nat} {w W : World} {cs : Array Value} (h : Kpt B w W) (hm : Blk W g 103 cs) (hg : B ≤ g) (a b c : Value) : Kpt B w (((W.setCell ⟨g, i, none⟩ a).setCell ⟨g, j, none⟩ b).setCell ⟨g, k, none⟩ c) :=
  ((h.setM hm hg i a).setM (hm.set_ i a) hg j b).setM ((hm.set_ i a).set_ j b) hg k c
theorem inrow_of {W : World} {base n c k : Nat} {A : Option Addr} {l : List Cd.In} (h : W.ownsRow base 57 3 (.slice A n c) n (fcells ivs l)) (_hn : l.length = n) {x : Cd.In} (hx : l[k]? = some x) : ∃ ad, A = some ad ∧ ad.block < W.heap.size ∧ W.cell? (ad.add (k * 3)) = some (.int .i64 x.op) ∧
    W.cell? ⟨(ad.add (k * 3)).block, (ad.add (k * 3)).off + 1, none⟩ = some (.int .i64 x.n) ∧ W.cell? ⟨(ad.add (k * 3)).block, (ad.add (k * 3)).off + 2, none⟩ = some (.int .i64 x.l) := by
  have hlt : k < l.length := (List.getElem?_eq_some_iff.1 hx).1
  obtain ⟨ad, t, e, hb, ht, c0, c1, c2⟩ := inrow_at (ownT_row h).1 hlt
  rw [hx] at ht
  injection ht with ht
  subst ht
  exact ⟨ad, e, hb, c0, c1, c2⟩
theorem acts_made (p : Addr) (w : World) : Calls Tryz.prog 85 #[.pointer (some p)] w fun e w' => ∃ r, e = .returned (.map (some r)) ∧ w'.heap[r]? = some (.map (entI (actV p) 13) 13) ∧ Below w.heap.size w w' :=
  (acts_any p w).mono fun _ _ ⟨h1, h2⟩ => ⟨_, h1, h2 ▸ World.alloc_heap_new w _, h2 ▸ (Below.refl _ w).alloc (Nat.le_refl _) _⟩
set_option maxHeartbeats 8000000 in
theorem step_any {q : MB} {bot : Int} {s : St.State} {x : MV} {RA : Option Addr} {l : List Tb.PR} (rc : Nat) (w : World) (h : Mach q (Sp.start bot s ⟨0, 0, 0⟩) x w) (hz : checkN q.names q.up = 0) (hs : St.rightB q.up.length s = true) (hbot : Sp.InR q.up.length bot) (hr : RowsIn w q.B RA l) (hl : l.length = 13) (hok : ∀ k y, l[k]? = some y → Tb.rowE k y = 0) :
    Calls Tryz.prog 54 #[.pointer (some ⟨q.g, 0, none⟩), .agg #[.slice RA l.length rc]] w (SDone q w (Sp.run q.up.length bot (rwT q.up l) s)) := by
  obtain ⟨l1, l2, l3, l4, hp0, hp1⟩ := Sp.right_len hs
  obtain ⟨-, -, -, hins⟩ := Sp.right_labs hs
  obtain ⟨pc, hpc⟩ : ∃ pc : Nat, s.pc.v = (pc : Int) := ⟨s.pc.v.toNat, by omega⟩
  have hpb : pc ≤ 12 := by omega
  have hal := (Below.refl w.heap.size w).alloc (Nat.le_refl _) (.cells #[.slice RA l.length rc] 28)
  have htb := Blk.new w 28 #[.slice RA l.length rc]
  have h1 := h.below hal
  obtain ⟨W, hW⟩ : ∃ W, w.alloc (.cells #[.slice RA l.length rc] 28) = W := ⟨_, rfl⟩
  rw [hW] at hal htb h1
  have f2 : W.cell? ⟨q.g, 2, none⟩ = some (.int .i64 s.pc.v) := h1.blk.cell 2
  have f4 : W.cell? ⟨q.g, 4, none⟩ = some (.slice x.cA s.code.length x.cc) := h1.blk.cell 4
  rw [hpc] at f2
  obtain ⟨n, hn⟩ : ∃ n, s.code.length = n := ⟨_, rfl⟩
  rw [hn] at f4
  have hn12 : n ≤ 12 := by omega
  obtain ⟨r, hrr⟩ : ∃ r, Sp.run q.up.length bot (rwT q.up l) s = r := ⟨_, rfl⟩
  rw [hrr]
  have HK0 := Lib.hid (Kpt.of hal h.le)
  cases hx : s.code[pc]? with
  | none =>
    have hrn : Hid (r = none) := Lib.hid (by rw [← hrr]; unfold Sp.run; rw [hpc, Int.toNat_natCast, hx])
    have hge : n ≤ pc := by have := List.getElem?_eq_none_iff.1 hx; omega
    have hdl : decide (pc < n) = false := decide_eq_false (by omega)
    have HM := Lib.hid (must_no W.drew)
    have HK := Lib.hid HK0.out.drew
    clear hx hrr h h1 hal htb hr hok hins hbot hs hz hl hpc hn l1 l2 l3 l4 hp0 hp1
    go_enter Tryz.func54, Tryz.ntmps54
    go_wp2
    refine still_tail_drew 13 (by kernel_rfl) (by kernel_rfl) ?_
    simp only [List.take_succ_cons, List.take_zero, List.drop_succ_cons, List.drop_zero]
    repeat still_step
    refine wpStill_nil ?_
    go_wp2_with (fail)
    refine HM.out.mono ?_
    rintro e w2 ⟨rfl, rfl⟩
    refine ⟨rfl, ?_⟩
    rw [hrn.out]
    exact ⟨rfl, HK.out⟩
  | some y =>
    have hplt : pc < n := by have := (List.getElem?_eq_some_iff.1 hx).1; omega
    have hin := hins y (List.mem_of_getElem? hx)
    obtain ⟨hops, h9, -⟩ := Sp.ops_of hin
    obtain ⟨k, hk⟩ : ∃ k : Nat, y.op = (k : Int) := ⟨y.op.toNat, by omega⟩
    have hk13 : k < 13 := by omega
    have hrg : Hid (Sp.go q.up.length bot s y (rwT q.up l y.op) = r) := Lib.hid (by rw [← hrr]; unfold Sp.run; rw [hpc, Int.toNat_natCast, hx])
    have h1d := h1.drew
    obtain ⟨ca, hca, hcb, y0, y1, y2⟩ := inrow_of h1d.code rfl hx
    rw [hca] at f4
    have h2 : Mach q (Sp.start bot s y) x _ := (h1.withIns_ y).drew.drew
    have HM := Lib.hid (must_yes W.drew)
    have hdl : decide (pc < n) = true := decide_eq_true (by omega)
    have g8 : W.cell? ⟨q.g, 8, none⟩ = some (.int .i64 (Sp.start bot s ⟨0, 0, 0⟩).ins.op) := h1.blk.cell 8
    have g9 : W.cell? ⟨q.g, 9, none⟩ = some (.int .i64 (Sp.start bot s ⟨0, 0, 0⟩).ins.n) := h1.blk.cell 9
    have g10 : W.cell? ⟨q.g, 10, none⟩ = some (.int .i64 (Sp.start bot s ⟨0, 0, 0⟩).ins.l) := h1.blk.cell 10
    have z8 : W.frozen? ⟨q.g, 8, none⟩ = false := h1.blk.frozen 8
    have z9 : W.frozen? ⟨q.g, 9, none⟩ = false := h1.blk.frozen 9
    have z10 : W.frozen? ⟨q.g, 10, none⟩ = false := h1.blk.frozen 10
    have hk2 := (kpt3 (i := 8) (j := 9) (k := 10) HK0.out h1.blk h.base (.int .i64 y.op) (.int .i64 y.n) (.int .i64 y.l)).drew.drew
    rw [hk] at y0 h2 hk2
    have HK2 := Lib.hid hk2
    have H2 := Lib.hid h2
    have HM1 := Lib.hid h1
    have HTB := Lib.hid htb
    have HR := Lib.hid hr
    have HS := Lib.hid hs
    have HZ := Lib.hid hz
    have HBOT := Lib.hid hbot
    have HOK := Lib.hid hok
    have HIN := Lib.hid hin
    have HKO := Lib.hid hk
    have HPC := Lib.hid hpc
    have HL := Lib.hid hl
    have HBASE := Lib.hid h.base
    have hsl : s.code.length = n := hn
    clear hx hrr h h1 h1d h2 hal htb hr hok hins hbot hs hz hl hpc hn l1 l2 l3 l4 hp0 hp1 hin hops h9 hca hcb hsl hk2
    go_enter Tryz.func54, Tryz.ntmps54
    go_wp2
    refine still_tail_drew 13 (by kernel_rfl) (by kernel_rfl) ?_
    simp only [List.take_succ_cons, List.take_zero, List.drop_succ_cons, List.drop_zero]
    repeat still_step
    refine wpStill_nil ?_
    go_wp2_with (fail)
    refine HM.out.mono ?_
    rintro e w2 ⟨rfl, rfl⟩
    have e2 : W.drew.cell? ⟨q.g, 2, none⟩ = some (.int .i64 (pc : Int)) := f2
    have e4 : W.drew.cell? ⟨q.g, 4, none⟩ = some (.slice (some ca) n x.cc) := f4
    go_wp2
    refine still_tail_drew 16 (by kernel_rfl) (by kernel_rfl) ?_
    simp only [List.take_succ_cons, List.take_zero, List.drop_succ_cons, List.drop_zero]
    repeat still_step
    refine wpStill_nil ?_
    go_wp2
    obtain ⟨W2, hW2⟩ : ∃ W2, (((W.setCell ⟨q.g, 8, none⟩ (.int .i64 (k : Int))).setCell ⟨q.g, 9, none⟩ (.int .i64 y.n)).setCell ⟨q.g, 10, none⟩ (.int .i64 y.l)).drew.drew = W2 := ⟨_, rfl⟩
    have htb2 : Blk W2 w.heap.size 28 #[.slice RA l.length rc] := hW2 ▸ (kpt3 (i := 8) (j := 9) (k := 10) (Kpt.refl q.B W) HM1.out.blk HBASE.out (.int .i64 (k : Int)) (.int .i64 y.n) (.int .i64 y.l)).drew.drew.typ _ _ _ HTB.out (by decide) (by decide) (by decide)
    rw [hW2] at H2 HK2 ⊢
    have HTB2 := Lib.hid htb2
    have c8 : W2.cell? ⟨q.g, 8, none⟩ = some (.int .i64 (k : Int)) := by rw [← HKO.out]; exact H2.out.blk.cell 8
    clear htb2 hW2 g8 g9 g10 z8 z9 z10 e2 e4 y0 y1 y2 f2 f4
    have HACT := Lib.hid (acts_made ⟨q.g, 0, none⟩)
    have hlk : ∀ (W : World) (r : Nat), W.heap[r]? = some (.map (entI (actV ⟨q.g, 0, none⟩) 13) 13) → (Instr.lookup 130 (.map (some r)) (.int .i64 (k : Int)) false).run Tryz.prog W = .ok (.agg #[.func (.func (needF k)) #[.pointer (some ⟨q.g, 0, none⟩)] #[], .func (.func (deedF k)) #[.pointer (some ⟨q.g, 0, none⟩)] #[]]) W := fun W r hb => acts_look _ hk13 hb
    go_cut [5] from 42 to 49 (fun bx wx => ∃ b, bx = .pointer (some ⟨b, 0, none⟩) ∧ W2.heap.size ≤ b ∧ Hid (Below W2.heap.size W2 wx) ∧ Hid (Blk wx b 129 #[.func (.func (needF k)) #[.pointer (some ⟨q.g, 0, none⟩)] #[], .func (.func (deedF k)) #[.pointer (some ⟨q.g, 0, none⟩)] #[]]))
    case first =>
      have c8a : ∀ cs, (W2.alloc (.cells cs 129)).cell? ⟨q.g, 8, none⟩ = some (.int .i64 (k : Int)) := fun cs => (((Below.refl W2.heap.size W2).alloc (Nat.le_refl _) (.cells cs 129)).cell (p := ⟨q.g, 8, none⟩) H2.out.lt).trans c8
      have hgb : W2.heap.size ≠ q.g := Nat.ne_of_gt H2.out.lt
      go_region_held3 (fun W => W.cell? ⟨q.g, 8, none⟩ = some (.int .i64 (k : Int)))
        (first | exact c8 | exact c9 | exact c9a _ | exact c8a _ | exact c9s _ _)
        (first
          | (go_at_call 85; refine (HACT.out _).mono ?_; rintro e w9 ⟨r9, rfl, hmp, hb9⟩; have c9 : w9.cell? ⟨q.g, 8, none⟩ = some (.int .i64 (k : Int)) := (hb9.cell (p := ⟨q.g, 8, none⟩) (by have := H2.out.lt; simp; omega)).trans (by first | exact c8 | exact c8a _); have c9a : ∀ cs, (w9.alloc (.cells cs 129)).cell? ⟨q.g, 8, none⟩ = some (.int .i64 (k : Int)) := fun cs => (((Below.refl w9.heap.size w9).alloc (Nat.le_refl _) (.cells cs 129)).cell (p := ⟨q.g, 8, none⟩) (World.block_lt_of_cell? w9 ⟨q.g, 8, none⟩ c9)).trans c9; have hl9 := hlk w9 _ hmp; have hl9a := fun o => hlk (w9.alloc o) _ ((Below.heap_alloc w9 o _ (Array.getElem?_eq_some_iff.1 hmp).1).trans hmp); (try (have hbx9 : Blk w9 W2.heap.size 129 #[.nilFunc, .nilFunc] := (by first | exact (Blk.new W2 129 #[.nilFunc, .nilFunc]).below hb9 (by simp) | exact (Blk.new W2 129 #[.nilFunc, .nilFunc]).drew.below hb9 (by simp)); have d0 : w9.cell? ⟨W2.heap.size, 0, none⟩ = some .nilFunc := hbx9.cell 0; have d1 : w9.cell? ⟨W2.heap.size, 1, none⟩ = some .nilFunc := hbx9.cell 1; have zz0 := hbx9.frozen 0; have zz1 := hbx9.frozen 1; have c9s : ∀ a b, ((w9.setCell ⟨W2.heap.size, 0, none⟩ a).setCell ⟨W2.heap.size, 1, none⟩ b).cell? ⟨q.g, 8, none⟩ = some (.int .i64 (k : Int)) := fun a b => ((World.cell?_of_block (w := w9) (a := ⟨q.g, 8, none⟩) ((Below.heap_setCell _ _ _ _ (fun e => hgb e.symm)).trans (Below.heap_setCell _ _ _ _ (fun e => hgb e.symm)))).trans c9); have HBX9 := Lib.hid hbx9; clear hbx9)); have HB9 := Lib.hid hb9; clear hb9 hmp))
      all_goals go_wp2_with fail
      all_goals go_meet
      all_goals first
        | exact ⟨_, rfl, by have := HB9.out.size; simpa using this, Lib.hid (((Below.refl W2.heap.size W2).drew.trans HB9.out).alloc (by have := HB9.out.size; simpa using this) _), Lib.hid (Blk.new _ _ _)⟩
        | exact ⟨_, rfl, Nat.le_refl _, Lib.hid (((((Below.refl W2.heap.size W2).alloc (Nat.le_refl _) _).drew.trans (HB9.out.mono (by simp))).setCell (p := ⟨W2.heap.size, 0, none⟩) (Nat.le_refl _) _).setCell (p := ⟨W2.heap.size, 1, none⟩) (Nat.le_refl _) _), Lib.hid ((HBX9.out.set_ 0 _).set_ 1 _)⟩
    case rest =>
      obtain ⟨bx, rfl, hbx, HBC, HBB⟩ := hcut
      have H3 := Lib.hid (H2.out.below HBC.out)
      have HK3 := Lib.hid (HK2.out.trans (Kpt.of HBC.out H2.out.le))
      have HTB3 := Lib.hid (HTB2.out.below HBC.out HTB2.out.lt)
      obtain ⟨l1, l2, l3, l4, -, -⟩ := Sp.right_len HS.out
      have hn9 : k = 9 → 0 ≤ y.n ∧ y.n ≤ 50 := fun e => by
        have := (Sp.ops_of HIN.out).2.1 (by rw [HKO.out, e]; rfl)
        omega
      have hnd := need_any H3.out hk13 (by show s.stack.length ≤ 100; omega) (by show s.mem.length ≤ 1000; omega) hn9
      have hen := needF_enters hk13
      have b0 : wc.cell? ⟨bx, 0, none⟩ = some (.func (.func (needF k)) #[.pointer (some ⟨q.g, 0, none⟩)] #[]) := HBB.out.cell 0
      clear l1 l2 l3 l4 hn9 c8 hlk HACT HBC HTB2 HTB HM1 HM hdl
      cases hm : (Sp.start bot s y).need (k : Int) with
      | none =>
        rw [hm] at hnd
        have hrn : Hid (r = none) := Lib.hid (by rw [← hrg.out]; unfold Sp.go; rw [HKO.out, hm]; rfl)
        have HND := Lib.hid hnd
        clear hnd hm
        go_wp2_with (fail)
        refine HND.out.mono ?_
        rintro e w3 ⟨rfl, hk3⟩
        refine ⟨rfl, ?_⟩
        rw [hrn.out]
        exact ⟨rfl, HK3.out.trans hk3⟩
      | some m =>
        rw [hm] at hnd
        have HND := Lib.hid hnd
        have HM := Lib.hid hm
        clear hnd hm
        go_wp2_with (fail)
        refine HND.out.mono ?_
        rintro e w3 ⟨rfl, ⟨gA, gc, hm3⟩, hk3⟩
        obtain ⟨x3, hx3⟩ : ∃ x3, ({ x with gA := gA, gc := gc } : MV) = x3 := ⟨_, rfl⟩
        rw [hx3] at hm3
        have H4 := Lib.hid hm3
        have HK4 := Lib.hid (HK3.out.trans hk3)
        have HTB4 := Lib.hid (hk3.typ _ _ _ HTB3.out (by decide) (by decide) (by decide))
        have HBB4 := Lib.hid (hk3.typ _ _ _ HBB.out (by decide) (by decide) (by decide))
        have hst := Sp.need_st HIN.out (by rw [HKO.out]; exact HM.out)
        have HST := Lib.hid hst
        have d8 : w3.cell? ⟨q.g, 8, none⟩ = some (.int .i64 (k : Int)) := by
          have e8 : w3.cell? ⟨q.g, 8, none⟩ = some (.int .i64 m.ins.op) := hm3.blk.cell 8
          rw [hst.1, HKO.out] at e8
          exact e8
        have d0 : w3.cell? ⟨w.heap.size, 0, none⟩ = some (.slice RA l.length rc) := HTB4.out.cell 0
        clear hm3 hk3 hst b0 HND HTB3 HBB H3 HK3 hx3 hen
        by_cases h12 : k = 12
        · subst h12
          have hrn : Hid (r = some (m, 1)) := Lib.hid (by rw [← hrg.out]; unfold Sp.go; rw [HKO.out, HM.out, Option.bind_some, if_pos (by decide)])
          go_wp2
          go_ret
          rw [hrn.out]
          exact ⟨rfl, ⟨x3, H4.out⟩, HK4.out⟩
        · have hne : ((k : Int) == 12) = false := by rw [beq_eq_false_iff_ne]; omega
          have hne2 : (k == 12) = false := by simpa using h12
          have hgo : Hid ((if (rwT q.up l (k : Int)).may m.labs = false then some (m, 2) else if St.rightB q.up.length (((m.before ((rwT q.up l (k : Int)).res m.labs)).deed (k : Int)).after ((rwT q.up l (k : Int)).pc m.labs)).st = true then some (((m.before ((rwT q.up l (k : Int)).res m.labs)).deed (k : Int)).after ((rwT q.up l (k : Int)).pc m.labs), 0) else none) = r) := Lib.hid (by
            rw [← hrg.out]; unfold Sp.go; rw [HKO.out, HM.out, Option.bind_some, if_neg (show ¬ ((k : Int) = 12) by omega)])
          have hkl : k < l.length := by rw [HL.out]; exact hk13
          obtain ⟨ad, a0, a1, a2, hRA, hab, r0, r1, r2, i0, i1, i2⟩ := (HR.out.below HK4.out.below).at_ hkl
          have hoke := HOK.out k l[k] (List.getElem?_eq_getElem hkl)
          have hrt : Rl.right l[k].m false = true ∧ Rl.right l[k].r true = true ∧ Rl.right l[k].p true = true := by
            unfold Tb.rowE at hoke
            split at hoke
            · rename_i h1
              unfold Tb.okRules at h1
              simpa [Bool.and_eq_true] using h1
            · cases hoke
          have hrw : rwT q.up l (k : Int) = ⟨fun labs => Jg.Is (Jg.val (jops q.up labs) l[k].m), fun labs => ((Jg.A (Jg.val (jops q.up labs) l[k].r) : Nat) : Int), fun labs => ((Jg.A (Jg.val (jops q.up labs) l[k].p) : Nat) : Int)⟩ := by
            unfold rwT
            rw [Int.toNat_natCast, List.getD_eq_getElem?_getD, List.getElem?_eq_getElem hkl, Option.getD_some]
          obtain ⟨rm, hrm⟩ : ∃ rm, l[k].m = rm := ⟨_, rfl⟩
          obtain ⟨rr, hrr⟩ : ∃ rr, l[k].r = rr := ⟨_, rfl⟩
          obtain ⟨rp, hrp⟩ : ∃ rp, l[k].p = rp := ⟨_, rfl⟩
          rw [hrm, hrr, hrp] at hrt hrw
          rw [hrm] at i0
          rw [hrr] at i1
          rw [hrp] at i2
          obtain ⟨A0, k0, rfl, ir0, ic0⟩ := i0
          obtain ⟨A1, k1, rfl, ir1, ic1⟩ := i1
          obtain ⟨A2, k2, rfl, ir2, ic2⟩ := i2
          have hlabs : labsOk q.up m.labs = true := decide_eq_true ⟨rfl, fun a ha => Sp.labs_in HS.out HIN.out HBOT.out (by rw [HKO.out]; exact HM.out) a ha⟩
          have hj0 : jWhy q.names q.up rm m.labs false = 0 := by unfold jWhy; rw [if_pos HZ.out, if_pos hrt.1, if_pos hlabs]
          have hj1 : jWhy q.names q.up rr m.labs true = 0 := by unfold jWhy; rw [if_pos HZ.out, if_pos hrt.2.1, if_pos hlabs]
          have hj2 : jWhy q.names q.up rp m.labs true = 0 := by unfold jWhy; rw [if_pos HZ.out, if_pos hrt.2.2, if_pos hlabs]
          have hm40 : rm.length ≤ 1000000 := by have := (of_decide_eq_true hrt.1).1; omega
          have hr40 : rr.length ≤ 1000000 := by have := (of_decide_eq_true hrt.2.1).1; omega
          have hp40 : rp.length ≤ 1000000 := by have := (of_decide_eq_true hrt.2.2).1; omega
          obtain ⟨mv, hmv⟩ : ∃ mv, Jg.Is (Jg.val (jops q.up m.labs) rm) = mv := ⟨_, rfl⟩
          obtain ⟨rv, hrv⟩ : ∃ rv, Jg.A (Jg.val (jops q.up m.labs) rr) = rv := ⟨_, rfl⟩
          obtain ⟨pv, hpv⟩ : ∃ pv, Jg.A (Jg.val (jops q.up m.labs) rp) = pv := ⟨_, rfl⟩
          have HMAY := Lib.hid (show (rwT q.up l (k : Int)).may m.labs = mv by rw [hrw]; exact hmv)
          have HRV := Lib.hid (show (rwT q.up l (k : Int)).res m.labs = (rv : Int) by rw [hrw]; exact congrArg Nat.cast hrv)
          have HPV := Lib.hid (show (rwT q.up l (k : Int)).pc m.labs = (pv : Int) by rw [hrw]; exact congrArg Nat.cast hpv)
          have HCOND := Lib.hid (fun (W : World) (lb : Nat) (hb : Below w3.heap.size w3 W) (hl : Blk W lb 3 #[.int .i64 m.st.pc.l, .int .i64 m.one, .int .i64 m.two, .int .i64 m.three]) => show Calls Tryz.prog 86 #[.agg #[.slice q.N q.names.length q.c1, .slice q.U q.up.length q.c2], .slice A0 rm.length k0, .slice (some ⟨lb, 0, none⟩) 4 4] W (fun e w' => e = .returned (.tuple #[.bool mv, .int .i64 0]) ∧ Below W.heap.size W w') from by
            have hc := cond_any (labs := m.labs) k0 4 W ((H4.out.lat.below (hb.mono H4.out.le)).more (Nat.le_trans H4.out.le hb.size)) ((ir0.below (hb.mono H4.out.le)).more (Nat.le_trans H4.out.le hb.size)) hm40 (L := some ⟨lb, 0, none⟩) (hl.row.more hl.lt) (by simp [Sp.M.labs])
            rw [hj0] at hc
            have e : condV q.up rm m.labs 0 = mv := hmv
            rw [e] at hc
            exact hc)
          have hlabel : ∀ (A : Option Addr) (kk : Nat) (rule : List Int) (v : Nat), Row w3 q.B A (ints rule) → rule.length ≤ 1000000 → jWhy q.names q.up rule m.labs true = 0 → Jg.A (Jg.val (jops q.up m.labs) rule) = v → ∀ (W : World) (lb : Nat) (hb : Below w3.heap.size w3 W) (hl : Blk W lb 3 #[.int .i64 m.st.pc.l, .int .i64 m.one, .int .i64 m.two, .int .i64 m.three]), Calls Tryz.prog 87 #[.agg #[.slice q.N q.names.length q.c1, .slice q.U q.up.length q.c2], .slice A rule.length kk, .slice (some ⟨lb, 0, none⟩) 4 4] W (fun e w' => e = .returned (.tuple #[.int .i64 (v : Int), .int .i64 0]) ∧ Below W.heap.size W w') := fun A kk rule v hr1 h40 hj hv W lb hb hl => by
            have hc := label_any (labs := m.labs) kk 4 W ((H4.out.lat.below (hb.mono H4.out.le)).more (Nat.le_trans H4.out.le hb.size)) ((hr1.below (hb.mono H4.out.le)).more (Nat.le_trans H4.out.le hb.size)) h40 (L := some ⟨lb, 0, none⟩) (hl.row.more hl.lt) (by simp [Sp.M.labs])
            rw [hj] at hc
            have e : labelV q.up rule m.labs 0 = v := hv
            rw [e] at hc
            exact hc
          have HRES := Lib.hid (hlabel A1 k1 rr rv ir1 hr40 hj1 hrv)
          have HPCL := Lib.hid (hlabel A2 k2 rp pv ir2 hp40 hj2 hpv)
          have hkc : (k : Int) < (l.length : Int) := by omega
          have hadl : (ad.add (k * 3)).block < w3.heap.size := by rw [add_block]; have := H4.out.le; omega
          rw [hRA] at d0
          clear hlabel hj0 hj1 hj2 hm40 hr40 hp40 hlabs hrt hoke hrw hrm hrr hrp ir0 ir1 ir2 ic0 ic1 ic2 hmv hrv hpv hab
          go_wp2
          refine Free.region_seq [9, 10] [1, 6, 8] 10 (fun W' => W'.cell? ⟨w.heap.size, 0, none⟩ = some (.slice (some ad) l.length rc) ∧ W'.cell? ⟨q.g, 8, none⟩ = some (.int .i64 (k : Int)) ∧ W'.cell? (ad.add (k * 3)) = some (.slice A0 rm.length k0) ∧ W'.cell? ⟨(ad.add (k * 3)).block, (ad.add (k * 3)).off + 1, none⟩ = some (.slice A1 rr.length k1) ∧ W'.cell? ⟨(ad.add (k * 3)).block, (ad.add (k * 3)).off + 2, none⟩ = some (.slice A2 rp.length k2)) (by kernel_rfl) (by kernel_rfl) (by kernel_rfl) (by kernel_rfl) (⟨d0, d8, r0, r1, r2⟩) (fun ops hops => ?_)
          clear hops
          iterate 9
            refine Free.Seq.quiet (v := ?_) (a' := ?_) rfl rfl (fun W' hW' => ?_) ?_ ?_
            rotate_left 2
            · first | obtain ⟨s0, s1, s2, s3, s4⟩ := hW' rfl | skip
              go_simp
              try with_reducible rfl
            · simp only [Act.put, List.setIfInBounds_toArray, List.set_cons_zero, List.set_cons_succ]
              try with_reducible rfl
          refine Free.Seq.loud_ rfl (.inl rfl) (fun K hK => ?_)
          go_simp
          refine hK.out _ _ rfl (fun _ => ?_) ?_
          · have hb := ((Below.refl w3.heap.size w3).alloc (Nat.le_refl _) (.cells #[.slice none 0 0, .slice none 0 0, .slice none 0 0] 55)).drew
            exact ⟨(hb.cell (p := ⟨w.heap.size, 0, none⟩) HTB4.out.lt).trans d0, (hb.cell (p := ⟨q.g, 8, none⟩) H4.out.lt).trans d8, (hb.cell hadl).trans r0, (hb.cell (p := ⟨(ad.add (k * 3)).block, (ad.add (k * 3)).off + 1, none⟩) hadl).trans r1, (hb.cell (p := ⟨(ad.add (k * 3)).block, (ad.add (k * 3)).off + 2, none⟩) hadl).trans r2⟩
          clear hK K
          refine Free.Seq.loud_ rfl (.inl rfl) (fun K hK => ?_)
          go_simp
          refine hK.out _ _ rfl (fun h => absurd h (by decide)) ?_
          clear hK K
          refine Free.Seq.nil_ ?_
          have hb4 := ((Below.refl w3.heap.size w3).alloc (Nat.le_refl _) (.cells #[.slice A0 rm.length k0, .slice A1 rr.length k1, .slice A2 rp.length k2] 55)).drew
          have hrow4 := (Blk.new w3 55 #[.slice A0 rm.length k0, .slice A1 rr.length k1, .slice A2 rp.length k2]).drew
          obtain ⟨w4, hw4⟩ : ∃ W, (w3.alloc (.cells #[.slice A0 rm.length k0, .slice A1 rr.length k1, .slice A2 rp.length k2] 55)).drew = W := ⟨_, rfl⟩
          rw [hw4] at hb4 hrow4 ⊢
          have h4 := H4.out.below hb4
          have c3 : w4.cell? ⟨q.g, 3, none⟩ = some (.int .i64 m.st.pc.l) := h4.blk.cell 3
          have c21 : w4.cell? ⟨q.g, 21, none⟩ = some (.int .i64 m.one) := h4.blk.cell 21
          have c22 : w4.cell? ⟨q.g, 22, none⟩ = some (.int .i64 m.two) := h4.blk.cell 22
          have c23 : w4.cell? ⟨q.g, 23, none⟩ = some (.int .i64 m.three) := h4.blk.cell 23
          have hal5 := ((Below.refl w4.heap.size w4).alloc (Nat.le_refl _) (.cells #[.int .i64 m.st.pc.l, .int .i64 m.one, .int .i64 m.two, .int .i64 m.three] 3)).drew
          have hb5 := hb4.trans (hal5.mono hb4.size)
          have hlab5 := (Blk.new w4 3 #[.int .i64 m.st.pc.l, .int .i64 m.one, .int .i64 m.two, .int .i64 m.three]).drew
          have hrow5 := hrow4.below hal5 hrow4.lt
          have HB5 := Lib.hid hb5
          have HLAB5 := Lib.hid hlab5
          have HROW5 := Lib.hid hrow5
          clear hb4 hrow4 h4 hal5 hb5 hlab5 hrow5 hw4 r0 r1 r2 d0 d8
          go_wp2
          refine still_tail_drew 18 (by kernel_rfl) (by kernel_rfl) ?_
          simp only [List.take_succ_cons, List.take_zero, List.drop_succ_cons, List.drop_zero]
          repeat still_step
          refine wpStill_nil ?_
          go_wp2
          obtain ⟨w5, hw5⟩ : ∃ W, (w4.alloc (.cells #[.int .i64 m.st.pc.l, .int .i64 m.one, .int .i64 m.two, .int .i64 m.three] 3)).drew = W := ⟨_, rfl⟩
          rw [hw5] at HB5 HLAB5 HROW5 ⊢
          have h5 := H4.out.below HB5.out
          have e0 : w5.cell? ⟨q.g, 0, none⟩ = some (.slice q.N q.names.length q.c1) := h5.blk.cell 0
          have e1 : w5.cell? ⟨q.g, 1, none⟩ = some (.slice q.U q.up.length q.c2) := h5.blk.cell 1
          have g0 : w5.cell? ⟨w3.heap.size, 0, none⟩ = some (.slice A0 rm.length k0) := HROW5.out.cell 0
          have HCO := Lib.hid (HCOND.out w5.drew w4.heap.size HB5.out.drew HLAB5.out.drew)
          clear h5 hw5 c3 c21 c22 c23 HCOND
          refine Free.region_seq [7] [3, 5] 7 (fun W' => W'.cell? ⟨q.g, 0, none⟩ = some (.slice q.N q.names.length q.c1) ∧ W'.cell? ⟨q.g, 1, none⟩ = some (.slice q.U q.up.length q.c2) ∧ W'.cell? ⟨w3.heap.size, 0, none⟩ = some (.slice A0 rm.length k0)) (by kernel_rfl) (by kernel_rfl) (by kernel_rfl) (by kernel_rfl) (⟨e0, e1, g0⟩) (fun ops hops => ?_)
          clear hops
          iterate 7
            refine Free.Seq.quiet (v := ?_) (a' := ?_) rfl rfl (fun W' hW' => ?_) ?_ ?_
            rotate_left 2
            · first | obtain ⟨s0, s1, s2⟩ := hW' rfl | skip
              go_simp
              try with_reducible rfl
            · simp only [Act.put, List.setIfInBounds_toArray, List.set_cons_zero, List.set_cons_succ]
              try with_reducible rfl
          refine Free.Seq.loud_ rfl (.inl rfl) (fun K hK => ?_)
          go_simp
          refine HCO.out.mono ?_
          rintro e w6 ⟨rfl, hb6⟩
          have HB6 := Lib.hid (HB5.out.drew.trans (hb6.mono HB5.out.drew.size))
          have HLAB6 := Lib.hid (HLAB5.out.drew.below hb6 HLAB5.out.drew.lt)
          have HROW6 := Lib.hid (HROW5.out.drew.below hb6 HROW5.out.drew.lt)
          refine hK.out _ _ rfl (fun h => absurd h (by decide)) ?_
          clear hK K hb6 HCO HB5 HLAB5 HROW5 e0 e1 g0
          iterate 5
            refine Free.Seq.quiet (v := ?_) (a' := ?_) rfl rfl (fun W' hW' => ?_) ?_ ?_
            rotate_left 2
            · skip
              go_simp
              try with_reducible rfl
            · simp only [Act.put, List.setIfInBounds_toArray, List.set_cons_zero, List.set_cons_succ]
              try with_reducible rfl
          refine Free.Seq.nil_ ?_
          cases mv with
          | false =>
            have hrn : Hid (r = some (m, 2)) := Lib.hid (by rw [← hgo.out, if_pos HMAY.out])
            have H6 := Lib.hid (H4.out.below HB6.out)
            have HK6 := Lib.hid (HK4.out.trans (Kpt.of HB6.out H4.out.le))
            go_wp2
            go_ret
            rw [hrn.out]
            exact ⟨rfl, ⟨x3, H6.out⟩, HK6.out⟩
          | true =>
            have h6 := H4.out.below HB6.out
            have e0 : w6.cell? ⟨q.g, 0, none⟩ = some (.slice q.N q.names.length q.c1) := h6.blk.cell 0
            have e1 : w6.cell? ⟨q.g, 1, none⟩ = some (.slice q.U q.up.length q.c2) := h6.blk.cell 1
            have g2 : w6.cell? ⟨w3.heap.size, 2, none⟩ = some (.slice A2 rp.length k2) := HROW6.out.cell 2
            have HCO := Lib.hid (HPCL.out w6.drew w4.heap.size HB6.out.drew HLAB6.out.drew)
            clear h6 HPCL
            go_wp2
            refine Free.region_seq [7] [3, 5] 7 (fun W' => W'.cell? ⟨q.g, 0, none⟩ = some (.slice q.N q.names.length q.c1) ∧ W'.cell? ⟨q.g, 1, none⟩ = some (.slice q.U q.up.length q.c2) ∧ W'.cell? ⟨w3.heap.size, 2, none⟩ = some (.slice A2 rp.length k2)) (by kernel_rfl) (by kernel_rfl) (by kernel_rfl) (by kernel_rfl) (⟨e0, e1, g2⟩) (fun ops hops => ?_)
            clear hops
            iterate 7
              refine Free.Seq.quiet (v := ?_) (a' := ?_) rfl rfl (fun W' hW' => ?_) ?_ ?_
              rotate_left 2
              · first | obtain ⟨s0, s1, s2⟩ := hW' rfl | skip
                go_simp
                try with_reducible rfl
              · simp only [Act.put, List.setIfInBounds_toArray, List.set_cons_zero, List.set_cons_succ]
                try with_reducible rfl
            refine Free.Seq.loud_ rfl (.inl rfl) (fun K hK => ?_)
            go_simp
            refine HCO.out.mono ?_
            rintro e w7 ⟨rfl, hb7⟩
            have HB7 := Lib.hid (HB6.out.drew.trans (hb7.mono HB6.out.drew.size))
            have HLAB7 := Lib.hid (HLAB6.out.drew.below hb7 HLAB6.out.drew.lt)
            have HROW7 := Lib.hid (HROW6.out.drew.below hb7 HROW6.out.drew.lt)
            refine hK.out _ _ rfl (fun h => absurd h (by decide)) ?_
            clear hK K hb7 HCO HB6 HLAB6 HROW6 e0 e1 g2
            iterate 5
              refine Free.Seq.quiet (v := ?_) (a' := ?_) rfl rfl (fun W' hW' => ?_) ?_ ?_
              rotate_left 2
              · skip
                go_simp
                try with_reducible rfl
              · simp only [Act.put, List.setIfInBounds_toArray, List.set_cons_zero, List.set_cons_succ]
                try with_reducible rfl
            refine Free.Seq.nil_ ?_
            have h7 := H4.out.below HB7.out
            have e0 : w7.cell? ⟨q.g, 0, none⟩ = some (.slice q.N q.names.length q.c1) := h7.blk.cell 0
            have e1 : w7.cell? ⟨q.g, 1, none⟩ = some (.slice q.U q.up.length q.c2) := h7.blk.cell 1
            have g1 : w7.cell? ⟨w3.heap.size, 1, none⟩ = some (.slice A1 rr.length k1) := HROW7.out.cell 1
            have HCO := Lib.hid (HRES.out w7.drew w4.heap.size HB7.out.drew HLAB7.out.drew)
            clear h7 HRES
            go_wp2
            refine Free.region_seq [8, 14] [4, 6] 8 (fun W' => W'.cell? ⟨q.g, 0, none⟩ = some (.slice q.N q.names.length q.c1) ∧ W'.cell? ⟨q.g, 1, none⟩ = some (.slice q.U q.up.length q.c2) ∧ W'.cell? ⟨w3.heap.size, 1, none⟩ = some (.slice A1 rr.length k1)) (by kernel_rfl) (by kernel_rfl) (by kernel_rfl) (by kernel_rfl) (⟨e0, e1, g1⟩) (fun ops hops => ?_)
            clear hops
            iterate 8
              refine Free.Seq.quiet (v := ?_) (a' := ?_) rfl rfl (fun W' hW' => ?_) ?_ ?_
              rotate_left 2
              · first | obtain ⟨s0, s1, s2⟩ := hW' rfl | skip
                go_simp
                try with_reducible rfl
              · simp only [Act.put, List.setIfInBounds_toArray, List.set_cons_zero, List.set_cons_succ]
                try with_reducible rfl
            refine Free.Seq.loud_ rfl (.inl rfl) (fun K hK => ?_)
            go_simp
            refine HCO.out.mono ?_
            rintro e w8 ⟨rfl, hb8⟩
            have HB8 := Lib.hid (HB7.out.drew.trans (hb8.mono HB7.out.drew.size))
            refine hK.out _ _ rfl (fun h => absurd h (by decide)) ?_
            clear hK K hb8 HCO HB7 HLAB7 HROW7 e0 e1 g1
            have h8 := H4.out.below HB8.out
            have f24 : w8.cell? ⟨q.g, 24, none⟩ = some (.int .i64 m.res) := h8.blk.cell 24
            have z24 : w8.frozen? ⟨q.g, 24, none⟩ = false := h8.blk.frozen 24
            iterate 5
              refine Free.Seq.quiet (v := ?_) (a' := ?_) rfl rfl (fun W' hW' => ?_) ?_ ?_
              rotate_left 2
              · skip
                go_simp
                try with_reducible rfl
              · simp only [Act.put, List.setIfInBounds_toArray, List.set_cons_zero, List.set_cons_succ]
                try with_reducible rfl
            refine Free.Seq.loud_ rfl (.inl rfl) (fun K hK => ?_)
            go_simp
            refine hK.out _ _ rfl (fun h => absurd h (by decide)) ?_
            clear hK K
            refine Free.Seq.nil_ ?_
            have h9 := h8.set_ (m' := { m with res := (rv : Int) }) 24 (.int .i64 (rv : Int)) rfl rfl rfl rfl rfl rfl
            have hk9 := (Kpt.of HB8.out H4.out.le).setM h8.blk HBASE.out 24 (.int .i64 (rv : Int))
            obtain ⟨w9, hw9⟩ : ∃ W, w8.setCell ⟨q.g, 24, none⟩ (.int .i64 (rv : Int)) = W := ⟨_, rfl⟩
            rw [hw9] at h9 hk9 ⊢
            have hbb9 := hk9.typ _ _ _ HBB4.out (by decide) (by decide) (by decide)
            have f2 : w9.cell? ⟨q.g, 2, none⟩ = some (.int .i64 (pc : Int)) := by
              have e2 : w9.cell? ⟨q.g, 2, none⟩ = some (.int .i64 m.st.pc.v) := h9.blk.cell 2
              rw [HST.out.2.1, HPC.out] at e2
              exact e2
            have f25 : w9.cell? ⟨q.g, 25, none⟩ = some (.int .i64 m.next) := h9.blk.cell 25
            have z25 : w9.frozen? ⟨q.g, 25, none⟩ = false := h9.blk.frozen 25
            have hbf : m.before (rv : Int) = { m with res := (rv : Int), next := (pc : Int) + 1 } := by
              unfold Sp.M.before
              rw [HST.out.2.1, HPC.out]
            have h10 : Mach q (m.before (rv : Int)) x3 (w9.setCell ⟨q.g, 25, none⟩ (.int .i64 ((pc : Int) + 1))) := by
              rw [hbf]
              exact h9.set_ (m' := { m with res := (rv : Int), next := (pc : Int) + 1 }) 25 (.int .i64 ((pc : Int) + 1)) rfl rfl rfl rfl rfl rfl
            have hk10 := hk9.setM h9.blk HBASE.out 25 (.int .i64 ((pc : Int) + 1))
            have H10 := Lib.hid h10
            have HK10 := Lib.hid hk10
            have b1 : w9.cell? ⟨bx, 1, none⟩ = some (.func (.func (deedF k)) #[.pointer (some ⟨q.g, 0, none⟩)] #[]) := hbb9.cell 1
            have hbq : ¬ bx = q.g := blk_neM hbb9 h9.blk (by decide)
            have hden := deedF_enters hk13
            have hfit := Sp.fits_of HS.out HIN.out (by rw [HKO.out]; exact HM.out) (rv : Int)
            rw [HKO.out] at hfit
            have HDEED := Lib.hid (deed_any h10 hk13 hfit)
            have hln := Sp.deed_len (m.before (rv : Int)) (k : Int)
            obtain ⟨md, hmd⟩ : ∃ md, (m.before (rv : Int)).deed (k : Int) = md := ⟨_, rfl⟩
            rw [hmd] at HDEED hln
            have hsm : SmallS (md.after (pv : Int)).st := by
              obtain ⟨f1, f2, f3, f4, -, -⟩ := hfit
              have hcode : (m.before (rv : Int)).st.code.length ≤ 12 := by show m.st.code.length ≤ 12; rw [HST.out.2.2.1]; exact (Sp.right_len HS.out).1
              exact ⟨by show md.st.code.length ≤ 1000; rw [hln.code]; omega, by show md.st.mem.length ≤ 1000; rw [hln.mem]; omega, by show md.st.stack.length ≤ 1000; have := hln.stack; omega, by show md.st.out.length ≤ 1000; have := hln.out; omega⟩
            have HSM := Lib.hid hsm
            have hfin : Hid ((if St.rightB q.up.length (md.after (pv : Int)).st = true then some (md.after (pv : Int), 0) else none) = r) := Lib.hid (by
              rw [← hgo.out, if_neg (show ¬ ((rwT q.up l (k : Int)).may m.labs = false) by rw [HMAY.out]; decide), HRV.out, HPV.out, hmd])
            clear h8 h9 hk9 hw9 f24 z24 hbf h10 hk10 hbb9 hfit hln hmd hsm
            go_wp2_with (fail)
            refine HDEED.out.mono ?_
            rintro e w11 ⟨rfl, ⟨x5, h11⟩, hk11⟩
            have g2 : w11.cell? ⟨q.g, 2, none⟩ = some (.int .i64 md.st.pc.v) := h11.blk.cell 2
            have g3 : w11.cell? ⟨q.g, 3, none⟩ = some (.int .i64 md.st.pc.l) := h11.blk.cell 3
            have g25 : w11.cell? ⟨q.g, 25, none⟩ = some (.int .i64 md.next) := h11.blk.cell 25
            have z2 : w11.frozen? ⟨q.g, 2, none⟩ = false := h11.blk.frozen 2
            have z3 : w11.frozen? ⟨q.g, 3, none⟩ = false := h11.blk.frozen 3
            have h12' : Mach q (md.after (pv : Int)) x5 ((w11.setCell ⟨q.g, 2, none⟩ (.int .i64 md.next)).setCell ⟨q.g, 3, none⟩ (.int .i64 (pv : Int))) :=
              (h11.set_ (m' := { md with st := { md.st with pc := ⟨md.next, md.st.pc.l⟩ } }) 2 _ rfl rfl rfl rfl rfl rfl).set_ (m' := md.after (pv : Int)) 3 _ rfl rfl rfl rfl rfl rfl
            have hk12 := ((HK4.out.trans (HK10.out.trans hk11)).setM h11.blk HBASE.out 2 (.int .i64 md.next)).setM (h11.blk.set_ 2 (.int .i64 md.next)) HBASE.out 3 (.int .i64 (pv : Int))
            have H12 := Lib.hid h12'
            have HK12 := Lib.hid hk12
            clear h11 hk11 h12' hk12 HDEED b1 f2 f25 z25 hbq hden H10 HK10
            go_wp2
            obtain ⟨w12, hw12⟩ : ∃ W, (w11.setCell ⟨q.g, 2, none⟩ (.int .i64 md.next)).setCell ⟨q.g, 3, none⟩ (.int .i64 (pv : Int)) = W := ⟨_, rfl⟩
            rw [hw12] at H12 HK12 ⊢
            generalize md.after (pv : Int) = mf at *
            have y0 : w12.cell? ⟨q.g, 0, none⟩ = some (.slice q.N q.names.length q.c1) := H12.out.blk.cell 0
            have y1 : w12.cell? ⟨q.g, 1, none⟩ = some (.slice q.U q.up.length q.c2) := H12.out.blk.cell 1
            have y2 : w12.cell? ⟨q.g, 2, none⟩ = some (.int .i64 mf.st.pc.v) := H12.out.blk.cell 2
            have y3 : w12.cell? ⟨q.g, 3, none⟩ = some (.int .i64 mf.st.pc.l) := H12.out.blk.cell 3
            have y4 : w12.cell? ⟨q.g, 4, none⟩ = some (.slice x5.cA mf.st.code.length x5.cc) := H12.out.blk.cell 4
            have y5 : w12.cell? ⟨q.g, 5, none⟩ = some (.slice x5.mA mf.st.mem.length x5.mc) := H12.out.blk.cell 5
            have y6 : w12.cell? ⟨q.g, 6, none⟩ = some (.slice x5.sA mf.st.stack.length x5.sc) := H12.out.blk.cell 6
            have y7 : w12.cell? ⟨q.g, 7, none⟩ = some (.slice x5.oA mf.st.out.length x5.oc) := H12.out.blk.cell 7
            have hist : IsSt w12.drew w12.drew.heap.size (.agg #[.int .i64 mf.st.pc.v, .int .i64 mf.st.pc.l, .slice x5.cA mf.st.code.length x5.cc, .slice x5.mA mf.st.mem.length x5.mc, .slice x5.sA mf.st.stack.length x5.sc, .slice x5.oA mf.st.out.length x5.oc]) mf.st :=
              ⟨_, _, _, _, rfl, ⟨x5.cA, x5.cc, rfl, ownT_row H12.out.drew.code⟩, ⟨x5.mA, x5.mc, rfl, ownT_row H12.out.drew.mem⟩, ⟨x5.sA, x5.sc, rfl, ownT_row H12.out.drew.stack⟩, ⟨x5.oA, x5.oc, rfl, ownT_row H12.out.drew.out⟩⟩
            have hrt := sright_any w12.drew (H12.out.drew.lat.more H12.out.drew.le) hist HSM.out
            have hpub : pubS q.names q.up mf.st = St.rightB q.up.length mf.st := by unfold pubS; rw [decide_eq_true HZ.out, Bool.true_and]
            rw [hpub] at hrt
            have HRT := Lib.hid hrt
            clear hrt hist hpub g2 g3 g25 z2 z3 hw12
            cases hb : St.rightB q.up.length mf.st with
            | false =>
              have hrn : Hid (r = none) := Lib.hid (by rw [← hfin.out, if_neg (by rw [hb]; decide)])
              rw [hb] at HRT
              clear hb
              refine still_tail_drew 8 (by kernel_rfl) (by kernel_rfl) ?_
              simp only [List.take_succ_cons, List.take_zero, List.drop_succ_cons, List.drop_zero]
              repeat still_step
              refine wpStill_nil ?_
              go_wp2_with (fail)
              refine HRT.out.mono ?_
              rintro e w13 ⟨rfl, hb13⟩
              have HMU := Lib.hid (must_no w13)
              have HK13 := Lib.hid (HK12.out.drew.trans (Kpt.of hb13 H12.out.drew.le))
              clear hb13
              go_wp2_with (fail)
              refine HMU.out.mono ?_
              rintro e w14 ⟨rfl, rfl⟩
              refine ⟨rfl, ?_⟩
              rw [hrn.out]
              exact ⟨rfl, HK13.out⟩
            | true =>
              have hrn : Hid (r = some (mf, 0)) := Lib.hid (by rw [← hfin.out, if_pos hb])
              rw [hb] at HRT
              clear hb
              refine still_tail_drew 8 (by kernel_rfl) (by kernel_rfl) ?_
              simp only [List.take_succ_cons, List.take_zero, List.drop_succ_cons, List.drop_zero]
              repeat still_step
              refine wpStill_nil ?_
              go_wp2_with (fail)
              refine HRT.out.mono ?_
              rintro e w13 ⟨rfl, hb13⟩
              have HMU := Lib.hid (must_yes w13)
              have HK13 := Lib.hid (HK12.out.drew.trans (Kpt.of hb13 H12.out.drew.le))
              have H13 := Lib.hid (H12.out.drew.below hb13)
              clear hb13
              go_wp2_with (fail)
              refine HMU.out.mono ?_
              rintro e w14 ⟨rfl, rfl⟩
              go_wp2
              go_ret
              rw [hrn.out]
              exact ⟨rfl, ⟨x5, H13.out⟩, HK13.out⟩
end Go.Proofs.YtjobifclmcdjcaaGreatDoor

/- Walks of package step's tried, check, One (by gen_stpl.py). -/
namespace Go.Proofs.YtjobifclmcdjcaaGreatDoor
set_option maxRecDepth 100000
open Go.RowKit Go.Shelf
attribute [local go_sem] Oper.semAt_some
theorem catch_panic (p : Addr) (x : Int) (w : World) (hc : w.cell? p = some (.int .i64 x)) (hz : w.frozen? p = false) :
    CallsD Tryz.prog 52 #[.pointer (some p)] (.panicking [cannotP]) w fun e u' w' =>
      e = .returned (.tuple #[]) ∧ u' = .panicking [{ v := .iface 9 (.string cannot), recovered := true }] ∧ w' = w.setCell p (.int .i64 3) := by
  refine callsD_of_wpS Tryz.func52 rfl fun c₀ cs hu => ?_
  unfold cannotP at hu
  apply wpS_seq
  apply wpS_region
  simp [wpOpsS, go_sem, recoverD, hu, Tryz.ntmps52, Exit.thenS]
  refine wpS_cond (t := true) (by simp [Act.eval, Array.replicate]) ?_
  simp only [if_true]
  apply wpS_region
  simp [wpOpsS, go_sem, hc, hz, bodyPostS, results, Tryz.results52]
theorem catch_none (p : Addr) (w : World) :
    CallsD Tryz.prog 52 #[.pointer (some p)] .returning w fun e u' w' => e = .returned (.tuple #[]) ∧ u' = .returning ∧ w' = w := by
  refine callsD_of_wpS Tryz.func52 rfl fun c₀ cs hu => ?_
  apply wpS_seq
  apply wpS_region
  simp [wpOpsS, go_sem, recoverD, hu, Tryz.ntmps52, Exit.thenS]
  refine wpS_cond (t := false) (by simp [Act.eval, Array.replicate]) ?_
  simp only [Bool.false_eq_true, if_false]
  refine wpS_of_wp (wp_skip ?_)
  cases c₀
  simp_all [bodyPostS, results, Tryz.results52]
/-- What is wanted of a table that may be. -/
structure TabOk (w : World) (B : Nat) (RA : Option Addr) (l : List Tb.PR) : Prop where
  rows : RowsIn w B RA l
  len : l.length = 13
  ok : ∀ k y, l[k]? = some y → Tb.rowE k y = 0
/-- What a step answers, its arguments may be. -/
def Tried (o : St.State × Nat) (w : World) (e : Ending) (w' : World) : Prop :=
  ∃ a b A1 n1 d1 A2 n2 d2 A3 n3 d3 A4 n4 d4, e = .returned (.tuple #[.agg #[.int .i64 a, .int .i64 b, .slice A1 n1 d1, .slice A2 n2 d2, .slice A3 n3 d3, .slice A4 n4 d4], .int .i64 (o.2 : Int)]) ∧ (o.2 = 0 → .agg #[.int .i64 a, .int .i64 b, .slice A1 n1 d1, .slice A2 n2 d2, .slice A3 n3 d3, .slice A4 n4 d4] = stv o.1 (.slice A1 n1 d1) (.slice A2 n2 d2) (.slice A3 n3 d3) (.slice A4 n4 d4) ∧ CopyOf w.heap.size o.1 (.slice A1 n1 d1) (.slice A2 n2 d2) (.slice A3 n3 d3) (.slice A4 n4 d4) w') ∧ Below w.heap.size w w'
set_option maxHeartbeats 8000000 in
theorem tried_any {v tv : Value} {names : List ByteArray} {up : List Nat} {s : St.State} {RA : Option Addr} {l : List Tb.PR} (rc : Nat) (w : World) (h : IsLat w w.heap.size v names up) (hst : IsSt w w.heap.size tv s) (ht : TabOk w w.heap.size RA l) (hz : checkN names up = 0) (hs : St.rightB up.length s = true) :
    Calls Tryz.prog 30 #[v, .agg #[.slice RA l.length rc], tv] w (Tried (Sp.told s (Sp.run up.length (bottomR names up : Nat) (rwT up l) s)) w) := by
  obtain ⟨⟨N, U, c1, c2, rfl, hN, hU⟩, hsh, hfew, hcaps⟩ := id h
  have hst' := hst
  have hlen := Sp.right_len hs
  have hbot : Sp.InR up.length (bottomR names up : Nat) := by
    have hL := latt_of hz
    unfold bottomR
    rw [if_pos hz, hL.bottom]
    have := (hL.bot_to _ (Nat.le_refl _)).1
    exact ⟨by omega, by omega⟩
  have hsm : SmallS s := ⟨by omega, by omega, by omega, by omega⟩
  obtain ⟨r, hrr⟩ : ∃ r, Sp.run up.length (bottomR names up : Nat) (rwT up l) s = r := ⟨_, rfl⟩
  rw [hrr]
  obtain ⟨o, ho⟩ : ∃ o, Sp.told s r = o := ⟨_, rfl⟩
  rw [ho]
  obtain ⟨cv, mv, stv_, ov, hsv, ⟨cA, cc, rfl, hcr, hcc⟩, ⟨mA, mc, rfl, hmr, hmc⟩, ⟨sA, sc, rfl, hsr, hsc⟩, ⟨oA, oc, rfl, hor, hoc⟩⟩ := hst
  unfold stv at hsv
  subst hsv
  have q0 := Blk.new w 25 #[.slice N names.length c1, .slice U up.length c2]
  have q1 := Blk.new (w.alloc (.cells #[.slice N names.length c1, .slice U up.length c2] 25)) 28 #[.slice RA l.length rc]
  rw [show (w.alloc (.cells #[.slice N names.length c1, .slice U up.length c2] 25)).heap.size = w.heap.size + 1 by simp] at q1
  have q2 := Blk.new ((w.alloc (.cells #[.slice N names.length c1, .slice U up.length c2] 25)).alloc (.cells #[.slice RA l.length rc] 28)) 35 #[.int .i64 s.pc.v, .int .i64 s.pc.l, .slice cA s.code.length cc, .slice mA s.mem.length mc, .slice sA s.stack.length sc, .slice oA s.out.length oc]
  rw [show ((w.alloc (.cells #[.slice N names.length c1, .slice U up.length c2] 25)).alloc (.cells #[.slice RA l.length rc] 28)).heap.size = w.heap.size + 2 by simp] at q2
  have q3 := Blk.new (((w.alloc (.cells #[.slice N names.length c1, .slice U up.length c2] 25)).alloc (.cells #[.slice RA l.length rc] 28)).alloc (.cells #[.int .i64 s.pc.v, .int .i64 s.pc.l, .slice cA s.code.length cc, .slice mA s.mem.length mc, .slice sA s.stack.length sc, .slice oA s.out.length oc] 35)) 35 #[.int .i64 0, .int .i64 0, .slice none 0 0, .slice none 0 0, .slice none 0 0, .slice none 0 0]
  rw [show (((w.alloc (.cells #[.slice N names.length c1, .slice U up.length c2] 25)).alloc (.cells #[.slice RA l.length rc] 28)).alloc (.cells #[.int .i64 s.pc.v, .int .i64 s.pc.l, .slice cA s.code.length cc, .slice mA s.mem.length mc, .slice sA s.stack.length sc, .slice oA s.out.length oc] 35)).heap.size = w.heap.size + 3 by simp] at q3
  have q4 := Blk.new ((((w.alloc (.cells #[.slice N names.length c1, .slice U up.length c2] 25)).alloc (.cells #[.slice RA l.length rc] 28)).alloc (.cells #[.int .i64 s.pc.v, .int .i64 s.pc.l, .slice cA s.code.length cc, .slice mA s.mem.length mc, .slice sA s.stack.length sc, .slice oA s.out.length oc] 35)).alloc (.cells #[.int .i64 0, .int .i64 0, .slice none 0 0, .slice none 0 0, .slice none 0 0, .slice none 0 0] 35)) 3 #[.int .i64 0]
  rw [show ((((w.alloc (.cells #[.slice N names.length c1, .slice U up.length c2] 25)).alloc (.cells #[.slice RA l.length rc] 28)).alloc (.cells #[.int .i64 s.pc.v, .int .i64 s.pc.l, .slice cA s.code.length cc, .slice mA s.mem.length mc, .slice sA s.stack.length sc, .slice oA s.out.length oc] 35)).alloc (.cells #[.int .i64 0, .int .i64 0, .slice none 0 0, .slice none 0 0, .slice none 0 0, .slice none 0 0] 35)).heap.size = w.heap.size + 4 by simp] at q4
  have hbox := (((((Below.refl w.heap.size w).alloc (by simp <;> omega) (.cells #[.slice N names.length c1, .slice U up.length c2] 25)).alloc (by simp <;> omega) (.cells #[.slice RA l.length rc] 28)).alloc (by simp <;> omega) (.cells #[.int .i64 s.pc.v, .int .i64 s.pc.l, .slice cA s.code.length cc, .slice mA s.mem.length mc, .slice sA s.stack.length sc, .slice oA s.out.length oc] 35)).alloc (by simp <;> omega) (.cells #[.int .i64 0, .int .i64 0, .slice none 0 0, .slice none 0 0, .slice none 0 0, .slice none 0 0] 35)).alloc (by simp <;> omega) (.cells #[.int .i64 0] 3)
  obtain ⟨W, hW⟩ : ∃ W, ((((w.alloc (.cells #[.slice N names.length c1, .slice U up.length c2] 25)).alloc (.cells #[.slice RA l.length rc] 28)).alloc (.cells #[.int .i64 s.pc.v, .int .i64 s.pc.l, .slice cA s.code.length cc, .slice mA s.mem.length mc, .slice sA s.stack.length sc, .slice oA s.out.length oc] 35)).alloc (.cells #[.int .i64 0, .int .i64 0, .slice none 0 0, .slice none 0 0, .slice none 0 0, .slice none 0 0] 35)).alloc (.cells #[.int .i64 0] 3) = W := ⟨_, rfl⟩
  have p0 := ((((q0.alloc (.cells #[.slice RA l.length rc] 28)).alloc (.cells #[.int .i64 s.pc.v, .int .i64 s.pc.l, .slice cA s.code.length cc, .slice mA s.mem.length mc, .slice sA s.stack.length sc, .slice oA s.out.length oc] 35)).alloc (.cells #[.int .i64 0, .int .i64 0, .slice none 0 0, .slice none 0 0, .slice none 0 0, .slice none 0 0] 35)).alloc (.cells #[.int .i64 0] 3))
  have p1 := (((q1.alloc (.cells #[.int .i64 s.pc.v, .int .i64 s.pc.l, .slice cA s.code.length cc, .slice mA s.mem.length mc, .slice sA s.stack.length sc, .slice oA s.out.length oc] 35)).alloc (.cells #[.int .i64 0, .int .i64 0, .slice none 0 0, .slice none 0 0, .slice none 0 0, .slice none 0 0] 35)).alloc (.cells #[.int .i64 0] 3))
  have p2 := ((q2.alloc (.cells #[.int .i64 0, .int .i64 0, .slice none 0 0, .slice none 0 0, .slice none 0 0, .slice none 0 0] 35)).alloc (.cells #[.int .i64 0] 3))
  have p3 := (q3.alloc (.cells #[.int .i64 0] 3))
  have p4 := q4
  rw [hW] at hbox p0 p1 p2 p3 p4
  have hWs : W.heap.size = w.heap.size + 5 := by rw [← hW]; simp
  have HBEG := Lib.hid (begun_any (s := s) (tv := .agg #[.int .i64 s.pc.v, .int .i64 s.pc.l, .slice cA s.code.length cc, .slice mA s.mem.length mc, .slice sA s.stack.length sc, .slice oA s.out.length oc]) W ((h.below hbox).more hbox.size) ((hst'.below hbox).more hbox.size) hsm)
  have HH := Lib.hid hW
  have l0 : W.cell? ⟨w.heap.size, 0, none⟩ = some (.slice N names.length c1) := p0.cell 0
  have l1 : W.cell? ⟨w.heap.size, 1, none⟩ = some (.slice U up.length c2) := p0.cell 1
  have s0 : W.cell? ⟨w.heap.size + 2, 0, none⟩ = some (.int .i64 s.pc.v) := p2.cell 0
  have s1 : W.cell? ⟨w.heap.size + 2, 1, none⟩ = some (.int .i64 s.pc.l) := p2.cell 1
  have s2 : W.cell? ⟨w.heap.size + 2, 2, none⟩ = some (.slice cA s.code.length cc) := p2.cell 2
  have s3 : W.cell? ⟨w.heap.size + 2, 3, none⟩ = some (.slice mA s.mem.length mc) := p2.cell 3
  have s4 : W.cell? ⟨w.heap.size + 2, 4, none⟩ = some (.slice sA s.stack.length sc) := p2.cell 4
  have s5 : W.cell? ⟨w.heap.size + 2, 5, none⟩ = some (.slice oA s.out.length oc) := p2.cell 5
  have HP1 := Lib.hid p1
  have HP3 := Lib.hid p3
  have HP4 := Lib.hid p4
  have HBOX := Lib.hid hbox
  have HT := Lib.hid ht
  have HZ := Lib.hid hz
  have HS := Lib.hid hs
  have HBOT := Lib.hid hbot
  have HR := Lib.hid hrr
  have HO := Lib.hid ho
  have HWS := Lib.hid hWs
  have hmf : ∀ (fn : Fn) (first cap : Array Value) (w : World), (Instr.makeFunc fn first cap).run Tryz.prog w = .ok (.func fn first cap) w := fun _ _ _ _ => rfl
  clear h hN hU hsh hfew hcaps hst' hlen hbot hsm hrr ho q0 q1 q2 q3 q4 p0 p1 p2 p3 p4 hbox hz hs ht hcr hcc hmr hmc hsr hsc hor hoc HH hWs
  go_enter_defers Tryz.func30, Tryz.ntmps30
  go_wp2_with (fail)
  refine HBEG.out.mono ?_
  rintro e w1 ⟨g, N', U', c1', c2', x, hv, rfl, hm, hb⟩
  injection hv with hv
  injection hv with hv
  injection hv with hv1 hv2
  injection hv2 with hv2
  injection hv1 with hv1 _ hv1c
  injection hv2 with hv2 _ hv2c
  subst hv1 hv2 hv1c hv2c
  have hr1 := (HT.out.rows.below HBOX.out).more HBOX.out.size
  have hlb : w.heap.size ≤ W.heap.size := HBOX.out.size
  have hbw : Below W.heap.size W w1 := hb
  have HST := Lib.hid (step_any (q := ⟨W.heap.size, g, N, U, c1, c2, names, up⟩) (bot := (bottomR names up : Nat)) rc w1 hm HZ.out HS.out HBOT.out (hr1.below hb) HT.out.len HT.out.ok)
  rw [HR.out] at HST
  have p1' := HP1.out.below hb HP1.out.lt
  have t0 : w1.cell? ⟨w.heap.size + 1, 0, none⟩ = some (.slice RA l.length rc) := p1'.cell 0
  have HB1 := Lib.hid hb
  clear hr1 hm hbw p1' hb HBEG l0 l1 s0 s1 s2 s3 s4 s5
  cases r with
  | none =>
    go_wp2_with (fail)
    refine HST.out.mono ?_
    rintro e w2 ⟨rfl, hk2⟩
    have hk : Kpt W.heap.size w1 w2 := hk2
    have hbb := HB1.out.trans hk.below
    have p4' := HP4.out.below hbb HP4.out.lt
    have p3' := HP3.out.below hbb HP3.out.lt
    have hor : o = (s, 3) := HO.out.symm
    refine leaves_cons (f := 52) (args := #[.pointer (some ⟨w.heap.size + 1 + 1 + 1 + 1, 0, none⟩)]) (by simp) (by simp [go_sem]) ?_
    refine (catch_panic ⟨w.heap.size + 1 + 1 + 1 + 1, 0, none⟩ 0 w2 (p4'.cell 0) (p4'.frozen 0)).mono ?_
    rintro e u' w3 ⟨rfl, rfl, hw3⟩
    have p4f : Blk w3 (w.heap.size + 4) 3 #[.int .i64 3] := hw3 ▸ p4'.set_ 0 _
    have p3f : Blk w3 (w.heap.size + 3) 35 #[.int .i64 0, .int .i64 0, .slice none 0 0, .slice none 0 0, .slice none 0 0, .slice none 0 0] := hw3 ▸ p3'.other (p := ⟨w.heap.size + 1 + 1 + 1 + 1, 0, none⟩) (by show w.heap.size + 4 ≠ _; omega) _
    have hbf : Below w.heap.size w w3 := hw3 ▸ (HBOX.out.trans (hbb.mono hlb)).setCell (p := ⟨w.heap.size + 1 + 1 + 1 + 1, 0, none⟩) (by show _ ≤ w.heap.size + 4; omega) _
    have y6 : w3.cell? ⟨w.heap.size + 1 + 1 + 1 + 1, 0, none⟩ = some (.int .i64 3) := p4f.cell 0
    have y0 : w3.cell? ⟨w.heap.size + 1 + 1 + 1, 0, none⟩ = some (.int .i64 0) := p3f.cell 0
    have y1 : w3.cell? ⟨w.heap.size + 1 + 1 + 1, 1, none⟩ = some (.int .i64 0) := p3f.cell 1
    have y2 : w3.cell? ⟨w.heap.size + 1 + 1 + 1, 2, none⟩ = some (.slice none 0 0) := p3f.cell 2
    have y3 : w3.cell? ⟨w.heap.size + 1 + 1 + 1, 3, none⟩ = some (.slice none 0 0) := p3f.cell 3
    have y4 : w3.cell? ⟨w.heap.size + 1 + 1 + 1, 4, none⟩ = some (.slice none 0 0) := p3f.cell 4
    have y5 : w3.cell? ⟨w.heap.size + 1 + 1 + 1, 5, none⟩ = some (.slice none 0 0) := p3f.cell 5
    refine ⟨.tuple #[.agg #[.int .i64 0, .int .i64 0, .slice none 0 0, .slice none 0 0, .slice none 0 0, .slice none 0 0], .int .i64 3], by simp [results, Tryz.results30, go_sem, y0, y1, y2, y3, y4, y5, y6], ?_⟩
    rw [hor]
    exact ⟨_, _, _, _, _, _, _, _, _, _, _, _, _, _, rfl, fun h => absurd h (show ¬ (3 : Nat) = 0 by decide), hbf⟩
  | some mn =>
    obtain ⟨m, n⟩ := mn
    have p4w := HP4.out
    go_wp2_with (fail)
    refine HST.out.mono ?_
    rintro e w2 ⟨rfl, ⟨x2, hm2⟩, hk2⟩
    have hk : Kpt W.heap.size w1 w2 := hk2
    have hbb := HB1.out.trans hk.below
    have p4' := HP4.out.below hbb HP4.out.lt
    have p3' := HP3.out.below hbb HP3.out.lt
    have z0 : w2.cell? ⟨w.heap.size + 1 + 1 + 1 + 1, 0, none⟩ = some (.int .i64 0) := p4'.cell 0
    have zz0 : w2.frozen? ⟨w.heap.size + 1 + 1 + 1 + 1, 0, none⟩ = false := p4'.frozen 0
    have hgW : W.heap.size ≤ g := hm2.base
    have hg4 : w.heap.size + 4 ≠ g := by have := HWS.out; omega
    have hg3 : w.heap.size + 3 ≠ g := by have := HWS.out; omega
    have hset : Below W.heap.size W W := Below.refl _ _
    have p4s := p4'.set_ 0 (.int .i64 (n : Int))
    have p3s := p3'.other (p := ⟨w.heap.size + 1 + 1 + 1 + 1, 0, none⟩) (by show w.heap.size + 4 ≠ _; omega) (.int .i64 (n : Int))
    have hb3 : Below w.heap.size w (w2.setCell ⟨w.heap.size + 1 + 1 + 1 + 1, 0, none⟩ (.int .i64 (n : Int))) := (HBOX.out.trans (hbb.mono hlb)).setCell (p := ⟨w.heap.size + 1 + 1 + 1 + 1, 0, none⟩) (by show _ ≤ w.heap.size + 4; omega) _
    have hsame : ∀ k, W.heap.size ≤ k → (w2.setCell ⟨w.heap.size + 1 + 1 + 1 + 1, 0, none⟩ (.int .i64 (n : Int))).heap[k]? = w2.heap[k]? := fun k hk => Below.heap_setCell _ _ _ _ (by show k ≠ w.heap.size + 4; have := HWS.out; omega)
    obtain ⟨w3, hw3⟩ : ∃ W', w2.setCell ⟨w.heap.size + 1 + 1 + 1 + 1, 0, none⟩ (.int .i64 (n : Int)) = W' := ⟨_, rfl⟩
    rw [hw3] at p4s p3s hb3 hsame
    have hblk3 : Blk w3 g 103 (mcells _ m x2) := (hsame g hgW).trans hm2.blk
    have hown : ∀ {sz n : Nat} {e : TypeId} {v : Value} {xs : List Value}, w2.ownsRow W.heap.size e sz v n xs → w3.ownsRow W.heap.size e sz v n xs := fun h => ⟨h.1, h.2.imp id fun ⟨g', cap, cur, he, hb', hh, r⟩ => ⟨g', cap, cur, he, hb', (hsame g' hb').trans hh, r⟩⟩
    have o1 := hown hm2.code
    have o2 := hown hm2.mem
    have o3 := hown hm2.stack
    have o4 := hown hm2.out
    have m2 : w3.cell? ⟨g, 2, none⟩ = some (.int .i64 m.st.pc.v) := hblk3.cell 2
    have m3 : w3.cell? ⟨g, 3, none⟩ = some (.int .i64 m.st.pc.l) := hblk3.cell 3
    have m4 : w3.cell? ⟨g, 4, none⟩ = some (.slice x2.cA m.st.code.length x2.cc) := hblk3.cell 4
    have m5 : w3.cell? ⟨g, 5, none⟩ = some (.slice x2.mA m.st.mem.length x2.mc) := hblk3.cell 5
    have m6 : w3.cell? ⟨g, 6, none⟩ = some (.slice x2.sA m.st.stack.length x2.sc) := hblk3.cell 6
    have m7 : w3.cell? ⟨g, 7, none⟩ = some (.slice x2.oA m.st.out.length x2.oc) := hblk3.cell 7
    have c6 : w3.cell? ⟨w.heap.size + 1 + 1 + 1 + 1, 0, none⟩ = some (.int .i64 (n : Int)) := p4s.cell 0
    have P4S := Lib.hid p4s
    have P3S := Lib.hid p3s
    have HB3 := Lib.hid hb3
    have HW3 := Lib.hid hw3
    have O1 := Lib.hid o1
    have HMO := Lib.hid hm2.mo
    have O2 := Lib.hid o2
    have O3 := Lib.hid o3
    have O4 := Lib.hid o4
    clear p4' p3' hm2 hk2 hk hbb hset p4s p3s hb3 hsame hw3 hblk3 hown o1 o2 o3 o4 p4w t0
    go_wp2
    rw [HW3.out]
    have ho2 : o.2 = n := by
      rw [← HO.out]
      show (if n = 0 then (m.st, 0) else (s, n) : St.State × Nat).2 = n
      by_cases hn : n = 0
      · rw [if_pos hn]; exact hn.symm
      · rw [if_neg hn]
    have ho1 : n = 0 → o.1 = m.st := fun hn => by
      rw [← HO.out]
      show (if n = 0 then (m.st, 0) else (s, n) : St.State × Nat).1 = m.st
      rw [if_pos hn]
    have HO2 := Lib.hid ho2
    have HO1 := Lib.hid ho1
    have y0 : w3.cell? ⟨w.heap.size + 1 + 1 + 1, 0, none⟩ = some (.int .i64 0) := P3S.out.cell 0
    have zf0 : w3.frozen? ⟨w.heap.size + 1 + 1 + 1, 0, none⟩ = false := P3S.out.frozen 0
    have y1 : w3.cell? ⟨w.heap.size + 1 + 1 + 1, 1, none⟩ = some (.int .i64 0) := P3S.out.cell 1
    have zf1 : w3.frozen? ⟨w.heap.size + 1 + 1 + 1, 1, none⟩ = false := P3S.out.frozen 1
    have y2 : w3.cell? ⟨w.heap.size + 1 + 1 + 1, 2, none⟩ = some (.slice none 0 0) := P3S.out.cell 2
    have zf2 : w3.frozen? ⟨w.heap.size + 1 + 1 + 1, 2, none⟩ = false := P3S.out.frozen 2
    have y3 : w3.cell? ⟨w.heap.size + 1 + 1 + 1, 3, none⟩ = some (.slice none 0 0) := P3S.out.cell 3
    have zf3 : w3.frozen? ⟨w.heap.size + 1 + 1 + 1, 3, none⟩ = false := P3S.out.frozen 3
    have y4 : w3.cell? ⟨w.heap.size + 1 + 1 + 1, 4, none⟩ = some (.slice none 0 0) := P3S.out.cell 4
    have zf4 : w3.frozen? ⟨w.heap.size + 1 + 1 + 1, 4, none⟩ = false := P3S.out.frozen 4
    have y5 : w3.cell? ⟨w.heap.size + 1 + 1 + 1, 5, none⟩ = some (.slice none 0 0) := P3S.out.cell 5
    have zf5 : w3.frozen? ⟨w.heap.size + 1 + 1 + 1, 5, none⟩ = false := P3S.out.frozen 5
    have zc : w3.frozen? ⟨w.heap.size + 1 + 1 + 1 + 1, 0, none⟩ = false := P4S.out.frozen 0
    have hbz := (((((((HB3.out.setCell (p := ⟨w.heap.size + 1 + 1 + 1, 0, none⟩) (by show _ ≤ w.heap.size + 3; omega) (.int .i64 m.st.pc.v)).setCell (p := ⟨w.heap.size + 1 + 1 + 1, 1, none⟩) (by show _ ≤ w.heap.size + 3; omega) (.int .i64 m.st.pc.l)).setCell (p := ⟨w.heap.size + 1 + 1 + 1, 2, none⟩) (by show _ ≤ w.heap.size + 3; omega) (.slice x2.cA m.st.code.length x2.cc)).setCell (p := ⟨w.heap.size + 1 + 1 + 1, 3, none⟩) (by show _ ≤ w.heap.size + 3; omega) (.slice x2.mA m.st.mem.length x2.mc)).setCell (p := ⟨w.heap.size + 1 + 1 + 1, 4, none⟩) (by show _ ≤ w.heap.size + 3; omega) (.slice x2.sA m.st.stack.length x2.sc)).setCell (p := ⟨w.heap.size + 1 + 1 + 1, 5, none⟩) (by show _ ≤ w.heap.size + 3; omega) (.slice x2.oA m.st.out.length x2.oc)).setCell (p := ⟨w.heap.size + 1 + 1 + 1 + 1, 0, none⟩) (by show _ ≤ w.heap.size + 4; omega) (.int .i64 (n : Int)))
    have hsz : w3.heap.size = w3.heap.size := rfl
    have hlt3 : w.heap.size + 3 < W.heap.size := by have := HWS.out; omega
    have hlt4 : w.heap.size + 4 < W.heap.size := by have := HWS.out; omega
    have hPF : Blk (((((((w3.setCell ⟨w.heap.size + 1 + 1 + 1, 0, none⟩ (.int .i64 m.st.pc.v)).setCell ⟨w.heap.size + 1 + 1 + 1, 1, none⟩ (.int .i64 m.st.pc.l)).setCell ⟨w.heap.size + 1 + 1 + 1, 2, none⟩ (.slice x2.cA m.st.code.length x2.cc)).setCell ⟨w.heap.size + 1 + 1 + 1, 3, none⟩ (.slice x2.mA m.st.mem.length x2.mc)).setCell ⟨w.heap.size + 1 + 1 + 1, 4, none⟩ (.slice x2.sA m.st.stack.length x2.sc)).setCell ⟨w.heap.size + 1 + 1 + 1, 5, none⟩ (.slice x2.oA m.st.out.length x2.oc)).setCell ⟨w.heap.size + 1 + 1 + 1 + 1, 0, none⟩ (.int .i64 (n : Int))) (w.heap.size + 3) 35 #[.int .i64 m.st.pc.v, .int .i64 m.st.pc.l, .slice x2.cA m.st.code.length x2.cc, .slice x2.mA m.st.mem.length x2.mc, .slice x2.sA m.st.stack.length x2.sc, .slice x2.oA m.st.out.length x2.oc] := (P3S.out.set_ 0 _ |>.set_ 1 _ |>.set_ 2 _ |>.set_ 3 _ |>.set_ 4 _ |>.set_ 5 _).other (p := ⟨w.heap.size + 1 + 1 + 1 + 1, 0, none⟩) (by show w.heap.size + 4 ≠ _; omega) _
    have hPC : Blk (((((((w3.setCell ⟨w.heap.size + 1 + 1 + 1, 0, none⟩ (.int .i64 m.st.pc.v)).setCell ⟨w.heap.size + 1 + 1 + 1, 1, none⟩ (.int .i64 m.st.pc.l)).setCell ⟨w.heap.size + 1 + 1 + 1, 2, none⟩ (.slice x2.cA m.st.code.length x2.cc)).setCell ⟨w.heap.size + 1 + 1 + 1, 3, none⟩ (.slice x2.mA m.st.mem.length x2.mc)).setCell ⟨w.heap.size + 1 + 1 + 1, 4, none⟩ (.slice x2.sA m.st.stack.length x2.sc)).setCell ⟨w.heap.size + 1 + 1 + 1, 5, none⟩ (.slice x2.oA m.st.out.length x2.oc)).setCell ⟨w.heap.size + 1 + 1 + 1 + 1, 0, none⟩ (.int .i64 (n : Int))) (w.heap.size + 4) 3 #[.int .i64 (n : Int)] := (P4S.out.other (p := ⟨w.heap.size + 1 + 1 + 1, 0, none⟩) (by show w.heap.size + 3 ≠ _; omega) _ |>.other (p := ⟨w.heap.size + 1 + 1 + 1, 1, none⟩) (by show w.heap.size + 3 ≠ _; omega) _ |>.other (p := ⟨w.heap.size + 1 + 1 + 1, 2, none⟩) (by show w.heap.size + 3 ≠ _; omega) _ |>.other (p := ⟨w.heap.size + 1 + 1 + 1, 3, none⟩) (by show w.heap.size + 3 ≠ _; omega) _ |>.other (p := ⟨w.heap.size + 1 + 1 + 1, 4, none⟩) (by show w.heap.size + 3 ≠ _; omega) _ |>.other (p := ⟨w.heap.size + 1 + 1 + 1, 5, none⟩) (by show w.heap.size + 3 ≠ _; omega) _).set_ 0 _
    have hown5 : ∀ {sz n' : Nat} {e : TypeId} {v : Value} {xs : List Value}, w3.ownsRow W.heap.size e sz v n' xs → (((((((w3.setCell ⟨w.heap.size + 1 + 1 + 1, 0, none⟩ (.int .i64 m.st.pc.v)).setCell ⟨w.heap.size + 1 + 1 + 1, 1, none⟩ (.int .i64 m.st.pc.l)).setCell ⟨w.heap.size + 1 + 1 + 1, 2, none⟩ (.slice x2.cA m.st.code.length x2.cc)).setCell ⟨w.heap.size + 1 + 1 + 1, 3, none⟩ (.slice x2.mA m.st.mem.length x2.mc)).setCell ⟨w.heap.size + 1 + 1 + 1, 4, none⟩ (.slice x2.sA m.st.stack.length x2.sc)).setCell ⟨w.heap.size + 1 + 1 + 1, 5, none⟩ (.slice x2.oA m.st.out.length x2.oc)).setCell ⟨w.heap.size + 1 + 1 + 1 + 1, 0, none⟩ (.int .i64 (n : Int))).ownsRow W.heap.size e sz v n' xs := fun h =>
      ownsRow_setCell_below (ownsRow_setCell_below (ownsRow_setCell_below (ownsRow_setCell_below (ownsRow_setCell_below (ownsRow_setCell_below (ownsRow_setCell_below h (a := ⟨w.heap.size + 1 + 1 + 1, 0, none⟩) hlt3 _) (a := ⟨w.heap.size + 1 + 1 + 1, 1, none⟩) hlt3 _) (a := ⟨w.heap.size + 1 + 1 + 1, 2, none⟩) hlt3 _) (a := ⟨w.heap.size + 1 + 1 + 1, 3, none⟩) hlt3 _) (a := ⟨w.heap.size + 1 + 1 + 1, 4, none⟩) hlt3 _) (a := ⟨w.heap.size + 1 + 1 + 1, 5, none⟩) hlt3 _) (a := ⟨w.heap.size + 1 + 1 + 1 + 1, 0, none⟩) hlt4 _
    have O5 : Hid (CopyOf w.heap.size m.st (.slice x2.cA m.st.code.length x2.cc) (.slice x2.mA m.st.mem.length x2.mc) (.slice x2.sA m.st.stack.length x2.sc) (.slice x2.oA m.st.out.length x2.oc) (((((((w3.setCell ⟨w.heap.size + 1 + 1 + 1, 0, none⟩ (.int .i64 m.st.pc.v)).setCell ⟨w.heap.size + 1 + 1 + 1, 1, none⟩ (.int .i64 m.st.pc.l)).setCell ⟨w.heap.size + 1 + 1 + 1, 2, none⟩ (.slice x2.cA m.st.code.length x2.cc)).setCell ⟨w.heap.size + 1 + 1 + 1, 3, none⟩ (.slice x2.mA m.st.mem.length x2.mc)).setCell ⟨w.heap.size + 1 + 1 + 1, 4, none⟩ (.slice x2.sA m.st.stack.length x2.sc)).setCell ⟨w.heap.size + 1 + 1 + 1, 5, none⟩ (.slice x2.oA m.st.out.length x2.oc)).setCell ⟨w.heap.size + 1 + 1 + 1 + 1, 0, none⟩ (.int .i64 (n : Int)))) := ⟨ownT_mono (hown5 O1.out) hlb, ownT_mono (hown5 O2.out) hlb, ownT_mono (hown5 O3.out) hlb, ownT_mono (hown5 O4.out) hlb, HMO.out⟩
    have HPF := Lib.hid hPF
    have HPC := Lib.hid hPC
    have HBZ := Lib.hid hbz
    clear hPF hPC hbz hown5 ho1 ho2
    obtain ⟨WF, hWF⟩ : ∃ WF, ((((((w3.setCell ⟨w.heap.size + 1 + 1 + 1, 0, none⟩ (.int .i64 m.st.pc.v)).setCell ⟨w.heap.size + 1 + 1 + 1, 1, none⟩ (.int .i64 m.st.pc.l)).setCell ⟨w.heap.size + 1 + 1 + 1, 2, none⟩ (.slice x2.cA m.st.code.length x2.cc)).setCell ⟨w.heap.size + 1 + 1 + 1, 3, none⟩ (.slice x2.mA m.st.mem.length x2.mc)).setCell ⟨w.heap.size + 1 + 1 + 1, 4, none⟩ (.slice x2.sA m.st.stack.length x2.sc)).setCell ⟨w.heap.size + 1 + 1 + 1, 5, none⟩ (.slice x2.oA m.st.out.length x2.oc)).setCell ⟨w.heap.size + 1 + 1 + 1 + 1, 0, none⟩ (.int .i64 (n : Int)) = WF := ⟨_, rfl⟩
    rw [hWF] at HPF HPC HBZ O5
    go_region
    all_goals go_wp2
    all_goals
      refine leaves_cons (f := 52) (args := #[.pointer (some ⟨w.heap.size + 1 + 1 + 1 + 1, 0, none⟩)]) (by simp) (by simp [go_sem]) ?_
      refine (catch_none ⟨w.heap.size + 1 + 1 + 1 + 1, 0, none⟩ _).mono ?_
      rintro e u' w6 ⟨rfl, rfl, hw6⟩
      subst hw6
      clear hWF
      have v0 : WF.drew.cell? ⟨w.heap.size + 1 + 1 + 1, 0, none⟩ = some (.int .i64 m.st.pc.v) := HPF.out.cell 0
      have v1 : WF.drew.cell? ⟨w.heap.size + 1 + 1 + 1, 1, none⟩ = some (.int .i64 m.st.pc.l) := HPF.out.cell 1
      have v2 : WF.drew.cell? ⟨w.heap.size + 1 + 1 + 1, 2, none⟩ = some (.slice x2.cA m.st.code.length x2.cc) := HPF.out.cell 2
      have v3 : WF.drew.cell? ⟨w.heap.size + 1 + 1 + 1, 3, none⟩ = some (.slice x2.mA m.st.mem.length x2.mc) := HPF.out.cell 3
      have v4 : WF.drew.cell? ⟨w.heap.size + 1 + 1 + 1, 4, none⟩ = some (.slice x2.sA m.st.stack.length x2.sc) := HPF.out.cell 4
      have v5 : WF.drew.cell? ⟨w.heap.size + 1 + 1 + 1, 5, none⟩ = some (.slice x2.oA m.st.out.length x2.oc) := HPF.out.cell 5
      have v6 : WF.drew.cell? ⟨w.heap.size + 1 + 1 + 1 + 1, 0, none⟩ = some (.int .i64 (n : Int)) := HPC.out.cell 0
      have hbf : Below w.heap.size w WF.drew := HBZ.out.drew
      have hif := O5.out.below (Below.refl _ _).drew
      refine ⟨.tuple #[.agg #[.int .i64 m.st.pc.v, .int .i64 m.st.pc.l, .slice x2.cA m.st.code.length x2.cc, .slice x2.mA m.st.mem.length x2.mc, .slice x2.sA m.st.stack.length x2.sc, .slice x2.oA m.st.out.length x2.oc], .int .i64 (n : Int)], by simp [results, Tryz.results30, go_sem, v0, v1, v2, v3, v4, v5, v6], ?_⟩
      refine ⟨_, _, _, _, _, _, _, _, _, _, _, _, _, _, by rw [HO2.out], fun h => ?_, hbf⟩
      rw [HO1.out (by rw [← HO2.out]; exact h)]
      exact ⟨rfl, hif⟩
end Go.Proofs.YtjobifclmcdjcaaGreatDoor

/- Walks of package step's check, One (by gen_stpq.py). -/
namespace Go.Proofs.YtjobifclmcdjcaaGreatDoor
set_option maxRecDepth 100000
open Go.RowKit Go.Shelf
attribute [local go_sem] Oper.semAt_some
/-- Why a step can't be asked of. -/
def chk10 (names : List ByteArray) (up : List Nat) (l : List Tb.PR) (s : St.State) : Nat :=
  if checkN names up = 0 then (if (Tb.check l).2 = 0 then (if St.rightB up.length s = true then 0 else 1) else (Tb.check l).2) else checkN names up
set_option maxHeartbeats 4000000 in
theorem check_any10 {v tv : Value} {names : List ByteArray} {up : List Nat} {s : St.State} {RA : Option Addr} {l : List Tb.PR} (rc : Nat) (w : World) (hi : Ins w) (hg : 0 < w.heap.size) (h : IsLat w w.heap.size v names up) (hst : IsSt w w.heap.size tv s) (hsm : SmallS s) (hr : RowsIn w w.heap.size RA l) (hrs : ∀ x ∈ l, Small x) :
    Calls Tryz.prog 29 #[v, .agg #[.slice RA l.length rc], tv] w fun e w' => e = .returned (.int .i64 (chk10 names up l s : Nat)) ∧ Below w.heap.size w w' := by
  obtain ⟨⟨N, U, c1, c2, rfl, hN, hU⟩, hsh, hfew, hcaps⟩ := id h
  have hst' := hst
  obtain ⟨cv, mv, stv_, ov, hsv, ⟨cA, cc, rfl, hcr, hcc⟩, ⟨mA, mc, rfl, hmr, hmc⟩, ⟨sA, sc, rfl, hsr, hsc⟩, ⟨oA, oc, rfl, hor, hoc⟩⟩ := hst
  unfold stv at hsv
  subst hsv
  have q0 := Blk.new w 25 #[.slice N names.length c1, .slice U up.length c2]
  have q1 := Blk.new (w.alloc (.cells #[.slice N names.length c1, .slice U up.length c2] 25)) 28 #[.slice RA l.length rc]
  rw [show (w.alloc (.cells #[.slice N names.length c1, .slice U up.length c2] 25)).heap.size = w.heap.size + 1 by simp] at q1
  have q2 := Blk.new ((w.alloc (.cells #[.slice N names.length c1, .slice U up.length c2] 25)).alloc (.cells #[.slice RA l.length rc] 28)) 35 #[.int .i64 s.pc.v, .int .i64 s.pc.l, .slice cA s.code.length cc, .slice mA s.mem.length mc, .slice sA s.stack.length sc, .slice oA s.out.length oc]
  rw [show ((w.alloc (.cells #[.slice N names.length c1, .slice U up.length c2] 25)).alloc (.cells #[.slice RA l.length rc] 28)).heap.size = w.heap.size + 2 by simp] at q2
  have hbox := (((Below.refl w.heap.size w).alloc (by simp <;> omega) (.cells #[.slice N names.length c1, .slice U up.length c2] 25)).alloc (by simp <;> omega) (.cells #[.slice RA l.length rc] 28)).alloc (by simp <;> omega) (.cells #[.int .i64 s.pc.v, .int .i64 s.pc.l, .slice cA s.code.length cc, .slice mA s.mem.length mc, .slice sA s.stack.length sc, .slice oA s.out.length oc] 35)
  obtain ⟨W, hW⟩ : ∃ W, ((w.alloc (.cells #[.slice N names.length c1, .slice U up.length c2] 25)).alloc (.cells #[.slice RA l.length rc] 28)).alloc (.cells #[.int .i64 s.pc.v, .int .i64 s.pc.l, .slice cA s.code.length cc, .slice mA s.mem.length mc, .slice sA s.stack.length sc, .slice oA s.out.length oc] 35) = W := ⟨_, rfl⟩
  have p0 := ((q0.alloc (.cells #[.slice RA l.length rc] 28)).alloc (.cells #[.int .i64 s.pc.v, .int .i64 s.pc.l, .slice cA s.code.length cc, .slice mA s.mem.length mc, .slice sA s.stack.length sc, .slice oA s.out.length oc] 35))
  have p1 := (q1.alloc (.cells #[.int .i64 s.pc.v, .int .i64 s.pc.l, .slice cA s.code.length cc, .slice mA s.mem.length mc, .slice sA s.stack.length sc, .slice oA s.out.length oc] 35))
  have p2 := q2
  rw [hW] at hbox p0 p1 p2
  have hWs : W.heap.size = w.heap.size + 3 := by rw [← hW]; simp
  have HC1 := Lib.hid (check_any W ((h.below hbox).more hbox.size))
  have HC2 := Lib.hid (fun (W2 : World) (hb : Below w.heap.size w W2) => check_any6 rc W2 (hi.below hb hg) ((hr.below hb).more hb.size) hrs)
  have HC3 := Lib.hid (fun (W2 : World) (hb : Below w.heap.size w W2) => sright_any (sv := .agg #[.int .i64 s.pc.v, .int .i64 s.pc.l, .slice cA s.code.length cc, .slice mA s.mem.length mc, .slice sA s.stack.length sc, .slice oA s.out.length oc]) W2 ((h.below hb).more hb.size) ((hst'.below hb).more hb.size) hsm)
  have l0 : W.cell? ⟨w.heap.size, 0, none⟩ = some (.slice N names.length c1) := p0.cell 0
  have l1 : W.cell? ⟨w.heap.size, 1, none⟩ = some (.slice U up.length c2) := p0.cell 1
  have t0 : W.cell? ⟨w.heap.size + 1, 0, none⟩ = some (.slice RA l.length rc) := p1.cell 0
  have s0 : W.cell? ⟨w.heap.size + 2, 0, none⟩ = some (.int .i64 s.pc.v) := p2.cell 0
  have s1 : W.cell? ⟨w.heap.size + 2, 1, none⟩ = some (.int .i64 s.pc.l) := p2.cell 1
  have s2 : W.cell? ⟨w.heap.size + 2, 2, none⟩ = some (.slice cA s.code.length cc) := p2.cell 2
  have s3 : W.cell? ⟨w.heap.size + 2, 3, none⟩ = some (.slice mA s.mem.length mc) := p2.cell 3
  have s4 : W.cell? ⟨w.heap.size + 2, 4, none⟩ = some (.slice sA s.stack.length sc) := p2.cell 4
  have s5 : W.cell? ⟨w.heap.size + 2, 5, none⟩ = some (.slice oA s.out.length oc) := p2.cell 5
  have HP0 := Lib.hid p0
  have HP1 := Lib.hid p1
  have HP2 := Lib.hid p2
  have HB := Lib.hid hbox
  unfold chk10
  unfold pubS at HC3
  obtain ⟨a, ha⟩ : ∃ a, checkN names up = a := ⟨_, rfl⟩
  obtain ⟨b0, b, hb⟩ : ∃ b0 b, Tb.check l = (b0, b) := ⟨_, _, rfl⟩
  obtain ⟨d, hd⟩ : ∃ d, St.rightB up.length s = d := ⟨_, rfl⟩
  rw [ha, hd] at HC3
  rw [ha] at HC1
  rw [ha, hb, hd]
  dsimp only
  rw [hb] at HC2
  clear ha hb hd q0 q1 q2 p0 p1 p2 hbox h hst' hr hrs hsm hi hcr hcc hmr hmc hsr hsc hor hoc hN hU hsh hfew hcaps
  by_cases za : a = 0
  · subst za
    rw [if_pos rfl]
    by_cases zb : b = 0
    · subst zb
      rw [if_pos rfl]
      obtain ⟨rs, hrs9⟩ : ∃ rs, (if d = true then (0 : Nat) else 1) = rs := ⟨_, rfl⟩
      rw [hrs9]
      have HRS := Lib.hid hrs9
      clear hrs9
      go_enter Tryz.func29, Tryz.ntmps29
      go_wp2_with (fail)
      refine HC1.out.mono ?_
      rintro e w1 ⟨rfl, hb1⟩
      have HB1 := Lib.hid (HB.out.trans (hb1.mono HB.out.size))
      have hp1 := HP1.out.below hb1 HP1.out.lt
      have hp0 := HP0.out.below hb1 HP0.out.lt
      have hp2 := HP2.out.below hb1 HP2.out.lt
      have u0 : w1.cell? ⟨w.heap.size + 1, 0, none⟩ = some (.slice RA l.length rc) := hp1.cell 0
      have HQ0 := Lib.hid hp0
      have HQ2 := Lib.hid hp2
      clear hb1 hp0 hp1 hp2 HC1 HB HP0 HP1 HP2
      go_wp2_with (fail)
      refine (HC2.out _ HB1.out).mono ?_
      rintro e w2 ⟨rfl, hb2⟩
      have HB2 := Lib.hid (HB1.out.trans (hb2.mono HB1.out.size))
      have hp0 := HQ0.out.below hb2 HQ0.out.lt
      have hp2 := HQ2.out.below hb2 HQ2.out.lt
      have x0 : w2.cell? ⟨w.heap.size, 0, none⟩ = some (.slice N names.length c1) := hp0.cell 0
      have x1 : w2.cell? ⟨w.heap.size, 1, none⟩ = some (.slice U up.length c2) := hp0.cell 1
      have y0 : w2.cell? ⟨w.heap.size + 2, 0, none⟩ = some (.int .i64 s.pc.v) := hp2.cell 0
      have y1 : w2.cell? ⟨w.heap.size + 2, 1, none⟩ = some (.int .i64 s.pc.l) := hp2.cell 1
      have y2 : w2.cell? ⟨w.heap.size + 2, 2, none⟩ = some (.slice cA s.code.length cc) := hp2.cell 2
      have y3 : w2.cell? ⟨w.heap.size + 2, 3, none⟩ = some (.slice mA s.mem.length mc) := hp2.cell 3
      have y4 : w2.cell? ⟨w.heap.size + 2, 4, none⟩ = some (.slice sA s.stack.length sc) := hp2.cell 4
      have y5 : w2.cell? ⟨w.heap.size + 2, 5, none⟩ = some (.slice oA s.out.length oc) := hp2.cell 5
      have HC := Lib.hid (HC3.out _ HB2.out)
      clear hb2 hp0 hp2 HC2 HB1 HQ0 HQ2 HC3
      cases d with
      | true =>
        go_wp2_with (fail)
        refine HC.out.mono ?_
        rintro e w3 ⟨rfl, hb3⟩
        have HB3 := Lib.hid (HB2.out.trans (hb3.mono HB2.out.size))
        clear hb3
        go_wp2
        go_ret
        exact ⟨by rw [← HRS.out]; rfl, HB3.out⟩
      | false =>
        go_wp2_with (fail)
        refine HC.out.mono ?_
        rintro e w3 ⟨rfl, hb3⟩
        have HB3 := Lib.hid (HB2.out.trans (hb3.mono HB2.out.size))
        clear hb3
        go_wp2
        go_ret
        exact ⟨by rw [← HRS.out]; rfl, HB3.out⟩
    · rw [if_neg zb]
      have hnz : ((b : Int) != 0) = true := by rw [bne_iff_ne]; omega
      go_enter Tryz.func29, Tryz.ntmps29
      go_wp2_with (fail)
      refine HC1.out.mono ?_
      rintro e w1 ⟨rfl, hb1⟩
      have HB1 := Lib.hid (HB.out.trans (hb1.mono HB.out.size))
      have hp1 := HP1.out.below hb1 HP1.out.lt
      have u0 : w1.cell? ⟨w.heap.size + 1, 0, none⟩ = some (.slice RA l.length rc) := hp1.cell 0
      clear hb1 hp1 HC1 HB HP0 HP1 HP2 HC3
      go_wp2_with (fail)
      refine (HC2.out _ HB1.out).mono ?_
      rintro e w2 ⟨rfl, hb2⟩
      have HB2 := Lib.hid (HB1.out.trans (hb2.mono HB1.out.size))
      clear hb2
      go_wp2
      go_ret
      exact ⟨rfl, HB2.out⟩
  · rw [if_neg za]
    have hnz : ((a : Int) != 0) = true := by rw [bne_iff_ne]; omega
    clear HC2 HC3
    go_enter Tryz.func29, Tryz.ntmps29
    go_wp2_with (fail)
    refine HC1.out.mono ?_
    rintro e w1 ⟨rfl, hb1⟩
    have HB1 := Lib.hid (HB.out.trans (hb1.mono HB.out.size))
    clear hb1
    go_wp2
    go_ret
    exact ⟨rfl, HB1.out⟩
theorem firstBad_zero : ∀ (l : List Tb.PR) (op : Nat), (Tb.firstBad op l).2 = 0 → Tb.firstBad op l = (0, 0)
  | [], _, _ => rfl
  | x :: r, op, h => by
    unfold Tb.firstBad at h ⊢
    by_cases h0 : Tb.rowE op x = 0
    · rw [if_pos h0] at h ⊢
      exact firstBad_zero r (op + 1) h
    · rw [if_neg h0] at h
      exact absurd h h0
theorem chk_zero {names : List ByteArray} {up : List Nat} {l : List Tb.PR} {s : St.State} (h : chk10 names up l s = 0) : checkN names up = 0 ∧ (l.length = 13 ∧ ∀ k y, l[k]? = some y → Tb.rowE k y = 0) ∧ St.rightB up.length s = true := by
  unfold chk10 at h
  split at h
  · rename_i h1
    split at h
    · rename_i h2
      split at h
      · rename_i h3
        refine ⟨h1, ?_, h3⟩
        have h4 : Tb.check l = (0, 0) := by
          unfold Tb.check at h2 ⊢
          split at h2
          · rename_i h5
            rw [if_pos h5]
            exact firstBad_zero l 0 h2
          · cases h2
        exact Tb.check_ok h4
      · cases h
    · rename_i h2; exact absurd h h2
  · rename_i h1; exact absurd h h1
/-- What One answers: the state then, what came of it, and the error. -/
def oneR (names : List ByteArray) (up : List Nat) (l : List Tb.PR) (s : St.State) : St.State × Nat × Nat :=
  if chk10 names up l s = 0 then ((Sp.step up.length (bottomR names up : Nat) (rwT up l) s).1, (Sp.step up.length (bottomR names up : Nat) (rwT up l) s).2, 0) else (St.zero, 0, chk10 names up l s)
def Oned (o : St.State × Nat × Nat) (w : World) (e : Ending) (w' : World) : Prop :=
  ∃ a b A1 n1 d1 A2 n2 d2 A3 n3 d3 A4 n4 d4, e = .returned (.tuple #[.agg #[.int .i64 a, .int .i64 b, .slice A1 n1 d1, .slice A2 n2 d2, .slice A3 n3 d3, .slice A4 n4 d4], .int .i64 (o.2.1 : Int), .int .i64 (o.2.2 : Int)]) ∧ .agg #[.int .i64 a, .int .i64 b, .slice A1 n1 d1, .slice A2 n2 d2, .slice A3 n3 d3, .slice A4 n4 d4] = stv o.1 (.slice A1 n1 d1) (.slice A2 n2 d2) (.slice A3 n3 d3) (.slice A4 n4 d4) ∧ CopyOf w.heap.size o.1 (.slice A1 n1 d1) (.slice A2 n2 d2) (.slice A3 n3 d3) (.slice A4 n4 d4) w' ∧ Below w.heap.size w w'
theorem CopyOf.zero (B : Nat) (W : World) : CopyOf B St.zero (.slice none 0 0) (.slice none 0 0) (.slice none 0 0) (.slice none 0 0) W :=
  ⟨World.ownsRow_nil _ _ _ _, World.ownsRow_nil _ _ _ _, World.ownsRow_nil _ _ _ _, World.ownsRow_nil _ _ _ _, .inl rfl⟩
theorem six_sets {W : World} {g : Nat} {c0 c1 c2 c3 c4 c5 : Value} (h : Blk W g 35 #[c0, c1, c2, c3, c4, c5]) (a0 a1 a2 a3 a4 a5 : Value) :
    ∃ WF, (((((W.setCell ⟨g, 0, none⟩ a0).setCell ⟨g, 1, none⟩ a1).setCell ⟨g, 2, none⟩ a2).setCell ⟨g, 3, none⟩ a3).setCell ⟨g, 4, none⟩ a4).setCell ⟨g, 5, none⟩ a5 = WF ∧ Blk WF g 35 #[a0, a1, a2, a3, a4, a5] ∧
      (∀ (B : Nat) (w : World), Below B w W → B ≤ g → Below B w WF) ∧ (∀ (B : Nat) (s : St.State) (cv mv tv ov : Value), CopyOf B s cv mv tv ov W → CopyOf B s cv mv tv ov WF) ∧ ∀ (g' : Nat) (t : TypeId) (cs : Array Value), g' ≠ g → Blk W g' t cs → Blk WF g' t cs := by
  refine ⟨_, rfl, (((((h.set_ 0 a0).set_ 1 a1).set_ 2 a2).set_ 3 a3).set_ 4 a4).set_ 5 a5, fun B w hb hg => (((((hb.setCell (p := ⟨g, 0, none⟩) hg a0).setCell (p := ⟨g, 1, none⟩) hg a1).setCell (p := ⟨g, 2, none⟩) hg a2).setCell (p := ⟨g, 3, none⟩) hg a3).setCell (p := ⟨g, 4, none⟩) hg a4).setCell (p := ⟨g, 5, none⟩) hg a5, fun B s cv mv tv ov hc => ?_, fun g' t cs hn hb => ?_⟩
  · exact (((((hc.set_ h a0).set_ (h.set_ 0 a0) a1).set_ ((h.set_ 0 a0).set_ 1 a1) a2).set_ (((h.set_ 0 a0).set_ 1 a1).set_ 2 a2) a3).set_ ((((h.set_ 0 a0).set_ 1 a1).set_ 2 a2).set_ 3 a3) a4).set_ (((((h.set_ 0 a0).set_ 1 a1).set_ 2 a2).set_ 3 a3).set_ 4 a4) a5
  · have hn' : g ≠ g' := fun e => hn e.symm
    exact (((((hb.other (p := ⟨g, 0, none⟩) hn' a0).other (p := ⟨g, 1, none⟩) hn' a1).other (p := ⟨g, 2, none⟩) hn' a2).other (p := ⟨g, 3, none⟩) hn' a3).other (p := ⟨g, 4, none⟩) hn' a4).other (p := ⟨g, 5, none⟩) hn' a5
set_option maxHeartbeats 8000000 in
theorem one_any {v tv : Value} {names : List ByteArray} {up : List Nat} {s : St.State} {RA : Option Addr} {l : List Tb.PR} (rc : Nat) (w : World) (hi : Ins w) (hg : 0 < w.heap.size) (h : IsLat w w.heap.size v names up) (hst : IsSt w w.heap.size tv s) (hsm : SmallS s) (hr : RowsIn w w.heap.size RA l) (hrs : ∀ x ∈ l, Small x) :
    Calls Tryz.prog 11 #[v, .agg #[.slice RA l.length rc], tv] w (Oned (oneR names up l s) w) := by
  obtain ⟨⟨N, U, c1, c2, rfl, hN, hU⟩, hsh, hfew, hcaps⟩ := id h
  have hst' := hst
  obtain ⟨cv, mv, stv_, ov, hsv, ⟨cA, cc, rfl, hcr, hcc⟩, ⟨mA, mc, rfl, hmr, hmc⟩, ⟨sA, sc, rfl, hsr, hsc⟩, ⟨oA, oc, rfl, hor, hoc⟩⟩ := hst
  unfold stv at hsv
  subst hsv
  have q0 := Blk.new w 25 #[.slice N names.length c1, .slice U up.length c2]
  have q1 := Blk.new (w.alloc (.cells #[.slice N names.length c1, .slice U up.length c2] 25)) 28 #[.slice RA l.length rc]
  rw [show (w.alloc (.cells #[.slice N names.length c1, .slice U up.length c2] 25)).heap.size = w.heap.size + 1 by simp] at q1
  have q2 := Blk.new ((w.alloc (.cells #[.slice N names.length c1, .slice U up.length c2] 25)).alloc (.cells #[.slice RA l.length rc] 28)) 35 #[.int .i64 s.pc.v, .int .i64 s.pc.l, .slice cA s.code.length cc, .slice mA s.mem.length mc, .slice sA s.stack.length sc, .slice oA s.out.length oc]
  rw [show ((w.alloc (.cells #[.slice N names.length c1, .slice U up.length c2] 25)).alloc (.cells #[.slice RA l.length rc] 28)).heap.size = w.heap.size + 2 by simp] at q2
  have q3 := Blk.new (((w.alloc (.cells #[.slice N names.length c1, .slice U up.length c2] 25)).alloc (.cells #[.slice RA l.length rc] 28)).alloc (.cells #[.int .i64 s.pc.v, .int .i64 s.pc.l, .slice cA s.code.length cc, .slice mA s.mem.length mc, .slice sA s.stack.length sc, .slice oA s.out.length oc] 35)) 35 #[.int .i64 0, .int .i64 0, .slice none 0 0, .slice none 0 0, .slice none 0 0, .slice none 0 0]
  rw [show (((w.alloc (.cells #[.slice N names.length c1, .slice U up.length c2] 25)).alloc (.cells #[.slice RA l.length rc] 28)).alloc (.cells #[.int .i64 s.pc.v, .int .i64 s.pc.l, .slice cA s.code.length cc, .slice mA s.mem.length mc, .slice sA s.stack.length sc, .slice oA s.out.length oc] 35)).heap.size = w.heap.size + 3 by simp] at q3
  have hbox := ((((Below.refl w.heap.size w).alloc (by simp <;> omega) (.cells #[.slice N names.length c1, .slice U up.length c2] 25)).alloc (by simp <;> omega) (.cells #[.slice RA l.length rc] 28)).alloc (by simp <;> omega) (.cells #[.int .i64 s.pc.v, .int .i64 s.pc.l, .slice cA s.code.length cc, .slice mA s.mem.length mc, .slice sA s.stack.length sc, .slice oA s.out.length oc] 35)).alloc (by simp <;> omega) (.cells #[.int .i64 0, .int .i64 0, .slice none 0 0, .slice none 0 0, .slice none 0 0, .slice none 0 0] 35)
  obtain ⟨W, hW⟩ : ∃ W, (((w.alloc (.cells #[.slice N names.length c1, .slice U up.length c2] 25)).alloc (.cells #[.slice RA l.length rc] 28)).alloc (.cells #[.int .i64 s.pc.v, .int .i64 s.pc.l, .slice cA s.code.length cc, .slice mA s.mem.length mc, .slice sA s.stack.length sc, .slice oA s.out.length oc] 35)).alloc (.cells #[.int .i64 0, .int .i64 0, .slice none 0 0, .slice none 0 0, .slice none 0 0, .slice none 0 0] 35) = W := ⟨_, rfl⟩
  have p0 := (((q0.alloc (.cells #[.slice RA l.length rc] 28)).alloc (.cells #[.int .i64 s.pc.v, .int .i64 s.pc.l, .slice cA s.code.length cc, .slice mA s.mem.length mc, .slice sA s.stack.length sc, .slice oA s.out.length oc] 35)).alloc (.cells #[.int .i64 0, .int .i64 0, .slice none 0 0, .slice none 0 0, .slice none 0 0, .slice none 0 0] 35))
  have p1 := ((q1.alloc (.cells #[.int .i64 s.pc.v, .int .i64 s.pc.l, .slice cA s.code.length cc, .slice mA s.mem.length mc, .slice sA s.stack.length sc, .slice oA s.out.length oc] 35)).alloc (.cells #[.int .i64 0, .int .i64 0, .slice none 0 0, .slice none 0 0, .slice none 0 0, .slice none 0 0] 35))
  have p2 := (q2.alloc (.cells #[.int .i64 0, .int .i64 0, .slice none 0 0, .slice none 0 0, .slice none 0 0, .slice none 0 0] 35))
  have p3 := q3
  rw [hW] at hbox p0 p1 p2 p3
  have hWs : W.heap.size = w.heap.size + 4 := by rw [← hW]; simp
  have HC1 := Lib.hid (check_any10 (s := s) (tv := .agg #[.int .i64 s.pc.v, .int .i64 s.pc.l, .slice cA s.code.length cc, .slice mA s.mem.length mc, .slice sA s.stack.length sc, .slice oA s.out.length oc]) rc W (hi.below hbox hg) (Nat.lt_of_lt_of_le hg hbox.size) ((h.below hbox).more hbox.size) ((hst'.below hbox).more hbox.size) hsm ((hr.below hbox).more hbox.size) hrs)
  have l0 : W.cell? ⟨w.heap.size, 0, none⟩ = some (.slice N names.length c1) := p0.cell 0
  have l1 : W.cell? ⟨w.heap.size, 1, none⟩ = some (.slice U up.length c2) := p0.cell 1
  have t0 : W.cell? ⟨w.heap.size + 1, 0, none⟩ = some (.slice RA l.length rc) := p1.cell 0
  have s0 : W.cell? ⟨w.heap.size + 2, 0, none⟩ = some (.int .i64 s.pc.v) := p2.cell 0
  have s1 : W.cell? ⟨w.heap.size + 2, 1, none⟩ = some (.int .i64 s.pc.l) := p2.cell 1
  have s2 : W.cell? ⟨w.heap.size + 2, 2, none⟩ = some (.slice cA s.code.length cc) := p2.cell 2
  have s3 : W.cell? ⟨w.heap.size + 2, 3, none⟩ = some (.slice mA s.mem.length mc) := p2.cell 3
  have s4 : W.cell? ⟨w.heap.size + 2, 4, none⟩ = some (.slice sA s.stack.length sc) := p2.cell 4
  have s5 : W.cell? ⟨w.heap.size + 2, 5, none⟩ = some (.slice oA s.out.length oc) := p2.cell 5
  have HP0 := Lib.hid p0
  have HP1 := Lib.hid p1
  have HP2 := Lib.hid p2
  have HP3 := Lib.hid p3
  have HB := Lib.hid hbox
  have HWS := Lib.hid hWs
  obtain ⟨o, ho⟩ : ∃ o, oneR names up l s = o := ⟨_, rfl⟩
  rw [ho]
  unfold oneR at ho
  obtain ⟨c, hc⟩ : ∃ c, chk10 names up l s = c := ⟨_, rfl⟩
  rw [hc] at HC1 ho
  by_cases zc : c = 0
  · subst zc
    rw [if_pos rfl] at ho
    obtain ⟨z1, ⟨z2, z3⟩, z4⟩ := chk_zero hc
    have hto := Sp.told_run (bot := (bottomR names up : Nat)) (rw_ := rwT up l) z4
    have HT := Lib.hid (fun (W2 : World) (hb : Below w.heap.size w W2) => tried_any (tv := .agg #[.int .i64 s.pc.v, .int .i64 s.pc.l, .slice cA s.code.length cc, .slice mA s.mem.length mc, .slice sA s.stack.length sc, .slice oA s.out.length oc]) rc W2 ((h.below hb).more hb.size) ((hst'.below hb).more hb.size) ⟨(hr.below hb).more hb.size, z2, z3⟩ z1 z4)
    have HCO := Lib.hid (fun (W2 : World) (hb : Below w.heap.size w W2) => copied_any (tv := .agg #[.int .i64 s.pc.v, .int .i64 s.pc.l, .slice cA s.code.length cc, .slice mA s.mem.length mc, .slice sA s.stack.length sc, .slice oA s.out.length oc]) W2 ((hst'.below hb).more hb.size) hsm)
    rw [hto] at HT
    have hst2 := fun (h : (Sp.step up.length (bottomR names up : Nat) (rwT up l) s).2 ≠ 0) => (Sp.step_stays z4 (bottomR names up : Nat) (rwT up l)).same h
    generalize Sp.step up.length (bottomR names up : Nat) (rwT up l) s = p at *
    obtain ⟨ps, pn⟩ := p
    dsimp only at HT ho hst2
    subst ho
    have HS2 := Lib.hid hst2
    clear hst2 hto hc z1 z2 z3 z4 q0 q1 q2 q3 p0 p1 p2 p3 hbox h hst' hr hrs hsm hi hcr hcc hmr hmc hsr hsc hor hoc hN hU hsh hfew hcaps
    go_enter Tryz.func11, Tryz.ntmps11
    go_wp2_with (fail)
    refine HC1.out.mono ?_
    rintro e w1 ⟨rfl, hb1⟩
    have HB1 := Lib.hid (HB.out.trans (hb1.mono HB.out.size))
    have h0 := HP0.out.below hb1 HP0.out.lt
    have h1 := HP1.out.below hb1 HP1.out.lt
    have h2 := HP2.out.below hb1 HP2.out.lt
    have h3 := HP3.out.below hb1 HP3.out.lt
    have x0 : w1.cell? ⟨w.heap.size, 0, none⟩ = some (.slice N names.length c1) := h0.cell 0
    have x1 : w1.cell? ⟨w.heap.size, 1, none⟩ = some (.slice U up.length c2) := h0.cell 1
    have u0 : w1.cell? ⟨w.heap.size + 1, 0, none⟩ = some (.slice RA l.length rc) := h1.cell 0
    have y0 : w1.cell? ⟨w.heap.size + 2, 0, none⟩ = some (.int .i64 s.pc.v) := h2.cell 0
    have y1 : w1.cell? ⟨w.heap.size + 2, 1, none⟩ = some (.int .i64 s.pc.l) := h2.cell 1
    have y2 : w1.cell? ⟨w.heap.size + 2, 2, none⟩ = some (.slice cA s.code.length cc) := h2.cell 2
    have y3 : w1.cell? ⟨w.heap.size + 2, 3, none⟩ = some (.slice mA s.mem.length mc) := h2.cell 3
    have y4 : w1.cell? ⟨w.heap.size + 2, 4, none⟩ = some (.slice sA s.stack.length sc) := h2.cell 4
    have y5 : w1.cell? ⟨w.heap.size + 2, 5, none⟩ = some (.slice oA s.out.length oc) := h2.cell 5
    have HQ2 := Lib.hid h2
    have HQ3 := Lib.hid h3
    clear h0 h1 h2 h3 hb1 HC1 HB HP0 HP1 HP2 HP3 l0 l1 t0 s0 s1 s2 s3 s4 s5
    go_wp2_with (fail)
    refine (HT.out _ HB1.out).mono ?_
    rintro e w2 ⟨a, b, A1, n1, d1, A2, n2, d2, A3, n3, d3, A4, n4, d4, rfl, hi2, hb2⟩
    have HB2 := Lib.hid (HB1.out.trans (hb2.mono HB1.out.size))
    have h2 := HQ2.out.below hb2 HQ2.out.lt
    have h3 := HQ3.out.below hb2 HQ3.out.lt
    have hal := (Below.refl w2.heap.size w2).alloc (Nat.le_refl _) (.cells #[.int .i64 a, .int .i64 b, .slice A1 n1 d1, .slice A2 n2 d2, .slice A3 n3 d3, .slice A4 n4 d4] 35)
    have hbk := Blk.new w2 35 #[.int .i64 a, .int .i64 b, .slice A1 n1 d1, .slice A2 n2 d2, .slice A3 n3 d3, .slice A4 n4 d4]
    have HI2 := Lib.hid hi2
    obtain ⟨w3, hw3⟩ : ∃ W, w2.alloc (.cells #[.int .i64 a, .int .i64 b, .slice A1 n1 d1, .slice A2 n2 d2, .slice A3 n3 d3, .slice A4 n4 d4] 35) = W := ⟨_, rfl⟩
    rw [hw3] at hal hbk
    have h2' := h2.below hal h2.lt
    have h3' := h3.below hal h3.lt
    have HB3 := Lib.hid (HB2.out.trans (hal.mono HB2.out.size))
    have HI3 := Lib.hid (fun h => (⟨(hi2 h).1, (hi2 h).2.below hal⟩ : _ ∧ _))
    have HBK := Lib.hid hbk
    have HR3 := Lib.hid h3'
    have hlt2 : w.heap.size + 4 ≤ w2.heap.size := by have := h3.lt; omega
    have hlt3 : w2.heap.size < w3.heap.size := hbk.lt
    have k0 : w3.cell? ⟨w2.heap.size, 0, none⟩ = some (.int .i64 a) := hbk.cell 0
    have k1 : w3.cell? ⟨w2.heap.size, 1, none⟩ = some (.int .i64 b) := hbk.cell 1
    have k2 : w3.cell? ⟨w2.heap.size, 2, none⟩ = some (.slice A1 n1 d1) := hbk.cell 2
    have k3 : w3.cell? ⟨w2.heap.size, 3, none⟩ = some (.slice A2 n2 d2) := hbk.cell 3
    have k4 : w3.cell? ⟨w2.heap.size, 4, none⟩ = some (.slice A3 n3 d3) := hbk.cell 4
    have k5 : w3.cell? ⟨w2.heap.size, 5, none⟩ = some (.slice A4 n4 d4) := hbk.cell 5
    have g0 : w3.cell? ⟨w.heap.size + 2, 0, none⟩ = some (.int .i64 s.pc.v) := h2'.cell 0
    have g1 : w3.cell? ⟨w.heap.size + 2, 1, none⟩ = some (.int .i64 s.pc.l) := h2'.cell 1
    have g2 : w3.cell? ⟨w.heap.size + 2, 2, none⟩ = some (.slice cA s.code.length cc) := h2'.cell 2
    have g3 : w3.cell? ⟨w.heap.size + 2, 3, none⟩ = some (.slice mA s.mem.length mc) := h2'.cell 3
    have g4 : w3.cell? ⟨w.heap.size + 2, 4, none⟩ = some (.slice sA s.stack.length sc) := h2'.cell 4
    have g5 : w3.cell? ⟨w.heap.size + 2, 5, none⟩ = some (.slice oA s.out.length oc) := h2'.cell 5
    have r0 : w3.cell? ⟨w.heap.size + 1 + 1 + 1, 0, none⟩ = some (.int .i64 0) := h3'.cell 0
    have r1 : w3.cell? ⟨w.heap.size + 1 + 1 + 1, 1, none⟩ = some (.int .i64 0) := h3'.cell 1
    have r2 : w3.cell? ⟨w.heap.size + 1 + 1 + 1, 2, none⟩ = some (.slice none 0 0) := h3'.cell 2
    have r3 : w3.cell? ⟨w.heap.size + 1 + 1 + 1, 3, none⟩ = some (.slice none 0 0) := h3'.cell 3
    have r4 : w3.cell? ⟨w.heap.size + 1 + 1 + 1, 4, none⟩ = some (.slice none 0 0) := h3'.cell 4
    have r5 : w3.cell? ⟨w.heap.size + 1 + 1 + 1, 5, none⟩ = some (.slice none 0 0) := h3'.cell 5
    have f0 : w3.frozen? ⟨w.heap.size + 1 + 1 + 1, 0, none⟩ = false := h3'.frozen 0
    have f1 : w3.frozen? ⟨w.heap.size + 1 + 1 + 1, 1, none⟩ = false := h3'.frozen 1
    have f2 : w3.frozen? ⟨w.heap.size + 1 + 1 + 1, 2, none⟩ = false := h3'.frozen 2
    have f3 : w3.frozen? ⟨w.heap.size + 1 + 1 + 1, 3, none⟩ = false := h3'.frozen 3
    have f4 : w3.frozen? ⟨w.heap.size + 1 + 1 + 1, 4, none⟩ = false := h3'.frozen 4
    have f5 : w3.frozen? ⟨w.heap.size + 1 + 1 + 1, 5, none⟩ = false := h3'.frozen 5
    clear h2 h3 h2' h3' hal hbk hi2 hb2 HT HQ2 HQ3 x0 x1 u0 y0 y1 y2 y3 y4 y5 HI2
    by_cases hn : pn = 0
    · subst hn
      clear HCO HS2
      obtain ⟨heq, hcp⟩ := HI3.out rfl
      obtain ⟨WF, hWF, hrf, hbl, hcp', -⟩ := six_sets (show Blk w3 (w.heap.size + 1 + 1 + 1) 35 #[.int .i64 0, .int .i64 0, .slice none 0 0, .slice none 0 0, .slice none 0 0, .slice none 0 0] from HR3.out) (.int .i64 a) (.int .i64 b) (.slice A1 n1 d1) (.slice A2 n2 d2) (.slice A3 n3 d3) (.slice A4 n4 d4)
      have HCP := Lib.hid (hcp' _ _ _ _ _ _ hcp)
      have HRF := Lib.hid hrf
      have HBL := Lib.hid (hbl _ _ HB3.out (by omega))
      have HEQ := Lib.hid heq
      clear hcp hrf hbl heq HI3 HR3 hcp'
      go_wp2
      clear hWF
      have v0 : WF.cell? ⟨w.heap.size + 1 + 1 + 1, 0, none⟩ = some (.int .i64 a) := HRF.out.cell 0
      have v1 : WF.cell? ⟨w.heap.size + 1 + 1 + 1, 1, none⟩ = some (.int .i64 b) := HRF.out.cell 1
      have v2 : WF.cell? ⟨w.heap.size + 1 + 1 + 1, 2, none⟩ = some (.slice A1 n1 d1) := HRF.out.cell 2
      have v3 : WF.cell? ⟨w.heap.size + 1 + 1 + 1, 3, none⟩ = some (.slice A2 n2 d2) := HRF.out.cell 3
      have v4 : WF.cell? ⟨w.heap.size + 1 + 1 + 1, 4, none⟩ = some (.slice A3 n3 d3) := HRF.out.cell 4
      have v5 : WF.cell? ⟨w.heap.size + 1 + 1 + 1, 5, none⟩ = some (.slice A4 n4 d4) := HRF.out.cell 5
      refine bodyPost_ret (v := .tuple #[.agg #[.int .i64 a, .int .i64 b, .slice A1 n1 d1, .slice A2 n2 d2, .slice A3 n3 d3, .slice A4 n4 d4], .int .i64 0, .int .i64 0]) (by simp [results, Tryz.results11, go_sem, v0, v1, v2, v3, v4, v5]) rfl ⟨_, _, _, _, _, _, _, _, _, _, _, _, _, _, rfl, HEQ.out, HCP.out.mono HB1.out.size, HBL.out⟩
    · have hnz : ((pn : Int) != 0) = true := by rw [bne_iff_ne]; omega
      have hps : ps = s := (HS2.out hn).1
      subst hps
      go_wp2_with (fail)
      refine (HCO.out _ HB3.out).mono ?_
      rintro e w4 ⟨cv, mv, tv, ov, he, hcp, hb4⟩
      obtain ⟨A5, d5, rfl⟩ := ownT_slice hcp.code
      obtain ⟨A6, d6, rfl⟩ := ownT_slice hcp.mem
      obtain ⟨A7, d7, rfl⟩ := ownT_slice hcp.stack
      obtain ⟨A8, d8, rfl⟩ := ownT_slice hcp.out
      unfold stv at he
      subst he
      have hbk4 := HBK.out.below hb4 HBK.out.lt
      have hr4 := HR3.out.below hb4 HR3.out.lt
      have hb4' := HB3.out.trans (hb4.mono HB3.out.size)
      have ka0 : w4.cell? ⟨w2.heap.size, 0, none⟩ = some (.int .i64 a) := hbk4.cell 0
      have ka1 : w4.cell? ⟨w2.heap.size, 1, none⟩ = some (.int .i64 b) := hbk4.cell 1
      have ka2 : w4.cell? ⟨w2.heap.size, 2, none⟩ = some (.slice A1 n1 d1) := hbk4.cell 2
      have ka3 : w4.cell? ⟨w2.heap.size, 3, none⟩ = some (.slice A2 n2 d2) := hbk4.cell 3
      have ka4 : w4.cell? ⟨w2.heap.size, 4, none⟩ = some (.slice A3 n3 d3) := hbk4.cell 4
      have ka5 : w4.cell? ⟨w2.heap.size, 5, none⟩ = some (.slice A4 n4 d4) := hbk4.cell 5
      have kz0 : w4.frozen? ⟨w2.heap.size, 0, none⟩ = false := hbk4.frozen 0
      have kz1 : w4.frozen? ⟨w2.heap.size, 1, none⟩ = false := hbk4.frozen 1
      have kz2 : w4.frozen? ⟨w2.heap.size, 2, none⟩ = false := hbk4.frozen 2
      have kz3 : w4.frozen? ⟨w2.heap.size, 3, none⟩ = false := hbk4.frozen 3
      have kz4 : w4.frozen? ⟨w2.heap.size, 4, none⟩ = false := hbk4.frozen 4
      have kz5 : w4.frozen? ⟨w2.heap.size, 5, none⟩ = false := hbk4.frozen 5
      clear k0 k1 k2 k3 k4 k5 r0 r1 r2 r3 r4 r5 f0 f1 f2 f3 f4 f5 g0 g1 g2 g3 g4 g5
      obtain ⟨W5, hW5, hrf, hbl, hcp', hre⟩ := six_sets hbk4 (.int .i64 ps.pc.v) (.int .i64 ps.pc.l) (.slice A5 ps.code.length d5) (.slice A6 ps.mem.length d6) (.slice A7 ps.stack.length d7) (.slice A8 ps.out.length d8)
      have HCP5 := Lib.hid (hcp' _ _ _ _ _ _ hcp)
      have hbk5 := hrf
      have hr5 := hre _ _ _ (by omega) hr4
      have HR5 := Lib.hid hr5
      have HB5 := Lib.hid (hbl _ _ hb4' (by omega))
      have kb0 : W5.cell? ⟨w2.heap.size, 0, none⟩ = some (.int .i64 ps.pc.v) := hbk5.cell 0
      have kb1 : W5.cell? ⟨w2.heap.size, 1, none⟩ = some (.int .i64 ps.pc.l) := hbk5.cell 1
      have kb2 : W5.cell? ⟨w2.heap.size, 2, none⟩ = some (.slice A5 ps.code.length d5) := hbk5.cell 2
      have kb3 : W5.cell? ⟨w2.heap.size, 3, none⟩ = some (.slice A6 ps.mem.length d6) := hbk5.cell 3
      have kb4 : W5.cell? ⟨w2.heap.size, 4, none⟩ = some (.slice A7 ps.stack.length d7) := hbk5.cell 4
      have kb5 : W5.cell? ⟨w2.heap.size, 5, none⟩ = some (.slice A8 ps.out.length d8) := hbk5.cell 5
      have rb0 : W5.cell? ⟨w.heap.size + 1 + 1 + 1, 0, none⟩ = some (.int .i64 0) := hr5.cell 0
      have rb1 : W5.cell? ⟨w.heap.size + 1 + 1 + 1, 1, none⟩ = some (.int .i64 0) := hr5.cell 1
      have rb2 : W5.cell? ⟨w.heap.size + 1 + 1 + 1, 2, none⟩ = some (.slice none 0 0) := hr5.cell 2
      have rb3 : W5.cell? ⟨w.heap.size + 1 + 1 + 1, 3, none⟩ = some (.slice none 0 0) := hr5.cell 3
      have rb4 : W5.cell? ⟨w.heap.size + 1 + 1 + 1, 4, none⟩ = some (.slice none 0 0) := hr5.cell 4
      have rb5 : W5.cell? ⟨w.heap.size + 1 + 1 + 1, 5, none⟩ = some (.slice none 0 0) := hr5.cell 5
      have rz0 : W5.frozen? ⟨w.heap.size + 1 + 1 + 1, 0, none⟩ = false := hr5.frozen 0
      have rz1 : W5.frozen? ⟨w.heap.size + 1 + 1 + 1, 1, none⟩ = false := hr5.frozen 1
      have rz2 : W5.frozen? ⟨w.heap.size + 1 + 1 + 1, 2, none⟩ = false := hr5.frozen 2
      have rz3 : W5.frozen? ⟨w.heap.size + 1 + 1 + 1, 3, none⟩ = false := hr5.frozen 3
      have rz4 : W5.frozen? ⟨w.heap.size + 1 + 1 + 1, 4, none⟩ = false := hr5.frozen 4
      have rz5 : W5.frozen? ⟨w.heap.size + 1 + 1 + 1, 5, none⟩ = false := hr5.frozen 5
      clear hcp hb4 hb4' hbk4 hr4 hrf hre hbl hr5 hbk5 hcp'
      obtain ⟨WF, hWF, hrf, hbl, hcp', -⟩ := six_sets (show Blk W5 (w.heap.size + 1 + 1 + 1) 35 #[.int .i64 0, .int .i64 0, .slice none 0 0, .slice none 0 0, .slice none 0 0, .slice none 0 0] from HR5.out) (.int .i64 ps.pc.v) (.int .i64 ps.pc.l) (.slice A5 ps.code.length d5) (.slice A6 ps.mem.length d6) (.slice A7 ps.stack.length d7) (.slice A8 ps.out.length d8)
      have HCP := Lib.hid (hcp' _ _ _ _ _ _ HCP5.out)
      have HRF := Lib.hid hrf
      have HBL := Lib.hid (hbl _ _ HB5.out (by omega))
      clear hrf hbl HCP5 HR5 HB5 hcp'
      go_wp2
      clear hWF hW5
      have v0 : WF.cell? ⟨w.heap.size + 1 + 1 + 1, 0, none⟩ = some (.int .i64 ps.pc.v) := HRF.out.cell 0
      have v1 : WF.cell? ⟨w.heap.size + 1 + 1 + 1, 1, none⟩ = some (.int .i64 ps.pc.l) := HRF.out.cell 1
      have v2 : WF.cell? ⟨w.heap.size + 1 + 1 + 1, 2, none⟩ = some (.slice A5 ps.code.length d5) := HRF.out.cell 2
      have v3 : WF.cell? ⟨w.heap.size + 1 + 1 + 1, 3, none⟩ = some (.slice A6 ps.mem.length d6) := HRF.out.cell 3
      have v4 : WF.cell? ⟨w.heap.size + 1 + 1 + 1, 4, none⟩ = some (.slice A7 ps.stack.length d7) := HRF.out.cell 4
      have v5 : WF.cell? ⟨w.heap.size + 1 + 1 + 1, 5, none⟩ = some (.slice A8 ps.out.length d8) := HRF.out.cell 5
      exact bodyPost_ret (v := .tuple #[.agg #[.int .i64 ps.pc.v, .int .i64 ps.pc.l, .slice A5 ps.code.length d5, .slice A6 ps.mem.length d6, .slice A7 ps.stack.length d7, .slice A8 ps.out.length d8], .int .i64 (pn : Int), .int .i64 0]) (by simp [results, Tryz.results11, go_sem, v0, v1, v2, v3, v4, v5]) rfl ⟨_, _, _, _, _, _, _, _, _, _, _, _, _, _, rfl, rfl, HCP.out.mono HB3.out.size, HBL.out⟩
  · rw [if_neg zc] at ho
    subst ho
    have hnz : ((c : Int) != 0) = true := by rw [bne_iff_ne]; omega
    clear hc q0 q1 q2 q3 p0 p1 p2 p3 hbox h hst' hr hrs hsm hi hcr hcc hmr hmc hsr hsc hor hoc hN hU hsh hfew hcaps
    go_enter Tryz.func11, Tryz.ntmps11
    go_wp2_with (fail)
    refine HC1.out.mono ?_
    rintro e w1 ⟨rfl, hb1⟩
    have h3 := HP3.out.below hb1 HP3.out.lt
    have HB1 := Lib.hid (HB.out.trans (hb1.mono HB.out.size))
    have HQ3 := Lib.hid h3
    have r0 : w1.cell? ⟨w.heap.size + 1 + 1 + 1, 0, none⟩ = some (.int .i64 0) := h3.cell 0
    have r1 : w1.cell? ⟨w.heap.size + 1 + 1 + 1, 1, none⟩ = some (.int .i64 0) := h3.cell 1
    have r2 : w1.cell? ⟨w.heap.size + 1 + 1 + 1, 2, none⟩ = some (.slice none 0 0) := h3.cell 2
    have r3 : w1.cell? ⟨w.heap.size + 1 + 1 + 1, 3, none⟩ = some (.slice none 0 0) := h3.cell 3
    have r4 : w1.cell? ⟨w.heap.size + 1 + 1 + 1, 4, none⟩ = some (.slice none 0 0) := h3.cell 4
    have r5 : w1.cell? ⟨w.heap.size + 1 + 1 + 1, 5, none⟩ = some (.slice none 0 0) := h3.cell 5
    have f0 : w1.frozen? ⟨w.heap.size + 1 + 1 + 1, 0, none⟩ = false := h3.frozen 0
    have f1 : w1.frozen? ⟨w.heap.size + 1 + 1 + 1, 1, none⟩ = false := h3.frozen 1
    have f2 : w1.frozen? ⟨w.heap.size + 1 + 1 + 1, 2, none⟩ = false := h3.frozen 2
    have f3 : w1.frozen? ⟨w.heap.size + 1 + 1 + 1, 3, none⟩ = false := h3.frozen 3
    have f4 : w1.frozen? ⟨w.heap.size + 1 + 1 + 1, 4, none⟩ = false := h3.frozen 4
    have f5 : w1.frozen? ⟨w.heap.size + 1 + 1 + 1, 5, none⟩ = false := h3.frozen 5
    obtain ⟨WF, hWF, hrf, hbl, -, -⟩ := six_sets (show Blk w1 (w.heap.size + 1 + 1 + 1) 35 #[.int .i64 0, .int .i64 0, .slice none 0 0, .slice none 0 0, .slice none 0 0, .slice none 0 0] from h3) (.int .i64 0) (.int .i64 0) (.slice none 0 0) (.slice none 0 0) (.slice none 0 0) (.slice none 0 0)
    have HRF := Lib.hid hrf
    have HBL := Lib.hid (hbl _ _ HB1.out (by omega))
    clear h3 hb1 HC1 HB hrf hbl
    go_wp2
    clear hWF
    have v0 : WF.cell? ⟨w.heap.size + 1 + 1 + 1, 0, none⟩ = some (.int .i64 0) := HRF.out.cell 0
    have v1 : WF.cell? ⟨w.heap.size + 1 + 1 + 1, 1, none⟩ = some (.int .i64 0) := HRF.out.cell 1
    have v2 : WF.cell? ⟨w.heap.size + 1 + 1 + 1, 2, none⟩ = some (.slice none 0 0) := HRF.out.cell 2
    have v3 : WF.cell? ⟨w.heap.size + 1 + 1 + 1, 3, none⟩ = some (.slice none 0 0) := HRF.out.cell 3
    have v4 : WF.cell? ⟨w.heap.size + 1 + 1 + 1, 4, none⟩ = some (.slice none 0 0) := HRF.out.cell 4
    have v5 : WF.cell? ⟨w.heap.size + 1 + 1 + 1, 5, none⟩ = some (.slice none 0 0) := HRF.out.cell 5
    exact bodyPost_ret (v := .tuple #[.agg #[.int .i64 0, .int .i64 0, .slice none 0 0, .slice none 0 0, .slice none 0 0, .slice none 0 0], .int .i64 0, .int .i64 (c : Int)]) (by simp [results, Tryz.results11, go_sem, v0, v1, v2, v3, v4, v5]) rfl ⟨_, _, _, _, _, _, _, _, _, _, _, _, _, _, rfl, rfl, CopyOf.zero _ _, HBL.out⟩
end Go.Proofs.YtjobifclmcdjcaaGreatDoor
