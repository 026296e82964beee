/- The reference of stage 15: slot (by gen_gne.py). -/
import Derived.Great.BuildSlice
import Derived.Test.YtmbgndcahlopdaaGGnA
import Derived.Test.YtmbgndcahlopdaaGFree
namespace Go.Proofs.Ytmbgndcahlopdaa
set_option maxRecDepth 100000
open Go.RowKit Go.Shelf
attribute [local go_sem] Oper.semAt_some

theorem row15 {W : World} {g : Nat} {t : TypeId} {old : Array Value} (h : Blk W g t old) (cells : Array Value) : ∃ W', W.setRow g cells = W' ∧ Hid (Blk W' g t cells) ∧ Hid (∀ k, k ≠ g → W'.heap[k]? = W.heap[k]?) ∧ Hid (∀ B V, B ≤ g → Below B V W → Below B V W') := by
  refine ⟨_, rfl, Lib.hid (setRow_heap W g old cells t (0, 0) h), Lib.hid fun k hk => setRow_other W g k cells hk, Lib.hid fun B V hB hb => ⟨hb.os, hb.tape, hb.output, by rw [setRow_size]; exact hb.size, fun k hk => (setRow_other W g k cells (by omega)).trans (hb.block k hk)⟩⟩
theorem Try.sizeM15 : (Try.prog.info? 72).map (·.size) = some 5 := by kernel_rfl
theorem Try.sizeL15 : (Try.prog.info? 78).map (·.size) = some 8 := by kernel_rfl
theorem LogNew.keep {α : Type} {B : Nat} {W W' : World} {y : MM} {r : Option (α × Gn.D)} (h : LogNew B W y r) (hk : ∀ k, B ≤ k → k < W.heap.size → W'.heap[k]? = W.heap[k]?) : LogNew B W' y r := fun z d e => own_ofD (h z d e) fun g' hg' => hk g' ((h z d e).lt g' hg').1 ((h z d e).lt g' hg').2
theorem LogNew.less {α : Type} {B B' : Nat} {W : World} {y : MM} {r : Option (α × Gn.D)} (h : LogNew B W y r) (hB : B' ≤ B) : LogNew B' W y r := fun z d e => ownT_mono (h z d e) hB
/-- A slot, where it may be no Ret. -/
def Gn.slotF (list : List Int) (n : Nat) (p : Gn.Sp) : Gn.G St.Slot := Gn.bnd (Gn.num list p.val) fun v => Gn.bnd (Gn.tk list n) fun l => Gn.ret ⟨false, v, l⟩
theorem Gn.atom_of (list : List Int) (n : Nat) (p : Gn.Sp) (d : Gn.D) : Gn.atom list n p d = (Gn.slotF list n p d).map fun q => (St.toAtom q.1, q.2) := by
  unfold Gn.atom Gn.slotF
  cases e : Gn.num list p.val d with
  | none => rw [Gn.bnd_none e, Gn.bnd_none e]; rfl
  | some q =>
    obtain ⟨v, d1⟩ := q
    rw [Gn.bnd_some e, Gn.bnd_some e]
    cases e2 : Gn.tk list n d1 with
    | none => rw [Gn.bnd_none e2, Gn.bnd_none e2]; rfl
    | some q2 => rw [Gn.bnd_some e2, Gn.bnd_some e2]; rfl
/-- What slot answers. -/
def GotS (w : World) (A : Option Addr) (n c : Nat) (r : Option (St.Slot × Gn.D)) (e : Ending) (w' : World) : Prop :=
  ∃ (y : MM) (z : Int) (xr : Bool) (xv xl : Int), e = .returned (.agg #[.slice y.A y.n y.c, .int .i64 y.i, .slice y.L y.m y.d, .int .i64 y.mx, .int .i64 y.me, .bool xr, .int .i64 xv, .int .i64 xl]) ∧ MSh A n c y (r.map fun p => (z, p.2)) ∧ (∀ x d, r = some (x, d) → x = ⟨xr, xv, xl⟩) ∧ LogNew w.heap.size w' y r ∧ Below w.heap.size w w'
/-- A slot's label, behind its number. -/
def Gn.endS (list : List Int) (k : Nat) (b : Bool) : Option (Int × Gn.D) → Option (St.Slot × Gn.D)
  | none => none
  | some (v, d) => Gn.bnd (Gn.tk list k) (fun l => Gn.ret ⟨b, v, l⟩) d
theorem slot_end {A : Option Addr} {n c : Nat} {list : List Int} {k : Nat} (b : Bool) {y1 y2 : MM} {q1 : Option (Int × Gn.D)} {B : Nat} {W : World} (h1 : MSh A n c y1 q1) (h2 : MSh A n c y2 (Gn.run (Gn.tk list k) q1)) (hL : LogNew B W y2 (Gn.run (Gn.tk list k) q1)) :
    MSh A n c y2 ((Gn.endS list k b q1).map fun p => (y2.mx, p.2)) ∧ (∀ x d, Gn.endS list k b q1 = some (x, d) → x = ⟨b, y1.mx, y2.mx⟩) ∧ LogNew B W y2 (Gn.endS list k b q1) := by
  cases q1 with
  | none => exact ⟨h2, fun x d e => (by cases e), fun x d e => (by cases e)⟩
  | some p =>
    obtain ⟨v, d⟩ := p
    have h2 : MSh A n c y2 (Gn.tk list k d) := h2
    have hL : LogNew B W y2 (Gn.tk list k d) := hL
    have e0 : Gn.endS list k b (some (v, d)) = Gn.bnd (Gn.tk list k) (fun l => Gn.ret (⟨b, v, l⟩ : St.Slot)) d := rfl
    rw [e0]
    cases e : Gn.tk list k d with
    | none =>
      rw [Gn.bnd_none e]
      rw [e] at h2
      exact ⟨h2, fun x d e => (by cases e), fun x d e => (by cases e)⟩
    | some q =>
      obtain ⟨l, d2⟩ := q
      rw [Gn.bnd_some e]
      rw [e] at h2 hL
      have e1 : y1.mx = v := by rw [h1.1]
      have e2 : y2.mx = l := by rw [h2.1]
      refine ⟨?_, fun x d e => ?_, fun x d e => ?_⟩
      · show MSh A n c y2 (some (y2.mx, d2))
        rw [e2]; exact h2
      · injection e with e
        injection e with e _
        rw [← e, e1, e2]
      · injection e with e
        injection e with _ e
        exact e ▸ hL l d2 rfl
set_option maxHeartbeats 8000000 in
theorem rSlotF15_any {A W : Option Addr} {list : List Int} (n c k : Nat) (x : MM) (r : Option (Int × Gn.D)) (p : Gn.Sp) (wc : Nat) (w : World) (hx : MSh A n c x r) (hA : Row w w.heap.size A (ints list)) (hn : list.length = n) (hn5 : n ≤ 500) (hL : LogAt w x r) (hv : 0 ≤ p.val ∧ p.val ≤ 20) (hk : 1 ≤ k ∧ k ≤ 1000) :
    Calls Try.prog 26 #[x.v, .int .i64 (k : Int), spv p W wc, .bool false] w (GotS w A n c (Gn.run (Gn.slotF list k p) r)) := by
  obtain ⟨code, mem, stack, val, ws⟩ := p
  have HNM := Lib.hid fun (x : MM) (r : Option (Int × Gn.D)) (V : World) (hx : MSh A n c x r) (hV : Below w.heap.size w V) (hL : LogAt V x r) => rNumber15_any (W0 := W) n c x r ⟨code, mem, stack, val, ws⟩ wc V hx ((hA.below hV).more hV.size) hn hn5 hL hv
  have HBL := Lib.hid fun (x : MM) (r : Option (Int × Gn.D)) (b : Int) (V : World) (h1 : 1 ≤ b ∧ b < 9223372036854775808) (hx : MSh A n c x r) (hV : Below w.heap.size w V) (hL : LogAt V x r) => rBelow15_any n c x r b V hx ((hA.below hV).more hV.size) hn hn5 hL h1.1 h1.2
  unfold spv at HNM ⊢
  unfold Chose at HNM HBL
  unfold MM.v MM.cs at HNM HBL ⊢
  dsimp only at HNM HBL hv ⊢
  obtain ⟨xA, xn, xc, xi, xL, xm, xd, xx, xe⟩ := x
  dsimp only
  have hb := ((((Below.refl _ w).alloc (Nat.le_refl _) (.cells #[.slice xA xn xc, .int .i64 xi, .slice xL xm xd, .int .i64 xx, .int .i64 xe] 72)).alloc (by simp) (.cells #[.int .i64 code, .int .i64 mem, .int .i64 stack, .int .i64 val, .slice W ws.length wc] 28)).alloc (by simp; omega) (.cells #[.slice none 0 0, .int .i64 0, .slice none 0 0, .int .i64 0, .int .i64 0, .bool false, .int .i64 0, .int .i64 0] 78)).alloc (by simp; omega) (.cells #[.bool false, .int .i64 0, .int .i64 0] 70)
  obtain ⟨W0, hW0⟩ : ∃ W0, ((((w.alloc (.cells #[.slice xA xn xc, .int .i64 xi, .slice xL xm xd, .int .i64 xx, .int .i64 xe] 72)).alloc (.cells #[.int .i64 code, .int .i64 mem, .int .i64 stack, .int .i64 val, .slice W ws.length wc] 28)).alloc (.cells #[.slice none 0 0, .int .i64 0, .slice none 0 0, .int .i64 0, .int .i64 0, .bool false, .int .i64 0, .int .i64 0] 78)).alloc (.cells #[.bool false, .int .i64 0, .int .i64 0] 70)) = W0 := ⟨_, rfl⟩
  have hp0 : Blk W0 (w.heap.size) 72 #[.slice xA xn xc, .int .i64 xi, .slice xL xm xd, .int .i64 xx, .int .i64 xe] := hW0 ▸ ((((Blk.new w 72 #[.slice xA xn xc, .int .i64 xi, .slice xL xm xd, .int .i64 xx, .int .i64 xe]).alloc (.cells #[.int .i64 code, .int .i64 mem, .int .i64 stack, .int .i64 val, .slice W ws.length wc] 28)).alloc (.cells #[.slice none 0 0, .int .i64 0, .slice none 0 0, .int .i64 0, .int .i64 0, .bool false, .int .i64 0, .int .i64 0] 78)).alloc (.cells #[.bool false, .int .i64 0, .int .i64 0] 70))
  have H_m := Lib.hid hp0
  have hp1 : Blk W0 (w.heap.size + 1) 28 #[.int .i64 code, .int .i64 mem, .int .i64 stack, .int .i64 val, .slice W ws.length wc] := by
    have h1 := (((Blk.new (w.alloc (.cells #[.slice xA xn xc, .int .i64 xi, .slice xL xm xd, .int .i64 xx, .int .i64 xe] 72)) 28 #[.int .i64 code, .int .i64 mem, .int .i64 stack, .int .i64 val, .slice W ws.length wc]).alloc (.cells #[.slice none 0 0, .int .i64 0, .slice none 0 0, .int .i64 0, .int .i64 0, .bool false, .int .i64 0, .int .i64 0] 78)).alloc (.cells #[.bool false, .int .i64 0, .int .i64 0] 70))
    rw [World.size_alloc] at h1
    rw [← hW0]; exact h1
  have H_sp := Lib.hid hp1
  have hp2 : Blk W0 (w.heap.size + 1 + 1) 78 #[.slice none 0 0, .int .i64 0, .slice none 0 0, .int .i64 0, .int .i64 0, .bool false, .int .i64 0, .int .i64 0] := by
    have h1 := ((Blk.new ((w.alloc (.cells #[.slice xA xn xc, .int .i64 xi, .slice xL xm xd, .int .i64 xx, .int .i64 xe] 72)).alloc (.cells #[.int .i64 code, .int .i64 mem, .int .i64 stack, .int .i64 val, .slice W ws.length wc] 28)) 78 #[.slice none 0 0, .int .i64 0, .slice none 0 0, .int .i64 0, .int .i64 0, .bool false, .int .i64 0, .int .i64 0]).alloc (.cells #[.bool false, .int .i64 0, .int .i64 0] 70))
    rw [World.size_alloc, World.size_alloc] at h1
    rw [← hW0]; exact h1
  have H_res := Lib.hid hp2
  have hp3 : Blk W0 (w.heap.size + 1 + 1 + 1) 70 #[.bool false, .int .i64 0, .int .i64 0] := by
    have h1 := (Blk.new (((w.alloc (.cells #[.slice xA xn xc, .int .i64 xi, .slice xL xm xd, .int .i64 xx, .int .i64 xe] 72)).alloc (.cells #[.int .i64 code, .int .i64 mem, .int .i64 stack, .int .i64 val, .slice W ws.length wc] 28)).alloc (.cells #[.slice none 0 0, .int .i64 0, .slice none 0 0, .int .i64 0, .int .i64 0, .bool false, .int .i64 0, .int .i64 0] 78)) 70 #[.bool false, .int .i64 0, .int .i64 0])
    rw [World.size_alloc, World.size_alloc, World.size_alloc] at h1
    rw [← hW0]; exact h1
  have H_x := Lib.hid hp3
  rw [hW0] at hb
  have HB := Lib.hid hb
  clear hb hp0 hp1 hp2 hp3
  have HL0 := Lib.hid hL
  have HX := Lib.hid hx
  have HKK := Lib.hid hk
  have HLS : Hid (True) := Lib.hid trivial
  have gP1_ := H_x.out.lt
  obtain ⟨P1_1, P1_2, P1_3, eP1_0, eP1_1, eP1_2, fP1_0, fP1_1, fP1_2, gP1_0, gP1_1, gP1_2, rP1_0, rP1_1, rP1_2, kP1_, hP1_, yP1_⟩ := n3_steps H_x.out (.bool false) (.int .i64 0) (.int .i64 0)
  have N_m : Blk P1_3 (w.heap.size) 72 #[.slice xA xn xc, .int .i64 xi, .slice xL xm xd, .int .i64 xx, .int .i64 xe] := (hP1_.out _ (by omega)).trans H_m.out
  have N_sp : Blk P1_3 (w.heap.size + 1) 28 #[.int .i64 code, .int .i64 mem, .int .i64 stack, .int .i64 val, .slice W ws.length wc] := (hP1_.out _ (by omega)).trans H_sp.out
  have N_res : Blk P1_3 (w.heap.size + 1 + 1) 78 #[.slice none 0 0, .int .i64 0, .slice none 0 0, .int .i64 0, .int .i64 0, .bool false, .int .i64 0, .int .i64 0] := (hP1_.out _ (by omega)).trans H_res.out
  have N_x : Blk P1_3 (w.heap.size + 1 + 1 + 1) 70 #[.bool false, .int .i64 0, .int .i64 0] := kP1_.out
  have NB := yP1_.out _ _ (by omega) HB.out
  clear H_m H_sp H_res H_x HB
  have H_m := Lib.hid N_m
  have H_sp := Lib.hid N_sp
  have H_res := Lib.hid N_res
  have H_x := Lib.hid N_x
  have HB := Lib.hid NB
  clear N_m N_sp N_res N_x NB
  clear kP1_ hP1_ yP1_
  have h0 := HNM.out ⟨xA, xn, xc, xi, xL, xm, xd, xx, xe⟩ r P1_3 HX.out HB.out fun z d e => ((HL0.out z d e).below HB.out).more HB.out.size
  have HC := Lib.hid h0
  clear h0 hA hn hL hv hx hk HX HL0 HLS
  have q2_ := H_m.out
  have q2_0 := q2_.cell 0
  have q2_1 := q2_.cell 1
  have q2_2 := q2_.cell 2
  have q2_3 := q2_.cell 3
  have q2_4 := q2_.cell 4
  have q3_ := H_sp.out
  have q3_0 := q3_.cell 0
  have q3_1 := q3_.cell 1
  have q3_2 := q3_.cell 2
  have q3_3 := q3_.cell 3
  have q3_4 := q3_.cell 4
  go_enter Try.func26, Try.ntmps26
  have HLS : Hid (w.heap.size + 1 + 1 + 1 < P1_3.heap.size) := Lib.hid H_x.out.lt
  go_wp2_with (fail)
  refine (HC.out).mono ?_
  rintro e v1 ⟨⟨yA, yn, yc, yi, yL, ym, yd, yx, ye⟩, rfl, hm1, hl1, hb1⟩
  clear eP1_0 eP1_1 eP1_2
  have N_m : Blk v1 (w.heap.size) 72 #[.slice xA xn xc, .int .i64 xi, .slice xL xm xd, .int .i64 xx, .int .i64 xe] := H_m.out.below hb1 H_m.out.lt
  have N_sp : Blk v1 (w.heap.size + 1) 28 #[.int .i64 code, .int .i64 mem, .int .i64 stack, .int .i64 val, .slice W ws.length wc] := H_sp.out.below hb1 H_sp.out.lt
  have N_res : Blk v1 (w.heap.size + 1 + 1) 78 #[.slice none 0 0, .int .i64 0, .slice none 0 0, .int .i64 0, .int .i64 0, .bool false, .int .i64 0, .int .i64 0] := H_res.out.below hb1 H_res.out.lt
  have N_x : Blk v1 (w.heap.size + 1 + 1 + 1) 70 #[.bool false, .int .i64 0, .int .i64 0] := H_x.out.below hb1 H_x.out.lt
  have NB := HB.out.trans (hb1.mono HB.out.size)
  clear fP1_0 fP1_1 fP1_2 gP1_0 gP1_1 gP1_2 rP1_0 rP1_1 rP1_2 q2_ q2_0 q2_1 q2_2 q2_3 q2_4 q3_ q3_0 q3_1 q3_2 q3_3 q3_4
  clear H_m H_sp H_res H_x HB
  have H_m := Lib.hid N_m
  have H_sp := Lib.hid N_sp
  have H_res := Lib.hid N_res
  have H_x := Lib.hid N_x
  have HB := Lib.hid NB
  clear N_m N_sp N_res N_x NB
  dsimp only
  have HL := Lib.hid hl1
  clear hl1
  have HM1 := Lib.hid hm1
  clear hm1 hb1 HC
  have gR4_ := H_m.out.lt
  obtain ⟨R4_, eR4_, kR4_, hR4_, yR4_⟩ := row15 H_m.out #[.slice yA yn yc, .int .i64 yi, .slice yL ym yd, .int .i64 yx, .int .i64 ye]
  have bR4_ := H_m
  have N_m : Blk R4_ (w.heap.size) 72 #[.slice yA yn yc, .int .i64 yi, .slice yL ym yd, .int .i64 yx, .int .i64 ye] := kR4_.out
  have N_sp : Blk R4_ (w.heap.size + 1) 28 #[.int .i64 code, .int .i64 mem, .int .i64 stack, .int .i64 val, .slice W ws.length wc] := (hR4_.out _ (by omega)).trans H_sp.out
  have N_res : Blk R4_ (w.heap.size + 1 + 1) 78 #[.slice none 0 0, .int .i64 0, .slice none 0 0, .int .i64 0, .int .i64 0, .bool false, .int .i64 0, .int .i64 0] := (hR4_.out _ (by omega)).trans H_res.out
  have N_x : Blk R4_ (w.heap.size + 1 + 1 + 1) 70 #[.bool false, .int .i64 0, .int .i64 0] := (hR4_.out _ (by omega)).trans H_x.out
  have NB := yR4_.out _ _ (by omega) HB.out
  have NL := HL.out.keep fun k hk1 hk2 => hR4_.out k (by have := HLS.out; omega)
  clear H_m H_sp H_res H_x HB HL
  have H_m := Lib.hid N_m
  have H_sp := Lib.hid N_sp
  have H_res := Lib.hid N_res
  have H_x := Lib.hid N_x
  have HB := Lib.hid NB
  have HL := Lib.hid NL
  clear N_m N_sp N_res N_x NB NL
  clear kR4_ hR4_ yR4_
  have q5_ := H_m.out
  have q5_0 := q5_.cell 0
  have q5_1 := q5_.cell 1
  have q5_2 := q5_.cell 2
  have q5_3 := q5_.cell 3
  have q5_4 := q5_.cell 4
  have q6_ := H_x.out
  have q6_0 := q6_.cell 0
  have q6_1 := q6_.cell 1
  have q6_2 := q6_.cell 2
  obtain ⟨S7, hS7⟩ : ∃ U, R4_.setCell ⟨w.heap.size + 1 + 1 + 1, 1, none⟩ (.int .i64 yx) = U := ⟨_, rfl⟩
  have cS7 := H_x.out.cell 1
  have fS7 := H_x.out.frozen 1
  have gS7 := H_x.out.lt
  have N_m : Blk S7 (w.heap.size) 72 #[.slice yA yn yc, .int .i64 yi, .slice yL ym yd, .int .i64 yx, .int .i64 ye] := hS7 ▸ H_m.out.other (p := ⟨w.heap.size + 1 + 1 + 1, 1, none⟩) (by show w.heap.size + 1 + 1 + 1 ≠ _; omega) _
  have N_sp : Blk S7 (w.heap.size + 1) 28 #[.int .i64 code, .int .i64 mem, .int .i64 stack, .int .i64 val, .slice W ws.length wc] := hS7 ▸ H_sp.out.other (p := ⟨w.heap.size + 1 + 1 + 1, 1, none⟩) (by show w.heap.size + 1 + 1 + 1 ≠ _; omega) _
  have N_res : Blk S7 (w.heap.size + 1 + 1) 78 #[.slice none 0 0, .int .i64 0, .slice none 0 0, .int .i64 0, .int .i64 0, .bool false, .int .i64 0, .int .i64 0] := hS7 ▸ H_res.out.other (p := ⟨w.heap.size + 1 + 1 + 1, 1, none⟩) (by show w.heap.size + 1 + 1 + 1 ≠ _; omega) _
  have N_x : Blk S7 (w.heap.size + 1 + 1 + 1) 70 #[.bool false, .int .i64 yx, .int .i64 0] := hS7 ▸ H_x.out.set_ 1 (.int .i64 yx)
  have NB := hS7 ▸ HB.out.setCell (p := ⟨w.heap.size + 1 + 1 + 1, 1, none⟩) (by show w.heap.size ≤ w.heap.size + 1 + 1 + 1; omega) _
  have NL := HL.out.keep fun k hk1 hk2 => (show S7.heap[k]? = _ from hS7 ▸ Below.heap_setCell _ ⟨w.heap.size + 1 + 1 + 1, 1, none⟩ _ k (by have := HLS.out; show k ≠ w.heap.size + 1 + 1 + 1; omega))
  clear H_m H_sp H_res H_x HB HL
  have H_m := Lib.hid N_m
  have H_sp := Lib.hid N_sp
  have H_res := Lib.hid N_res
  have H_x := Lib.hid N_x
  have HB := Lib.hid NB
  have HL := Lib.hid NL
  clear N_m N_sp N_res N_x NB NL
  have h0 := HBL.out ⟨yA, yn, yc, yi, yL, ym, yd, yx, ye⟩ _ (k : Int) S7 ⟨by have := HKK.out; omega, by have := HKK.out; omega⟩ HM1.out HB.out HL.out.at_
  have HC := Lib.hid h0
  clear h0
  have q9_ := H_m.out
  have q9_0 := q9_.cell 0
  have q9_1 := q9_.cell 1
  have q9_2 := q9_.cell 2
  have q9_3 := q9_.cell 3
  have q9_4 := q9_.cell 4
  have HLS2 : Hid (w.heap.size + 1 + 1 + 1 < S7.heap.size) := Lib.hid H_x.out.lt
  go_wp2_with (first | (refine wpList_store_rowTo rfl 72 (.tmp 4) (.tmp 29) rfl rfl (w.heap.size) #[.slice yA yn yc, .int .i64 yi, .slice yL ym yd, .int .i64 yx, .int .i64 ye] rfl rfl 72 _ bR4_.out Try.sizeM15 rfl (by kernel_rfl) ?_))
  refine (HC.out).mono ?_
  rintro e v2 ⟨⟨zA, zn, zc, zi, zL, zm, zd, zx, ze⟩, rfl, hm2, hl2, hb2⟩
  clear eR4_ bR4_ hS7
  have N_m : Blk v2 (w.heap.size) 72 #[.slice yA yn yc, .int .i64 yi, .slice yL ym yd, .int .i64 yx, .int .i64 ye] := H_m.out.below hb2 H_m.out.lt
  have N_sp : Blk v2 (w.heap.size + 1) 28 #[.int .i64 code, .int .i64 mem, .int .i64 stack, .int .i64 val, .slice W ws.length wc] := H_sp.out.below hb2 H_sp.out.lt
  have N_res : Blk v2 (w.heap.size + 1 + 1) 78 #[.slice none 0 0, .int .i64 0, .slice none 0 0, .int .i64 0, .int .i64 0, .bool false, .int .i64 0, .int .i64 0] := H_res.out.below hb2 H_res.out.lt
  have N_x : Blk v2 (w.heap.size + 1 + 1 + 1) 70 #[.bool false, .int .i64 yx, .int .i64 0] := H_x.out.below hb2 H_x.out.lt
  have NB := HB.out.trans (hb2.mono HB.out.size)
  have NL := HL.out.keep fun k hk1 hk2 => hb2.block k hk2
  clear q5_ q5_0 q5_1 q5_2 q5_3 q5_4 q6_ q6_0 q6_1 q6_2 cS7 fS7 q9_ q9_0 q9_1 q9_2 q9_3 q9_4
  clear H_m H_sp H_res H_x HB HL
  have H_m := Lib.hid N_m
  have H_sp := Lib.hid N_sp
  have H_res := Lib.hid N_res
  have H_x := Lib.hid N_x
  have HB := Lib.hid NB
  have HL := Lib.hid NL
  clear N_m N_sp N_res N_x NB NL
  dsimp only
  clear HLS
  have HLS := HLS2
  clear HL
  have HL := Lib.hid hl2
  clear hl2
  have HM2 := Lib.hid hm2
  clear hm2 hb2 HC HLS2
  have gR10_ := H_m.out.lt
  obtain ⟨R10_, eR10_, kR10_, hR10_, yR10_⟩ := row15 H_m.out #[.slice zA zn zc, .int .i64 zi, .slice zL zm zd, .int .i64 zx, .int .i64 ze]
  have bR10_ := H_m
  have N_m : Blk R10_ (w.heap.size) 72 #[.slice zA zn zc, .int .i64 zi, .slice zL zm zd, .int .i64 zx, .int .i64 ze] := kR10_.out
  have N_sp : Blk R10_ (w.heap.size + 1) 28 #[.int .i64 code, .int .i64 mem, .int .i64 stack, .int .i64 val, .slice W ws.length wc] := (hR10_.out _ (by omega)).trans H_sp.out
  have N_res : Blk R10_ (w.heap.size + 1 + 1) 78 #[.slice none 0 0, .int .i64 0, .slice none 0 0, .int .i64 0, .int .i64 0, .bool false, .int .i64 0, .int .i64 0] := (hR10_.out _ (by omega)).trans H_res.out
  have N_x : Blk R10_ (w.heap.size + 1 + 1 + 1) 70 #[.bool false, .int .i64 yx, .int .i64 0] := (hR10_.out _ (by omega)).trans H_x.out
  have NB := yR10_.out _ _ (by omega) HB.out
  have NL := HL.out.keep fun k hk1 hk2 => hR10_.out k (by have := HLS.out; omega)
  clear H_m H_sp H_res H_x HB HL
  have H_m := Lib.hid N_m
  have H_sp := Lib.hid N_sp
  have H_res := Lib.hid N_res
  have H_x := Lib.hid N_x
  have HB := Lib.hid NB
  have HL := Lib.hid NL
  clear N_m N_sp N_res N_x NB NL
  clear kR10_ hR10_ yR10_
  have q11_ := H_m.out
  have q11_0 := q11_.cell 0
  have q11_1 := q11_.cell 1
  have q11_2 := q11_.cell 2
  have q11_3 := q11_.cell 3
  have q11_4 := q11_.cell 4
  have q12_ := H_x.out
  have q12_0 := q12_.cell 0
  have q12_1 := q12_.cell 1
  have q12_2 := q12_.cell 2
  obtain ⟨S13, hS13⟩ : ∃ U, R10_.setCell ⟨w.heap.size + 1 + 1 + 1, 2, none⟩ (.int .i64 zx) = U := ⟨_, rfl⟩
  have cS13 := H_x.out.cell 2
  have fS13 := H_x.out.frozen 2
  have gS13 := H_x.out.lt
  have N_m : Blk S13 (w.heap.size) 72 #[.slice zA zn zc, .int .i64 zi, .slice zL zm zd, .int .i64 zx, .int .i64 ze] := hS13 ▸ H_m.out.other (p := ⟨w.heap.size + 1 + 1 + 1, 2, none⟩) (by show w.heap.size + 1 + 1 + 1 ≠ _; omega) _
  have N_sp : Blk S13 (w.heap.size + 1) 28 #[.int .i64 code, .int .i64 mem, .int .i64 stack, .int .i64 val, .slice W ws.length wc] := hS13 ▸ H_sp.out.other (p := ⟨w.heap.size + 1 + 1 + 1, 2, none⟩) (by show w.heap.size + 1 + 1 + 1 ≠ _; omega) _
  have N_res : Blk S13 (w.heap.size + 1 + 1) 78 #[.slice none 0 0, .int .i64 0, .slice none 0 0, .int .i64 0, .int .i64 0, .bool false, .int .i64 0, .int .i64 0] := hS13 ▸ H_res.out.other (p := ⟨w.heap.size + 1 + 1 + 1, 2, none⟩) (by show w.heap.size + 1 + 1 + 1 ≠ _; omega) _
  have N_x : Blk S13 (w.heap.size + 1 + 1 + 1) 70 #[.bool false, .int .i64 yx, .int .i64 zx] := hS13 ▸ H_x.out.set_ 2 (.int .i64 zx)
  have NB := hS13 ▸ HB.out.setCell (p := ⟨w.heap.size + 1 + 1 + 1, 2, none⟩) (by show w.heap.size ≤ w.heap.size + 1 + 1 + 1; omega) _
  have NL := HL.out.keep fun k hk1 hk2 => (show S13.heap[k]? = _ from hS13 ▸ Below.heap_setCell _ ⟨w.heap.size + 1 + 1 + 1, 2, none⟩ _ k (by have := HLS.out; show k ≠ w.heap.size + 1 + 1 + 1; omega))
  clear H_m H_sp H_res H_x HB HL
  have H_m := Lib.hid N_m
  have H_sp := Lib.hid N_sp
  have H_res := Lib.hid N_res
  have H_x := Lib.hid N_x
  have HB := Lib.hid NB
  have HL := Lib.hid NL
  clear N_m N_sp N_res N_x NB NL
  have q15_ := H_m.out
  have q15_0 := q15_.cell 0
  have q15_1 := q15_.cell 1
  have q15_2 := q15_.cell 2
  have q15_3 := q15_.cell 3
  have q15_4 := q15_.cell 4
  have q16_ := H_x.out
  have q16_0 := q16_.cell 0
  have q16_1 := q16_.cell 1
  have q16_2 := q16_.cell 2
  have q17_ := H_res.out
  have q17_0 := q17_.cell 0
  have q17_1 := q17_.cell 1
  have q17_2 := q17_.cell 2
  have q17_3 := q17_.cell 3
  have q17_4 := q17_.cell 4
  have q17_5 := q17_.cell 5
  have q17_6 := q17_.cell 6
  have q17_7 := q17_.cell 7
  have gR18_ := H_res.out.lt
  obtain ⟨R18_, eR18_, kR18_, hR18_, yR18_⟩ := row15 H_res.out #[.slice zA zn zc, .int .i64 zi, .slice zL zm zd, .int .i64 zx, .int .i64 ze, .bool false, .int .i64 yx, .int .i64 zx]
  have bR18_ := H_res
  have N_m : Blk R18_ (w.heap.size) 72 #[.slice zA zn zc, .int .i64 zi, .slice zL zm zd, .int .i64 zx, .int .i64 ze] := (hR18_.out _ (by omega)).trans H_m.out
  have N_sp : Blk R18_ (w.heap.size + 1) 28 #[.int .i64 code, .int .i64 mem, .int .i64 stack, .int .i64 val, .slice W ws.length wc] := (hR18_.out _ (by omega)).trans H_sp.out
  have N_res : Blk R18_ (w.heap.size + 1 + 1) 78 #[.slice zA zn zc, .int .i64 zi, .slice zL zm zd, .int .i64 zx, .int .i64 ze, .bool false, .int .i64 yx, .int .i64 zx] := kR18_.out
  have N_x : Blk R18_ (w.heap.size + 1 + 1 + 1) 70 #[.bool false, .int .i64 yx, .int .i64 zx] := (hR18_.out _ (by omega)).trans H_x.out
  have NB := yR18_.out _ _ (by omega) HB.out
  have NL := HL.out.keep fun k hk1 hk2 => hR18_.out k (by have := HLS.out; omega)
  clear H_m H_sp H_res H_x HB HL
  have H_m := Lib.hid N_m
  have H_sp := Lib.hid N_sp
  have H_res := Lib.hid N_res
  have H_x := Lib.hid N_x
  have HB := Lib.hid NB
  have HL := Lib.hid NL
  clear N_m N_sp N_res N_x NB NL
  clear kR18_ hR18_ yR18_
  have q19_ := H_res.out
  have q19_0 := q19_.cell 0
  have q19_1 := q19_.cell 1
  have q19_2 := q19_.cell 2
  have q19_3 := q19_.cell 3
  have q19_4 := q19_.cell 4
  have q19_5 := q19_.cell 5
  have q19_6 := q19_.cell 6
  have q19_7 := q19_.cell 7
  have hE := slot_end false HM1.out HM2.out HL.out
  have hR : Gn.run (Gn.slotF list k ⟨code, mem, stack, val, ws⟩) r = Gn.endS list k false (Gn.run (Gn.num list val) r) := by
    cases r with
    | none => rfl
    | some p => 
      obtain ⟨z, d⟩ := p
      show Gn.bnd (Gn.num list val) _ d = Gn.endS list k false (Gn.num list val d)
      cases e : Gn.num list val d with
      | none => rw [Gn.bnd_none e]; rfl
      | some q => rw [Gn.bnd_some e]; rfl
  rw [← hR] at hE
  have HE := Lib.hid hE
  clear hE hR
  go_wp2_with (first | (refine wpList_store_rowTo rfl 72 (.tmp 4) (.tmp 35) rfl rfl (w.heap.size) #[.slice zA zn zc, .int .i64 zi, .slice zL zm zd, .int .i64 zx, .int .i64 ze] rfl rfl 72 _ bR10_.out Try.sizeM15 rfl (by kernel_rfl) ?_) | (refine wpList_store_rowTo rfl 78 (.tmp 8) (.tmp 41) rfl rfl (w.heap.size + 1 + 1) #[.slice zA zn zc, .int .i64 zi, .slice zL zm zd, .int .i64 zx, .int .i64 ze, .bool false, .int .i64 yx, .int .i64 zx] rfl rfl 78 _ bR18_.out Try.sizeL15 rfl (by kernel_rfl) ?_))
  exact bodyPost_ret (v := .agg #[.slice zA zn zc, .int .i64 zi, .slice zL zm zd, .int .i64 zx, .int .i64 ze, .bool false, .int .i64 yx, .int .i64 zx]) (by simp [results, Try.results26, go_sem, q19_0, q19_1, q19_2, q19_3, q19_4, q19_5, q19_6, q19_7]) rfl ⟨⟨zA, zn, zc, zi, zL, zm, zd, zx, ze⟩, zx, false, yx, zx, rfl, HE.out.1, HE.out.2.1, HE.out.2.2.less (by have := HLS.out; omega), HB.out⟩
theorem Gn.slot_run (list : List Int) (k : Nat) (p : Gn.Sp) (r : Option (Int × Gn.D)) : Gn.run (Gn.slot list k p) r = match Gn.run (Gn.tk list 2) r with | none => none | some (z, d) => Gn.endS list k (decide (z = 1)) (Gn.slotV list p z d) := by
  cases r with
  | none => rfl
  | some q =>
    obtain ⟨z0, d0⟩ := q
    show Gn.slot list k p d0 = match Gn.tk list 2 d0 with | none => none | some (z, d) => Gn.endS list k (decide (z = 1)) (Gn.slotV list p z d)
    unfold Gn.slot
    cases e : Gn.tk list 2 d0 with
    | none => rw [Gn.bnd_none e]
    | some q =>
      obtain ⟨z, d⟩ := q
      rw [Gn.bnd_some e]
      show Gn.bnd (Gn.slotV list p z) _ d = Gn.endS list k (decide (z = 1)) (Gn.slotV list p z d)
      cases e2 : Gn.slotV list p z d with
      | none => rw [Gn.bnd_none e2]; rfl
      | some q2 => rw [Gn.bnd_some e2]; rfl
set_option maxHeartbeats 16000000 in
theorem rSlot15_any {A W : Option Addr} {list : List Int} (n c k : Nat) (x : MM) (r : Option (Int × Gn.D)) (p : Gn.Sp) (wc : Nat) (w : World) (hx : MSh A n c x r) (hA : Row w w.heap.size A (ints list)) (hn : list.length = n) (hn5 : n ≤ 500) (hL : LogAt w x r) (hv : 0 ≤ p.val ∧ p.val ≤ 20) (hk : 1 ≤ k ∧ k ≤ 1000) :
    Calls Try.prog 26 #[x.v, .int .i64 (k : Int), spv p W wc, .bool true] w (GotS w A n c (Gn.run (Gn.slot list k p) r)) := by
  rw [Gn.slot_run]
  obtain ⟨code, mem, stack, val, ws⟩ := p
  have HNM := Lib.hid fun (x : MM) (r : Option (Int × Gn.D)) (V : World) (hx : MSh A n c x r) (hV : Below w.heap.size w V) (hL : LogAt V x r) => rNumber15_any (W0 := W) n c x r ⟨code, mem, stack, val, ws⟩ wc V hx ((hA.below hV).more hV.size) hn hn5 hL hv
  have HBL := Lib.hid fun (x : MM) (r : Option (Int × Gn.D)) (b : Int) (V : World) (h1 : 1 ≤ b ∧ b < 9223372036854775808) (hx : MSh A n c x r) (hV : Below w.heap.size w V) (hL : LogAt V x r) => rBelow15_any n c x r b V hx ((hA.below hV).more hV.size) hn hn5 hL h1.1 h1.2
  unfold spv at HNM ⊢
  unfold Chose at HNM HBL
  unfold MM.v MM.cs at HNM HBL ⊢
  dsimp only at HNM HBL hv ⊢
  obtain ⟨xA, xn, xc, xi, xL, xm, xd, xx, xe⟩ := x
  dsimp only
  have hb := ((((Below.refl _ w).alloc (Nat.le_refl _) (.cells #[.slice xA xn xc, .int .i64 xi, .slice xL xm xd, .int .i64 xx, .int .i64 xe] 72)).alloc (by simp) (.cells #[.int .i64 code, .int .i64 mem, .int .i64 stack, .int .i64 val, .slice W ws.length wc] 28)).alloc (by simp; omega) (.cells #[.slice none 0 0, .int .i64 0, .slice none 0 0, .int .i64 0, .int .i64 0, .bool false, .int .i64 0, .int .i64 0] 78)).alloc (by simp; omega) (.cells #[.bool false, .int .i64 0, .int .i64 0] 70)
  obtain ⟨W0, hW0⟩ : ∃ W0, ((((w.alloc (.cells #[.slice xA xn xc, .int .i64 xi, .slice xL xm xd, .int .i64 xx, .int .i64 xe] 72)).alloc (.cells #[.int .i64 code, .int .i64 mem, .int .i64 stack, .int .i64 val, .slice W ws.length wc] 28)).alloc (.cells #[.slice none 0 0, .int .i64 0, .slice none 0 0, .int .i64 0, .int .i64 0, .bool false, .int .i64 0, .int .i64 0] 78)).alloc (.cells #[.bool false, .int .i64 0, .int .i64 0] 70)) = W0 := ⟨_, rfl⟩
  have hp0 : Blk W0 (w.heap.size) 72 #[.slice xA xn xc, .int .i64 xi, .slice xL xm xd, .int .i64 xx, .int .i64 xe] := hW0 ▸ ((((Blk.new w 72 #[.slice xA xn xc, .int .i64 xi, .slice xL xm xd, .int .i64 xx, .int .i64 xe]).alloc (.cells #[.int .i64 code, .int .i64 mem, .int .i64 stack, .int .i64 val, .slice W ws.length wc] 28)).alloc (.cells #[.slice none 0 0, .int .i64 0, .slice none 0 0, .int .i64 0, .int .i64 0, .bool false, .int .i64 0, .int .i64 0] 78)).alloc (.cells #[.bool false, .int .i64 0, .int .i64 0] 70))
  have H_m := Lib.hid hp0
  have hp1 : Blk W0 (w.heap.size + 1) 28 #[.int .i64 code, .int .i64 mem, .int .i64 stack, .int .i64 val, .slice W ws.length wc] := by
    have h1 := (((Blk.new (w.alloc (.cells #[.slice xA xn xc, .int .i64 xi, .slice xL xm xd, .int .i64 xx, .int .i64 xe] 72)) 28 #[.int .i64 code, .int .i64 mem, .int .i64 stack, .int .i64 val, .slice W ws.length wc]).alloc (.cells #[.slice none 0 0, .int .i64 0, .slice none 0 0, .int .i64 0, .int .i64 0, .bool false, .int .i64 0, .int .i64 0] 78)).alloc (.cells #[.bool false, .int .i64 0, .int .i64 0] 70))
    rw [World.size_alloc] at h1
    rw [← hW0]; exact h1
  have H_sp := Lib.hid hp1
  have hp2 : Blk W0 (w.heap.size + 1 + 1) 78 #[.slice none 0 0, .int .i64 0, .slice none 0 0, .int .i64 0, .int .i64 0, .bool false, .int .i64 0, .int .i64 0] := by
    have h1 := ((Blk.new ((w.alloc (.cells #[.slice xA xn xc, .int .i64 xi, .slice xL xm xd, .int .i64 xx, .int .i64 xe] 72)).alloc (.cells #[.int .i64 code, .int .i64 mem, .int .i64 stack, .int .i64 val, .slice W ws.length wc] 28)) 78 #[.slice none 0 0, .int .i64 0, .slice none 0 0, .int .i64 0, .int .i64 0, .bool false, .int .i64 0, .int .i64 0]).alloc (.cells #[.bool false, .int .i64 0, .int .i64 0] 70))
    rw [World.size_alloc, World.size_alloc] at h1
    rw [← hW0]; exact h1
  have H_res := Lib.hid hp2
  have hp3 : Blk W0 (w.heap.size + 1 + 1 + 1) 70 #[.bool false, .int .i64 0, .int .i64 0] := by
    have h1 := (Blk.new (((w.alloc (.cells #[.slice xA xn xc, .int .i64 xi, .slice xL xm xd, .int .i64 xx, .int .i64 xe] 72)).alloc (.cells #[.int .i64 code, .int .i64 mem, .int .i64 stack, .int .i64 val, .slice W ws.length wc] 28)).alloc (.cells #[.slice none 0 0, .int .i64 0, .slice none 0 0, .int .i64 0, .int .i64 0, .bool false, .int .i64 0, .int .i64 0] 78)) 70 #[.bool false, .int .i64 0, .int .i64 0])
    rw [World.size_alloc, World.size_alloc, World.size_alloc] at h1
    rw [← hW0]; exact h1
  have H_x := Lib.hid hp3
  rw [hW0] at hb
  have HB := Lib.hid hb
  clear hb hp0 hp1 hp2 hp3
  have HL0 := Lib.hid hL
  have HX := Lib.hid hx
  have HKK := Lib.hid hk
  have HLS : Hid (True) := Lib.hid trivial
  have gP1_ := H_x.out.lt
  obtain ⟨P1_1, P1_2, P1_3, eP1_0, eP1_1, eP1_2, fP1_0, fP1_1, fP1_2, gP1_0, gP1_1, gP1_2, rP1_0, rP1_1, rP1_2, kP1_, hP1_, yP1_⟩ := n3_steps H_x.out (.bool false) (.int .i64 0) (.int .i64 0)
  have N_m : Blk P1_3 (w.heap.size) 72 #[.slice xA xn xc, .int .i64 xi, .slice xL xm xd, .int .i64 xx, .int .i64 xe] := (hP1_.out _ (by omega)).trans H_m.out
  have N_sp : Blk P1_3 (w.heap.size + 1) 28 #[.int .i64 code, .int .i64 mem, .int .i64 stack, .int .i64 val, .slice W ws.length wc] := (hP1_.out _ (by omega)).trans H_sp.out
  have N_res : Blk P1_3 (w.heap.size + 1 + 1) 78 #[.slice none 0 0, .int .i64 0, .slice none 0 0, .int .i64 0, .int .i64 0, .bool false, .int .i64 0, .int .i64 0] := (hP1_.out _ (by omega)).trans H_res.out
  have N_x : Blk P1_3 (w.heap.size + 1 + 1 + 1) 70 #[.bool false, .int .i64 0, .int .i64 0] := kP1_.out
  have NB := yP1_.out _ _ (by omega) HB.out
  clear H_m H_sp H_res H_x HB
  have H_m := Lib.hid N_m
  have H_sp := Lib.hid N_sp
  have H_res := Lib.hid N_res
  have H_x := Lib.hid N_x
  have HB := Lib.hid NB
  clear N_m N_sp N_res N_x NB
  clear kP1_ hP1_ yP1_
  have h0 := HBL.out ⟨xA, xn, xc, xi, xL, xm, xd, xx, xe⟩ r 2 P1_3 (by decide) HX.out HB.out fun z d e => ((HL0.out z d e).below HB.out).more HB.out.size
  have HC := Lib.hid h0
  clear h0 hA hn hL hv hx hk HX HL0 HLS
  obtain ⟨q, hq⟩ : ∃ q, Gn.run (Gn.tk list 2) r = q := ⟨_, rfl⟩
  rw [hq] at HC ⊢
  obtain ⟨ans, hans⟩ : ∃ a, (match q with | none => none | some (z, d) => Gn.endS list k (decide (z = 1)) (Gn.slotV list ⟨code, mem, stack, val, ws⟩ z d)) = a := ⟨_, rfl⟩
  rw [hans]
  have HANS := Lib.hid hans
  clear hans hq
  have q2_ := H_m.out
  have q2_0 := q2_.cell 0
  have q2_1 := q2_.cell 1
  have q2_2 := q2_.cell 2
  have q2_3 := q2_.cell 3
  have q2_4 := q2_.cell 4
  go_enter Try.func26, Try.ntmps26
  have HLS : Hid (w.heap.size + 1 + 1 + 1 < P1_3.heap.size) := Lib.hid H_x.out.lt
  go_wp2_with (fail)
  refine (HC.out).mono ?_
  rintro e v0 ⟨⟨aA, an, ac, ai, aL, am, ad, ax, ae⟩, rfl, hm0, hl0, hb0⟩
  clear eP1_0 eP1_1 eP1_2
  have N_m : Blk v0 (w.heap.size) 72 #[.slice xA xn xc, .int .i64 xi, .slice xL xm xd, .int .i64 xx, .int .i64 xe] := H_m.out.below hb0 H_m.out.lt
  have N_sp : Blk v0 (w.heap.size + 1) 28 #[.int .i64 code, .int .i64 mem, .int .i64 stack, .int .i64 val, .slice W ws.length wc] := H_sp.out.below hb0 H_sp.out.lt
  have N_res : Blk v0 (w.heap.size + 1 + 1) 78 #[.slice none 0 0, .int .i64 0, .slice none 0 0, .int .i64 0, .int .i64 0, .bool false, .int .i64 0, .int .i64 0] := H_res.out.below hb0 H_res.out.lt
  have N_x : Blk v0 (w.heap.size + 1 + 1 + 1) 70 #[.bool false, .int .i64 0, .int .i64 0] := H_x.out.below hb0 H_x.out.lt
  have NB := HB.out.trans (hb0.mono HB.out.size)
  clear fP1_0 fP1_1 fP1_2 gP1_0 gP1_1 gP1_2 rP1_0 rP1_1 rP1_2 q2_ q2_0 q2_1 q2_2 q2_3 q2_4
  clear H_m H_sp H_res H_x HB
  have H_m := Lib.hid N_m
  have H_sp := Lib.hid N_sp
  have H_res := Lib.hid N_res
  have H_x := Lib.hid N_x
  have HB := Lib.hid NB
  clear N_m N_sp N_res N_x NB
  dsimp only
  have HL := Lib.hid hl0
  clear hl0
  have HM0 := Lib.hid hm0
  clear hm0 hb0 HC
  have gR3_ := H_m.out.lt
  obtain ⟨R3_, eR3_, kR3_, hR3_, yR3_⟩ := row15 H_m.out #[.slice aA an ac, .int .i64 ai, .slice aL am ad, .int .i64 ax, .int .i64 ae]
  have bR3_ := H_m
  have N_m : Blk R3_ (w.heap.size) 72 #[.slice aA an ac, .int .i64 ai, .slice aL am ad, .int .i64 ax, .int .i64 ae] := kR3_.out
  have N_sp : Blk R3_ (w.heap.size + 1) 28 #[.int .i64 code, .int .i64 mem, .int .i64 stack, .int .i64 val, .slice W ws.length wc] := (hR3_.out _ (by omega)).trans H_sp.out
  have N_res : Blk R3_ (w.heap.size + 1 + 1) 78 #[.slice none 0 0, .int .i64 0, .slice none 0 0, .int .i64 0, .int .i64 0, .bool false, .int .i64 0, .int .i64 0] := (hR3_.out _ (by omega)).trans H_res.out
  have N_x : Blk R3_ (w.heap.size + 1 + 1 + 1) 70 #[.bool false, .int .i64 0, .int .i64 0] := (hR3_.out _ (by omega)).trans H_x.out
  have NB := yR3_.out _ _ (by omega) HB.out
  have NL := HL.out.keep fun k hk1 hk2 => hR3_.out k (by have := HLS.out; omega)
  clear H_m H_sp H_res H_x HB HL
  have H_m := Lib.hid N_m
  have H_sp := Lib.hid N_sp
  have H_res := Lib.hid N_res
  have H_x := Lib.hid N_x
  have HB := Lib.hid NB
  have HL := Lib.hid NL
  clear N_m N_sp N_res N_x NB NL
  clear kR3_ hR3_ yR3_
  have q4_ := H_m.out
  have q4_0 := q4_.cell 0
  have q4_1 := q4_.cell 1
  have q4_2 := q4_.cell 2
  have q4_3 := q4_.cell 3
  have q4_4 := q4_.cell 4
  have q5_ := H_x.out
  have q5_0 := q5_.cell 0
  have q5_1 := q5_.cell 1
  have q5_2 := q5_.cell 2
  cases q with
  | none =>
    have hae : ae = 8 := congrArg MM.me HM0.out
    subst hae
    obtain ⟨S6, hS6⟩ : ∃ U, R3_.setCell ⟨w.heap.size + 1 + 1 + 1, 0, none⟩ (.bool false) = U := ⟨_, rfl⟩
    have cS6 := H_x.out.cell 0
    have fS6 := H_x.out.frozen 0
    have gS6 := H_x.out.lt
    have N_m : Blk S6 (w.heap.size) 72 #[.slice aA an ac, .int .i64 ai, .slice aL am ad, .int .i64 ax, .int .i64 8] := hS6 ▸ H_m.out.other (p := ⟨w.heap.size + 1 + 1 + 1, 0, none⟩) (by show w.heap.size + 1 + 1 + 1 ≠ _; omega) _
    have N_sp : Blk S6 (w.heap.size + 1) 28 #[.int .i64 code, .int .i64 mem, .int .i64 stack, .int .i64 val, .slice W ws.length wc] := hS6 ▸ H_sp.out.other (p := ⟨w.heap.size + 1 + 1 + 1, 0, none⟩) (by show w.heap.size + 1 + 1 + 1 ≠ _; omega) _
    have N_res : Blk S6 (w.heap.size + 1 + 1) 78 #[.slice none 0 0, .int .i64 0, .slice none 0 0, .int .i64 0, .int .i64 0, .bool false, .int .i64 0, .int .i64 0] := hS6 ▸ H_res.out.other (p := ⟨w.heap.size + 1 + 1 + 1, 0, none⟩) (by show w.heap.size + 1 + 1 + 1 ≠ _; omega) _
    have N_x : Blk S6 (w.heap.size + 1 + 1 + 1) 70 #[.bool false, .int .i64 0, .int .i64 0] := hS6 ▸ H_x.out.set_ 0 (.bool false)
    have NB := hS6 ▸ HB.out.setCell (p := ⟨w.heap.size + 1 + 1 + 1, 0, none⟩) (by show w.heap.size ≤ w.heap.size + 1 + 1 + 1; omega) _
    have NL := HL.out.keep fun k hk1 hk2 => (show S6.heap[k]? = _ from hS6 ▸ Below.heap_setCell _ ⟨w.heap.size + 1 + 1 + 1, 0, none⟩ _ k (by have := HLS.out; show k ≠ w.heap.size + 1 + 1 + 1; omega))
    clear H_m H_sp H_res H_x HB HL
    have H_m := Lib.hid N_m
    have H_sp := Lib.hid N_sp
    have H_res := Lib.hid N_res
    have H_x := Lib.hid N_x
    have HB := Lib.hid NB
    have HL := Lib.hid NL
    clear N_m N_sp N_res N_x NB NL
    have h0 := HNM.out ⟨aA, an, ac, ai, aL, am, ad, ax, 8⟩ _ S6 HM0.out HB.out HL.out.at_
    have HC := Lib.hid h0
    clear h0
    have q8_ := H_m.out
    have q8_0 := q8_.cell 0
    have q8_1 := q8_.cell 1
    have q8_2 := q8_.cell 2
    have q8_3 := q8_.cell 3
    have q8_4 := q8_.cell 4
    have q9_ := H_sp.out
    have q9_0 := q9_.cell 0
    have q9_1 := q9_.cell 1
    have q9_2 := q9_.cell 2
    have q9_3 := q9_.cell 3
    have q9_4 := q9_.cell 4
    have q10_ := H_x.out
    have q10_0 := q10_.cell 0
    have q10_1 := q10_.cell 1
    have q10_2 := q10_.cell 2
    have HLS2 : Hid (w.heap.size + 1 + 1 + 1 < S6.heap.size) := Lib.hid H_x.out.lt
    go_wp2_with (first | (refine wpList_store_rowTo rfl 72 (.tmp 4) (.tmp 13) rfl rfl (w.heap.size) #[.slice aA an ac, .int .i64 ai, .slice aL am ad, .int .i64 ax, .int .i64 8] rfl rfl 72 _ bR3_.out Try.sizeM15 rfl (by kernel_rfl) ?_))
    refine (HC.out).mono ?_
    rintro e v1 ⟨⟨yA, yn, yc, yi, yL, ym, yd, yx, ye⟩, rfl, hm1, hl1, hb1⟩
    clear eR3_ bR3_ hS6
    have N_m : Blk v1 (w.heap.size) 72 #[.slice aA an ac, .int .i64 ai, .slice aL am ad, .int .i64 ax, .int .i64 8] := H_m.out.below hb1 H_m.out.lt
    have N_sp : Blk v1 (w.heap.size + 1) 28 #[.int .i64 code, .int .i64 mem, .int .i64 stack, .int .i64 val, .slice W ws.length wc] := H_sp.out.below hb1 H_sp.out.lt
    have N_res : Blk v1 (w.heap.size + 1 + 1) 78 #[.slice none 0 0, .int .i64 0, .slice none 0 0, .int .i64 0, .int .i64 0, .bool false, .int .i64 0, .int .i64 0] := H_res.out.below hb1 H_res.out.lt
    have N_x : Blk v1 (w.heap.size + 1 + 1 + 1) 70 #[.bool false, .int .i64 0, .int .i64 0] := H_x.out.below hb1 H_x.out.lt
    have NB := HB.out.trans (hb1.mono HB.out.size)
    have NL := HL.out.keep fun k hk1 hk2 => hb1.block k hk2
    clear q4_ q4_0 q4_1 q4_2 q4_3 q4_4 q5_ q5_0 q5_1 q5_2 cS6 fS6 q8_ q8_0 q8_1 q8_2 q8_3 q8_4 q9_ q9_0 q9_1 q9_2 q9_3 q9_4 q10_ q10_0 q10_1 q10_2
    clear H_m H_sp H_res H_x HB HL
    have H_m := Lib.hid N_m
    have H_sp := Lib.hid N_sp
    have H_res := Lib.hid N_res
    have H_x := Lib.hid N_x
    have HB := Lib.hid NB
    have HL := Lib.hid NL
    clear N_m N_sp N_res N_x NB NL
    dsimp only
    clear HLS
    have HLS := HLS2
    clear HL
    have HL := Lib.hid hl1
    clear hl1
    have HM1 := Lib.hid hm1
    clear hm1 hb1 HC HLS2
    have gR11_ := H_m.out.lt
    obtain ⟨R11_, eR11_, kR11_, hR11_, yR11_⟩ := row15 H_m.out #[.slice yA yn yc, .int .i64 yi, .slice yL ym yd, .int .i64 yx, .int .i64 ye]
    have bR11_ := H_m
    have N_m : Blk R11_ (w.heap.size) 72 #[.slice yA yn yc, .int .i64 yi, .slice yL ym yd, .int .i64 yx, .int .i64 ye] := kR11_.out
    have N_sp : Blk R11_ (w.heap.size + 1) 28 #[.int .i64 code, .int .i64 mem, .int .i64 stack, .int .i64 val, .slice W ws.length wc] := (hR11_.out _ (by omega)).trans H_sp.out
    have N_res : Blk R11_ (w.heap.size + 1 + 1) 78 #[.slice none 0 0, .int .i64 0, .slice none 0 0, .int .i64 0, .int .i64 0, .bool false, .int .i64 0, .int .i64 0] := (hR11_.out _ (by omega)).trans H_res.out
    have N_x : Blk R11_ (w.heap.size + 1 + 1 + 1) 70 #[.bool false, .int .i64 0, .int .i64 0] := (hR11_.out _ (by omega)).trans H_x.out
    have NB := yR11_.out _ _ (by omega) HB.out
    have NL := HL.out.keep fun k hk1 hk2 => hR11_.out k (by have := HLS.out; omega)
    clear H_m H_sp H_res H_x HB HL
    have H_m := Lib.hid N_m
    have H_sp := Lib.hid N_sp
    have H_res := Lib.hid N_res
    have H_x := Lib.hid N_x
    have HB := Lib.hid NB
    have HL := Lib.hid NL
    clear N_m N_sp N_res N_x NB NL
    clear kR11_ hR11_ yR11_
    have q12_ := H_m.out
    have q12_0 := q12_.cell 0
    have q12_1 := q12_.cell 1
    have q12_2 := q12_.cell 2
    have q12_3 := q12_.cell 3
    have q12_4 := q12_.cell 4
    have q13_ := H_x.out
    have q13_0 := q13_.cell 0
    have q13_1 := q13_.cell 1
    have q13_2 := q13_.cell 2
    obtain ⟨S14, hS14⟩ : ∃ U, R11_.setCell ⟨w.heap.size + 1 + 1 + 1, 1, none⟩ (.int .i64 yx) = U := ⟨_, rfl⟩
    have cS14 := H_x.out.cell 1
    have fS14 := H_x.out.frozen 1
    have gS14 := H_x.out.lt
    have N_m : Blk S14 (w.heap.size) 72 #[.slice yA yn yc, .int .i64 yi, .slice yL ym yd, .int .i64 yx, .int .i64 ye] := hS14 ▸ H_m.out.other (p := ⟨w.heap.size + 1 + 1 + 1, 1, none⟩) (by show w.heap.size + 1 + 1 + 1 ≠ _; omega) _
    have N_sp : Blk S14 (w.heap.size + 1) 28 #[.int .i64 code, .int .i64 mem, .int .i64 stack, .int .i64 val, .slice W ws.length wc] := hS14 ▸ H_sp.out.other (p := ⟨w.heap.size + 1 + 1 + 1, 1, none⟩) (by show w.heap.size + 1 + 1 + 1 ≠ _; omega) _
    have N_res : Blk S14 (w.heap.size + 1 + 1) 78 #[.slice none 0 0, .int .i64 0, .slice none 0 0, .int .i64 0, .int .i64 0, .bool false, .int .i64 0, .int .i64 0] := hS14 ▸ H_res.out.other (p := ⟨w.heap.size + 1 + 1 + 1, 1, none⟩) (by show w.heap.size + 1 + 1 + 1 ≠ _; omega) _
    have N_x : Blk S14 (w.heap.size + 1 + 1 + 1) 70 #[.bool false, .int .i64 yx, .int .i64 0] := hS14 ▸ H_x.out.set_ 1 (.int .i64 yx)
    have NB := hS14 ▸ HB.out.setCell (p := ⟨w.heap.size + 1 + 1 + 1, 1, none⟩) (by show w.heap.size ≤ w.heap.size + 1 + 1 + 1; omega) _
    have NL := HL.out.keep fun k hk1 hk2 => (show S14.heap[k]? = _ from hS14 ▸ Below.heap_setCell _ ⟨w.heap.size + 1 + 1 + 1, 1, none⟩ _ k (by have := HLS.out; show k ≠ w.heap.size + 1 + 1 + 1; omega))
    clear H_m H_sp H_res H_x HB HL
    have H_m := Lib.hid N_m
    have H_sp := Lib.hid N_sp
    have H_res := Lib.hid N_res
    have H_x := Lib.hid N_x
    have HB := Lib.hid NB
    have HL := Lib.hid NL
    clear N_m N_sp N_res N_x NB NL
    have h0 := HBL.out ⟨yA, yn, yc, yi, yL, ym, yd, yx, ye⟩ _ (k : Int) S14 ⟨by have := HKK.out; omega, by have := HKK.out; omega⟩ HM1.out HB.out HL.out.at_
    have HC := Lib.hid h0
    clear h0
    have q16_ := H_m.out
    have q16_0 := q16_.cell 0
    have q16_1 := q16_.cell 1
    have q16_2 := q16_.cell 2
    have q16_3 := q16_.cell 3
    have q16_4 := q16_.cell 4
    have HLS2 : Hid (w.heap.size + 1 + 1 + 1 < S14.heap.size) := Lib.hid H_x.out.lt
    go_wp2_with (first | (refine wpList_store_rowTo rfl 72 (.tmp 4) (.tmp 29) rfl rfl (w.heap.size) #[.slice yA yn yc, .int .i64 yi, .slice yL ym yd, .int .i64 yx, .int .i64 ye] rfl rfl 72 _ bR11_.out Try.sizeM15 rfl (by kernel_rfl) ?_))
    refine (HC.out).mono ?_
    rintro e v2 ⟨⟨zA, zn, zc, zi, zL, zm, zd, zx, ze⟩, rfl, hm2, hl2, hb2⟩
    clear eR11_ bR11_ hS14
    have N_m : Blk v2 (w.heap.size) 72 #[.slice yA yn yc, .int .i64 yi, .slice yL ym yd, .int .i64 yx, .int .i64 ye] := H_m.out.below hb2 H_m.out.lt
    have N_sp : Blk v2 (w.heap.size + 1) 28 #[.int .i64 code, .int .i64 mem, .int .i64 stack, .int .i64 val, .slice W ws.length wc] := H_sp.out.below hb2 H_sp.out.lt
    have N_res : Blk v2 (w.heap.size + 1 + 1) 78 #[.slice none 0 0, .int .i64 0, .slice none 0 0, .int .i64 0, .int .i64 0, .bool false, .int .i64 0, .int .i64 0] := H_res.out.below hb2 H_res.out.lt
    have N_x : Blk v2 (w.heap.size + 1 + 1 + 1) 70 #[.bool false, .int .i64 yx, .int .i64 0] := H_x.out.below hb2 H_x.out.lt
    have NB := HB.out.trans (hb2.mono HB.out.size)
    have NL := HL.out.keep fun k hk1 hk2 => hb2.block k hk2
    clear q12_ q12_0 q12_1 q12_2 q12_3 q12_4 q13_ q13_0 q13_1 q13_2 cS14 fS14 q16_ q16_0 q16_1 q16_2 q16_3 q16_4
    clear H_m H_sp H_res H_x HB HL
    have H_m := Lib.hid N_m
    have H_sp := Lib.hid N_sp
    have H_res := Lib.hid N_res
    have H_x := Lib.hid N_x
    have HB := Lib.hid NB
    have HL := Lib.hid NL
    clear N_m N_sp N_res N_x NB NL
    dsimp only
    clear HLS
    have HLS := HLS2
    clear HL
    have HL := Lib.hid hl2
    clear hl2
    have HM2 := Lib.hid hm2
    clear hm2 hb2 HC HLS2
    have gR17_ := H_m.out.lt
    obtain ⟨R17_, eR17_, kR17_, hR17_, yR17_⟩ := row15 H_m.out #[.slice zA zn zc, .int .i64 zi, .slice zL zm zd, .int .i64 zx, .int .i64 ze]
    have bR17_ := H_m
    have N_m : Blk R17_ (w.heap.size) 72 #[.slice zA zn zc, .int .i64 zi, .slice zL zm zd, .int .i64 zx, .int .i64 ze] := kR17_.out
    have N_sp : Blk R17_ (w.heap.size + 1) 28 #[.int .i64 code, .int .i64 mem, .int .i64 stack, .int .i64 val, .slice W ws.length wc] := (hR17_.out _ (by omega)).trans H_sp.out
    have N_res : Blk R17_ (w.heap.size + 1 + 1) 78 #[.slice none 0 0, .int .i64 0, .slice none 0 0, .int .i64 0, .int .i64 0, .bool false, .int .i64 0, .int .i64 0] := (hR17_.out _ (by omega)).trans H_res.out
    have N_x : Blk R17_ (w.heap.size + 1 + 1 + 1) 70 #[.bool false, .int .i64 yx, .int .i64 0] := (hR17_.out _ (by omega)).trans H_x.out
    have NB := yR17_.out _ _ (by omega) HB.out
    have NL := HL.out.keep fun k hk1 hk2 => hR17_.out k (by have := HLS.out; omega)
    clear H_m H_sp H_res H_x HB HL
    have H_m := Lib.hid N_m
    have H_sp := Lib.hid N_sp
    have H_res := Lib.hid N_res
    have H_x := Lib.hid N_x
    have HB := Lib.hid NB
    have HL := Lib.hid NL
    clear N_m N_sp N_res N_x NB NL
    clear kR17_ hR17_ yR17_
    have q18_ := H_m.out
    have q18_0 := q18_.cell 0
    have q18_1 := q18_.cell 1
    have q18_2 := q18_.cell 2
    have q18_3 := q18_.cell 3
    have q18_4 := q18_.cell 4
    have q19_ := H_x.out
    have q19_0 := q19_.cell 0
    have q19_1 := q19_.cell 1
    have q19_2 := q19_.cell 2
    obtain ⟨S20, hS20⟩ : ∃ U, R17_.setCell ⟨w.heap.size + 1 + 1 + 1, 2, none⟩ (.int .i64 zx) = U := ⟨_, rfl⟩
    have cS20 := H_x.out.cell 2
    have fS20 := H_x.out.frozen 2
    have gS20 := H_x.out.lt
    have N_m : Blk S20 (w.heap.size) 72 #[.slice zA zn zc, .int .i64 zi, .slice zL zm zd, .int .i64 zx, .int .i64 ze] := hS20 ▸ H_m.out.other (p := ⟨w.heap.size + 1 + 1 + 1, 2, none⟩) (by show w.heap.size + 1 + 1 + 1 ≠ _; omega) _
    have N_sp : Blk S20 (w.heap.size + 1) 28 #[.int .i64 code, .int .i64 mem, .int .i64 stack, .int .i64 val, .slice W ws.length wc] := hS20 ▸ H_sp.out.other (p := ⟨w.heap.size + 1 + 1 + 1, 2, none⟩) (by show w.heap.size + 1 + 1 + 1 ≠ _; omega) _
    have N_res : Blk S20 (w.heap.size + 1 + 1) 78 #[.slice none 0 0, .int .i64 0, .slice none 0 0, .int .i64 0, .int .i64 0, .bool false, .int .i64 0, .int .i64 0] := hS20 ▸ H_res.out.other (p := ⟨w.heap.size + 1 + 1 + 1, 2, none⟩) (by show w.heap.size + 1 + 1 + 1 ≠ _; omega) _
    have N_x : Blk S20 (w.heap.size + 1 + 1 + 1) 70 #[.bool false, .int .i64 yx, .int .i64 zx] := hS20 ▸ H_x.out.set_ 2 (.int .i64 zx)
    have NB := hS20 ▸ HB.out.setCell (p := ⟨w.heap.size + 1 + 1 + 1, 2, none⟩) (by show w.heap.size ≤ w.heap.size + 1 + 1 + 1; omega) _
    have NL := HL.out.keep fun k hk1 hk2 => (show S20.heap[k]? = _ from hS20 ▸ Below.heap_setCell _ ⟨w.heap.size + 1 + 1 + 1, 2, none⟩ _ k (by have := HLS.out; show k ≠ w.heap.size + 1 + 1 + 1; omega))
    clear H_m H_sp H_res H_x HB HL
    have H_m := Lib.hid N_m
    have H_sp := Lib.hid N_sp
    have H_res := Lib.hid N_res
    have H_x := Lib.hid N_x
    have HB := Lib.hid NB
    have HL := Lib.hid NL
    clear N_m N_sp N_res N_x NB NL
    have q22_ := H_m.out
    have q22_0 := q22_.cell 0
    have q22_1 := q22_.cell 1
    have q22_2 := q22_.cell 2
    have q22_3 := q22_.cell 3
    have q22_4 := q22_.cell 4
    have q23_ := H_x.out
    have q23_0 := q23_.cell 0
    have q23_1 := q23_.cell 1
    have q23_2 := q23_.cell 2
    have q24_ := H_res.out
    have q24_0 := q24_.cell 0
    have q24_1 := q24_.cell 1
    have q24_2 := q24_.cell 2
    have q24_3 := q24_.cell 3
    have q24_4 := q24_.cell 4
    have q24_5 := q24_.cell 5
    have q24_6 := q24_.cell 6
    have q24_7 := q24_.cell 7
    have gR25_ := H_res.out.lt
    obtain ⟨R25_, eR25_, kR25_, hR25_, yR25_⟩ := row15 H_res.out #[.slice zA zn zc, .int .i64 zi, .slice zL zm zd, .int .i64 zx, .int .i64 ze, .bool false, .int .i64 yx, .int .i64 zx]
    have bR25_ := H_res
    have N_m : Blk R25_ (w.heap.size) 72 #[.slice zA zn zc, .int .i64 zi, .slice zL zm zd, .int .i64 zx, .int .i64 ze] := (hR25_.out _ (by omega)).trans H_m.out
    have N_sp : Blk R25_ (w.heap.size + 1) 28 #[.int .i64 code, .int .i64 mem, .int .i64 stack, .int .i64 val, .slice W ws.length wc] := (hR25_.out _ (by omega)).trans H_sp.out
    have N_res : Blk R25_ (w.heap.size + 1 + 1) 78 #[.slice zA zn zc, .int .i64 zi, .slice zL zm zd, .int .i64 zx, .int .i64 ze, .bool false, .int .i64 yx, .int .i64 zx] := kR25_.out
    have N_x : Blk R25_ (w.heap.size + 1 + 1 + 1) 70 #[.bool false, .int .i64 yx, .int .i64 zx] := (hR25_.out _ (by omega)).trans H_x.out
    have NB := yR25_.out _ _ (by omega) HB.out
    have NL := HL.out.keep fun k hk1 hk2 => hR25_.out k (by have := HLS.out; omega)
    clear H_m H_sp H_res H_x HB HL
    have H_m := Lib.hid N_m
    have H_sp := Lib.hid N_sp
    have H_res := Lib.hid N_res
    have H_x := Lib.hid N_x
    have HB := Lib.hid NB
    have HL := Lib.hid NL
    clear N_m N_sp N_res N_x NB NL
    clear kR25_ hR25_ yR25_
    have q26_ := H_res.out
    have q26_0 := q26_.cell 0
    have q26_1 := q26_.cell 1
    have q26_2 := q26_.cell 2
    have q26_3 := q26_.cell 3
    have q26_4 := q26_.cell 4
    have q26_5 := q26_.cell 5
    have q26_6 := q26_.cell 6
    have q26_7 := q26_.cell 7
    have hE := slot_end false HM1.out HM2.out HL.out
    have hR : ans = Gn.endS list k false (Gn.run (β := Int) (Gn.num list val) none) := by
      rw [← HANS.out]
      rfl
    rw [← hR] at hE
    have HE := Lib.hid hE
    clear hE hR
    go_wp2_with (first | (refine wpList_store_rowTo rfl 72 (.tmp 4) (.tmp 35) rfl rfl (w.heap.size) #[.slice zA zn zc, .int .i64 zi, .slice zL zm zd, .int .i64 zx, .int .i64 ze] rfl rfl 72 _ bR17_.out Try.sizeM15 rfl (by kernel_rfl) ?_) | (refine wpList_store_rowTo rfl 78 (.tmp 8) (.tmp 41) rfl rfl (w.heap.size + 1 + 1) #[.slice zA zn zc, .int .i64 zi, .slice zL zm zd, .int .i64 zx, .int .i64 ze, .bool false, .int .i64 yx, .int .i64 zx] rfl rfl 78 _ bR25_.out Try.sizeL15 rfl (by kernel_rfl) ?_))
    exact bodyPost_ret (v := .agg #[.slice zA zn zc, .int .i64 zi, .slice zL zm zd, .int .i64 zx, .int .i64 ze, .bool false, .int .i64 yx, .int .i64 zx]) (by simp [results, Try.results26, go_sem, q26_0, q26_1, q26_2, q26_3, q26_4, q26_5, q26_6, q26_7]) rfl ⟨⟨zA, zn, zc, zi, zL, zm, zd, zx, ze⟩, zx, false, yx, zx, rfl, HE.out.1, HE.out.2.1, HE.out.2.2.less (by have := HLS.out; omega), HB.out⟩
  | some q =>
    obtain ⟨z0, d0⟩ := q
    by_cases hz1 : z0 = 1
    · subst hz1
      have hae : ae = 0 := congrArg MM.me HM0.out.1
      have hax : ax = 1 := congrArg MM.mx HM0.out.1
      subst hae hax
      obtain ⟨S6, hS6⟩ : ∃ U, R3_.setCell ⟨w.heap.size + 1 + 1 + 1, 0, none⟩ (.bool true) = U := ⟨_, rfl⟩
      have cS6 := H_x.out.cell 0
      have fS6 := H_x.out.frozen 0
      have gS6 := H_x.out.lt
      have N_m : Blk S6 (w.heap.size) 72 #[.slice aA an ac, .int .i64 ai, .slice aL am ad, .int .i64 1, .int .i64 0] := hS6 ▸ H_m.out.other (p := ⟨w.heap.size + 1 + 1 + 1, 0, none⟩) (by show w.heap.size + 1 + 1 + 1 ≠ _; omega) _
      have N_sp : Blk S6 (w.heap.size + 1) 28 #[.int .i64 code, .int .i64 mem, .int .i64 stack, .int .i64 val, .slice W ws.length wc] := hS6 ▸ H_sp.out.other (p := ⟨w.heap.size + 1 + 1 + 1, 0, none⟩) (by show w.heap.size + 1 + 1 + 1 ≠ _; omega) _
      have N_res : Blk S6 (w.heap.size + 1 + 1) 78 #[.slice none 0 0, .int .i64 0, .slice none 0 0, .int .i64 0, .int .i64 0, .bool false, .int .i64 0, .int .i64 0] := hS6 ▸ H_res.out.other (p := ⟨w.heap.size + 1 + 1 + 1, 0, none⟩) (by show w.heap.size + 1 + 1 + 1 ≠ _; omega) _
      have N_x : Blk S6 (w.heap.size + 1 + 1 + 1) 70 #[.bool true, .int .i64 0, .int .i64 0] := hS6 ▸ H_x.out.set_ 0 (.bool true)
      have NB := hS6 ▸ HB.out.setCell (p := ⟨w.heap.size + 1 + 1 + 1, 0, none⟩) (by show w.heap.size ≤ w.heap.size + 1 + 1 + 1; omega) _
      have NL := HL.out.keep fun k hk1 hk2 => (show S6.heap[k]? = _ from hS6 ▸ Below.heap_setCell _ ⟨w.heap.size + 1 + 1 + 1, 0, none⟩ _ k (by have := HLS.out; show k ≠ w.heap.size + 1 + 1 + 1; omega))
      clear H_m H_sp H_res H_x HB HL
      have H_m := Lib.hid N_m
      have H_sp := Lib.hid N_sp
      have H_res := Lib.hid N_res
      have H_x := Lib.hid N_x
      have HB := Lib.hid NB
      have HL := Lib.hid NL
      clear N_m N_sp N_res N_x NB NL
      have h0 := HBL.out ⟨aA, an, ac, ai, aL, am, ad, 1, 0⟩ _ 13 S6 (by decide) HM0.out HB.out HL.out.at_
      have HC := Lib.hid h0
      clear h0
      have q8_ := H_m.out
      have q8_0 := q8_.cell 0
      have q8_1 := q8_.cell 1
      have q8_2 := q8_.cell 2
      have q8_3 := q8_.cell 3
      have q8_4 := q8_.cell 4
      have q9_ := H_sp.out
      have q9_0 := q9_.cell 0
      have q9_1 := q9_.cell 1
      have q9_2 := q9_.cell 2
      have q9_3 := q9_.cell 3
      have q9_4 := q9_.cell 4
      have q10_ := H_x.out
      have q10_0 := q10_.cell 0
      have q10_1 := q10_.cell 1
      have q10_2 := q10_.cell 2
      have HLS2 : Hid (w.heap.size + 1 + 1 + 1 < S6.heap.size) := Lib.hid H_x.out.lt
      go_wp2_with (first | (refine wpList_store_rowTo rfl 72 (.tmp 4) (.tmp 13) rfl rfl (w.heap.size) #[.slice aA an ac, .int .i64 ai, .slice aL am ad, .int .i64 1, .int .i64 0] rfl rfl 72 _ bR3_.out Try.sizeM15 rfl (by kernel_rfl) ?_))
      refine (HC.out).mono ?_
      rintro e v1 ⟨⟨yA, yn, yc, yi, yL, ym, yd, yx, ye⟩, rfl, hm1, hl1, hb1⟩
      clear eR3_ bR3_ hS6
      have N_m : Blk v1 (w.heap.size) 72 #[.slice aA an ac, .int .i64 ai, .slice aL am ad, .int .i64 1, .int .i64 0] := H_m.out.below hb1 H_m.out.lt
      have N_sp : Blk v1 (w.heap.size + 1) 28 #[.int .i64 code, .int .i64 mem, .int .i64 stack, .int .i64 val, .slice W ws.length wc] := H_sp.out.below hb1 H_sp.out.lt
      have N_res : Blk v1 (w.heap.size + 1 + 1) 78 #[.slice none 0 0, .int .i64 0, .slice none 0 0, .int .i64 0, .int .i64 0, .bool false, .int .i64 0, .int .i64 0] := H_res.out.below hb1 H_res.out.lt
      have N_x : Blk v1 (w.heap.size + 1 + 1 + 1) 70 #[.bool true, .int .i64 0, .int .i64 0] := H_x.out.below hb1 H_x.out.lt
      have NB := HB.out.trans (hb1.mono HB.out.size)
      have NL := HL.out.keep fun k hk1 hk2 => hb1.block k hk2
      clear q4_ q4_0 q4_1 q4_2 q4_3 q4_4 q5_ q5_0 q5_1 q5_2 cS6 fS6 q8_ q8_0 q8_1 q8_2 q8_3 q8_4 q9_ q9_0 q9_1 q9_2 q9_3 q9_4 q10_ q10_0 q10_1 q10_2
      clear H_m H_sp H_res H_x HB HL
      have H_m := Lib.hid N_m
      have H_sp := Lib.hid N_sp
      have H_res := Lib.hid N_res
      have H_x := Lib.hid N_x
      have HB := Lib.hid NB
      have HL := Lib.hid NL
      clear N_m N_sp N_res N_x NB NL
      dsimp only
      clear HLS
      have HLS := HLS2
      clear HL
      have HL := Lib.hid hl1
      clear hl1
      have HM1 := Lib.hid hm1
      clear hm1 hb1 HC HLS2
      have gR11_ := H_m.out.lt
      obtain ⟨R11_, eR11_, kR11_, hR11_, yR11_⟩ := row15 H_m.out #[.slice yA yn yc, .int .i64 yi, .slice yL ym yd, .int .i64 yx, .int .i64 ye]
      have bR11_ := H_m
      have N_m : Blk R11_ (w.heap.size) 72 #[.slice yA yn yc, .int .i64 yi, .slice yL ym yd, .int .i64 yx, .int .i64 ye] := kR11_.out
      have N_sp : Blk R11_ (w.heap.size + 1) 28 #[.int .i64 code, .int .i64 mem, .int .i64 stack, .int .i64 val, .slice W ws.length wc] := (hR11_.out _ (by omega)).trans H_sp.out
      have N_res : Blk R11_ (w.heap.size + 1 + 1) 78 #[.slice none 0 0, .int .i64 0, .slice none 0 0, .int .i64 0, .int .i64 0, .bool false, .int .i64 0, .int .i64 0] := (hR11_.out _ (by omega)).trans H_res.out
      have N_x : Blk R11_ (w.heap.size + 1 + 1 + 1) 70 #[.bool true, .int .i64 0, .int .i64 0] := (hR11_.out _ (by omega)).trans H_x.out
      have NB := yR11_.out _ _ (by omega) HB.out
      have NL := HL.out.keep fun k hk1 hk2 => hR11_.out k (by have := HLS.out; omega)
      clear H_m H_sp H_res H_x HB HL
      have H_m := Lib.hid N_m
      have H_sp := Lib.hid N_sp
      have H_res := Lib.hid N_res
      have H_x := Lib.hid N_x
      have HB := Lib.hid NB
      have HL := Lib.hid NL
      clear N_m N_sp N_res N_x NB NL
      clear kR11_ hR11_ yR11_
      have q12_ := H_m.out
      have q12_0 := q12_.cell 0
      have q12_1 := q12_.cell 1
      have q12_2 := q12_.cell 2
      have q12_3 := q12_.cell 3
      have q12_4 := q12_.cell 4
      have q13_ := H_x.out
      have q13_0 := q13_.cell 0
      have q13_1 := q13_.cell 1
      have q13_2 := q13_.cell 2
      obtain ⟨S14, hS14⟩ : ∃ U, R11_.setCell ⟨w.heap.size + 1 + 1 + 1, 1, none⟩ (.int .i64 yx) = U := ⟨_, rfl⟩
      have cS14 := H_x.out.cell 1
      have fS14 := H_x.out.frozen 1
      have gS14 := H_x.out.lt
      have N_m : Blk S14 (w.heap.size) 72 #[.slice yA yn yc, .int .i64 yi, .slice yL ym yd, .int .i64 yx, .int .i64 ye] := hS14 ▸ H_m.out.other (p := ⟨w.heap.size + 1 + 1 + 1, 1, none⟩) (by show w.heap.size + 1 + 1 + 1 ≠ _; omega) _
      have N_sp : Blk S14 (w.heap.size + 1) 28 #[.int .i64 code, .int .i64 mem, .int .i64 stack, .int .i64 val, .slice W ws.length wc] := hS14 ▸ H_sp.out.other (p := ⟨w.heap.size + 1 + 1 + 1, 1, none⟩) (by show w.heap.size + 1 + 1 + 1 ≠ _; omega) _
      have N_res : Blk S14 (w.heap.size + 1 + 1) 78 #[.slice none 0 0, .int .i64 0, .slice none 0 0, .int .i64 0, .int .i64 0, .bool false, .int .i64 0, .int .i64 0] := hS14 ▸ H_res.out.other (p := ⟨w.heap.size + 1 + 1 + 1, 1, none⟩) (by show w.heap.size + 1 + 1 + 1 ≠ _; omega) _
      have N_x : Blk S14 (w.heap.size + 1 + 1 + 1) 70 #[.bool true, .int .i64 yx, .int .i64 0] := hS14 ▸ H_x.out.set_ 1 (.int .i64 yx)
      have NB := hS14 ▸ HB.out.setCell (p := ⟨w.heap.size + 1 + 1 + 1, 1, none⟩) (by show w.heap.size ≤ w.heap.size + 1 + 1 + 1; omega) _
      have NL := HL.out.keep fun k hk1 hk2 => (show S14.heap[k]? = _ from hS14 ▸ Below.heap_setCell _ ⟨w.heap.size + 1 + 1 + 1, 1, none⟩ _ k (by have := HLS.out; show k ≠ w.heap.size + 1 + 1 + 1; omega))
      clear H_m H_sp H_res H_x HB HL
      have H_m := Lib.hid N_m
      have H_sp := Lib.hid N_sp
      have H_res := Lib.hid N_res
      have H_x := Lib.hid N_x
      have HB := Lib.hid NB
      have HL := Lib.hid NL
      clear N_m N_sp N_res N_x NB NL
      have h0 := HBL.out ⟨yA, yn, yc, yi, yL, ym, yd, yx, ye⟩ _ (k : Int) S14 ⟨by have := HKK.out; omega, by have := HKK.out; omega⟩ HM1.out HB.out HL.out.at_
      have HC := Lib.hid h0
      clear h0
      have q16_ := H_m.out
      have q16_0 := q16_.cell 0
      have q16_1 := q16_.cell 1
      have q16_2 := q16_.cell 2
      have q16_3 := q16_.cell 3
      have q16_4 := q16_.cell 4
      have HLS2 : Hid (w.heap.size + 1 + 1 + 1 < S14.heap.size) := Lib.hid H_x.out.lt
      go_wp2_with (first | (refine wpList_store_rowTo rfl 72 (.tmp 4) (.tmp 26) rfl rfl (w.heap.size) #[.slice yA yn yc, .int .i64 yi, .slice yL ym yd, .int .i64 yx, .int .i64 ye] rfl rfl 72 _ bR11_.out Try.sizeM15 rfl (by kernel_rfl) ?_))
      refine (HC.out).mono ?_
      rintro e v2 ⟨⟨zA, zn, zc, zi, zL, zm, zd, zx, ze⟩, rfl, hm2, hl2, hb2⟩
      clear eR11_ bR11_ hS14
      have N_m : Blk v2 (w.heap.size) 72 #[.slice yA yn yc, .int .i64 yi, .slice yL ym yd, .int .i64 yx, .int .i64 ye] := H_m.out.below hb2 H_m.out.lt
      have N_sp : Blk v2 (w.heap.size + 1) 28 #[.int .i64 code, .int .i64 mem, .int .i64 stack, .int .i64 val, .slice W ws.length wc] := H_sp.out.below hb2 H_sp.out.lt
      have N_res : Blk v2 (w.heap.size + 1 + 1) 78 #[.slice none 0 0, .int .i64 0, .slice none 0 0, .int .i64 0, .int .i64 0, .bool false, .int .i64 0, .int .i64 0] := H_res.out.below hb2 H_res.out.lt
      have N_x : Blk v2 (w.heap.size + 1 + 1 + 1) 70 #[.bool true, .int .i64 yx, .int .i64 0] := H_x.out.below hb2 H_x.out.lt
      have NB := HB.out.trans (hb2.mono HB.out.size)
      have NL := HL.out.keep fun k hk1 hk2 => hb2.block k hk2
      clear q12_ q12_0 q12_1 q12_2 q12_3 q12_4 q13_ q13_0 q13_1 q13_2 cS14 fS14 q16_ q16_0 q16_1 q16_2 q16_3 q16_4
      clear H_m H_sp H_res H_x HB HL
      have H_m := Lib.hid N_m
      have H_sp := Lib.hid N_sp
      have H_res := Lib.hid N_res
      have H_x := Lib.hid N_x
      have HB := Lib.hid NB
      have HL := Lib.hid NL
      clear N_m N_sp N_res N_x NB NL
      dsimp only
      clear HLS
      have HLS := HLS2
      clear HL
      have HL := Lib.hid hl2
      clear hl2
      have HM2 := Lib.hid hm2
      clear hm2 hb2 HC HLS2
      have gR17_ := H_m.out.lt
      obtain ⟨R17_, eR17_, kR17_, hR17_, yR17_⟩ := row15 H_m.out #[.slice zA zn zc, .int .i64 zi, .slice zL zm zd, .int .i64 zx, .int .i64 ze]
      have bR17_ := H_m
      have N_m : Blk R17_ (w.heap.size) 72 #[.slice zA zn zc, .int .i64 zi, .slice zL zm zd, .int .i64 zx, .int .i64 ze] := kR17_.out
      have N_sp : Blk R17_ (w.heap.size + 1) 28 #[.int .i64 code, .int .i64 mem, .int .i64 stack, .int .i64 val, .slice W ws.length wc] := (hR17_.out _ (by omega)).trans H_sp.out
      have N_res : Blk R17_ (w.heap.size + 1 + 1) 78 #[.slice none 0 0, .int .i64 0, .slice none 0 0, .int .i64 0, .int .i64 0, .bool false, .int .i64 0, .int .i64 0] := (hR17_.out _ (by omega)).trans H_res.out
      have N_x : Blk R17_ (w.heap.size + 1 + 1 + 1) 70 #[.bool true, .int .i64 yx, .int .i64 0] := (hR17_.out _ (by omega)).trans H_x.out
      have NB := yR17_.out _ _ (by omega) HB.out
      have NL := HL.out.keep fun k hk1 hk2 => hR17_.out k (by have := HLS.out; omega)
      clear H_m H_sp H_res H_x HB HL
      have H_m := Lib.hid N_m
      have H_sp := Lib.hid N_sp
      have H_res := Lib.hid N_res
      have H_x := Lib.hid N_x
      have HB := Lib.hid NB
      have HL := Lib.hid NL
      clear N_m N_sp N_res N_x NB NL
      clear kR17_ hR17_ yR17_
      have q18_ := H_m.out
      have q18_0 := q18_.cell 0
      have q18_1 := q18_.cell 1
      have q18_2 := q18_.cell 2
      have q18_3 := q18_.cell 3
      have q18_4 := q18_.cell 4
      have q19_ := H_x.out
      have q19_0 := q19_.cell 0
      have q19_1 := q19_.cell 1
      have q19_2 := q19_.cell 2
      obtain ⟨S20, hS20⟩ : ∃ U, R17_.setCell ⟨w.heap.size + 1 + 1 + 1, 2, none⟩ (.int .i64 zx) = U := ⟨_, rfl⟩
      have cS20 := H_x.out.cell 2
      have fS20 := H_x.out.frozen 2
      have gS20 := H_x.out.lt
      have N_m : Blk S20 (w.heap.size) 72 #[.slice zA zn zc, .int .i64 zi, .slice zL zm zd, .int .i64 zx, .int .i64 ze] := hS20 ▸ H_m.out.other (p := ⟨w.heap.size + 1 + 1 + 1, 2, none⟩) (by show w.heap.size + 1 + 1 + 1 ≠ _; omega) _
      have N_sp : Blk S20 (w.heap.size + 1) 28 #[.int .i64 code, .int .i64 mem, .int .i64 stack, .int .i64 val, .slice W ws.length wc] := hS20 ▸ H_sp.out.other (p := ⟨w.heap.size + 1 + 1 + 1, 2, none⟩) (by show w.heap.size + 1 + 1 + 1 ≠ _; omega) _
      have N_res : Blk S20 (w.heap.size + 1 + 1) 78 #[.slice none 0 0, .int .i64 0, .slice none 0 0, .int .i64 0, .int .i64 0, .bool false, .int .i64 0, .int .i64 0] := hS20 ▸ H_res.out.other (p := ⟨w.heap.size + 1 + 1 + 1, 2, none⟩) (by show w.heap.size + 1 + 1 + 1 ≠ _; omega) _
      have N_x : Blk S20 (w.heap.size + 1 + 1 + 1) 70 #[.bool true, .int .i64 yx, .int .i64 zx] := hS20 ▸ H_x.out.set_ 2 (.int .i64 zx)
      have NB := hS20 ▸ HB.out.setCell (p := ⟨w.heap.size + 1 + 1 + 1, 2, none⟩) (by show w.heap.size ≤ w.heap.size + 1 + 1 + 1; omega) _
      have NL := HL.out.keep fun k hk1 hk2 => (show S20.heap[k]? = _ from hS20 ▸ Below.heap_setCell _ ⟨w.heap.size + 1 + 1 + 1, 2, none⟩ _ k (by have := HLS.out; show k ≠ w.heap.size + 1 + 1 + 1; omega))
      clear H_m H_sp H_res H_x HB HL
      have H_m := Lib.hid N_m
      have H_sp := Lib.hid N_sp
      have H_res := Lib.hid N_res
      have H_x := Lib.hid N_x
      have HB := Lib.hid NB
      have HL := Lib.hid NL
      clear N_m N_sp N_res N_x NB NL
      have q22_ := H_m.out
      have q22_0 := q22_.cell 0
      have q22_1 := q22_.cell 1
      have q22_2 := q22_.cell 2
      have q22_3 := q22_.cell 3
      have q22_4 := q22_.cell 4
      have q23_ := H_x.out
      have q23_0 := q23_.cell 0
      have q23_1 := q23_.cell 1
      have q23_2 := q23_.cell 2
      have q24_ := H_res.out
      have q24_0 := q24_.cell 0
      have q24_1 := q24_.cell 1
      have q24_2 := q24_.cell 2
      have q24_3 := q24_.cell 3
      have q24_4 := q24_.cell 4
      have q24_5 := q24_.cell 5
      have q24_6 := q24_.cell 6
      have q24_7 := q24_.cell 7
      have gR25_ := H_res.out.lt
      obtain ⟨R25_, eR25_, kR25_, hR25_, yR25_⟩ := row15 H_res.out #[.slice zA zn zc, .int .i64 zi, .slice zL zm zd, .int .i64 zx, .int .i64 ze, .bool true, .int .i64 yx, .int .i64 zx]
      have bR25_ := H_res
      have N_m : Blk R25_ (w.heap.size) 72 #[.slice zA zn zc, .int .i64 zi, .slice zL zm zd, .int .i64 zx, .int .i64 ze] := (hR25_.out _ (by omega)).trans H_m.out
      have N_sp : Blk R25_ (w.heap.size + 1) 28 #[.int .i64 code, .int .i64 mem, .int .i64 stack, .int .i64 val, .slice W ws.length wc] := (hR25_.out _ (by omega)).trans H_sp.out
      have N_res : Blk R25_ (w.heap.size + 1 + 1) 78 #[.slice zA zn zc, .int .i64 zi, .slice zL zm zd, .int .i64 zx, .int .i64 ze, .bool true, .int .i64 yx, .int .i64 zx] := kR25_.out
      have N_x : Blk R25_ (w.heap.size + 1 + 1 + 1) 70 #[.bool true, .int .i64 yx, .int .i64 zx] := (hR25_.out _ (by omega)).trans H_x.out
      have NB := yR25_.out _ _ (by omega) HB.out
      have NL := HL.out.keep fun k hk1 hk2 => hR25_.out k (by have := HLS.out; omega)
      clear H_m H_sp H_res H_x HB HL
      have H_m := Lib.hid N_m
      have H_sp := Lib.hid N_sp
      have H_res := Lib.hid N_res
      have H_x := Lib.hid N_x
      have HB := Lib.hid NB
      have HL := Lib.hid NL
      clear N_m N_sp N_res N_x NB NL
      clear kR25_ hR25_ yR25_
      have q26_ := H_res.out
      have q26_0 := q26_.cell 0
      have q26_1 := q26_.cell 1
      have q26_2 := q26_.cell 2
      have q26_3 := q26_.cell 3
      have q26_4 := q26_.cell 4
      have q26_5 := q26_.cell 5
      have q26_6 := q26_.cell 6
      have q26_7 := q26_.cell 7
      have hE := slot_end true HM1.out HM2.out HL.out
      have hR : ans = Gn.endS list k true (Gn.run (β := Int) (Gn.tk list 13) (some (1, d0))) := by
        rw [← HANS.out]
        show Gn.endS list k (decide ((1 : Int) = 1)) (Gn.slotV list ⟨code, mem, stack, val, ws⟩ 1 d0) = Gn.endS list k true (Gn.tk list 13 d0); rfl
      rw [← hR] at hE
      have HE := Lib.hid hE
      clear hE hR
      go_wp2_with (first | (refine wpList_store_rowTo rfl 72 (.tmp 4) (.tmp 35) rfl rfl (w.heap.size) #[.slice zA zn zc, .int .i64 zi, .slice zL zm zd, .int .i64 zx, .int .i64 ze] rfl rfl 72 _ bR17_.out Try.sizeM15 rfl (by kernel_rfl) ?_) | (refine wpList_store_rowTo rfl 78 (.tmp 8) (.tmp 41) rfl rfl (w.heap.size + 1 + 1) #[.slice zA zn zc, .int .i64 zi, .slice zL zm zd, .int .i64 zx, .int .i64 ze, .bool true, .int .i64 yx, .int .i64 zx] rfl rfl 78 _ bR25_.out Try.sizeL15 rfl (by kernel_rfl) ?_))
      exact bodyPost_ret (v := .agg #[.slice zA zn zc, .int .i64 zi, .slice zL zm zd, .int .i64 zx, .int .i64 ze, .bool true, .int .i64 yx, .int .i64 zx]) (by simp [results, Try.results26, go_sem, q26_0, q26_1, q26_2, q26_3, q26_4, q26_5, q26_6, q26_7]) rfl ⟨⟨zA, zn, zc, zi, zL, zm, zd, zx, ze⟩, zx, true, yx, zx, rfl, HE.out.1, HE.out.2.1, HE.out.2.2.less (by have := HLS.out; omega), HB.out⟩
    · have hq1 : (z0 == (1 : Int)) = false := by rw [beq_eq_false_iff_ne]; exact hz1
      have hae : ae = 0 := congrArg MM.me HM0.out.1
      have hax : z0 = ax := (congrArg MM.mx HM0.out.1).symm
      subst hax
      subst hae
      obtain ⟨S6, hS6⟩ : ∃ U, R3_.setCell ⟨w.heap.size + 1 + 1 + 1, 0, none⟩ (.bool false) = U := ⟨_, rfl⟩
      have cS6 := H_x.out.cell 0
      have fS6 := H_x.out.frozen 0
      have gS6 := H_x.out.lt
      have N_m : Blk S6 (w.heap.size) 72 #[.slice aA an ac, .int .i64 ai, .slice aL am ad, .int .i64 z0, .int .i64 0] := hS6 ▸ H_m.out.other (p := ⟨w.heap.size + 1 + 1 + 1, 0, none⟩) (by show w.heap.size + 1 + 1 + 1 ≠ _; omega) _
      have N_sp : Blk S6 (w.heap.size + 1) 28 #[.int .i64 code, .int .i64 mem, .int .i64 stack, .int .i64 val, .slice W ws.length wc] := hS6 ▸ H_sp.out.other (p := ⟨w.heap.size + 1 + 1 + 1, 0, none⟩) (by show w.heap.size + 1 + 1 + 1 ≠ _; omega) _
      have N_res : Blk S6 (w.heap.size + 1 + 1) 78 #[.slice none 0 0, .int .i64 0, .slice none 0 0, .int .i64 0, .int .i64 0, .bool false, .int .i64 0, .int .i64 0] := hS6 ▸ H_res.out.other (p := ⟨w.heap.size + 1 + 1 + 1, 0, none⟩) (by show w.heap.size + 1 + 1 + 1 ≠ _; omega) _
      have N_x : Blk S6 (w.heap.size + 1 + 1 + 1) 70 #[.bool false, .int .i64 0, .int .i64 0] := hS6 ▸ H_x.out.set_ 0 (.bool false)
      have NB := hS6 ▸ HB.out.setCell (p := ⟨w.heap.size + 1 + 1 + 1, 0, none⟩) (by show w.heap.size ≤ w.heap.size + 1 + 1 + 1; omega) _
      have NL := HL.out.keep fun k hk1 hk2 => (show S6.heap[k]? = _ from hS6 ▸ Below.heap_setCell _ ⟨w.heap.size + 1 + 1 + 1, 0, none⟩ _ k (by have := HLS.out; show k ≠ w.heap.size + 1 + 1 + 1; omega))
      clear H_m H_sp H_res H_x HB HL
      have H_m := Lib.hid N_m
      have H_sp := Lib.hid N_sp
      have H_res := Lib.hid N_res
      have H_x := Lib.hid N_x
      have HB := Lib.hid NB
      have HL := Lib.hid NL
      clear N_m N_sp N_res N_x NB NL
      have h0 := HNM.out ⟨aA, an, ac, ai, aL, am, ad, z0, 0⟩ _ S6 HM0.out HB.out HL.out.at_
      have HC := Lib.hid h0
      clear h0
      have q8_ := H_m.out
      have q8_0 := q8_.cell 0
      have q8_1 := q8_.cell 1
      have q8_2 := q8_.cell 2
      have q8_3 := q8_.cell 3
      have q8_4 := q8_.cell 4
      have q9_ := H_sp.out
      have q9_0 := q9_.cell 0
      have q9_1 := q9_.cell 1
      have q9_2 := q9_.cell 2
      have q9_3 := q9_.cell 3
      have q9_4 := q9_.cell 4
      have q10_ := H_x.out
      have q10_0 := q10_.cell 0
      have q10_1 := q10_.cell 1
      have q10_2 := q10_.cell 2
      have HLS2 : Hid (w.heap.size + 1 + 1 + 1 < S6.heap.size) := Lib.hid H_x.out.lt
      go_wp2_with (first | (refine wpList_store_rowTo rfl 72 (.tmp 4) (.tmp 13) rfl rfl (w.heap.size) #[.slice aA an ac, .int .i64 ai, .slice aL am ad, .int .i64 z0, .int .i64 0] rfl rfl 72 _ bR3_.out Try.sizeM15 rfl (by kernel_rfl) ?_))
      refine (HC.out).mono ?_
      rintro e v1 ⟨⟨yA, yn, yc, yi, yL, ym, yd, yx, ye⟩, rfl, hm1, hl1, hb1⟩
      clear eR3_ bR3_ hS6
      have N_m : Blk v1 (w.heap.size) 72 #[.slice aA an ac, .int .i64 ai, .slice aL am ad, .int .i64 z0, .int .i64 0] := H_m.out.below hb1 H_m.out.lt
      have N_sp : Blk v1 (w.heap.size + 1) 28 #[.int .i64 code, .int .i64 mem, .int .i64 stack, .int .i64 val, .slice W ws.length wc] := H_sp.out.below hb1 H_sp.out.lt
      have N_res : Blk v1 (w.heap.size + 1 + 1) 78 #[.slice none 0 0, .int .i64 0, .slice none 0 0, .int .i64 0, .int .i64 0, .bool false, .int .i64 0, .int .i64 0] := H_res.out.below hb1 H_res.out.lt
      have N_x : Blk v1 (w.heap.size + 1 + 1 + 1) 70 #[.bool false, .int .i64 0, .int .i64 0] := H_x.out.below hb1 H_x.out.lt
      have NB := HB.out.trans (hb1.mono HB.out.size)
      have NL := HL.out.keep fun k hk1 hk2 => hb1.block k hk2
      clear q4_ q4_0 q4_1 q4_2 q4_3 q4_4 q5_ q5_0 q5_1 q5_2 cS6 fS6 q8_ q8_0 q8_1 q8_2 q8_3 q8_4 q9_ q9_0 q9_1 q9_2 q9_3 q9_4 q10_ q10_0 q10_1 q10_2
      clear H_m H_sp H_res H_x HB HL
      have H_m := Lib.hid N_m
      have H_sp := Lib.hid N_sp
      have H_res := Lib.hid N_res
      have H_x := Lib.hid N_x
      have HB := Lib.hid NB
      have HL := Lib.hid NL
      clear N_m N_sp N_res N_x NB NL
      dsimp only
      clear HLS
      have HLS := HLS2
      clear HL
      have HL := Lib.hid hl1
      clear hl1
      have HM1 := Lib.hid hm1
      clear hm1 hb1 HC HLS2
      have gR11_ := H_m.out.lt
      obtain ⟨R11_, eR11_, kR11_, hR11_, yR11_⟩ := row15 H_m.out #[.slice yA yn yc, .int .i64 yi, .slice yL ym yd, .int .i64 yx, .int .i64 ye]
      have bR11_ := H_m
      have N_m : Blk R11_ (w.heap.size) 72 #[.slice yA yn yc, .int .i64 yi, .slice yL ym yd, .int .i64 yx, .int .i64 ye] := kR11_.out
      have N_sp : Blk R11_ (w.heap.size + 1) 28 #[.int .i64 code, .int .i64 mem, .int .i64 stack, .int .i64 val, .slice W ws.length wc] := (hR11_.out _ (by omega)).trans H_sp.out
      have N_res : Blk R11_ (w.heap.size + 1 + 1) 78 #[.slice none 0 0, .int .i64 0, .slice none 0 0, .int .i64 0, .int .i64 0, .bool false, .int .i64 0, .int .i64 0] := (hR11_.out _ (by omega)).trans H_res.out
      have N_x : Blk R11_ (w.heap.size + 1 + 1 + 1) 70 #[.bool false, .int .i64 0, .int .i64 0] := (hR11_.out _ (by omega)).trans H_x.out
      have NB := yR11_.out _ _ (by omega) HB.out
      have NL := HL.out.keep fun k hk1 hk2 => hR11_.out k (by have := HLS.out; omega)
      clear H_m H_sp H_res H_x HB HL
      have H_m := Lib.hid N_m
      have H_sp := Lib.hid N_sp
      have H_res := Lib.hid N_res
      have H_x := Lib.hid N_x
      have HB := Lib.hid NB
      have HL := Lib.hid NL
      clear N_m N_sp N_res N_x NB NL
      clear kR11_ hR11_ yR11_
      have q12_ := H_m.out
      have q12_0 := q12_.cell 0
      have q12_1 := q12_.cell 1
      have q12_2 := q12_.cell 2
      have q12_3 := q12_.cell 3
      have q12_4 := q12_.cell 4
      have q13_ := H_x.out
      have q13_0 := q13_.cell 0
      have q13_1 := q13_.cell 1
      have q13_2 := q13_.cell 2
      obtain ⟨S14, hS14⟩ : ∃ U, R11_.setCell ⟨w.heap.size + 1 + 1 + 1, 1, none⟩ (.int .i64 yx) = U := ⟨_, rfl⟩
      have cS14 := H_x.out.cell 1
      have fS14 := H_x.out.frozen 1
      have gS14 := H_x.out.lt
      have N_m : Blk S14 (w.heap.size) 72 #[.slice yA yn yc, .int .i64 yi, .slice yL ym yd, .int .i64 yx, .int .i64 ye] := hS14 ▸ H_m.out.other (p := ⟨w.heap.size + 1 + 1 + 1, 1, none⟩) (by show w.heap.size + 1 + 1 + 1 ≠ _; omega) _
      have N_sp : Blk S14 (w.heap.size + 1) 28 #[.int .i64 code, .int .i64 mem, .int .i64 stack, .int .i64 val, .slice W ws.length wc] := hS14 ▸ H_sp.out.other (p := ⟨w.heap.size + 1 + 1 + 1, 1, none⟩) (by show w.heap.size + 1 + 1 + 1 ≠ _; omega) _
      have N_res : Blk S14 (w.heap.size + 1 + 1) 78 #[.slice none 0 0, .int .i64 0, .slice none 0 0, .int .i64 0, .int .i64 0, .bool false, .int .i64 0, .int .i64 0] := hS14 ▸ H_res.out.other (p := ⟨w.heap.size + 1 + 1 + 1, 1, none⟩) (by show w.heap.size + 1 + 1 + 1 ≠ _; omega) _
      have N_x : Blk S14 (w.heap.size + 1 + 1 + 1) 70 #[.bool false, .int .i64 yx, .int .i64 0] := hS14 ▸ H_x.out.set_ 1 (.int .i64 yx)
      have NB := hS14 ▸ HB.out.setCell (p := ⟨w.heap.size + 1 + 1 + 1, 1, none⟩) (by show w.heap.size ≤ w.heap.size + 1 + 1 + 1; omega) _
      have NL := HL.out.keep fun k hk1 hk2 => (show S14.heap[k]? = _ from hS14 ▸ Below.heap_setCell _ ⟨w.heap.size + 1 + 1 + 1, 1, none⟩ _ k (by have := HLS.out; show k ≠ w.heap.size + 1 + 1 + 1; omega))
      clear H_m H_sp H_res H_x HB HL
      have H_m := Lib.hid N_m
      have H_sp := Lib.hid N_sp
      have H_res := Lib.hid N_res
      have H_x := Lib.hid N_x
      have HB := Lib.hid NB
      have HL := Lib.hid NL
      clear N_m N_sp N_res N_x NB NL
      have h0 := HBL.out ⟨yA, yn, yc, yi, yL, ym, yd, yx, ye⟩ _ (k : Int) S14 ⟨by have := HKK.out; omega, by have := HKK.out; omega⟩ HM1.out HB.out HL.out.at_
      have HC := Lib.hid h0
      clear h0
      have q16_ := H_m.out
      have q16_0 := q16_.cell 0
      have q16_1 := q16_.cell 1
      have q16_2 := q16_.cell 2
      have q16_3 := q16_.cell 3
      have q16_4 := q16_.cell 4
      have HLS2 : Hid (w.heap.size + 1 + 1 + 1 < S14.heap.size) := Lib.hid H_x.out.lt
      go_wp2_with (first | (refine wpList_store_rowTo rfl 72 (.tmp 4) (.tmp 29) rfl rfl (w.heap.size) #[.slice yA yn yc, .int .i64 yi, .slice yL ym yd, .int .i64 yx, .int .i64 ye] rfl rfl 72 _ bR11_.out Try.sizeM15 rfl (by kernel_rfl) ?_))
      refine (HC.out).mono ?_
      rintro e v2 ⟨⟨zA, zn, zc, zi, zL, zm, zd, zx, ze⟩, rfl, hm2, hl2, hb2⟩
      clear eR11_ bR11_ hS14
      have N_m : Blk v2 (w.heap.size) 72 #[.slice yA yn yc, .int .i64 yi, .slice yL ym yd, .int .i64 yx, .int .i64 ye] := H_m.out.below hb2 H_m.out.lt
      have N_sp : Blk v2 (w.heap.size + 1) 28 #[.int .i64 code, .int .i64 mem, .int .i64 stack, .int .i64 val, .slice W ws.length wc] := H_sp.out.below hb2 H_sp.out.lt
      have N_res : Blk v2 (w.heap.size + 1 + 1) 78 #[.slice none 0 0, .int .i64 0, .slice none 0 0, .int .i64 0, .int .i64 0, .bool false, .int .i64 0, .int .i64 0] := H_res.out.below hb2 H_res.out.lt
      have N_x : Blk v2 (w.heap.size + 1 + 1 + 1) 70 #[.bool false, .int .i64 yx, .int .i64 0] := H_x.out.below hb2 H_x.out.lt
      have NB := HB.out.trans (hb2.mono HB.out.size)
      have NL := HL.out.keep fun k hk1 hk2 => hb2.block k hk2
      clear q12_ q12_0 q12_1 q12_2 q12_3 q12_4 q13_ q13_0 q13_1 q13_2 cS14 fS14 q16_ q16_0 q16_1 q16_2 q16_3 q16_4
      clear H_m H_sp H_res H_x HB HL
      have H_m := Lib.hid N_m
      have H_sp := Lib.hid N_sp
      have H_res := Lib.hid N_res
      have H_x := Lib.hid N_x
      have HB := Lib.hid NB
      have HL := Lib.hid NL
      clear N_m N_sp N_res N_x NB NL
      dsimp only
      clear HLS
      have HLS := HLS2
      clear HL
      have HL := Lib.hid hl2
      clear hl2
      have HM2 := Lib.hid hm2
      clear hm2 hb2 HC HLS2
      have gR17_ := H_m.out.lt
      obtain ⟨R17_, eR17_, kR17_, hR17_, yR17_⟩ := row15 H_m.out #[.slice zA zn zc, .int .i64 zi, .slice zL zm zd, .int .i64 zx, .int .i64 ze]
      have bR17_ := H_m
      have N_m : Blk R17_ (w.heap.size) 72 #[.slice zA zn zc, .int .i64 zi, .slice zL zm zd, .int .i64 zx, .int .i64 ze] := kR17_.out
      have N_sp : Blk R17_ (w.heap.size + 1) 28 #[.int .i64 code, .int .i64 mem, .int .i64 stack, .int .i64 val, .slice W ws.length wc] := (hR17_.out _ (by omega)).trans H_sp.out
      have N_res : Blk R17_ (w.heap.size + 1 + 1) 78 #[.slice none 0 0, .int .i64 0, .slice none 0 0, .int .i64 0, .int .i64 0, .bool false, .int .i64 0, .int .i64 0] := (hR17_.out _ (by omega)).trans H_res.out
      have N_x : Blk R17_ (w.heap.size + 1 + 1 + 1) 70 #[.bool false, .int .i64 yx, .int .i64 0] := (hR17_.out _ (by omega)).trans H_x.out
      have NB := yR17_.out _ _ (by omega) HB.out
      have NL := HL.out.keep fun k hk1 hk2 => hR17_.out k (by have := HLS.out; omega)
      clear H_m H_sp H_res H_x HB HL
      have H_m := Lib.hid N_m
      have H_sp := Lib.hid N_sp
      have H_res := Lib.hid N_res
      have H_x := Lib.hid N_x
      have HB := Lib.hid NB
      have HL := Lib.hid NL
      clear N_m N_sp N_res N_x NB NL
      clear kR17_ hR17_ yR17_
      have q18_ := H_m.out
      have q18_0 := q18_.cell 0
      have q18_1 := q18_.cell 1
      have q18_2 := q18_.cell 2
      have q18_3 := q18_.cell 3
      have q18_4 := q18_.cell 4
      have q19_ := H_x.out
      have q19_0 := q19_.cell 0
      have q19_1 := q19_.cell 1
      have q19_2 := q19_.cell 2
      obtain ⟨S20, hS20⟩ : ∃ U, R17_.setCell ⟨w.heap.size + 1 + 1 + 1, 2, none⟩ (.int .i64 zx) = U := ⟨_, rfl⟩
      have cS20 := H_x.out.cell 2
      have fS20 := H_x.out.frozen 2
      have gS20 := H_x.out.lt
      have N_m : Blk S20 (w.heap.size) 72 #[.slice zA zn zc, .int .i64 zi, .slice zL zm zd, .int .i64 zx, .int .i64 ze] := hS20 ▸ H_m.out.other (p := ⟨w.heap.size + 1 + 1 + 1, 2, none⟩) (by show w.heap.size + 1 + 1 + 1 ≠ _; omega) _
      have N_sp : Blk S20 (w.heap.size + 1) 28 #[.int .i64 code, .int .i64 mem, .int .i64 stack, .int .i64 val, .slice W ws.length wc] := hS20 ▸ H_sp.out.other (p := ⟨w.heap.size + 1 + 1 + 1, 2, none⟩) (by show w.heap.size + 1 + 1 + 1 ≠ _; omega) _
      have N_res : Blk S20 (w.heap.size + 1 + 1) 78 #[.slice none 0 0, .int .i64 0, .slice none 0 0, .int .i64 0, .int .i64 0, .bool false, .int .i64 0, .int .i64 0] := hS20 ▸ H_res.out.other (p := ⟨w.heap.size + 1 + 1 + 1, 2, none⟩) (by show w.heap.size + 1 + 1 + 1 ≠ _; omega) _
      have N_x : Blk S20 (w.heap.size + 1 + 1 + 1) 70 #[.bool false, .int .i64 yx, .int .i64 zx] := hS20 ▸ H_x.out.set_ 2 (.int .i64 zx)
      have NB := hS20 ▸ HB.out.setCell (p := ⟨w.heap.size + 1 + 1 + 1, 2, none⟩) (by show w.heap.size ≤ w.heap.size + 1 + 1 + 1; omega) _
      have NL := HL.out.keep fun k hk1 hk2 => (show S20.heap[k]? = _ from hS20 ▸ Below.heap_setCell _ ⟨w.heap.size + 1 + 1 + 1, 2, none⟩ _ k (by have := HLS.out; show k ≠ w.heap.size + 1 + 1 + 1; omega))
      clear H_m H_sp H_res H_x HB HL
      have H_m := Lib.hid N_m
      have H_sp := Lib.hid N_sp
      have H_res := Lib.hid N_res
      have H_x := Lib.hid N_x
      have HB := Lib.hid NB
      have HL := Lib.hid NL
      clear N_m N_sp N_res N_x NB NL
      have q22_ := H_m.out
      have q22_0 := q22_.cell 0
      have q22_1 := q22_.cell 1
      have q22_2 := q22_.cell 2
      have q22_3 := q22_.cell 3
      have q22_4 := q22_.cell 4
      have q23_ := H_x.out
      have q23_0 := q23_.cell 0
      have q23_1 := q23_.cell 1
      have q23_2 := q23_.cell 2
      have q24_ := H_res.out
      have q24_0 := q24_.cell 0
      have q24_1 := q24_.cell 1
      have q24_2 := q24_.cell 2
      have q24_3 := q24_.cell 3
      have q24_4 := q24_.cell 4
      have q24_5 := q24_.cell 5
      have q24_6 := q24_.cell 6
      have q24_7 := q24_.cell 7
      have gR25_ := H_res.out.lt
      obtain ⟨R25_, eR25_, kR25_, hR25_, yR25_⟩ := row15 H_res.out #[.slice zA zn zc, .int .i64 zi, .slice zL zm zd, .int .i64 zx, .int .i64 ze, .bool false, .int .i64 yx, .int .i64 zx]
      have bR25_ := H_res
      have N_m : Blk R25_ (w.heap.size) 72 #[.slice zA zn zc, .int .i64 zi, .slice zL zm zd, .int .i64 zx, .int .i64 ze] := (hR25_.out _ (by omega)).trans H_m.out
      have N_sp : Blk R25_ (w.heap.size + 1) 28 #[.int .i64 code, .int .i64 mem, .int .i64 stack, .int .i64 val, .slice W ws.length wc] := (hR25_.out _ (by omega)).trans H_sp.out
      have N_res : Blk R25_ (w.heap.size + 1 + 1) 78 #[.slice zA zn zc, .int .i64 zi, .slice zL zm zd, .int .i64 zx, .int .i64 ze, .bool false, .int .i64 yx, .int .i64 zx] := kR25_.out
      have N_x : Blk R25_ (w.heap.size + 1 + 1 + 1) 70 #[.bool false, .int .i64 yx, .int .i64 zx] := (hR25_.out _ (by omega)).trans H_x.out
      have NB := yR25_.out _ _ (by omega) HB.out
      have NL := HL.out.keep fun k hk1 hk2 => hR25_.out k (by have := HLS.out; omega)
      clear H_m H_sp H_res H_x HB HL
      have H_m := Lib.hid N_m
      have H_sp := Lib.hid N_sp
      have H_res := Lib.hid N_res
      have H_x := Lib.hid N_x
      have HB := Lib.hid NB
      have HL := Lib.hid NL
      clear N_m N_sp N_res N_x NB NL
      clear kR25_ hR25_ yR25_
      have q26_ := H_res.out
      have q26_0 := q26_.cell 0
      have q26_1 := q26_.cell 1
      have q26_2 := q26_.cell 2
      have q26_3 := q26_.cell 3
      have q26_4 := q26_.cell 4
      have q26_5 := q26_.cell 5
      have q26_6 := q26_.cell 6
      have q26_7 := q26_.cell 7
      have hE := slot_end false HM1.out HM2.out HL.out
      have hR : ans = Gn.endS list k false (Gn.run (β := Int) (Gn.num list val) (some (z0, d0))) := by
        rw [← HANS.out]
        show Gn.endS list k (decide (z0 = 1)) (Gn.slotV list _ z0 d0) = _; rw [decide_eq_false hz1]; unfold Gn.slotV; rw [if_neg hz1]; rfl
      rw [← hR] at hE
      have HE := Lib.hid hE
      clear hE hR
      go_wp2_with (first | (refine wpList_store_rowTo rfl 72 (.tmp 4) (.tmp 35) rfl rfl (w.heap.size) #[.slice zA zn zc, .int .i64 zi, .slice zL zm zd, .int .i64 zx, .int .i64 ze] rfl rfl 72 _ bR17_.out Try.sizeM15 rfl (by kernel_rfl) ?_) | (refine wpList_store_rowTo rfl 78 (.tmp 8) (.tmp 41) rfl rfl (w.heap.size + 1 + 1) #[.slice zA zn zc, .int .i64 zi, .slice zL zm zd, .int .i64 zx, .int .i64 ze, .bool false, .int .i64 yx, .int .i64 zx] rfl rfl 78 _ bR25_.out Try.sizeL15 rfl (by kernel_rfl) ?_))
      exact bodyPost_ret (v := .agg #[.slice zA zn zc, .int .i64 zi, .slice zL zm zd, .int .i64 zx, .int .i64 ze, .bool false, .int .i64 yx, .int .i64 zx]) (by simp [results, Try.results26, go_sem, q26_0, q26_1, q26_2, q26_3, q26_4, q26_5, q26_6, q26_7]) rfl ⟨⟨zA, zn, zc, zi, zL, zm, zd, zx, ze⟩, zx, false, yx, zx, rfl, HE.out.1, HE.out.2.1, HE.out.2.2.less (by have := HLS.out; omega), HB.out⟩
end Go.Proofs.Ytmbgndcahlopdaa

/- The reference of stage 15: what Weighted and took tell of what choices read. -/
namespace Go.Proofs.Ytmbgndcahlopdaa
set_option maxRecDepth 100000
open Go.RowKit Go.Shelf

/-- An answer of Take's kind, as took takes it. -/
def TOf (A : Option Addr) (n c : Nat) (x : MM) (r : Option (Int × Gn.D)) (B : Nat) (t : TA) (W : World) : Prop := MSh A n c (x.took t) r ∧ LogNew B W (x.took t) r
theorem KeptR.of (A : Option Addr) (n c : Nat) (x : MM) (r : Option (Int × Gn.D)) : KeptR (TOf A n c x r) := ⟨fun h hk => ⟨h.1, h.2.keep hk⟩, fun h hB => ⟨h.1, h.2.less hB⟩⟩
theorem Gn.wtd_no {list ws : List Int} {d : Gn.D} (h : d.log.length = 2000) : Gn.wtd list ws d = none := by unfold Gn.wtd; rw [Gn.bnd_none (Gn.tk_no h)]
theorem Gn.wtd_yes {list ws : List Int} {d : Gn.D} (h : ¬ d.log.length = 2000) : Gn.wtd list ws d = some (((Pk.picks ws (Dr.choice list d.i (Pk.sum ws)) : Nat) : Int), ⟨Dr.next list d.i, d.log ++ [Dr.choice list d.i (Pk.sum ws)]⟩) := by unfold Gn.wtd; rw [Gn.bnd_some (Gn.tk_yes h)]; rfl
theorem wtd15_any {A W0 : Option Addr} {list ws : List Int} (n c wn wc : Nat) (x : MM) (r : Option (Int × Gn.D)) (w : World) (hx : MSh A n c x r) (hA : Row w w.heap.size A (ints list)) (hn : list.length = n) (hn5 : n ≤ 500) (hL : LogAt w x r) (hW : Row w w.heap.size W0 (ints ws)) (hwn : ws.length = wn) (hr : Pk.right ws = true) (hwc : wn ≤ wc) :
    Calls Try.prog 49 #[x.dv, .slice W0 wn wc] w fun e w' => ∃ t : TA, e = .returned t.v ∧ TOf A n c x (Gn.run (Gn.wtd list ws) r) w.heap.size t w' ∧ Below w.heap.size w w' := by
  obtain ⟨hg, h1, h20, hs0⟩ := Pk.right_good hr
  have hlow := (Pk.sum_low hg).2
  have hb1 : 1 ≤ Pk.sum ws := by omega
  have hB : Pk.sum ws < 9223372036854775808 := by omega
  cases r with
  | none =>
    have hx : x = ⟨none, 0, 0, 0, none, 0, 0, 0, 8⟩ := hx
    subst hx
    have h := rWeighted14_yes (A := none) (L := none) (log := []) 0 0 0 0 wn wc (Dr.next [] 0) 0 (Dr.choice [] 0 (Pk.sum ws)) w hW hwn (by omega) hwc hr fun W2 h2 => rTake13_yes (A := none) (L := none) (list := []) (log := []) 0 0 0 0 0 (Pk.sum ws) W2 Row.nil Row.nil rfl rfl (by decide) hb1 (by decide) hB
    refine h.mono ?_
    rintro e w' ⟨L', d', rfl, -, hb⟩
    exact ⟨⟨none, 0, 0, _, L', 0 + 1, d', _, none, 0, 0, 0⟩, rfl, ⟨rfl, fun z d e => (by cases e)⟩, hb⟩
  | some p =>
    obtain ⟨z, d⟩ := p
    obtain ⟨hx, hm⟩ := hx
    obtain ⟨xA, xn, xc, xi, xL, xm, xd, xx, xe⟩ := x
    have hrow : Row w w.heap.size xL (ints d.log) := hL z d rfl
    injection hx with e1 e2 e3 e4 _ e6 _ e8 e9
    subst e1 e2 e3 e4 e6 e8 e9
    by_cases hm2 : d.log.length = 2000
    · have h := rWeighted14_no (A := xA) (L := xL) xn xc d.log.length xd wn wc 8 (d.i : Int) w hW hwn (by omega) hwc hr (.inr rfl) fun W2 h2 => by
        have h := rTake13_no (A := xA) (L := xL) xn xc d.log.length xd (d.i : Int) (Pk.sum ws) W2 fun h3 => h3.2.2 hm2
        rw [if_pos ⟨right15 hn5 hm, hb1⟩] at h
        exact h
      refine h.mono ?_
      rintro e w' ⟨rfl, hb⟩
      have e9 : Gn.run (Gn.wtd list ws) (some (xx, d)) = none := Gn.wtd_no hm2
      rw [e9]
      exact ⟨⟨none, 0, 0, 0, none, 0, 0, 0, none, 0, 0, 8⟩, rfl, ⟨rfl, fun z d e => (by cases e)⟩, hb⟩
    · have h := rWeighted14_yes (A := xA) (L := xL) (log := d.log) xn xc d.log.length xd wn wc (Dr.next list d.i) (d.i : Int) (Dr.choice list d.i (Pk.sum ws)) w hW hwn (by omega) hwc hr fun W2 h2 => rTake13_yes (A := xA) (L := xL) xn xc d.log.length xd d.i (Pk.sum ws) W2 ((hA.below h2).more h2.size) ((hrow.below h2).more h2.size) hn rfl (right15 hn5 hm) hb1 hm2 hB
      refine h.mono ?_
      rintro e w' ⟨L', d', rfl, ho, hb⟩
      have e9 : Gn.run (Gn.wtd list ws) (some (xx, d)) = some (((Pk.picks ws (Dr.choice list d.i (Pk.sum ws)) : Nat) : Int), ⟨Dr.next list d.i, d.log ++ [Dr.choice list d.i (Pk.sum ws)]⟩) := Gn.wtd_yes hm2
      rw [e9]
      have e10 : (d.log ++ [Dr.choice list d.i (Pk.sum ws)]).length = d.log.length + 1 := by simp
      refine ⟨⟨xA, xn, xc, _, L', d.log.length + 1, d', _, none, 0, 0, 0⟩, rfl, ⟨⟨?_, by rw [e10]; omega⟩, fun z' d2 e => ?_⟩, hb⟩
      · rw [e10]; rfl
      · injection e with e
        injection e with _ e
        subst e
        rw [e10]
        exact ho
end Go.Proofs.Ytmbgndcahlopdaa

/- The reference of stage 15: Instruction (by gen_gng.py). -/
namespace Go.Proofs.Ytmbgndcahlopdaa
set_option maxRecDepth 100000
open Go.RowKit Go.Shelf
attribute [local go_sem] Oper.semAt_some

theorem Try.sizeI15 : (Try.prog.info? 75).map (·.size) = some 8 := by kernel_rfl
theorem LogNew.put {α : Type} {B g : Nat} {t : TypeId} {cs : Array Value} {W W' : World} {y : MM} {r : Option (α × Gn.D)} (h : LogNew B W y r) (hb : Blk W g t cs) (ht : 3 ≠ t) (hk : ∀ k, k ≠ g → W'.heap[k]? = W.heap[k]?) : LogNew B W' y r := fun z d e => own_ofD (h z d e) fun g' hg' => hk g' (by
  obtain ⟨cs', hb'⟩ := own_blkD (h z d e) hg'
  exact hb'.ty_neD hb ht)
/-- What Instruction answers. -/
def GotI (w : World) (A : Option Addr) (n c : Nat) (r : Option (Cd.In × Gn.D)) (e : Ending) (w' : World) : Prop :=
  ∃ (y : MM) (z a b l : Int), e = .returned (.agg #[.slice y.A y.n y.c, .int .i64 y.i, .slice y.L y.m y.d, .int .i64 y.mx, .int .i64 y.me, .int .i64 a, .int .i64 b, .int .i64 l]) ∧ MSh A n c y (r.map fun p => (z, p.2)) ∧ (∀ x d, r = some (x, d) → x = ⟨a, b, l⟩) ∧ LogNew w.heap.size w' y r ∧ Below w.heap.size w w'
/-- Behind the Op. -/
def Gn.restI (list : List Int) (k : Nat) (p : Gn.Sp) : Option (Int × Gn.D) → Option (Cd.In × Gn.D)
  | none => none
  | some (op, d) => Gn.behind list k p op d
theorem Gn.ins_rest (list : List Int) (k : Nat) (p : Gn.Sp) (r : Option (Int × Gn.D)) : Gn.run (Gn.ins list k p) r = Gn.restI list k p (Gn.run (Gn.wtd list p.ws) r) := by
  cases r with
  | none => rfl
  | some q =>
    obtain ⟨z0, d0⟩ := q
    show Gn.bnd (Gn.wtd list p.ws) (Gn.behind list k p) d0 = Gn.restI list k p (Gn.wtd list p.ws d0)
    cases e : Gn.wtd list p.ws d0 with
    | none => rw [Gn.bnd_none e]; rfl
    | some q => rw [Gn.bnd_some e]; rfl
def Gn.endI (list : List Int) (k : Nat) : Option (Int × Gn.D) → Option (Cd.In × Gn.D)
  | none => none
  | some (v, d) => Gn.bnd (Gn.tk list k) (fun l => Gn.ret ⟨1, v, l⟩) d
theorem instr_end {A : Option Addr} {n c : Nat} {list : List Int} {k : Nat} {y1 y2 : MM} {q1 : Option (Int × Gn.D)} {B : Nat} {W : World} (h1 : MSh A n c y1 q1) (h2 : MSh A n c y2 (Gn.run (Gn.tk list k) q1)) (hL : LogNew B W y2 (Gn.run (Gn.tk list k) q1)) :
    MSh A n c y2 ((Gn.endI list k q1).map fun p => (y2.mx, p.2)) ∧ (∀ x d, Gn.endI list k q1 = some (x, d) → x = ⟨1, y1.mx, y2.mx⟩) ∧ LogNew B W y2 (Gn.endI list k q1) := by
  cases q1 with
  | none => exact ⟨h2, fun x d e => (by cases e), fun x d e => (by cases e)⟩
  | some p =>
    obtain ⟨v, d⟩ := p
    have h2 : MSh A n c y2 (Gn.tk list k d) := h2
    have hL : LogNew B W y2 (Gn.tk list k d) := hL
    have e0 : Gn.endI list k (some (v, d)) = Gn.bnd (Gn.tk list k) (fun l => Gn.ret (⟨1, v, l⟩ : Cd.In)) d := rfl
    rw [e0]
    cases e : Gn.tk list k d with
    | none =>
      rw [Gn.bnd_none e]
      rw [e] at h2
      exact ⟨h2, fun x d e => (by cases e), fun x d e => (by cases e)⟩
    | some q =>
      obtain ⟨l, d2⟩ := q
      rw [Gn.bnd_some e]
      rw [e] at h2 hL
      have e1 : y1.mx = v := by rw [h1.1]
      have e2 : y2.mx = l := by rw [h2.1]
      refine ⟨?_, fun x d e => ?_, fun x d e => ?_⟩
      · show MSh A n c y2 (some (y2.mx, d2))
        rw [e2]; exact h2
      · injection e with e
        injection e with e _
        rw [← e, e1, e2]
      · injection e with e
        injection e with _ e
        exact e ▸ hL l d2 rfl
theorem one_end {A : Option Addr} {n c : Nat} {list : List Int} {op b : Int} {y : MM} {d : Gn.D} {B : Nat} {W : World} (h : MSh A n c y (Gn.tk list b d)) (hL : LogNew B W y (Gn.tk list b d)) :
    MSh A n c y ((Gn.bnd (Gn.tk list b) (fun v => Gn.ret (⟨op, v, 0⟩ : Cd.In)) d).map fun p => (y.mx, p.2)) ∧ (∀ x d', Gn.bnd (Gn.tk list b) (fun v => Gn.ret (⟨op, v, 0⟩ : Cd.In)) d = some (x, d') → x = ⟨op, y.mx, 0⟩) ∧ LogNew B W y (Gn.bnd (Gn.tk list b) (fun v => Gn.ret (⟨op, v, 0⟩ : Cd.In)) d) := by
  cases e : Gn.tk list b d with
  | none =>
    rw [Gn.bnd_none e]
    rw [e] at h
    exact ⟨h, fun x d e => (by cases e), fun x d e => (by cases e)⟩
  | some q =>
    obtain ⟨v, d2⟩ := q
    rw [Gn.bnd_some e]
    rw [e] at h hL
    have e1 : y.mx = v := by rw [h.1]
    refine ⟨?_, fun x d e => ?_, fun x d e => ?_⟩
    · show MSh A n c y (some (y.mx, d2))
      rw [e1]; exact h
    · injection e with e
      injection e with e _
      rw [← e, e1]
    · injection e with e
      injection e with _ e
      exact e ▸ hL v d2 rfl
set_option maxHeartbeats 16000000 in
theorem rInstr15_any {A W : Option Addr} {list : List Int} (n c k : Nat) (x : MM) (r : Option (Int × Gn.D)) (p : Gn.Sp) (wc : Nat) (w : World) (hx : MSh A n c x r) (hA : Row w w.heap.size A (ints list)) (hn : list.length = n) (hn5 : n ≤ 500) (hL : LogAt w x r) (hv : 0 ≤ p.val ∧ p.val ≤ 20) (hk : 1 ≤ k ∧ k ≤ 1000) (hW : Row w w.heap.size W (ints p.ws)) (hr : Pk.right p.ws = true) (hwc : p.ws.length ≤ wc) :
    Calls Try.prog 25 #[x.v, .int .i64 (k : Int), spv p W wc] w (GotI w A n c (Gn.run (Gn.ins list k p) r)) := by
  rw [Gn.ins_rest]
  have HOP := Lib.hid (Gn.Out.wtd list hr)
  have HWT := Lib.hid fun (V : World) (hV : Below w.heap.size w V) => wtd15_any n c p.ws.length wc x r V hx ((hA.below hV).more hV.size) hn hn5 (fun z d e => ((hL z d e).below hV).more hV.size) ((hW.below hV).more hV.size) rfl hr hwc
  have HTK := Lib.hid x.took_any
  have HKR := Lib.hid (KeptR.of A n c x (Gn.run (Gn.wtd list p.ws) r))
  obtain ⟨tk, htk⟩ : ∃ f : TA → MM, x.took = f := ⟨_, rfl⟩
  unfold TOf at HWT HKR
  rw [htk] at HTK HWT HKR
  unfold MM.dv at HWT
  obtain ⟨code, mem, stack, val, ws⟩ := p
  have HNM := Lib.hid fun (x : MM) (r : Option (Int × Gn.D)) (V : World) (hx : MSh A n c x r) (hV : Below w.heap.size w V) (hL : LogAt V x r) => rNumber15_any (W0 := W) n c x r ⟨code, mem, stack, val, ws⟩ wc V hx ((hA.below hV).more hV.size) hn hn5 hL hv
  have HBL := Lib.hid fun (x : MM) (r : Option (Int × Gn.D)) (b : Int) (V : World) (h1 : 1 ≤ b ∧ b < 9223372036854775808) (hx : MSh A n c x r) (hV : Below w.heap.size w V) (hL : LogAt V x r) => rBelow15_any n c x r b V hx ((hA.below hV).more hV.size) hn hn5 hL h1.1 h1.2
  unfold spv at HNM ⊢
  unfold Chose at HNM HBL
  unfold MM.v MM.cs at HNM HBL HTK ⊢
  dsimp only at HNM HBL HWT HTK HKR HOP hv ⊢
  obtain ⟨xA, xn, xc, xi, xL, xm, xd, xx, xe⟩ := x
  dsimp only at HWT HTK ⊢
  have hb := (((Below.refl _ w).alloc (Nat.le_refl _) (.cells #[.slice xA xn xc, .int .i64 xi, .slice xL xm xd, .int .i64 xx, .int .i64 xe] 72)).alloc (by simp) (.cells #[.int .i64 code, .int .i64 mem, .int .i64 stack, .int .i64 val, .slice W ws.length wc] 28)).alloc (by simp; omega) (.cells #[.slice none 0 0, .int .i64 0, .slice none 0 0, .int .i64 0, .int .i64 0, .int .i64 0, .int .i64 0, .int .i64 0] 75)
  obtain ⟨W0, hW0⟩ : ∃ W0, (((w.alloc (.cells #[.slice xA xn xc, .int .i64 xi, .slice xL xm xd, .int .i64 xx, .int .i64 xe] 72)).alloc (.cells #[.int .i64 code, .int .i64 mem, .int .i64 stack, .int .i64 val, .slice W ws.length wc] 28)).alloc (.cells #[.slice none 0 0, .int .i64 0, .slice none 0 0, .int .i64 0, .int .i64 0, .int .i64 0, .int .i64 0, .int .i64 0] 75)) = W0 := ⟨_, rfl⟩
  have hp0 : Blk W0 (w.heap.size) 72 #[.slice xA xn xc, .int .i64 xi, .slice xL xm xd, .int .i64 xx, .int .i64 xe] := hW0 ▸ (((Blk.new w 72 #[.slice xA xn xc, .int .i64 xi, .slice xL xm xd, .int .i64 xx, .int .i64 xe]).alloc (.cells #[.int .i64 code, .int .i64 mem, .int .i64 stack, .int .i64 val, .slice W ws.length wc] 28)).alloc (.cells #[.slice none 0 0, .int .i64 0, .slice none 0 0, .int .i64 0, .int .i64 0, .int .i64 0, .int .i64 0, .int .i64 0] 75))
  have H_m := Lib.hid hp0
  have hp1 : Blk W0 (w.heap.size + 1) 28 #[.int .i64 code, .int .i64 mem, .int .i64 stack, .int .i64 val, .slice W ws.length wc] := by
    have h1 := ((Blk.new (w.alloc (.cells #[.slice xA xn xc, .int .i64 xi, .slice xL xm xd, .int .i64 xx, .int .i64 xe] 72)) 28 #[.int .i64 code, .int .i64 mem, .int .i64 stack, .int .i64 val, .slice W ws.length wc]).alloc (.cells #[.slice none 0 0, .int .i64 0, .slice none 0 0, .int .i64 0, .int .i64 0, .int .i64 0, .int .i64 0, .int .i64 0] 75))
    rw [World.size_alloc] at h1
    rw [← hW0]; exact h1
  have H_sp := Lib.hid hp1
  have hp2 : Blk W0 (w.heap.size + 1 + 1) 75 #[.slice none 0 0, .int .i64 0, .slice none 0 0, .int .i64 0, .int .i64 0, .int .i64 0, .int .i64 0, .int .i64 0] := by
    have h1 := (Blk.new ((w.alloc (.cells #[.slice xA xn xc, .int .i64 xi, .slice xL xm xd, .int .i64 xx, .int .i64 xe] 72)).alloc (.cells #[.int .i64 code, .int .i64 mem, .int .i64 stack, .int .i64 val, .slice W ws.length wc] 28)) 75 #[.slice none 0 0, .int .i64 0, .slice none 0 0, .int .i64 0, .int .i64 0, .int .i64 0, .int .i64 0, .int .i64 0])
    rw [World.size_alloc, World.size_alloc] at h1
    rw [← hW0]; exact h1
  have H_res := Lib.hid hp2
  rw [hW0] at hb
  have HB := Lib.hid hb
  clear hb hp0 hp1 hp2
  have HKK := Lib.hid hk
  have HSK : Hid (∀ W', Below W0.heap.size W0 W' → W'.cell? ⟨w.heap.size, 0, none⟩ = some (.slice xA xn xc) ∧ W'.cell? ⟨w.heap.size, 1, none⟩ = some (.int .i64 xi) ∧ W'.cell? ⟨w.heap.size, 2, none⟩ = some (.slice xL xm xd) ∧ W'.cell? ⟨w.heap.size, 3, none⟩ = some (.int .i64 xx) ∧ W'.cell? ⟨w.heap.size, 4, none⟩ = some (.int .i64 xe) ∧ W'.cell? ⟨w.heap.size + 1, 4, none⟩ = some (.slice W ws.length wc)) := Lib.hid fun W' hb =>
    have h1 := H_m.out.below hb H_m.out.lt
    have h2 := H_sp.out.below hb H_sp.out.lt
    ⟨h1.cell 0, h1.cell 1, h1.cell 2, h1.cell 3, h1.cell 4, h2.cell 4⟩
  have BR := Lib.hid (Below.refl W0.heap.size W0)
  have BD := Lib.hid ((Below.refl W0.heap.size W0).drew)
  have HWB : Hid (∀ W', Below W0.heap.size W0 W' → Below w.heap.size w W') := Lib.hid fun W' hb => HB.out.trans (hb.mono HB.out.size)
  obtain ⟨q, hq⟩ : ∃ q, Gn.run (Gn.wtd list ws) r = q := ⟨_, rfl⟩
  have hqo : ∀ op d, q = some (op, d) → 0 ≤ op ∧ op < ws.length := fun op d e => by
    cases r with
    | none => rw [← hq] at e; cases e
    | some p => obtain ⟨z, d0⟩ := p; rw [← hq] at e; have := HOP.out d0 op d e; exact ⟨this.1, this.2.1⟩
  have HQO := Lib.hid hqo
  rw [hq] at HWT HKR ⊢
  clear hx hA hn hL hk hW hr htk HOP hq hqo
  go_enter Try.func25, Try.ntmps25
  go_wp2_with (fail)
  refine Free.region_seq [5, 6, 7] [0, 2, 4] 6 (fun W' => W'.cell? ⟨w.heap.size, 0, none⟩ = some (.slice xA xn xc) ∧ W'.cell? ⟨w.heap.size, 1, none⟩ = some (.int .i64 xi) ∧ W'.cell? ⟨w.heap.size, 2, none⟩ = some (.slice xL xm xd) ∧ W'.cell? ⟨w.heap.size, 3, none⟩ = some (.int .i64 xx) ∧ W'.cell? ⟨w.heap.size, 4, none⟩ = some (.int .i64 xe) ∧ W'.cell? ⟨w.heap.size + 1, 4, none⟩ = some (.slice W ws.length wc)) (by kernel_rfl) (by kernel_rfl) (by kernel_rfl) (by kernel_rfl) (HSK.out _ BD.out) (fun ops hops => ?_)
  clear hops
  iterate 5
    refine Free.Seq.quiet (v := ?_) (a' := ?_) rfl rfl (fun W' hW' => ?_) ?_ ?_
    rotate_left 2
    · first | obtain ⟨s0, s1, s2, s3, s4, s5⟩ := hW' rfl | skip
      go_simp
      try with_reducible rfl
    · simp only [Act.put, List.setIfInBounds_toArray, List.set_cons_zero, List.set_cons_succ]
      try with_reducible rfl
  refine Free.Seq.loud_ rfl (.inl rfl) (fun K hK => ?_)
  go_simp
  refine (HWT.out _ (HWB.out _ BD.out)).mono ?_
  rintro e wa ⟨t, rfl, hrt, hba⟩
  have hA : Below W0.heap.size W0 wa := BD.out.trans (hba.mono BD.out.size)
  obtain ⟨tB, tn2, tc2, tj, tK, tm2, td2, ttx, tE, tq, tf, tte⟩ := t
  unfold TA.v
  dsimp only
  refine hK.out _ _ rfl (fun _ => HSK.out _ hA) ?_
  clear hK K
  refine Free.Seq.loud_ rfl (.inl rfl) (fun K hK => ?_)
  go_simp
  refine (HTK.out ⟨tB, tn2, tc2, tj, tK, tm2, td2, ttx, tE, tq, tf, tte⟩ _).mono ?_
  rintro e wb ⟨rfl, hbb⟩
  have hB : Below W0.heap.size W0 wb := hA.trans (hbb.mono hA.size)
  have hrt2 := HKR.out.keep hrt fun k _ hk => hbb.block k hk
  obtain ⟨a, ha⟩ : ∃ a, tk ⟨tB, tn2, tc2, tj, tK, tm2, td2, ttx, tE, tq, tf, tte⟩ = a := ⟨_, rfl⟩
  rw [ha] at hrt2 ⊢
  obtain ⟨aA, an, ac, ai, aL, am, ad, ax, ae⟩ := a
  dsimp only
  refine hK.out _ _ rfl (fun h => absurd h (by decide)) ?_
  clear hK K
  have hk5 := H_m.out.below hB H_m.out.lt
  have hk6 := H_sp.out.below hB H_sp.out.lt
  have hk7 := H_res.out.below hB H_res.out.lt
  obtain ⟨Z1, Z2, Z3, Z4, Z5, e0, e1, e2, e3, e4, f0, f1, f2, f3, f4, g0, g1, g2, g3, g4, r0, r1, r2, r3, r4, hkz, hyh, HYB⟩ := n5_steps15 hk5 (.slice aA an ac) (.int .i64 ai) (.slice aL am ad) (.int .i64 ax) (.int .i64 ae)
  have HBZ := Lib.hid (HYB.out _ _ (Nat.le_refl _) (HWB.out _ hB))
  have hk8 : Blk Z5 (w.heap.size + 1) 28 #[.int .i64 code, .int .i64 mem, .int .i64 stack, .int .i64 val, .slice W ws.length wc] := (hyh.out _ (by omega)).trans hk6
  have hk9 : Blk Z5 (w.heap.size + 1 + 1) 75 #[.slice none 0 0, .int .i64 0, .slice none 0 0, .int .i64 0, .int .i64 0, .int .i64 0, .int .i64 0, .int .i64 0] := (hyh.out _ (by omega)).trans hk7
  have HLZ := Lib.hid (hrt2.2.put hk5 (by decide) hyh.out)
  have HM0 := Lib.hid hrt2.1
  have HWA := Lib.hid (show w.heap.size ≤ wb.heap.size from (HWB.out _ hB).size)
  have HWZ := Lib.hid (HWB.out _ BD.out).size
  refine Free.Seq.loud_ rfl (.inl rfl) (fun K hK => ?_)
  go_simp
  refine hK.out _ _ rfl (fun h => absurd h (by decide)) ?_
  clear hK K
  refine Free.Seq.nil_ ?_
  clear H_m H_sp H_res HB
  have H_m := hkz
  have H_sp := Lib.hid hk8
  have H_res := Lib.hid hk9
  have HB := HBZ
  have HL := HLZ
  clear hkz hk8 hk9 HBZ HLZ hk5 hk6 hk7 hrt hrt2 hyh HYB hba hbb hA hB ha HSK BR BD HWB HWT HTK HKR e0 e1 e2 e3 e4 f0 f1 f2 f3 f4 g0 g1 g2 g3 g4
  have q1_ := H_m.out
  have q1_0 := q1_.cell 0
  have q1_1 := q1_.cell 1
  have q1_2 := q1_.cell 2
  have q1_3 := q1_.cell 3
  have q1_4 := q1_.cell 4
  have lA2_m := H_m.out.lt
  have lA2_sp := H_sp.out.lt
  have lA2_res := H_res.out.lt
  obtain ⟨A2_, eA2_⟩ : ∃ U, Z5.alloc (.cells #[.int .i64 0, .int .i64 0, .int .i64 0] 66) = U := ⟨_, rfl⟩
  have nA2_ : Blk A2_ (Z5.heap.size) 66 #[.int .i64 0, .int .i64 0, .int .i64 0] := eA2_ ▸ Blk.new _ _ _
  have zA2_ := HB.out.size
  have N_m : Blk A2_ (w.heap.size) 72 #[.slice aA an ac, .int .i64 ai, .slice aL am ad, .int .i64 ax, .int .i64 ae] := eA2_ ▸ H_m.out.alloc _
  have N_sp : Blk A2_ (w.heap.size + 1) 28 #[.int .i64 code, .int .i64 mem, .int .i64 stack, .int .i64 val, .slice W ws.length wc] := eA2_ ▸ H_sp.out.alloc _
  have N_res : Blk A2_ (w.heap.size + 1 + 1) 75 #[.slice none 0 0, .int .i64 0, .slice none 0 0, .int .i64 0, .int .i64 0, .int .i64 0, .int .i64 0, .int .i64 0] := eA2_ ▸ H_res.out.alloc _
  have NB := eA2_ ▸ HB.out.alloc HB.out.size _
  have NL := HL.out.keep fun k _ hk2 => (show A2_.heap[k]? = _ from eA2_ ▸ Below.heap_alloc _ _ k hk2)
  clear H_m H_sp H_res HB HL
  have H_m := Lib.hid N_m
  have H_sp := Lib.hid N_sp
  have H_res := Lib.hid N_res
  have HB := Lib.hid NB
  have HL := Lib.hid NL
  clear N_m N_sp N_res NB NL
  have H_x := Lib.hid nA2_
  clear nA2_
  have gP3_ := H_x.out.lt
  obtain ⟨P3_1, P3_2, P3_3, eP3_0, eP3_1, eP3_2, fP3_0, fP3_1, fP3_2, gP3_0, gP3_1, gP3_2, rP3_0, rP3_1, rP3_2, kP3_, hP3_, yP3_⟩ := n3_steps H_x.out (.int .i64 ax) (.int .i64 0) (.int .i64 0)
  have N_m : Blk P3_3 (w.heap.size) 72 #[.slice aA an ac, .int .i64 ai, .slice aL am ad, .int .i64 ax, .int .i64 ae] := (hP3_.out _ (by omega)).trans H_m.out
  have N_sp : Blk P3_3 (w.heap.size + 1) 28 #[.int .i64 code, .int .i64 mem, .int .i64 stack, .int .i64 val, .slice W ws.length wc] := (hP3_.out _ (by omega)).trans H_sp.out
  have N_res : Blk P3_3 (w.heap.size + 1 + 1) 75 #[.slice none 0 0, .int .i64 0, .slice none 0 0, .int .i64 0, .int .i64 0, .int .i64 0, .int .i64 0, .int .i64 0] := (hP3_.out _ (by omega)).trans H_res.out
  have N_x : Blk P3_3 (Z5.heap.size) 66 #[.int .i64 ax, .int .i64 0, .int .i64 0] := kP3_.out
  have NB := yP3_.out _ _ (by omega) HB.out
  have NL := HL.out.put H_x.out (by decide) hP3_.out
  clear H_m H_sp H_res H_x HB HL
  have H_m := Lib.hid N_m
  have H_sp := Lib.hid N_sp
  have H_res := Lib.hid N_res
  have H_x := Lib.hid N_x
  have HB := Lib.hid NB
  have HL := Lib.hid NL
  clear N_m N_sp N_res N_x NB NL
  clear kP3_ hP3_ yP3_
  have q4_ := H_m.out
  have q4_0 := q4_.cell 0
  have q4_1 := q4_.cell 1
  have q4_2 := q4_.cell 2
  have q4_3 := q4_.cell 3
  have q4_4 := q4_.cell 4
  have q5_ := H_x.out
  have q5_0 := q5_.cell 0
  have q5_1 := q5_.cell 1
  have q5_2 := q5_.cell 2
  cases q with
  | none =>
    have hae : ae = 8 := congrArg MM.me HM0.out
    subst hae
    have gR6_ := H_res.out.lt
    obtain ⟨R6_, eR6_, kR6_, hR6_, yR6_⟩ := row15 H_res.out #[.slice aA an ac, .int .i64 ai, .slice aL am ad, .int .i64 ax, .int .i64 8, .int .i64 0, .int .i64 0, .int .i64 0]
    have bR6_ := H_res
    have N_m : Blk R6_ (w.heap.size) 72 #[.slice aA an ac, .int .i64 ai, .slice aL am ad, .int .i64 ax, .int .i64 8] := (hR6_.out _ (by omega)).trans H_m.out
    have N_sp : Blk R6_ (w.heap.size + 1) 28 #[.int .i64 code, .int .i64 mem, .int .i64 stack, .int .i64 val, .slice W ws.length wc] := (hR6_.out _ (by omega)).trans H_sp.out
    have N_res : Blk R6_ (w.heap.size + 1 + 1) 75 #[.slice aA an ac, .int .i64 ai, .slice aL am ad, .int .i64 ax, .int .i64 8, .int .i64 0, .int .i64 0, .int .i64 0] := kR6_.out
    have N_x : Blk R6_ (Z5.heap.size) 66 #[.int .i64 ax, .int .i64 0, .int .i64 0] := (hR6_.out _ (by omega)).trans H_x.out
    have NB := yR6_.out _ _ (by omega) HB.out
    have NL := HL.out.put H_res.out (by decide) hR6_.out
    clear H_m H_sp H_res H_x HB HL
    have H_m := Lib.hid N_m
    have H_sp := Lib.hid N_sp
    have H_res := Lib.hid N_res
    have H_x := Lib.hid N_x
    have HB := Lib.hid NB
    have HL := Lib.hid NL
    clear N_m N_sp N_res N_x NB NL
    clear kR6_ hR6_ yR6_
    have q7_ := H_res.out
    have q7_0 := q7_.cell 0
    have q7_1 := q7_.cell 1
    have q7_2 := q7_.cell 2
    have q7_3 := q7_.cell 3
    have q7_4 := q7_.cell 4
    have q7_5 := q7_.cell 5
    have q7_6 := q7_.cell 6
    have q7_7 := q7_.cell 7
    go_wp2_with (first | (refine wpList_store_rowTo rfl 75 (.tmp 6) (.tmp 22) rfl rfl (w.heap.size + 1 + 1) #[.slice aA an ac, .int .i64 ai, .slice aL am ad, .int .i64 ax, .int .i64 8, .int .i64 0, .int .i64 0, .int .i64 0] rfl rfl 75 _ bR6_.out Try.sizeI15 rfl (by kernel_rfl) ?_))
    try rw [eR6_]
    exact bodyPost_ret (v := .agg #[.slice aA an ac, .int .i64 ai, .slice aL am ad, .int .i64 ax, .int .i64 8, .int .i64 0, .int .i64 0, .int .i64 0]) (by simp [results, Try.results25, go_sem, q7_0, q7_1, q7_2, q7_3, q7_4, q7_5, q7_6, q7_7]) rfl ⟨⟨aA, an, ac, ai, aL, am, ad, ax, 8⟩, ax, 0, 0, 0, rfl, HM0.out, fun x d e => (by cases e), fun x d e => (by cases e), HB.out⟩
  | some q =>
    obtain ⟨op, d0⟩ := q
    have hae : ae = 0 := congrArg MM.me HM0.out.1
    have hax : op = ax := (congrArg MM.mx HM0.out.1).symm
    subst hax
    subst hae
    have hop := HQO.out op d0 rfl
    by_cases h1 : op = 1
    · subst h1
      have h0 := HNM.out ⟨aA, an, ac, ai, aL, am, ad, 1, 0⟩ _ P3_3 HM0.out HB.out HL.out.at_
      have HC := Lib.hid h0
      clear h0
      have q6_ := H_sp.out
      have q6_0 := q6_.cell 0
      have q6_1 := q6_.cell 1
      have q6_2 := q6_.cell 2
      have q6_3 := q6_.cell 3
      have q6_4 := q6_.cell 4
      go_wp2_with (fail)
      refine (HC.out).mono ?_
      rintro e v1 ⟨⟨yA, yn, yc, yi, yL, ym, yd, yx, ye⟩, rfl, hm1, hl1, hb1⟩
      clear eA2_ eP3_0 eP3_1 eP3_2
      have N_m : Blk v1 (w.heap.size) 72 #[.slice aA an ac, .int .i64 ai, .slice aL am ad, .int .i64 1, .int .i64 0] := H_m.out.below hb1 H_m.out.lt
      have N_sp : Blk v1 (w.heap.size + 1) 28 #[.int .i64 code, .int .i64 mem, .int .i64 stack, .int .i64 val, .slice W ws.length wc] := H_sp.out.below hb1 H_sp.out.lt
      have N_res : Blk v1 (w.heap.size + 1 + 1) 75 #[.slice none 0 0, .int .i64 0, .slice none 0 0, .int .i64 0, .int .i64 0, .int .i64 0, .int .i64 0, .int .i64 0] := H_res.out.below hb1 H_res.out.lt
      have N_x : Blk v1 (Z5.heap.size) 66 #[.int .i64 1, .int .i64 0, .int .i64 0] := H_x.out.below hb1 H_x.out.lt
      have NB := HB.out.trans (hb1.mono HB.out.size)
      have NL := HL.out.keep fun k _ hk2 => hb1.block k hk2
      clear r0 r1 r2 r3 r4 q1_ q1_0 q1_1 q1_2 q1_3 q1_4 fP3_0 fP3_1 fP3_2 gP3_0 gP3_1 gP3_2 rP3_0 rP3_1 rP3_2 q4_ q4_0 q4_1 q4_2 q4_3 q4_4 q5_ q5_0 q5_1 q5_2 q6_ q6_0 q6_1 q6_2 q6_3 q6_4
      clear H_m H_sp H_res H_x HB HL
      have H_m := Lib.hid N_m
      have H_sp := Lib.hid N_sp
      have H_res := Lib.hid N_res
      have H_x := Lib.hid N_x
      have HB := Lib.hid NB
      have HL := Lib.hid NL
      clear N_m N_sp N_res N_x NB NL
      dsimp only
      clear HL
      have HL := Lib.hid hl1
      clear hl1
      have HM1 := Lib.hid hm1
      clear hm1 hb1 HC
      have gR7_ := H_m.out.lt
      obtain ⟨R7_, eR7_, kR7_, hR7_, yR7_⟩ := row15 H_m.out #[.slice yA yn yc, .int .i64 yi, .slice yL ym yd, .int .i64 yx, .int .i64 ye]
      have bR7_ := H_m
      have N_m : Blk R7_ (w.heap.size) 72 #[.slice yA yn yc, .int .i64 yi, .slice yL ym yd, .int .i64 yx, .int .i64 ye] := kR7_.out
      have N_sp : Blk R7_ (w.heap.size + 1) 28 #[.int .i64 code, .int .i64 mem, .int .i64 stack, .int .i64 val, .slice W ws.length wc] := (hR7_.out _ (by omega)).trans H_sp.out
      have N_res : Blk R7_ (w.heap.size + 1 + 1) 75 #[.slice none 0 0, .int .i64 0, .slice none 0 0, .int .i64 0, .int .i64 0, .int .i64 0, .int .i64 0, .int .i64 0] := (hR7_.out _ (by omega)).trans H_res.out
      have N_x : Blk R7_ (Z5.heap.size) 66 #[.int .i64 1, .int .i64 0, .int .i64 0] := (hR7_.out _ (by omega)).trans H_x.out
      have NB := yR7_.out _ _ (by omega) HB.out
      have NL := HL.out.put H_m.out (by decide) hR7_.out
      clear H_m H_sp H_res H_x HB HL
      have H_m := Lib.hid N_m
      have H_sp := Lib.hid N_sp
      have H_res := Lib.hid N_res
      have H_x := Lib.hid N_x
      have HB := Lib.hid NB
      have HL := Lib.hid NL
      clear N_m N_sp N_res N_x NB NL
      clear kR7_ hR7_ yR7_
      have q8_ := H_m.out
      have q8_0 := q8_.cell 0
      have q8_1 := q8_.cell 1
      have q8_2 := q8_.cell 2
      have q8_3 := q8_.cell 3
      have q8_4 := q8_.cell 4
      have q9_ := H_x.out
      have q9_0 := q9_.cell 0
      have q9_1 := q9_.cell 1
      have q9_2 := q9_.cell 2
      obtain ⟨S10, hS10⟩ : ∃ U, R7_.setCell ⟨Z5.heap.size, 1, none⟩ (.int .i64 yx) = U := ⟨_, rfl⟩
      have cS10 := H_x.out.cell 1
      have fS10 := H_x.out.frozen 1
      have gS10 := H_x.out.lt
      have N_m : Blk S10 (w.heap.size) 72 #[.slice yA yn yc, .int .i64 yi, .slice yL ym yd, .int .i64 yx, .int .i64 ye] := hS10 ▸ H_m.out.other (p := ⟨Z5.heap.size, 1, none⟩) (by show Z5.heap.size ≠ _; omega) _
      have N_sp : Blk S10 (w.heap.size + 1) 28 #[.int .i64 code, .int .i64 mem, .int .i64 stack, .int .i64 val, .slice W ws.length wc] := hS10 ▸ H_sp.out.other (p := ⟨Z5.heap.size, 1, none⟩) (by show Z5.heap.size ≠ _; omega) _
      have N_res : Blk S10 (w.heap.size + 1 + 1) 75 #[.slice none 0 0, .int .i64 0, .slice none 0 0, .int .i64 0, .int .i64 0, .int .i64 0, .int .i64 0, .int .i64 0] := hS10 ▸ H_res.out.other (p := ⟨Z5.heap.size, 1, none⟩) (by show Z5.heap.size ≠ _; omega) _
      have N_x : Blk S10 (Z5.heap.size) 66 #[.int .i64 1, .int .i64 yx, .int .i64 0] := hS10 ▸ H_x.out.set_ 1 (.int .i64 yx)
      have NB := hS10 ▸ HB.out.setCell (p := ⟨Z5.heap.size, 1, none⟩) (by show w.heap.size ≤ Z5.heap.size; omega) _
      have NL := HL.out.put H_x.out (by decide) (fun k hk => (show S10.heap[k]? = _ from hS10 ▸ Below.heap_setCell _ ⟨Z5.heap.size, 1, none⟩ _ k hk))
      clear H_m H_sp H_res H_x HB HL
      have H_m := Lib.hid N_m
      have H_sp := Lib.hid N_sp
      have H_res := Lib.hid N_res
      have H_x := Lib.hid N_x
      have HB := Lib.hid NB
      have HL := Lib.hid NL
      clear N_m N_sp N_res N_x NB NL
      have h0 := HBL.out ⟨yA, yn, yc, yi, yL, ym, yd, yx, ye⟩ _ (k : Int) S10 ⟨by have := HKK.out; omega, by have := HKK.out; omega⟩ HM1.out HB.out HL.out.at_
      have HC := Lib.hid h0
      clear h0
      have HW2 := Lib.hid HB.out.size
      have q11_ := H_m.out
      have q11_0 := q11_.cell 0
      have q11_1 := q11_.cell 1
      have q11_2 := q11_.cell 2
      have q11_3 := q11_.cell 3
      have q11_4 := q11_.cell 4
      go_wp2_with (first | (refine wpList_store_rowTo rfl 72 (.tmp 3) (.tmp 28) rfl rfl (w.heap.size) #[.slice yA yn yc, .int .i64 yi, .slice yL ym yd, .int .i64 yx, .int .i64 ye] rfl rfl 72 _ bR7_.out Try.sizeM15 rfl (by kernel_rfl) ?_))
      refine (HC.out).mono ?_
      rintro e v2 ⟨⟨zA, zn, zc, zi, zL, zm, zd, zx, ze⟩, rfl, hm2, hl2, hb2⟩
      clear eR7_ bR7_ hS10
      have N_m : Blk v2 (w.heap.size) 72 #[.slice yA yn yc, .int .i64 yi, .slice yL ym yd, .int .i64 yx, .int .i64 ye] := H_m.out.below hb2 H_m.out.lt
      have N_sp : Blk v2 (w.heap.size + 1) 28 #[.int .i64 code, .int .i64 mem, .int .i64 stack, .int .i64 val, .slice W ws.length wc] := H_sp.out.below hb2 H_sp.out.lt
      have N_res : Blk v2 (w.heap.size + 1 + 1) 75 #[.slice none 0 0, .int .i64 0, .slice none 0 0, .int .i64 0, .int .i64 0, .int .i64 0, .int .i64 0, .int .i64 0] := H_res.out.below hb2 H_res.out.lt
      have N_x : Blk v2 (Z5.heap.size) 66 #[.int .i64 1, .int .i64 yx, .int .i64 0] := H_x.out.below hb2 H_x.out.lt
      have NB := HB.out.trans (hb2.mono HB.out.size)
      have NL := HL.out.keep fun k _ hk2 => hb2.block k hk2
      clear q8_ q8_0 q8_1 q8_2 q8_3 q8_4 q9_ q9_0 q9_1 q9_2 cS10 fS10 q11_ q11_0 q11_1 q11_2 q11_3 q11_4
      clear H_m H_sp H_res H_x HB HL
      have H_m := Lib.hid N_m
      have H_sp := Lib.hid N_sp
      have H_res := Lib.hid N_res
      have H_x := Lib.hid N_x
      have HB := Lib.hid NB
      have HL := Lib.hid NL
      clear N_m N_sp N_res N_x NB NL
      dsimp only
      clear HL
      have HL := Lib.hid hl2
      clear hl2
      have HM2 := Lib.hid hm2
      clear hm2 hb2 HC
      have gR12_ := H_m.out.lt
      obtain ⟨R12_, eR12_, kR12_, hR12_, yR12_⟩ := row15 H_m.out #[.slice zA zn zc, .int .i64 zi, .slice zL zm zd, .int .i64 zx, .int .i64 ze]
      have bR12_ := H_m
      have N_m : Blk R12_ (w.heap.size) 72 #[.slice zA zn zc, .int .i64 zi, .slice zL zm zd, .int .i64 zx, .int .i64 ze] := kR12_.out
      have N_sp : Blk R12_ (w.heap.size + 1) 28 #[.int .i64 code, .int .i64 mem, .int .i64 stack, .int .i64 val, .slice W ws.length wc] := (hR12_.out _ (by omega)).trans H_sp.out
      have N_res : Blk R12_ (w.heap.size + 1 + 1) 75 #[.slice none 0 0, .int .i64 0, .slice none 0 0, .int .i64 0, .int .i64 0, .int .i64 0, .int .i64 0, .int .i64 0] := (hR12_.out _ (by omega)).trans H_res.out
      have N_x : Blk R12_ (Z5.heap.size) 66 #[.int .i64 1, .int .i64 yx, .int .i64 0] := (hR12_.out _ (by omega)).trans H_x.out
      have NB := yR12_.out _ _ (by omega) HB.out
      have NL := HL.out.put H_m.out (by decide) hR12_.out
      clear H_m H_sp H_res H_x HB HL
      have H_m := Lib.hid N_m
      have H_sp := Lib.hid N_sp
      have H_res := Lib.hid N_res
      have H_x := Lib.hid N_x
      have HB := Lib.hid NB
      have HL := Lib.hid NL
      clear N_m N_sp N_res N_x NB NL
      clear kR12_ hR12_ yR12_
      have q13_ := H_m.out
      have q13_0 := q13_.cell 0
      have q13_1 := q13_.cell 1
      have q13_2 := q13_.cell 2
      have q13_3 := q13_.cell 3
      have q13_4 := q13_.cell 4
      have q14_ := H_x.out
      have q14_0 := q14_.cell 0
      have q14_1 := q14_.cell 1
      have q14_2 := q14_.cell 2
      obtain ⟨S15, hS15⟩ : ∃ U, R12_.setCell ⟨Z5.heap.size, 2, none⟩ (.int .i64 zx) = U := ⟨_, rfl⟩
      have cS15 := H_x.out.cell 2
      have fS15 := H_x.out.frozen 2
      have gS15 := H_x.out.lt
      have N_m : Blk S15 (w.heap.size) 72 #[.slice zA zn zc, .int .i64 zi, .slice zL zm zd, .int .i64 zx, .int .i64 ze] := hS15 ▸ H_m.out.other (p := ⟨Z5.heap.size, 2, none⟩) (by show Z5.heap.size ≠ _; omega) _
      have N_sp : Blk S15 (w.heap.size + 1) 28 #[.int .i64 code, .int .i64 mem, .int .i64 stack, .int .i64 val, .slice W ws.length wc] := hS15 ▸ H_sp.out.other (p := ⟨Z5.heap.size, 2, none⟩) (by show Z5.heap.size ≠ _; omega) _
      have N_res : Blk S15 (w.heap.size + 1 + 1) 75 #[.slice none 0 0, .int .i64 0, .slice none 0 0, .int .i64 0, .int .i64 0, .int .i64 0, .int .i64 0, .int .i64 0] := hS15 ▸ H_res.out.other (p := ⟨Z5.heap.size, 2, none⟩) (by show Z5.heap.size ≠ _; omega) _
      have N_x : Blk S15 (Z5.heap.size) 66 #[.int .i64 1, .int .i64 yx, .int .i64 zx] := hS15 ▸ H_x.out.set_ 2 (.int .i64 zx)
      have NB := hS15 ▸ HB.out.setCell (p := ⟨Z5.heap.size, 2, none⟩) (by show w.heap.size ≤ Z5.heap.size; omega) _
      have NL := HL.out.put H_x.out (by decide) (fun k hk => (show S15.heap[k]? = _ from hS15 ▸ Below.heap_setCell _ ⟨Z5.heap.size, 2, none⟩ _ k hk))
      clear H_m H_sp H_res H_x HB HL
      have H_m := Lib.hid N_m
      have H_sp := Lib.hid N_sp
      have H_res := Lib.hid N_res
      have H_x := Lib.hid N_x
      have HB := Lib.hid NB
      have HL := Lib.hid NL
      clear N_m N_sp N_res N_x NB NL
      have q16_ := H_m.out
      have q16_0 := q16_.cell 0
      have q16_1 := q16_.cell 1
      have q16_2 := q16_.cell 2
      have q16_3 := q16_.cell 3
      have q16_4 := q16_.cell 4
      have q17_ := H_x.out
      have q17_0 := q17_.cell 0
      have q17_1 := q17_.cell 1
      have q17_2 := q17_.cell 2
      have q18_ := H_res.out
      have q18_0 := q18_.cell 0
      have q18_1 := q18_.cell 1
      have q18_2 := q18_.cell 2
      have q18_3 := q18_.cell 3
      have q18_4 := q18_.cell 4
      have q18_5 := q18_.cell 5
      have q18_6 := q18_.cell 6
      have q18_7 := q18_.cell 7
      have gR19_ := H_res.out.lt
      obtain ⟨R19_, eR19_, kR19_, hR19_, yR19_⟩ := row15 H_res.out #[.slice zA zn zc, .int .i64 zi, .slice zL zm zd, .int .i64 zx, .int .i64 ze, .int .i64 1, .int .i64 yx, .int .i64 zx]
      have bR19_ := H_res
      have N_m : Blk R19_ (w.heap.size) 72 #[.slice zA zn zc, .int .i64 zi, .slice zL zm zd, .int .i64 zx, .int .i64 ze] := (hR19_.out _ (by omega)).trans H_m.out
      have N_sp : Blk R19_ (w.heap.size + 1) 28 #[.int .i64 code, .int .i64 mem, .int .i64 stack, .int .i64 val, .slice W ws.length wc] := (hR19_.out _ (by omega)).trans H_sp.out
      have N_res : Blk R19_ (w.heap.size + 1 + 1) 75 #[.slice zA zn zc, .int .i64 zi, .slice zL zm zd, .int .i64 zx, .int .i64 ze, .int .i64 1, .int .i64 yx, .int .i64 zx] := kR19_.out
      have N_x : Blk R19_ (Z5.heap.size) 66 #[.int .i64 1, .int .i64 yx, .int .i64 zx] := (hR19_.out _ (by omega)).trans H_x.out
      have NB := yR19_.out _ _ (by omega) HB.out
      have NL := HL.out.put H_res.out (by decide) hR19_.out
      clear H_m H_sp H_res H_x HB HL
      have H_m := Lib.hid N_m
      have H_sp := Lib.hid N_sp
      have H_res := Lib.hid N_res
      have H_x := Lib.hid N_x
      have HB := Lib.hid NB
      have HL := Lib.hid NL
      clear N_m N_sp N_res N_x NB NL
      clear kR19_ hR19_ yR19_
      have hE := instr_end HM1.out HM2.out HL.out
      have hR : Gn.restI list k ⟨code, mem, stack, val, ws⟩ (some (1, d0)) = Gn.endI list k (Gn.run (β := Int) (Gn.num list val) (some (1, d0))) := by
        show Gn.bnd (Gn.num list val) _ d0 = Gn.endI list k (Gn.num list val d0)
        cases e : Gn.num list val d0 with
        | none => rw [Gn.bnd_none e]; rfl
        | some q => rw [Gn.bnd_some e]; rfl
      rw [← hR] at hE
      have HE := Lib.hid hE
      clear hE hR
      have q20_ := H_res.out
      have q20_0 := q20_.cell 0
      have q20_1 := q20_.cell 1
      have q20_2 := q20_.cell 2
      have q20_3 := q20_.cell 3
      have q20_4 := q20_.cell 4
      have q20_5 := q20_.cell 5
      have q20_6 := q20_.cell 6
      have q20_7 := q20_.cell 7
      go_wp2_with (first | (refine wpList_store_rowTo rfl 72 (.tmp 3) (.tmp 34) rfl rfl (w.heap.size) #[.slice zA zn zc, .int .i64 zi, .slice zL zm zd, .int .i64 zx, .int .i64 ze] rfl rfl 72 _ bR12_.out Try.sizeM15 rfl (by kernel_rfl) ?_) | (refine wpList_store_rowTo rfl 75 (.tmp 6) (.tmp 59) rfl rfl (w.heap.size + 1 + 1) #[.slice zA zn zc, .int .i64 zi, .slice zL zm zd, .int .i64 zx, .int .i64 ze, .int .i64 1, .int .i64 yx, .int .i64 zx] rfl rfl 75 _ bR19_.out Try.sizeI15 rfl (by kernel_rfl) ?_))
      try rw [eR19_]
      exact bodyPost_ret (v := .agg #[.slice zA zn zc, .int .i64 zi, .slice zL zm zd, .int .i64 zx, .int .i64 ze, .int .i64 1, .int .i64 yx, .int .i64 zx]) (by simp [results, Try.results25, go_sem, q20_0, q20_1, q20_2, q20_3, q20_4, q20_5, q20_6, q20_7]) rfl ⟨⟨zA, zn, zc, zi, zL, zm, zd, zx, ze⟩, zx, 1, yx, zx, rfl, HE.out.1, HE.out.2.1, HE.out.2.2.less HW2.out, HB.out⟩
    · have t1 : (op == (1 : Int)) = false := by rw [beq_eq_false_iff_ne]; exact h1
      by_cases h8 : op < 8
      · have t8 : decide (op ≥ 8) = false := decide_eq_false (by omega)
        have q6_ := H_res.out
        have q6_0 := q6_.cell 0
        have q6_1 := q6_.cell 1
        have q6_2 := q6_.cell 2
        have q6_3 := q6_.cell 3
        have q6_4 := q6_.cell 4
        have q6_5 := q6_.cell 5
        have q6_6 := q6_.cell 6
        have q6_7 := q6_.cell 7
        have gR7_ := H_res.out.lt
        obtain ⟨R7_, eR7_, kR7_, hR7_, yR7_⟩ := row15 H_res.out #[.slice aA an ac, .int .i64 ai, .slice aL am ad, .int .i64 op, .int .i64 0, .int .i64 op, .int .i64 0, .int .i64 0]
        have bR7_ := H_res
        have N_m : Blk R7_ (w.heap.size) 72 #[.slice aA an ac, .int .i64 ai, .slice aL am ad, .int .i64 op, .int .i64 0] := (hR7_.out _ (by omega)).trans H_m.out
        have N_sp : Blk R7_ (w.heap.size + 1) 28 #[.int .i64 code, .int .i64 mem, .int .i64 stack, .int .i64 val, .slice W ws.length wc] := (hR7_.out _ (by omega)).trans H_sp.out
        have N_res : Blk R7_ (w.heap.size + 1 + 1) 75 #[.slice aA an ac, .int .i64 ai, .slice aL am ad, .int .i64 op, .int .i64 0, .int .i64 op, .int .i64 0, .int .i64 0] := kR7_.out
        have N_x : Blk R7_ (Z5.heap.size) 66 #[.int .i64 op, .int .i64 0, .int .i64 0] := (hR7_.out _ (by omega)).trans H_x.out
        have NB := yR7_.out _ _ (by omega) HB.out
        have NL := HL.out.put H_res.out (by decide) hR7_.out
        clear H_m H_sp H_res H_x HB HL
        have H_m := Lib.hid N_m
        have H_sp := Lib.hid N_sp
        have H_res := Lib.hid N_res
        have H_x := Lib.hid N_x
        have HB := Lib.hid NB
        have HL := Lib.hid NL
        clear N_m N_sp N_res N_x NB NL
        clear kR7_ hR7_ yR7_
        have hR : Gn.restI list k ⟨code, mem, stack, val, ws⟩ (some (op, d0)) = some (⟨op, 0, 0⟩, d0) := by
          show Gn.behind list k _ op d0 = _
          unfold Gn.behind
          rw [if_neg h1, if_neg (by omega), if_neg (by omega), if_neg (by omega)]
          rfl
        have hm9 : MSh A n c ⟨aA, an, ac, ai, aL, am, ad, op, 0⟩ ((Gn.restI list k ⟨code, mem, stack, val, ws⟩ (some (op, d0))).map fun p => (op, p.2)) := by rw [hR]; exact HM0.out
        have hl9 : LogNew W0.drew.heap.size R7_ ⟨aA, an, ac, ai, aL, am, ad, op, 0⟩ (Gn.restI list k ⟨code, mem, stack, val, ws⟩ (some (op, d0))) := by
          rw [hR]
          intro z d e
          injection e with e
          injection e with _ e
          exact e ▸ HL.out op d0 rfl
        have hx9 : ∀ x d, Gn.restI list k ⟨code, mem, stack, val, ws⟩ (some (op, d0)) = some (x, d) → x = ⟨op, 0, 0⟩ := fun x d e => by
          rw [hR] at e
          injection e with e
          injection e with e _
          exact e.symm
        have HM9 := Lib.hid hm9
        have HL9 := Lib.hid hl9
        have HX9 := Lib.hid hx9
        clear hx9
        clear hR hm9 hl9 h1 hop
        have q8_ := H_res.out
        have q8_0 := q8_.cell 0
        have q8_1 := q8_.cell 1
        have q8_2 := q8_.cell 2
        have q8_3 := q8_.cell 3
        have q8_4 := q8_.cell 4
        have q8_5 := q8_.cell 5
        have q8_6 := q8_.cell 6
        have q8_7 := q8_.cell 7
        go_wp2_with (first | (refine wpList_store_rowTo rfl 75 (.tmp 6) (.tmp 59) rfl rfl (w.heap.size + 1 + 1) #[.slice aA an ac, .int .i64 ai, .slice aL am ad, .int .i64 op, .int .i64 0, .int .i64 op, .int .i64 0, .int .i64 0] rfl rfl 75 _ bR7_.out Try.sizeI15 rfl (by kernel_rfl) ?_))
        try rw [eR7_]
        exact bodyPost_ret (v := .agg #[.slice aA an ac, .int .i64 ai, .slice aL am ad, .int .i64 op, .int .i64 0, .int .i64 op, .int .i64 0, .int .i64 0]) (by simp [results, Try.results25, go_sem, q8_0, q8_1, q8_2, q8_3, q8_4, q8_5, q8_6, q8_7]) rfl ⟨⟨aA, an, ac, ai, aL, am, ad, op, 0⟩, op, op, 0, 0, rfl, HM9.out, HX9.out, HL9.out.less HWZ.out, HB.out⟩
      · by_cases h10 : op ≤ 10
        · have t8 : decide (op ≥ 8) = true := decide_eq_true (by omega)
          have t10 : decide (op ≤ 10) = true := decide_eq_true h10
          obtain ⟨bd, hbd⟩ : ∃ bd : Int, (if op = 8 then 13 else if op = 9 then 4 else 2) = bd := ⟨_, rfl⟩
          have hbd1 : 1 ≤ bd ∧ bd < 9223372036854775808 := by rw [← hbd]; split <;> (try split) <;> omega
          obtain ⟨ix, hix⟩ : ∃ ix : Nat, op - 8 = (ix : Int) := ⟨(op - 8).toNat, by omega⟩
          have hix3 : ix < 3 := by omega
          have hixw : wrap64 (op - 8) = (ix : Int) := by unfold wrap64; omega
          have hixk : IntKind.i64.wrap (ix : Int) = (ix : Int) := by simp [IntKind.wrap, IntKind.bits, IntKind.signed]; omega
          have hix4 : (ix : Int) < 3 := by omega
          have hgx := H_x.out.lt
          have hsk : ∀ W', Below P3_3.heap.size P3_3 W' → W'.cell? ⟨w.heap.size, 0, none⟩ = some (.slice aA an ac) ∧ W'.cell? ⟨w.heap.size, 1, none⟩ = some (.int .i64 ai) ∧ W'.cell? ⟨w.heap.size, 2, none⟩ = some (.slice aL am ad) ∧ W'.cell? ⟨w.heap.size, 3, none⟩ = some (.int .i64 op) ∧ W'.cell? ⟨w.heap.size, 4, none⟩ = some (.int .i64 0) ∧ W'.cell? ⟨Z5.heap.size, 0, none⟩ = some (.int .i64 op) := fun W' hb =>
            have h1 := H_m.out.below hb H_m.out.lt
            have h2 := H_x.out.below hb H_x.out.lt
            ⟨h1.cell 0, h1.cell 1, h1.cell 2, h1.cell 3, h1.cell 4, h2.cell 0⟩
          have HSK := Lib.hid hsk
          have BD := Lib.hid ((Below.refl P3_3.heap.size P3_3).drew)
          have hba : Below P3_3.heap.size P3_3 (P3_3.drew.alloc (.cells #[.int .i64 13, .int .i64 4, .int .i64 2] 3)) := BD.out.alloc (Nat.le_refl _) _
          have HBA := Lib.hid hba
          clear hsk hba
          go_wp2_with (fail)
          refine Free.region_seq [1, 6, 7, 8] [0, 3] 7 (fun W' => W'.cell? ⟨w.heap.size, 0, none⟩ = some (.slice aA an ac) ∧ W'.cell? ⟨w.heap.size, 1, none⟩ = some (.int .i64 ai) ∧ W'.cell? ⟨w.heap.size, 2, none⟩ = some (.slice aL am ad) ∧ W'.cell? ⟨w.heap.size, 3, none⟩ = some (.int .i64 op) ∧ W'.cell? ⟨w.heap.size, 4, none⟩ = some (.int .i64 0) ∧ W'.cell? ⟨Z5.heap.size, 0, none⟩ = some (.int .i64 op)) (by kernel_rfl) (by kernel_rfl) (by kernel_rfl) (by kernel_rfl) (HSK.out _ BD.out) (fun ops hops => ?_)
          clear hops
          iterate 1
            refine Free.Seq.quiet (v := ?_) (a' := ?_) rfl rfl (fun W' hW' => ?_) ?_ ?_
            rotate_left 2
            · first | obtain ⟨s0, s1, s2, s3, s4, s5⟩ := hW' rfl | skip
              go_simp
              try with_reducible rfl
            · simp only [Act.put, List.setIfInBounds_toArray, List.set_cons_zero, List.set_cons_succ]
              try with_reducible rfl
          refine Free.Seq.loud_ rfl (.inl rfl) (fun K hK => ?_)
          go_simp
          obtain ⟨WT, hWT⟩ : ∃ WT, (P3_3.alloc (.cells #[.int .i64 13, .int .i64 4, .int .i64 2] 3)).drew = WT := ⟨_, rfl⟩
          have hbT : Below P3_3.heap.size P3_3 WT := hWT ▸ HBA.out
          have hkT : Blk WT P3_3.heap.size 3 #[.int .i64 13, .int .i64 4, .int .i64 2] := hWT ▸ (Blk.new _ _ _).drew
          have hcT : WT.cell? ⟨P3_3.heap.size, ix, none⟩ = some (.int .i64 bd) := by
            rw [hkT.cell, ← hbd]
            rcases (show ix = 0 ∨ ix = 1 ∨ ix = 2 by omega) with e | e | e
            · have h9 : op = 8 := by omega
              rw [e, h9]; rfl
            · have h9 : op = 9 := by omega
              rw [e, h9]; rfl
            · have h9 : op = 10 := by omega
              rw [e, h9]; rfl
          rw [hWT]
          refine hK.out _ _ rfl (fun _ => HSK.out _ hbT) ?_
          clear hK K
          have HBT := Lib.hid hbT
          iterate 4
            refine Free.Seq.quiet (v := ?_) (a' := ?_) rfl rfl (fun W' hW' => ?_) ?_ ?_
            rotate_left 2
            · first | obtain ⟨s0, s1, s2, s3, s4, s5⟩ := hW' rfl | skip
              go_simp
              try with_reducible rfl
            · simp only [Act.put, List.setIfInBounds_toArray, List.set_cons_zero, List.set_cons_succ]
              try with_reducible rfl
          refine Free.Seq.loud_ rfl (.inl rfl) (fun K hK => ?_)
          go_simp
          refine hK.out _ _ rfl (fun _ => HSK.out _ hbT) ?_
          clear hK K
          refine Free.Seq.loud_ rfl (.inl rfl) (fun K hK => ?_)
          go_simp
          have hbW := HB.out.trans (hbT.mono HB.out.size)
          have hlT := HL.out.keep fun k _ hk2 => hbT.block k hk2
          refine (HBL.out ⟨aA, an, ac, ai, aL, am, ad, op, 0⟩ _ bd WT hbd1 HM0.out hbW hlT.at_).mono ?_
          rintro e v1 ⟨⟨yA, yn, yc, yi, yL, ym, yd, yx, ye⟩, rfl, hm1, hl1, hb1⟩
          dsimp only
          refine hK.out _ _ rfl (fun h => absurd h (by decide)) ?_
          clear hK K
          have hb2 := hbT.trans (hb1.mono hbT.size)
          have N_m := H_m.out.below hb2 H_m.out.lt
          have N_sp := H_sp.out.below hb2 H_sp.out.lt
          have N_res := H_res.out.below hb2 H_res.out.lt
          have N_x := H_x.out.below hb2 H_x.out.lt
          have NB := HB.out.trans (hb2.mono HB.out.size)
          clear H_m H_sp H_res H_x HB HL
          have H_m := Lib.hid N_m
          have H_sp := Lib.hid N_sp
          have H_res := Lib.hid N_res
          have H_x := Lib.hid N_x
          have HB := Lib.hid NB
          have HW2 := Lib.hid hbW.size
          have HL := Lib.hid hl1
          have HM1 := Lib.hid hm1
          have gq1 := H_x.out.lt
          have gq2 := H_res.out.lt
          clear N_m N_sp N_res N_x NB hb1 hb2 hbT hkT hcT hlT hbW hl1 hm1 HSK BD HBA HBT hWT
          have gP6_ := H_m.out.lt
          obtain ⟨P6_1, P6_2, P6_3, P6_4, P6_5, eP6_0, eP6_1, eP6_2, eP6_3, eP6_4, fP6_0, fP6_1, fP6_2, fP6_3, fP6_4, gP6_0, gP6_1, gP6_2, gP6_3, gP6_4, rP6_0, rP6_1, rP6_2, rP6_3, rP6_4, kP6_, hP6_, yP6_⟩ := n5_steps15 H_m.out (.slice yA yn yc) (.int .i64 yi) (.slice yL ym yd) (.int .i64 yx) (.int .i64 ye)
          have N_m : Blk P6_5 (w.heap.size) 72 #[.slice yA yn yc, .int .i64 yi, .slice yL ym yd, .int .i64 yx, .int .i64 ye] := kP6_.out
          have N_sp : Blk P6_5 (w.heap.size + 1) 28 #[.int .i64 code, .int .i64 mem, .int .i64 stack, .int .i64 val, .slice W ws.length wc] := (hP6_.out _ (by omega)).trans H_sp.out
          have N_res : Blk P6_5 (w.heap.size + 1 + 1) 75 #[.slice none 0 0, .int .i64 0, .slice none 0 0, .int .i64 0, .int .i64 0, .int .i64 0, .int .i64 0, .int .i64 0] := (hP6_.out _ (by omega)).trans H_res.out
          have N_x : Blk P6_5 (Z5.heap.size) 66 #[.int .i64 op, .int .i64 0, .int .i64 0] := (hP6_.out _ (by omega)).trans H_x.out
          have NB := yP6_.out _ _ (by omega) HB.out
          have NL := HL.out.put H_m.out (by decide) hP6_.out
          clear H_m H_sp H_res H_x HB HL
          have H_m := Lib.hid N_m
          have H_sp := Lib.hid N_sp
          have H_res := Lib.hid N_res
          have H_x := Lib.hid N_x
          have HB := Lib.hid NB
          have HL := Lib.hid NL
          clear N_m N_sp N_res N_x NB NL
          clear kP6_ hP6_ yP6_
          refine Free.Seq.loud_ rfl (.inl rfl) (fun K hK => ?_)
          go_simp
          refine hK.out _ _ rfl (fun h => absurd h (by decide)) ?_
          clear hK K
          refine Free.Seq.nil_ ?_
          have q61_ := H_m.out
          have q61_0 := q61_.cell 0
          have q61_1 := q61_.cell 1
          have q61_2 := q61_.cell 2
          have q61_3 := q61_.cell 3
          have q61_4 := q61_.cell 4
          have q62_ := H_x.out
          have q62_0 := q62_.cell 0
          have q62_1 := q62_.cell 1
          have q62_2 := q62_.cell 2
          obtain ⟨S63, hS63⟩ : ∃ U, P6_5.setCell ⟨Z5.heap.size, 1, none⟩ (.int .i64 yx) = U := ⟨_, rfl⟩
          have cS63 := H_x.out.cell 1
          have fS63 := H_x.out.frozen 1
          have gS63 := H_x.out.lt
          have N_m : Blk S63 (w.heap.size) 72 #[.slice yA yn yc, .int .i64 yi, .slice yL ym yd, .int .i64 yx, .int .i64 ye] := hS63 ▸ H_m.out.other (p := ⟨Z5.heap.size, 1, none⟩) (by show Z5.heap.size ≠ _; omega) _
          have N_sp : Blk S63 (w.heap.size + 1) 28 #[.int .i64 code, .int .i64 mem, .int .i64 stack, .int .i64 val, .slice W ws.length wc] := hS63 ▸ H_sp.out.other (p := ⟨Z5.heap.size, 1, none⟩) (by show Z5.heap.size ≠ _; omega) _
          have N_res : Blk S63 (w.heap.size + 1 + 1) 75 #[.slice none 0 0, .int .i64 0, .slice none 0 0, .int .i64 0, .int .i64 0, .int .i64 0, .int .i64 0, .int .i64 0] := hS63 ▸ H_res.out.other (p := ⟨Z5.heap.size, 1, none⟩) (by show Z5.heap.size ≠ _; omega) _
          have N_x : Blk S63 (Z5.heap.size) 66 #[.int .i64 op, .int .i64 yx, .int .i64 0] := hS63 ▸ H_x.out.set_ 1 (.int .i64 yx)
          have NB := hS63 ▸ HB.out.setCell (p := ⟨Z5.heap.size, 1, none⟩) (by show w.heap.size ≤ Z5.heap.size; omega) _
          have NL := HL.out.put H_x.out (by decide) (fun k hk => (show S63.heap[k]? = _ from hS63 ▸ Below.heap_setCell _ ⟨Z5.heap.size, 1, none⟩ _ k hk))
          clear H_m H_sp H_res H_x HB HL
          have H_m := Lib.hid N_m
          have H_sp := Lib.hid N_sp
          have H_res := Lib.hid N_res
          have H_x := Lib.hid N_x
          have HB := Lib.hid NB
          have HL := Lib.hid NL
          clear N_m N_sp N_res N_x NB NL
          have q64_ := H_m.out
          have q64_0 := q64_.cell 0
          have q64_1 := q64_.cell 1
          have q64_2 := q64_.cell 2
          have q64_3 := q64_.cell 3
          have q64_4 := q64_.cell 4
          have q65_ := H_x.out
          have q65_0 := q65_.cell 0
          have q65_1 := q65_.cell 1
          have q65_2 := q65_.cell 2
          have q66_ := H_res.out
          have q66_0 := q66_.cell 0
          have q66_1 := q66_.cell 1
          have q66_2 := q66_.cell 2
          have q66_3 := q66_.cell 3
          have q66_4 := q66_.cell 4
          have q66_5 := q66_.cell 5
          have q66_6 := q66_.cell 6
          have q66_7 := q66_.cell 7
          have gR67_ := H_res.out.lt
          obtain ⟨R67_, eR67_, kR67_, hR67_, yR67_⟩ := row15 H_res.out #[.slice yA yn yc, .int .i64 yi, .slice yL ym yd, .int .i64 yx, .int .i64 ye, .int .i64 op, .int .i64 yx, .int .i64 0]
          have bR67_ := H_res
          have N_m : Blk R67_ (w.heap.size) 72 #[.slice yA yn yc, .int .i64 yi, .slice yL ym yd, .int .i64 yx, .int .i64 ye] := (hR67_.out _ (by omega)).trans H_m.out
          have N_sp : Blk R67_ (w.heap.size + 1) 28 #[.int .i64 code, .int .i64 mem, .int .i64 stack, .int .i64 val, .slice W ws.length wc] := (hR67_.out _ (by omega)).trans H_sp.out
          have N_res : Blk R67_ (w.heap.size + 1 + 1) 75 #[.slice yA yn yc, .int .i64 yi, .slice yL ym yd, .int .i64 yx, .int .i64 ye, .int .i64 op, .int .i64 yx, .int .i64 0] := kR67_.out
          have N_x : Blk R67_ (Z5.heap.size) 66 #[.int .i64 op, .int .i64 yx, .int .i64 0] := (hR67_.out _ (by omega)).trans H_x.out
          have NB := yR67_.out _ _ (by omega) HB.out
          have NL := HL.out.put H_res.out (by decide) hR67_.out
          clear H_m H_sp H_res H_x HB HL
          have H_m := Lib.hid N_m
          have H_sp := Lib.hid N_sp
          have H_res := Lib.hid N_res
          have H_x := Lib.hid N_x
          have HB := Lib.hid NB
          have HL := Lib.hid NL
          clear N_m N_sp N_res N_x NB NL
          clear kR67_ hR67_ yR67_
          have hR : Gn.restI list k ⟨code, mem, stack, val, ws⟩ (some (op, d0)) = Gn.bnd (Gn.tk list bd) (fun v => Gn.ret (⟨op, v, 0⟩ : Cd.In)) d0 := by
            show Gn.behind list k _ op d0 = _
            unfold Gn.behind
            rw [if_neg h1]
            by_cases e8 : op = 8
            · have hb : bd = 13 := by rw [← hbd, if_pos e8]
              rw [if_pos e8, hb, e8]
            · rw [if_neg e8]
              by_cases e9 : op = 9
              · have hb : bd = 4 := by rw [← hbd, if_neg e8, if_pos e9]
                rw [if_pos e9, hb, e9]
              · have e10 : op = 10 := by omega
                have hb : bd = 2 := by rw [← hbd, if_neg e8, if_neg e9]
                rw [if_neg e9, if_pos e10, hb, e10]
          have hE := one_end (op := op) (show MSh A n c ⟨yA, yn, yc, yi, yL, ym, yd, yx, ye⟩ (Gn.tk list bd d0) from HM1.out) (show LogNew WT.heap.size R67_ ⟨yA, yn, yc, yi, yL, ym, yd, yx, ye⟩ (Gn.tk list bd d0) from HL.out)
          rw [← hR] at hE
          have HE := Lib.hid hE
          clear hE hR h1 hop hbd hbd1 hix hix3 hixw hixk hix4
          have q68_ := H_res.out
          have q68_0 := q68_.cell 0
          have q68_1 := q68_.cell 1
          have q68_2 := q68_.cell 2
          have q68_3 := q68_.cell 3
          have q68_4 := q68_.cell 4
          have q68_5 := q68_.cell 5
          have q68_6 := q68_.cell 6
          have q68_7 := q68_.cell 7
          go_wp2_with (first | (refine wpList_store_rowTo rfl 75 (.tmp 6) (.tmp 59) rfl rfl (w.heap.size + 1 + 1) #[.slice yA yn yc, .int .i64 yi, .slice yL ym yd, .int .i64 yx, .int .i64 ye, .int .i64 op, .int .i64 yx, .int .i64 0] rfl rfl 75 _ bR67_.out Try.sizeI15 rfl (by kernel_rfl) ?_))
          try rw [eR67_]
          exact bodyPost_ret (v := .agg #[.slice yA yn yc, .int .i64 yi, .slice yL ym yd, .int .i64 yx, .int .i64 ye, .int .i64 op, .int .i64 yx, .int .i64 0]) (by simp [results, Try.results25, go_sem, q68_0, q68_1, q68_2, q68_3, q68_4, q68_5, q68_6, q68_7]) rfl ⟨⟨yA, yn, yc, yi, yL, ym, yd, yx, ye⟩, yx, op, yx, 0, rfl, HE.out.1, HE.out.2.1, HE.out.2.2.less HW2.out, HB.out⟩
        · have t8 : decide (op ≥ 8) = true := decide_eq_true (by omega)
          have t10 : decide (op ≤ 10) = false := decide_eq_false h10
          have q6_ := H_res.out
          have q6_0 := q6_.cell 0
          have q6_1 := q6_.cell 1
          have q6_2 := q6_.cell 2
          have q6_3 := q6_.cell 3
          have q6_4 := q6_.cell 4
          have q6_5 := q6_.cell 5
          have q6_6 := q6_.cell 6
          have q6_7 := q6_.cell 7
          have gR7_ := H_res.out.lt
          obtain ⟨R7_, eR7_, kR7_, hR7_, yR7_⟩ := row15 H_res.out #[.slice aA an ac, .int .i64 ai, .slice aL am ad, .int .i64 op, .int .i64 0, .int .i64 op, .int .i64 0, .int .i64 0]
          have bR7_ := H_res
          have N_m : Blk R7_ (w.heap.size) 72 #[.slice aA an ac, .int .i64 ai, .slice aL am ad, .int .i64 op, .int .i64 0] := (hR7_.out _ (by omega)).trans H_m.out
          have N_sp : Blk R7_ (w.heap.size + 1) 28 #[.int .i64 code, .int .i64 mem, .int .i64 stack, .int .i64 val, .slice W ws.length wc] := (hR7_.out _ (by omega)).trans H_sp.out
          have N_res : Blk R7_ (w.heap.size + 1 + 1) 75 #[.slice aA an ac, .int .i64 ai, .slice aL am ad, .int .i64 op, .int .i64 0, .int .i64 op, .int .i64 0, .int .i64 0] := kR7_.out
          have N_x : Blk R7_ (Z5.heap.size) 66 #[.int .i64 op, .int .i64 0, .int .i64 0] := (hR7_.out _ (by omega)).trans H_x.out
          have NB := yR7_.out _ _ (by omega) HB.out
          have NL := HL.out.put H_res.out (by decide) hR7_.out
          clear H_m H_sp H_res H_x HB HL
          have H_m := Lib.hid N_m
          have H_sp := Lib.hid N_sp
          have H_res := Lib.hid N_res
          have H_x := Lib.hid N_x
          have HB := Lib.hid NB
          have HL := Lib.hid NL
          clear N_m N_sp N_res N_x NB NL
          clear kR7_ hR7_ yR7_
          have hR : Gn.restI list k ⟨code, mem, stack, val, ws⟩ (some (op, d0)) = some (⟨op, 0, 0⟩, d0) := by
            show Gn.behind list k _ op d0 = _
            unfold Gn.behind
            rw [if_neg h1, if_neg (by omega), if_neg (by omega), if_neg (by omega)]
            rfl
          have hm9 : MSh A n c ⟨aA, an, ac, ai, aL, am, ad, op, 0⟩ ((Gn.restI list k ⟨code, mem, stack, val, ws⟩ (some (op, d0))).map fun p => (op, p.2)) := by rw [hR]; exact HM0.out
          have hl9 : LogNew W0.drew.heap.size R7_ ⟨aA, an, ac, ai, aL, am, ad, op, 0⟩ (Gn.restI list k ⟨code, mem, stack, val, ws⟩ (some (op, d0))) := by
            rw [hR]
            intro z d e
            injection e with e
            injection e with _ e
            exact e ▸ HL.out op d0 rfl
          have hx9 : ∀ x d, Gn.restI list k ⟨code, mem, stack, val, ws⟩ (some (op, d0)) = some (x, d) → x = ⟨op, 0, 0⟩ := fun x d e => by
            rw [hR] at e
            injection e with e
            injection e with e _
            exact e.symm
          have HM9 := Lib.hid hm9
          have HL9 := Lib.hid hl9
          have HX9 := Lib.hid hx9
          clear hx9
          clear hR hm9 hl9 h1 hop
          have q8_ := H_res.out
          have q8_0 := q8_.cell 0
          have q8_1 := q8_.cell 1
          have q8_2 := q8_.cell 2
          have q8_3 := q8_.cell 3
          have q8_4 := q8_.cell 4
          have q8_5 := q8_.cell 5
          have q8_6 := q8_.cell 6
          have q8_7 := q8_.cell 7
          go_wp2_with (first | (refine wpList_store_rowTo rfl 75 (.tmp 6) (.tmp 59) rfl rfl (w.heap.size + 1 + 1) #[.slice aA an ac, .int .i64 ai, .slice aL am ad, .int .i64 op, .int .i64 0, .int .i64 op, .int .i64 0, .int .i64 0] rfl rfl 75 _ bR7_.out Try.sizeI15 rfl (by kernel_rfl) ?_))
          try rw [eR7_]
          exact bodyPost_ret (v := .agg #[.slice aA an ac, .int .i64 ai, .slice aL am ad, .int .i64 op, .int .i64 0, .int .i64 op, .int .i64 0, .int .i64 0]) (by simp [results, Try.results25, go_sem, q8_0, q8_1, q8_2, q8_3, q8_4, q8_5, q8_6, q8_7]) rfl ⟨⟨aA, an, ac, ai, aL, am, ad, op, 0⟩, op, op, 0, 0, rfl, HM9.out, HX9.out, HL9.out.less HWZ.out, HB.out⟩
end Go.Proofs.Ytmbgndcahlopdaa
