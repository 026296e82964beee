/- The reference of stage 15: State (by gen_gnj.py). -/
import Derived.Deep.WholeRow
import Derived.Deep.CutBlock
import Derived.Deep.CutRange
import Derived.Test.YtmbgndcahlopdaaGGnH
import Derived.Test.YtmbgndcahlopdaaGGnA
namespace Go.Proofs.Ytmbgndcahlopdaa
set_option maxRecDepth 100000
open Go.RowKit Go.Shelf
attribute [local go_sem] Oper.semAt_some

theorem LogNew.map_at {α : Type} {B : Nat} {W : World} {y : MM} {r : Option (α × Gn.D)} (h : LogNew B W y r) (z : Int) : LogAt W y (r.map fun p => (z, p.2)) := fun z' d e => by
  cases r with
  | none => cases e
  | some p =>
    obtain ⟨x, d0⟩ := p
    have e : some (z, d0) = some (z', d) := e
    injection e with e
    injection e with _ e
    exact e ▸ h.at_ x d0 rfl
theorem Try.sizeS15 : (Try.prog.info? 49).map (·.size) = some 10 := by kernel_rfl
theorem run_map {α β : Type} (f : Gn.G α) (r : Option (β × Gn.D)) (z : Int) : Gn.run f (r.map fun p => (z, p.2)) = Gn.run f (z0 r) := by cases r <;> rfl
theorem st_end {list log : List Int} {k i : Nat} {p : Gn.Sp} {q0 q1 q2 q3 q4 : Option (Int × Gn.D)} {K0 K1 K2 : Nat} {z1 z2 z3 : Int} {cs : List Cd.In} {cs2 cs3 : List St.Slot}
    (hK0 : (q0.elim 0 fun p => p.1.toNat) = K0) (hK1 : Gn.count q1 = K1) (hK2 : Gn.count q2 = K2) (e0 : Gn.run (Gn.tk list (p.code + 1)) (some ((0 : Int), (⟨i, log⟩ : Gn.D))) = q0) (e1 : Gn.run (Gn.tk list (p.mem + 1)) ((Gn.run (Gn.rep (Gn.ins list k p) K0) q0).map fun p => (z1, p.2)) = q1)
    (e2 : Gn.run (Gn.tk list (p.stack + 1)) ((Gn.run (Gn.rep (Gn.slotF list k p) K1) q1).map fun p => (z2, p.2)) = q2) (e3 : Gn.run (Gn.tk list 13) ((Gn.run (Gn.rep (Gn.slot list k p) K2) q2).map fun p => (z3, p.2)) = q3) (e4 : Gn.run (Gn.tk list (k : Int)) q3 = q4)
    (hc : ∀ l d, Gn.run (Gn.rep (Gn.ins list k p) K0) q0 = some (l, d) → l = cs) (hm : ∀ l d, Gn.run (Gn.rep (Gn.slotF list k p) K1) q1 = some (l, d) → l = cs2) (hs : ∀ l d, Gn.run (Gn.rep (Gn.slot list k p) K2) q2 = some (l, d) → l = cs3) :
    Gn.state list k p ⟨i, log⟩ = q4.map fun x => ((⟨⟨gi q3, x.1⟩, cs, cs2.map St.toAtom, cs3, []⟩ : St.State), x.2) := by
  have c0 : Gn.count q0 = K0 := by rw [← hK0]; cases q0 <;> rfl
  have hra : ∀ (q : Option (Int × Gn.D)), Gn.run (Gn.rep (Gn.atom list k p) K1) q = (Gn.run (Gn.rep (Gn.slotF list k p) K1) q).map fun x => (x.1.map St.toAtom, x.2) := fun q => by
    cases q with
    | none => rfl
    | some x => exact Gn.rep_atom list k p K1 x.2
  rw [run_map] at e1 e2 e3
  have e2' : Gn.run (Gn.tk list (p.stack + 1)) (z0 (Gn.run (Gn.rep (Gn.atom list k p) (Gn.count q1)) q1)) = q2 := by
    rw [hK1, hra, ← e2]
    cases Gn.run (Gn.rep (Gn.slotF list k p) K1) q1 <;> rfl
  unfold Gn.state
  rw [Gn.next_rep]
  have e00 : Gn.tk list (p.code + 1) ⟨i, log⟩ = q0 := e0
  rw [e00]
  refine state_q (q1 := q1) (q2 := q2) rfl ?_ rfl e2' rfl ?_ e4 ?_ ?_ ?_
  · rw [c0]; exact e1
  · rw [hK2]; exact e3
  · rw [c0]; exact hc
  · intro l d h
    rw [hK1, hra] at h
    cases e : Gn.run (Gn.rep (Gn.slotF list k p) K1) q1 with
    | none => rw [e] at h; cases h
    | some x =>
      rw [e] at h
      injection h with h
      injection h with h _
      rw [← h, hm x.1 x.2 e]
  · rw [hK2]; exact hs
/-- What State answers. -/
def GotSt (w : World) (A : Option Addr) (n c : Nat) (r : Option (St.State × Gn.D)) (e : Ending) (w' : World) : Prop := match r with
  | none => e = .returned (.agg #[.slice none 0 0, .int .i64 0, .slice none 0 0, .int .i64 0, .int .i64 0, .slice none 0 0, .slice none 0 0, .slice none 0 0, .slice none 0 0, .int .i64 8]) ∧ Below w.heap.size w w'
  | some (s, d) => ∃ (L : Option Addr) (dd : Nat) (cv mv sv : Value), e = .returned (.agg #[.slice A n c, .int .i64 (d.i : Int), .slice L d.log.length dd, .int .i64 s.pc.v, .int .i64 s.pc.l, cv, mv, sv, .slice none 0 0, .int .i64 0]) ∧
      w'.ownsRow w.heap.size 3 1 (.slice L d.log.length dd) d.log.length (ints d.log) ∧ w'.ownsRow w.heap.size 66 3 cv s.code.length (fcells ivs s.code) ∧ w'.ownsRow w.heap.size 34 2 mv s.mem.length (fcells avs s.mem) ∧ w'.ownsRow w.heap.size 70 3 sv s.stack.length (fcells svs s.stack) ∧ Below w.heap.size w w'
set_option maxHeartbeats 16000000 in
theorem rState15_any {N U A L W : Option Addr} {list log : List Int} (n1 k c1 c2 n c dd i wk : Nat) (p : Gn.Sp) (w : World) (hA : Row w w.heap.size A (ints list)) (hL : Row w w.heap.size L (ints log)) (hn : list.length = n) (hn5 : n ≤ 500) (hm : log.length ≤ 2000) (hF : Gn.Fits k p) (hk : k ≤ 1000) (hW : Row w w.heap.size W (ints p.ws)) (hwc : p.ws.length ≤ wk) :
    Calls Try.prog 13 #[.agg #[.slice N n1 c1, .slice U k c2], spv p W wk, .agg #[.slice A n c, .int .i64 (i : Int), .slice L log.length dd]] w (GotSt w A n c (Gn.state list k p ⟨i, log⟩)) := by
  have hv : 0 ≤ p.val ∧ p.val ≤ 20 := ⟨hF.v0, hF.v1⟩
  have hk1 : 1 ≤ k ∧ k ≤ 1000 := ⟨hF.n1, hk⟩
  have HBL := Lib.hid fun (x : MM) (r : Option (Int × Gn.D)) (b : Int) (V : World) (h1 : 1 ≤ b ∧ b < 9223372036854775808) (hx : MSh A n c x r) (hV : Below w.heap.size w V) (hL : LogAt V x r) => rBelow15_any n c x r b V hx ((hA.below hV).more hV.size) hn hn5 hL h1.1 h1.2
  have HIN := Lib.hid fun (x : MM) (r : Option (Int × Gn.D)) (V : World) (hx : MSh A n c x r) (hV : Below w.heap.size w V) (hL : LogAt V x r) => rInstr15_any (W := W) n c k x r p wk V hx ((hA.below hV).more hV.size) hn hn5 hL hv hk1 ((hW.below hV).more hV.size) hF.ws hwc
  have HSF := Lib.hid fun (x : MM) (r : Option (Int × Gn.D)) (V : World) (hx : MSh A n c x r) (hV : Below w.heap.size w V) (hL : LogAt V x r) => rSlotF15_any (W := W) n c k x r p wk V hx ((hA.below hV).more hV.size) hn hn5 hL hv hk1
  have HSL := Lib.hid fun (x : MM) (r : Option (Int × Gn.D)) (V : World) (hx : MSh A n c x r) (hV : Below w.heap.size w V) (hL : LogAt V x r) => rSlot15_any (W := W) n c k x r p wk V hx ((hA.below hV).more hV.size) hn hn5 hL hv hk1
  have hc0 := hF.c0
  have hc1 := hF.c1
  have hm0 := hF.m0
  have hm1 := hF.m1
  have hs0 := hF.s0
  have hs1 := hF.s1
  obtain ⟨code, mem, stack, val, ws⟩ := p
  unfold spv at HIN HSF HSL ⊢
  unfold Chose at HBL
  unfold GotI at HIN
  unfold GotS at HSF HSL
  unfold MM.v MM.cs at HBL HIN HSF HSL
  dsimp only at HBL HIN HSF HSL hc0 hc1 hm0 hm1 hs0 hs1 ⊢
  have HKK := Lib.hid hk1
  obtain ⟨ans, hans⟩ : ∃ a, Gn.state list k ⟨code, mem, stack, val, ws⟩ ⟨i, log⟩ = a := ⟨_, rfl⟩
  rw [hans]
  obtain ⟨post, hpost⟩ : ∃ a, GotSt w A n c ans = a := ⟨_, rfl⟩
  rw [hpost]
  have HANS := Lib.hid hans
  have HPOST := Lib.hid hpost
  clear hans hpost
  have hb := ((((Below.refl _ w).alloc (Nat.le_refl _) (.cells #[.slice N n1 c1, .slice U k c2] 25)).alloc (by simp) (.cells #[.int .i64 code, .int .i64 mem, .int .i64 stack, .int .i64 val, .slice W ws.length wk] 28)).alloc (by simp; omega) (.cells #[.slice A n c, .int .i64 (i : Int), .slice L log.length dd] 30)).alloc (by simp; omega) (.cells #[.slice none 0 0, .int .i64 0, .slice none 0 0, .int .i64 0, .int .i64 0, .slice none 0 0, .slice none 0 0, .slice none 0 0, .slice none 0 0, .int .i64 0] 49)
  obtain ⟨W0, hW0⟩ : ∃ W0, ((((w.alloc (.cells #[.slice N n1 c1, .slice U k c2] 25)).alloc (.cells #[.int .i64 code, .int .i64 mem, .int .i64 stack, .int .i64 val, .slice W ws.length wk] 28)).alloc (.cells #[.slice A n c, .int .i64 (i : Int), .slice L log.length dd] 30)).alloc (.cells #[.slice none 0 0, .int .i64 0, .slice none 0 0, .int .i64 0, .int .i64 0, .slice none 0 0, .slice none 0 0, .slice none 0 0, .slice none 0 0, .int .i64 0] 49)) = W0 := ⟨_, rfl⟩
  have hp0 : Blk W0 (w.heap.size) 25 #[.slice N n1 c1, .slice U k c2] := hW0 ▸ ((((Blk.new w 25 #[.slice N n1 c1, .slice U k c2]).alloc (.cells #[.int .i64 code, .int .i64 mem, .int .i64 stack, .int .i64 val, .slice W ws.length wk] 28)).alloc (.cells #[.slice A n c, .int .i64 (i : Int), .slice L log.length dd] 30)).alloc (.cells #[.slice none 0 0, .int .i64 0, .slice none 0 0, .int .i64 0, .int .i64 0, .slice none 0 0, .slice none 0 0, .slice none 0 0, .slice none 0 0, .int .i64 0] 49))
  have H_l := Lib.hid hp0
  have hp1 : Blk W0 (w.heap.size + 1) 28 #[.int .i64 code, .int .i64 mem, .int .i64 stack, .int .i64 val, .slice W ws.length wk] := by
    have h1 := (((Blk.new (w.alloc (.cells #[.slice N n1 c1, .slice U k c2] 25)) 28 #[.int .i64 code, .int .i64 mem, .int .i64 stack, .int .i64 val, .slice W ws.length wk]).alloc (.cells #[.slice A n c, .int .i64 (i : Int), .slice L log.length dd] 30)).alloc (.cells #[.slice none 0 0, .int .i64 0, .slice none 0 0, .int .i64 0, .int .i64 0, .slice none 0 0, .slice none 0 0, .slice none 0 0, .slice none 0 0, .int .i64 0] 49))
    rw [World.size_alloc] at h1
    rw [← hW0]; exact h1
  have H_sp := Lib.hid hp1
  have hp2 : Blk W0 (w.heap.size + 1 + 1) 30 #[.slice A n c, .int .i64 (i : Int), .slice L log.length dd] := by
    have h1 := ((Blk.new ((w.alloc (.cells #[.slice N n1 c1, .slice U k c2] 25)).alloc (.cells #[.int .i64 code, .int .i64 mem, .int .i64 stack, .int .i64 val, .slice W ws.length wk] 28)) 30 #[.slice A n c, .int .i64 (i : Int), .slice L log.length dd]).alloc (.cells #[.slice none 0 0, .int .i64 0, .slice none 0 0, .int .i64 0, .int .i64 0, .slice none 0 0, .slice none 0 0, .slice none 0 0, .slice none 0 0, .int .i64 0] 49))
    rw [World.size_alloc, World.size_alloc] at h1
    rw [← hW0]; exact h1
  have H_d := Lib.hid hp2
  have hp3 : Blk W0 (w.heap.size + 1 + 1 + 1) 49 #[.slice none 0 0, .int .i64 0, .slice none 0 0, .int .i64 0, .int .i64 0, .slice none 0 0, .slice none 0 0, .slice none 0 0, .slice none 0 0, .int .i64 0] := by
    have h1 := (Blk.new (((w.alloc (.cells #[.slice N n1 c1, .slice U k c2] 25)).alloc (.cells #[.int .i64 code, .int .i64 mem, .int .i64 stack, .int .i64 val, .slice W ws.length wk] 28)).alloc (.cells #[.slice A n c, .int .i64 (i : Int), .slice L log.length dd] 30)) 49 #[.slice none 0 0, .int .i64 0, .slice none 0 0, .int .i64 0, .int .i64 0, .slice none 0 0, .slice none 0 0, .slice none 0 0, .slice none 0 0, .int .i64 0])
    rw [World.size_alloc, World.size_alloc, World.size_alloc] at h1
    rw [← hW0]; exact h1
  have H_res := Lib.hid hp3
  rw [hW0] at hb
  have HB := Lib.hid hb
  clear hb hp0 hp1 hp2 hp3
  have q1_ := H_l.out
  have q1_0 := q1_.cell 0
  have q1_1 := q1_.cell 1
  have lA2_l := H_l.out.lt
  have lA2_sp := H_sp.out.lt
  have lA2_d := H_d.out.lt
  have lA2_res := H_res.out.lt
  obtain ⟨A2_, eA2_⟩ : ∃ U, W0.alloc (.cells #[.int .i64 0, .int .i64 0, .slice none 0 0, .slice none 0 0, .slice none 0 0, .slice none 0 0] 39) = U := ⟨_, rfl⟩
  have nA2_ : Blk A2_ (W0.heap.size) 39 #[.int .i64 0, .int .i64 0, .slice none 0 0, .slice none 0 0, .slice none 0 0, .slice none 0 0] := eA2_ ▸ Blk.new _ _ _
  have zA2_ := HB.out.size
  have N_l : Blk A2_ (w.heap.size) 25 #[.slice N n1 c1, .slice U k c2] := eA2_ ▸ H_l.out.alloc _
  have N_sp : Blk A2_ (w.heap.size + 1) 28 #[.int .i64 code, .int .i64 mem, .int .i64 stack, .int .i64 val, .slice W ws.length wk] := eA2_ ▸ H_sp.out.alloc _
  have N_d : Blk A2_ (w.heap.size + 1 + 1) 30 #[.slice A n c, .int .i64 (i : Int), .slice L log.length dd] := eA2_ ▸ H_d.out.alloc _
  have N_res : Blk A2_ (w.heap.size + 1 + 1 + 1) 49 #[.slice none 0 0, .int .i64 0, .slice none 0 0, .int .i64 0, .int .i64 0, .slice none 0 0, .slice none 0 0, .slice none 0 0, .slice none 0 0, .int .i64 0] := eA2_ ▸ H_res.out.alloc _
  have NB := eA2_ ▸ HB.out.alloc HB.out.size _
  clear H_l H_sp H_d H_res HB
  have H_l := Lib.hid N_l
  have H_sp := Lib.hid N_sp
  have H_d := Lib.hid N_d
  have H_res := Lib.hid N_res
  have HB := Lib.hid NB
  clear N_l N_sp N_d N_res NB
  have H_s := Lib.hid nA2_
  clear nA2_
  have gP3_ := H_s.out.lt
  obtain ⟨P3_1, P3_2, P3_3, P3_4, P3_5, P3_6, eP3_0, eP3_1, eP3_2, eP3_3, eP3_4, eP3_5, fP3_0, fP3_1, fP3_2, fP3_3, fP3_4, fP3_5, gP3_0, gP3_1, gP3_2, gP3_3, gP3_4, gP3_5, rP3_0, rP3_1, rP3_2, rP3_3, rP3_4, rP3_5, kP3_, hP3_, yP3_⟩ := n6_steps13 H_s.out (.int .i64 0) (.int .i64 0) (.slice none 0 0) (.slice none 0 0) (.slice none 0 0) (.slice none 0 0)
  have N_l : Blk P3_6 (w.heap.size) 25 #[.slice N n1 c1, .slice U k c2] := (hP3_.out _ (by omega)).trans H_l.out
  have N_sp : Blk P3_6 (w.heap.size + 1) 28 #[.int .i64 code, .int .i64 mem, .int .i64 stack, .int .i64 val, .slice W ws.length wk] := (hP3_.out _ (by omega)).trans H_sp.out
  have N_d : Blk P3_6 (w.heap.size + 1 + 1) 30 #[.slice A n c, .int .i64 (i : Int), .slice L log.length dd] := (hP3_.out _ (by omega)).trans H_d.out
  have N_res : Blk P3_6 (w.heap.size + 1 + 1 + 1) 49 #[.slice none 0 0, .int .i64 0, .slice none 0 0, .int .i64 0, .int .i64 0, .slice none 0 0, .slice none 0 0, .slice none 0 0, .slice none 0 0, .int .i64 0] := (hP3_.out _ (by omega)).trans H_res.out
  have N_s : Blk P3_6 (W0.heap.size) 39 #[.int .i64 0, .int .i64 0, .slice none 0 0, .slice none 0 0, .slice none 0 0, .slice none 0 0] := kP3_.out
  have NB := yP3_.out _ _ (by omega) HB.out
  clear H_l H_sp H_d H_res H_s HB
  have H_l := Lib.hid N_l
  have H_sp := Lib.hid N_sp
  have H_d := Lib.hid N_d
  have H_res := Lib.hid N_res
  have H_s := Lib.hid N_s
  have HB := Lib.hid NB
  clear N_l N_sp N_d N_res N_s NB
  clear kP3_ hP3_ yP3_
  have q4_ := H_l.out
  have q4_0 := q4_.cell 0
  have q4_1 := q4_.cell 1
  have q5_ := H_d.out
  have q5_0 := q5_.cell 0
  have q5_1 := q5_.cell 1
  have q5_2 := q5_.cell 2
  have q6_ := H_sp.out
  have q6_0 := q6_.cell 0
  have q6_1 := q6_.cell 1
  have q6_2 := q6_.cell 2
  have q6_3 := q6_.cell 3
  have q6_4 := q6_.cell 4
  have ha : wrap64 (code + 1) = code + 1 := by unfold wrap64; omega
  have hx0 : MSh A n c ⟨A, n, c, (i : Int), L, log.length, dd, 0, 0⟩ (some (0, ⟨i, log⟩)) := ⟨rfl, hm⟩
  have h0 := HBL.out ⟨A, n, c, (i : Int), L, log.length, dd, 0, 0⟩ (some (0, ⟨i, log⟩)) (code + 1) P3_6 ⟨by omega, by omega⟩ hx0 HB.out (fun z d e => by injection e with e; injection e with _ e; subst e; exact (hL.below HB.out).more HB.out.size)
  have HC := Lib.hid h0
  have HZ1 := Lib.hid HB.out.size
  have HN0 := Lib.hid (And.intro hc0 (And.intro hc1 (And.intro hm0 (And.intro hm1 (And.intro hs0 hs1)))))
  clear h0 hx0 hA hL hn hm hF hk hW hwc hv hk1
  go_enter Try.func13, Try.ntmps13
  go_wp2_with (fail)
  refine (HC.out).mono ?_
  rintro e v1 ⟨⟨yA, yn, yc, yi, yL, ym, yd, yx, ye⟩, rfl, hy1, hl1, hb1⟩
  clear eA2_ eP3_0 eP3_1 eP3_2 eP3_3 eP3_4 eP3_5
  have N_l : Blk v1 (w.heap.size) 25 #[.slice N n1 c1, .slice U k c2] := H_l.out.below hb1 H_l.out.lt
  have N_sp : Blk v1 (w.heap.size + 1) 28 #[.int .i64 code, .int .i64 mem, .int .i64 stack, .int .i64 val, .slice W ws.length wk] := H_sp.out.below hb1 H_sp.out.lt
  have N_d : Blk v1 (w.heap.size + 1 + 1) 30 #[.slice A n c, .int .i64 (i : Int), .slice L log.length dd] := H_d.out.below hb1 H_d.out.lt
  have N_res : Blk v1 (w.heap.size + 1 + 1 + 1) 49 #[.slice none 0 0, .int .i64 0, .slice none 0 0, .int .i64 0, .int .i64 0, .slice none 0 0, .slice none 0 0, .slice none 0 0, .slice none 0 0, .int .i64 0] := H_res.out.below hb1 H_res.out.lt
  have N_s : Blk v1 (W0.heap.size) 39 #[.int .i64 0, .int .i64 0, .slice none 0 0, .slice none 0 0, .slice none 0 0, .slice none 0 0] := H_s.out.below hb1 H_s.out.lt
  have NB := HB.out.trans (hb1.mono HB.out.size)
  clear q1_ q1_0 q1_1 fP3_0 fP3_1 fP3_2 fP3_3 fP3_4 fP3_5 gP3_0 gP3_1 gP3_2 gP3_3 gP3_4 gP3_5 rP3_0 rP3_1 rP3_2 rP3_3 rP3_4 rP3_5 q4_ q4_0 q4_1 q5_ q5_0 q5_1 q5_2 q6_ q6_0 q6_1 q6_2 q6_3 q6_4
  clear H_l H_sp H_d H_res H_s HB
  have H_l := Lib.hid N_l
  have H_sp := Lib.hid N_sp
  have H_d := Lib.hid N_d
  have H_res := Lib.hid N_res
  have H_s := Lib.hid N_s
  have HB := Lib.hid NB
  clear N_l N_sp N_d N_res N_s NB
  dsimp only
  have HL := Lib.hid hl1
  clear hl1
  have HM1 := Lib.hid hy1
  clear hy1 hb1 HC
  have lA7_l := H_l.out.lt
  have lA7_sp := H_sp.out.lt
  have lA7_d := H_d.out.lt
  have lA7_res := H_res.out.lt
  have lA7_s := H_s.out.lt
  obtain ⟨A7_, eA7_⟩ : ∃ U, v1.alloc (.cells #[.slice none 0 0, .int .i64 0, .slice none 0 0, .int .i64 0, .int .i64 0] 72) = U := ⟨_, rfl⟩
  have nA7_ : Blk A7_ (v1.heap.size) 72 #[.slice none 0 0, .int .i64 0, .slice none 0 0, .int .i64 0, .int .i64 0] := eA7_ ▸ Blk.new _ _ _
  have zA7_ := HB.out.size
  have N_l : Blk A7_ (w.heap.size) 25 #[.slice N n1 c1, .slice U k c2] := eA7_ ▸ H_l.out.alloc _
  have N_sp : Blk A7_ (w.heap.size + 1) 28 #[.int .i64 code, .int .i64 mem, .int .i64 stack, .int .i64 val, .slice W ws.length wk] := eA7_ ▸ H_sp.out.alloc _
  have N_d : Blk A7_ (w.heap.size + 1 + 1) 30 #[.slice A n c, .int .i64 (i : Int), .slice L log.length dd] := eA7_ ▸ H_d.out.alloc _
  have N_res : Blk A7_ (w.heap.size + 1 + 1 + 1) 49 #[.slice none 0 0, .int .i64 0, .slice none 0 0, .int .i64 0, .int .i64 0, .slice none 0 0, .slice none 0 0, .slice none 0 0, .slice none 0 0, .int .i64 0] := eA7_ ▸ H_res.out.alloc _
  have N_s : Blk A7_ (W0.heap.size) 39 #[.int .i64 0, .int .i64 0, .slice none 0 0, .slice none 0 0, .slice none 0 0, .slice none 0 0] := eA7_ ▸ H_s.out.alloc _
  have NB := eA7_ ▸ HB.out.alloc HB.out.size _
  have NL := HL.out.keep fun k _ hk2 => (show A7_.heap[k]? = _ from eA7_ ▸ Below.heap_alloc _ _ k hk2)
  clear H_l H_sp H_d H_res H_s HB HL
  have H_l := Lib.hid N_l
  have H_sp := Lib.hid N_sp
  have H_d := Lib.hid N_d
  have H_res := Lib.hid N_res
  have H_s := Lib.hid N_s
  have HB := Lib.hid NB
  have HL := Lib.hid NL
  clear N_l N_sp N_d N_res N_s NB NL
  have H_m := Lib.hid nA7_
  clear nA7_
  have gP8_ := H_m.out.lt
  obtain ⟨P8_1, P8_2, P8_3, P8_4, P8_5, eP8_0, eP8_1, eP8_2, eP8_3, eP8_4, fP8_0, fP8_1, fP8_2, fP8_3, fP8_4, gP8_0, gP8_1, gP8_2, gP8_3, gP8_4, rP8_0, rP8_1, rP8_2, rP8_3, rP8_4, kP8_, hP8_, yP8_⟩ := n5_steps15 H_m.out (.slice yA yn yc) (.int .i64 yi) (.slice yL ym yd) (.int .i64 yx) (.int .i64 ye)
  have N_l : Blk P8_5 (w.heap.size) 25 #[.slice N n1 c1, .slice U k c2] := (hP8_.out _ (by omega)).trans H_l.out
  have N_sp : Blk P8_5 (w.heap.size + 1) 28 #[.int .i64 code, .int .i64 mem, .int .i64 stack, .int .i64 val, .slice W ws.length wk] := (hP8_.out _ (by omega)).trans H_sp.out
  have N_d : Blk P8_5 (w.heap.size + 1 + 1) 30 #[.slice A n c, .int .i64 (i : Int), .slice L log.length dd] := (hP8_.out _ (by omega)).trans H_d.out
  have N_res : Blk P8_5 (w.heap.size + 1 + 1 + 1) 49 #[.slice none 0 0, .int .i64 0, .slice none 0 0, .int .i64 0, .int .i64 0, .slice none 0 0, .slice none 0 0, .slice none 0 0, .slice none 0 0, .int .i64 0] := (hP8_.out _ (by omega)).trans H_res.out
  have N_s : Blk P8_5 (W0.heap.size) 39 #[.int .i64 0, .int .i64 0, .slice none 0 0, .slice none 0 0, .slice none 0 0, .slice none 0 0] := (hP8_.out _ (by omega)).trans H_s.out
  have N_m : Blk P8_5 (v1.heap.size) 72 #[.slice yA yn yc, .int .i64 yi, .slice yL ym yd, .int .i64 yx, .int .i64 ye] := kP8_.out
  have NB := yP8_.out _ _ (by omega) HB.out
  have NL := HL.out.put H_m.out (by decide) hP8_.out
  clear H_l H_sp H_d H_res H_s H_m HB HL
  have H_l := Lib.hid N_l
  have H_sp := Lib.hid N_sp
  have H_d := Lib.hid N_d
  have H_res := Lib.hid N_res
  have H_s := Lib.hid N_s
  have H_m := Lib.hid N_m
  have HB := Lib.hid NB
  have HL := Lib.hid NL
  clear N_l N_sp N_d N_res N_s N_m NB NL
  clear kP8_ hP8_ yP8_
  have q9_ := H_m.out
  have q9_0 := q9_.cell 0
  have q9_1 := q9_.cell 1
  have q9_2 := q9_.cell 2
  have q9_3 := q9_.cell 3
  have q9_4 := q9_.cell 4
  obtain ⟨q0, hq0⟩ : ∃ q, Gn.run (Gn.tk list (code + 1)) (some ((0 : Int), (⟨i, log⟩ : Gn.D))) = q := ⟨_, rfl⟩
  obtain ⟨f, hf⟩ : ∃ f, Gn.ins list k ⟨code, mem, stack, val, ws⟩ = f := ⟨_, rfl⟩
  rw [hq0] at HM1 HL
  rw [hf] at HIN
  have hK0 : ∃ K0 : Nat, yx = (K0 : Int) ∧ K0 ≤ 12 ∧ (q0.elim 0 fun p => p.1.toNat) = K0 := by
    cases q0 with
    | none => exact ⟨0, congrArg MM.mx HM1.out, by decide, rfl⟩
    | some p =>
      obtain ⟨z, d⟩ := p
      have h1 : yx = z := congrArg MM.mx HM1.out.1
      have h2 : 0 ≤ z ∧ z < code + 1 := Gn.Out.tk list (by have := HN0.out; omega) _ _ _ hq0
      exact ⟨z.toNat, by omega, by have := HN0.out; omega, rfl⟩
  obtain ⟨K0, rfl, hK12, hK0⟩ := hK0
  have HKE := Lib.hid hK0
  have HLW := Lib.hid (HL.out.less HZ1.out)
  have hs0 : MSh A n c ⟨yA, yn, yc, yi, yL, ym, yd, (K0 : Int), ye⟩ ((Gn.run (Gn.rep f 0) q0).map fun p => ((K0 : Int), p.2)) := by
    rw [Gn.run_rep]
    have h := HM1.out
    cases q0 with
    | none => exact h
    | some p =>
      obtain ⟨z, d⟩ := p
      have h1 : (K0 : Int) = z := congrArg MM.mx h.1
      subst h1
      exact h
  have hs1 : LogNew w.heap.size P8_5 ⟨yA, yn, yc, yi, yL, ym, yd, (K0 : Int), ye⟩ (Gn.run (Gn.rep f 0) q0) := by
    rw [Gn.run_rep]
    intro z d e
    cases q0 with
    | none => cases e
    | some p =>
      obtain ⟨z1, d1⟩ := p
      have e : some (([] : List Cd.In), d1) = some (z, d) := e
      injection e with e
      injection e with _ e
      exact e ▸ HLW.out z1 d1 rfl
  have HS0 := Lib.hid hs0
  have HS1 := Lib.hid hs1
  have HQ0 := Lib.hid hq0
  have HFF := Lib.hid hf
  clear hq0 hf hK0 hs0 hs1 HM1 HL HLW
  have q10_ := H_m.out
  have q10_0 := q10_.cell 0
  have q10_1 := q10_.cell 1
  have q10_2 := q10_.cell 2
  have q10_3 := q10_.cell 3
  have q10_4 := q10_.cell 4
  go_wp2
  go_loopw [10] (fun iv wr => ∃ (j : Nat) (y : MM) (z : Int) (v : Value) (cs : List Cd.In), j ≤ K0 ∧ iv = .int .i64 ((K0 - j : Nat) : Int) ∧ Hid (Blk wr (v1.heap.size) 72 y.cs) ∧ Hid (Blk wr (W0.heap.size) 39 #[.int .i64 0, .int .i64 0, v, .slice none 0 0, .slice none 0 0, .slice none 0 0]) ∧ Hid (Blk wr (w.heap.size) 25 #[.slice N n1 c1, .slice U k c2]) ∧ Hid (Blk wr (w.heap.size + 1) 28 #[.int .i64 code, .int .i64 mem, .int .i64 stack, .int .i64 val, .slice W ws.length wk]) ∧ Hid (Blk wr (w.heap.size + 1 + 1) 30 #[.slice A n c, .int .i64 (i : Int), .slice L log.length dd]) ∧ Hid (Blk wr (w.heap.size + 1 + 1 + 1) 49 #[.slice none 0 0, .int .i64 0, .slice none 0 0, .int .i64 0, .int .i64 0, .slice none 0 0, .slice none 0 0, .slice none 0 0, .slice none 0 0, .int .i64 0]) ∧
      Hid (MSh A n c y ((Gn.run (Gn.rep f j) q0).map fun p => (z, p.2))) ∧ Hid (LogNew w.heap.size wr y (Gn.run (Gn.rep f j) q0)) ∧ Hid (wr.ownsRow w.heap.size 66 3 v j (fcells ivs cs)) ∧ Hid (∀ l d, Gn.run (Gn.rep f j) q0 = some (l, d) → l = cs) ∧ Hid (Below w.heap.size w wr)) (fun iv _ => (intOf iv).toNat)
  case atStart => exact ⟨0, ⟨yA, yn, yc, yi, yL, ym, yd, (K0 : Int), ye⟩, (K0 : Int), .slice none 0 0, [], Nat.zero_le _, rfl, H_m, H_s, H_l, H_sp, H_d, H_res, HS0, HS1, Lib.hid (World.ownsRow_nil _ _ _ _), Lib.hid (fun l d e => by rw [Gn.run_rep] at e; cases q0 with | none => cases e | some p => (injection e with e; injection e with e _; exact e.symm)), HB⟩
  case round =>
    clear H_m H_s H_l H_sp H_d H_res HB HS0 HS1
    obtain ⟨j, y, z, v, cs, hj, rfl, H_m, H_s, H_l, H_sp, H_d, H_res, HM, HL, HO_c, HCS, HB⟩ := hrel
    obtain ⟨bA, bn, bc, bi, bL, bm, bd, bx, be⟩ := y
    unfold MM.cs at H_m
    dsimp only at H_m
    obtain ⟨vA, vc, rfl⟩ := ownT_slice HO_c.out
    by_cases hlt : j < K0
    · obtain ⟨rem, hrem⟩ : ∃ rem, K0 - j = rem + 1 := ⟨K0 - j - 1, by omega⟩
      have hrem2 : K0 - (j + 1) = rem := by omega
      have hj12 : j ≤ 1000 := by omega
      rw [hrem, show (((rem + 1 : Nat)) : Int) = (rem : Int) + 1 from by omega]
      have ht1 : decide ((rem : Int) + 1 > 0) = true := decide_eq_true (by omega)
      have hw9 : wrap64 ((rem : Int) + 1 - 1) = (rem : Int) := by unfold wrap64; omega
      have h0 := HIN.out ⟨bA, bn, bc, bi, bL, bm, bd, bx, be⟩ ((Gn.run (Gn.rep f j) q0).map fun p => (z, p.2)) wr HM.out HB.out (HL.out.map_at z)
      have HC := Lib.hid h0
      have HZR := Lib.hid HB.out.size
      have HJ := Lib.hid hlt
      clear h0 hlt hrem
      have q11_ := H_m.out
      have q11_0 := q11_.cell 0
      have q11_1 := q11_.cell 1
      have q11_2 := q11_.cell 2
      have q11_3 := q11_.cell 3
      have q11_4 := q11_.cell 4
      have q12_ := H_sp.out
      have q12_0 := q12_.cell 0
      have q12_1 := q12_.cell 1
      have q12_2 := q12_.cell 2
      have q12_3 := q12_.cell 3
      have q12_4 := q12_.cell 4
      go_wp2_with (fail)
      refine (HC.out).mono ?_
      rintro e v2 ⟨⟨gA, gn, gc, gi, gL, gm, gd, gx, ge⟩, z2, xa, xb, xl, rfl, hm2, hx2, hl2, hb2⟩
      have O_c : v2.ownsRow w.heap.size 66 3 (.slice vA j vc) (j) (fcells ivs cs) := ownT_below HO_c.out hb2
      have N_m : Blk v2 (v1.heap.size) 72 #[.slice bA bn bc, .int .i64 bi, .slice bL bm bd, .int .i64 bx, .int .i64 be] := H_m.out.below hb2 H_m.out.lt
      have N_s : Blk v2 (W0.heap.size) 39 #[.int .i64 0, .int .i64 0, .slice vA j vc, .slice none 0 0, .slice none 0 0, .slice none 0 0] := H_s.out.below hb2 H_s.out.lt
      have N_l : Blk v2 (w.heap.size) 25 #[.slice N n1 c1, .slice U k c2] := H_l.out.below hb2 H_l.out.lt
      have N_sp : Blk v2 (w.heap.size + 1) 28 #[.int .i64 code, .int .i64 mem, .int .i64 stack, .int .i64 val, .slice W ws.length wk] := H_sp.out.below hb2 H_sp.out.lt
      have N_d : Blk v2 (w.heap.size + 1 + 1) 30 #[.slice A n c, .int .i64 (i : Int), .slice L log.length dd] := H_d.out.below hb2 H_d.out.lt
      have N_res : Blk v2 (w.heap.size + 1 + 1 + 1) 49 #[.slice none 0 0, .int .i64 0, .slice none 0 0, .int .i64 0, .int .i64 0, .slice none 0 0, .slice none 0 0, .slice none 0 0, .slice none 0 0, .int .i64 0] := H_res.out.below hb2 H_res.out.lt
      have NB := HB.out.trans (hb2.mono HB.out.size)
      have NL := HL.out.keep fun k _ hk2 => hb2.block k hk2
      clear q11_ q11_0 q11_1 q11_2 q11_3 q11_4 q12_ q12_0 q12_1 q12_2 q12_3 q12_4
      clear H_m H_s H_l H_sp H_d H_res HB HL
      have H_m := Lib.hid N_m
      have H_s := Lib.hid N_s
      have H_l := Lib.hid N_l
      have H_sp := Lib.hid N_sp
      have H_d := Lib.hid N_d
      have H_res := Lib.hid N_res
      have HB := Lib.hid NB
      have HL := Lib.hid NL
      clear N_m N_s N_l N_sp N_d N_res NB NL
      clear HO_c
      have HO_c := Lib.hid O_c
      clear O_c
      try dsimp only at hm2 hl2
      try dsimp only
      have hl2 := hl2.less HZR.out
      clear HL
      have HL := Lib.hid hl2
      clear hl2
      have HM2 := Lib.hid hm2
      have HX2 := Lib.hid hx2
      clear hm2 hx2 hb2 HC HM HZR
      have lA13_m := H_m.out.lt
      have lA13_s := H_s.out.lt
      have lA13_l := H_l.out.lt
      have lA13_sp := H_sp.out.lt
      have lA13_d := H_d.out.lt
      have lA13_res := H_res.out.lt
      obtain ⟨A13_, eA13_⟩ : ∃ U, v2.alloc (.cells #[.slice gA gn gc, .int .i64 gi, .slice gL gm gd, .int .i64 gx, .int .i64 ge, .int .i64 xa, .int .i64 xb, .int .i64 xl] 75) = U := ⟨_, rfl⟩
      have nA13_ : Blk A13_ (v2.heap.size) 75 #[.slice gA gn gc, .int .i64 gi, .slice gL gm gd, .int .i64 gx, .int .i64 ge, .int .i64 xa, .int .i64 xb, .int .i64 xl] := eA13_ ▸ Blk.new _ _ _
      have zA13_ := HB.out.size
      have bA13_ := Lib.hid (Blk.new v2 75 #[.slice none 0 0, .int .i64 0, .slice none 0 0, .int .i64 0, .int .i64 0, .int .i64 0, .int .i64 0, .int .i64 0])
      have sA13_ : (v2.alloc (.cells #[.slice none 0 0, .int .i64 0, .slice none 0 0, .int .i64 0, .int .i64 0, .int .i64 0, .int .i64 0, .int .i64 0] 75)).setRow v2.heap.size #[.slice gA gn gc, .int .i64 gi, .slice gL gm gd, .int .i64 gx, .int .i64 ge, .int .i64 xa, .int .i64 xb, .int .i64 xl] = A13_ := (World.setRow_alloc_new v2 _ _ _).trans eA13_
      have O_c : A13_.ownsRow w.heap.size 66 3 (.slice vA j vc) (j) (fcells ivs cs) := eA13_ ▸ HO_c.out.alloc _
      have N_m : Blk A13_ (v1.heap.size) 72 #[.slice bA bn bc, .int .i64 bi, .slice bL bm bd, .int .i64 bx, .int .i64 be] := eA13_ ▸ H_m.out.alloc _
      have N_s : Blk A13_ (W0.heap.size) 39 #[.int .i64 0, .int .i64 0, .slice vA j vc, .slice none 0 0, .slice none 0 0, .slice none 0 0] := eA13_ ▸ H_s.out.alloc _
      have N_l : Blk A13_ (w.heap.size) 25 #[.slice N n1 c1, .slice U k c2] := eA13_ ▸ H_l.out.alloc _
      have N_sp : Blk A13_ (w.heap.size + 1) 28 #[.int .i64 code, .int .i64 mem, .int .i64 stack, .int .i64 val, .slice W ws.length wk] := eA13_ ▸ H_sp.out.alloc _
      have N_d : Blk A13_ (w.heap.size + 1 + 1) 30 #[.slice A n c, .int .i64 (i : Int), .slice L log.length dd] := eA13_ ▸ H_d.out.alloc _
      have N_res : Blk A13_ (w.heap.size + 1 + 1 + 1) 49 #[.slice none 0 0, .int .i64 0, .slice none 0 0, .int .i64 0, .int .i64 0, .slice none 0 0, .slice none 0 0, .slice none 0 0, .slice none 0 0, .int .i64 0] := eA13_ ▸ H_res.out.alloc _
      have NB := eA13_ ▸ HB.out.alloc HB.out.size _
      have NL := HL.out.keep fun k _ hk2 => (show A13_.heap[k]? = _ from eA13_ ▸ Below.heap_alloc _ _ k hk2)
      clear H_m H_s H_l H_sp H_d H_res HB HL
      have H_m := Lib.hid N_m
      have H_s := Lib.hid N_s
      have H_l := Lib.hid N_l
      have H_sp := Lib.hid N_sp
      have H_d := Lib.hid N_d
      have H_res := Lib.hid N_res
      have HB := Lib.hid NB
      have HL := Lib.hid NL
      clear N_m N_s N_l N_sp N_d N_res NB NL
      clear HO_c
      have HO_c := Lib.hid O_c
      clear O_c
      have H_i := Lib.hid nA13_
      clear nA13_ eA13_
      have q14_ := H_i.out
      have q14_0 := q14_.cell 0
      have q14_1 := q14_.cell 1
      have q14_2 := q14_.cell 2
      have q14_3 := q14_.cell 3
      have q14_4 := q14_.cell 4
      have q14_5 := q14_.cell 5
      have q14_6 := q14_.cell 6
      have q14_7 := q14_.cell 7
      have gR15_ := H_m.out.lt
      obtain ⟨R15_, eR15_, kR15_, hR15_, yR15_⟩ := row15 H_m.out #[.slice gA gn gc, .int .i64 gi, .slice gL gm gd, .int .i64 gx, .int .i64 ge]
      have bR15_ := H_m
      have O_c : R15_.ownsRow w.heap.size 66 3 (.slice vA j vc) (j) (fcells ivs cs) := own_ofD HO_c.out fun g9 hg9 => (show ∀ k9, k9 ≠ v1.heap.size → R15_.heap[k9]? = A13_.heap[k9]? from hR15_.out) g9 (by
        obtain ⟨cs9, hb9⟩ := own_blkD HO_c.out hg9
        exact hb9.ty_neD H_m.out (by decide))
      have N_m : Blk R15_ (v1.heap.size) 72 #[.slice gA gn gc, .int .i64 gi, .slice gL gm gd, .int .i64 gx, .int .i64 ge] := kR15_.out
      have N_s : Blk R15_ (W0.heap.size) 39 #[.int .i64 0, .int .i64 0, .slice vA j vc, .slice none 0 0, .slice none 0 0, .slice none 0 0] := (hR15_.out _ (by omega)).trans H_s.out
      have N_l : Blk R15_ (w.heap.size) 25 #[.slice N n1 c1, .slice U k c2] := (hR15_.out _ (by omega)).trans H_l.out
      have N_sp : Blk R15_ (w.heap.size + 1) 28 #[.int .i64 code, .int .i64 mem, .int .i64 stack, .int .i64 val, .slice W ws.length wk] := (hR15_.out _ (by omega)).trans H_sp.out
      have N_d : Blk R15_ (w.heap.size + 1 + 1) 30 #[.slice A n c, .int .i64 (i : Int), .slice L log.length dd] := (hR15_.out _ (by omega)).trans H_d.out
      have N_res : Blk R15_ (w.heap.size + 1 + 1 + 1) 49 #[.slice none 0 0, .int .i64 0, .slice none 0 0, .int .i64 0, .int .i64 0, .slice none 0 0, .slice none 0 0, .slice none 0 0, .slice none 0 0, .int .i64 0] := (hR15_.out _ (by omega)).trans H_res.out
      have N_i : Blk R15_ (v2.heap.size) 75 #[.slice gA gn gc, .int .i64 gi, .slice gL gm gd, .int .i64 gx, .int .i64 ge, .int .i64 xa, .int .i64 xb, .int .i64 xl] := (hR15_.out _ (by omega)).trans H_i.out
      have NB := yR15_.out _ _ (by omega) HB.out
      have NL := HL.out.put H_m.out (by decide) hR15_.out
      clear H_m H_s H_l H_sp H_d H_res H_i HB HL
      have H_m := Lib.hid N_m
      have H_s := Lib.hid N_s
      have H_l := Lib.hid N_l
      have H_sp := Lib.hid N_sp
      have H_d := Lib.hid N_d
      have H_res := Lib.hid N_res
      have H_i := Lib.hid N_i
      have HB := Lib.hid NB
      have HL := Lib.hid NL
      clear N_m N_s N_l N_sp N_d N_res N_i NB NL
      clear HO_c
      have HO_c := Lib.hid O_c
      clear O_c
      clear kR15_ hR15_ yR15_
      have q16_ := H_s.out
      have q16_0 := q16_.cell 0
      have q16_1 := q16_.cell 1
      have q16_2 := q16_.cell 2
      have q16_3 := q16_.cell 3
      have q16_4 := q16_.cell 4
      have q16_5 := q16_.cell 5
      have q17_ := H_i.out
      have q17_0 := q17_.cell 0
      have q17_1 := q17_.cell 1
      have q17_2 := q17_.cell 2
      have q17_3 := q17_.cell 3
      have q17_4 := q17_.cell 4
      have q17_5 := q17_.cell 5
      have q17_6 := q17_.cell 6
      have q17_7 := q17_.cell 7
      have zs9 := HB.out.size
      obtain ⟨v9, W9, hrun, hown, hbn, hkn⟩ := app15I xa xb xl HO_c.out hj12 zs9
      obtain ⟨v9A, v9c, rfl⟩ := ownT_slice hown
      have N_m : Blk W9 (v1.heap.size) 72 #[.slice gA gn gc, .int .i64 gi, .slice gL gm gd, .int .i64 gx, .int .i64 ge] := hkn _ _ _ (by decide) (H_m.out.alloc _)
      have l9m := H_m.out.lt
      have N_s : Blk W9 (W0.heap.size) 39 #[.int .i64 0, .int .i64 0, .slice vA j vc, .slice none 0 0, .slice none 0 0, .slice none 0 0] := hkn _ _ _ (by decide) (H_s.out.alloc _)
      have l9s := H_s.out.lt
      have N_l : Blk W9 (w.heap.size) 25 #[.slice N n1 c1, .slice U k c2] := hkn _ _ _ (by decide) (H_l.out.alloc _)
      have l9l := H_l.out.lt
      have N_sp : Blk W9 (w.heap.size + 1) 28 #[.int .i64 code, .int .i64 mem, .int .i64 stack, .int .i64 val, .slice W ws.length wk] := hkn _ _ _ (by decide) (H_sp.out.alloc _)
      have l9sp := H_sp.out.lt
      have N_d : Blk W9 (w.heap.size + 1 + 1) 30 #[.slice A n c, .int .i64 (i : Int), .slice L log.length dd] := hkn _ _ _ (by decide) (H_d.out.alloc _)
      have l9d := H_d.out.lt
      have N_res : Blk W9 (w.heap.size + 1 + 1 + 1) 49 #[.slice none 0 0, .int .i64 0, .slice none 0 0, .int .i64 0, .int .i64 0, .slice none 0 0, .slice none 0 0, .slice none 0 0, .slice none 0 0, .int .i64 0] := hkn _ _ _ (by decide) (H_res.out.alloc _)
      have l9res := H_res.out.lt
      have N_i : Blk W9 (v2.heap.size) 75 #[.slice gA gn gc, .int .i64 gi, .slice gL gm gd, .int .i64 gx, .int .i64 ge, .int .i64 xa, .int .i64 xb, .int .i64 xl] := hkn _ _ _ (by decide) (H_i.out.alloc _)
      have l9i := H_i.out.lt
      have NB : Below w.heap.size w W9 := (HB.out.alloc zs9 _).trans hbn
      have NL : LogNew w.heap.size W9 ⟨gA, gn, gc, gi, gL, gm, gd, gx, ge⟩ _ := fun x d e => own_ofD ((HL.out x d e).alloc _) fun g9 hg9 => by
        obtain ⟨cs9, hb9⟩ := own_blkD ((HL.out x d e).alloc _) hg9
        exact (hkn _ _ _ (by decide) hb9).trans hb9.symm
      clear H_m H_s H_l H_sp H_d H_res H_i HB HL HO_c
      have H_m := Lib.hid N_m
      have H_s := Lib.hid N_s
      have H_l := Lib.hid N_l
      have H_sp := Lib.hid N_sp
      have H_d := Lib.hid N_d
      have H_res := Lib.hid N_res
      have H_i := Lib.hid N_i
      have HRUN := Lib.hid hrun
      have HB := Lib.hid NB
      have HL := Lib.hid NL
      have HO_c := Lib.hid hown
      clear N_m N_s N_l N_sp N_d N_res N_i NB NL hown hbn hkn zs9 hrun
      obtain ⟨S18, hS18⟩ : ∃ U, W9.setCell ⟨W0.heap.size, 2, none⟩ (.slice v9A (j + 1) v9c) = U := ⟨_, rfl⟩
      have cS18 := H_s.out.cell 2
      have fS18 := H_s.out.frozen 2
      have gS18 := H_s.out.lt
      have O_c : S18.ownsRow w.heap.size 66 3 (.slice v9A (j + 1) v9c) (j + 1) (fcells ivs (cs ++ [⟨xa, xb, xl⟩])) := own_ofD HO_c.out fun g9 hg9 => (show ∀ k9, k9 ≠ W0.heap.size → S18.heap[k9]? = W9.heap[k9]? from (fun k hk => (show S18.heap[k]? = _ from hS18 ▸ Below.heap_setCell _ ⟨W0.heap.size, 2, none⟩ _ k hk))) g9 (by
        obtain ⟨cs9, hb9⟩ := own_blkD HO_c.out hg9
        exact hb9.ty_neD H_s.out (by decide))
      have N_m : Blk S18 (v1.heap.size) 72 #[.slice gA gn gc, .int .i64 gi, .slice gL gm gd, .int .i64 gx, .int .i64 ge] := hS18 ▸ H_m.out.other (p := ⟨W0.heap.size, 2, none⟩) (by show W0.heap.size ≠ _; omega) _
      have N_s : Blk S18 (W0.heap.size) 39 #[.int .i64 0, .int .i64 0, .slice v9A (j + 1) v9c, .slice none 0 0, .slice none 0 0, .slice none 0 0] := hS18 ▸ H_s.out.set_ 2 (.slice v9A (j + 1) v9c)
      have N_l : Blk S18 (w.heap.size) 25 #[.slice N n1 c1, .slice U k c2] := hS18 ▸ H_l.out.other (p := ⟨W0.heap.size, 2, none⟩) (by show W0.heap.size ≠ _; omega) _
      have N_sp : Blk S18 (w.heap.size + 1) 28 #[.int .i64 code, .int .i64 mem, .int .i64 stack, .int .i64 val, .slice W ws.length wk] := hS18 ▸ H_sp.out.other (p := ⟨W0.heap.size, 2, none⟩) (by show W0.heap.size ≠ _; omega) _
      have N_d : Blk S18 (w.heap.size + 1 + 1) 30 #[.slice A n c, .int .i64 (i : Int), .slice L log.length dd] := hS18 ▸ H_d.out.other (p := ⟨W0.heap.size, 2, none⟩) (by show W0.heap.size ≠ _; omega) _
      have N_res : Blk S18 (w.heap.size + 1 + 1 + 1) 49 #[.slice none 0 0, .int .i64 0, .slice none 0 0, .int .i64 0, .int .i64 0, .slice none 0 0, .slice none 0 0, .slice none 0 0, .slice none 0 0, .int .i64 0] := hS18 ▸ H_res.out.other (p := ⟨W0.heap.size, 2, none⟩) (by show W0.heap.size ≠ _; omega) _
      have N_i : Blk S18 (v2.heap.size) 75 #[.slice gA gn gc, .int .i64 gi, .slice gL gm gd, .int .i64 gx, .int .i64 ge, .int .i64 xa, .int .i64 xb, .int .i64 xl] := hS18 ▸ H_i.out.other (p := ⟨W0.heap.size, 2, none⟩) (by show W0.heap.size ≠ _; omega) _
      have NB := hS18 ▸ HB.out.setCell (p := ⟨W0.heap.size, 2, none⟩) (by show w.heap.size ≤ W0.heap.size; omega) _
      have NL := HL.out.put H_s.out (by decide) (fun k hk => (show S18.heap[k]? = _ from hS18 ▸ Below.heap_setCell _ ⟨W0.heap.size, 2, none⟩ _ k hk))
      clear H_m H_s H_l H_sp H_d H_res H_i HB HL
      have H_m := Lib.hid N_m
      have H_s := Lib.hid N_s
      have H_l := Lib.hid N_l
      have H_sp := Lib.hid N_sp
      have H_d := Lib.hid N_d
      have H_res := Lib.hid N_res
      have H_i := Lib.hid N_i
      have HB := Lib.hid NB
      have HL := Lib.hid NL
      clear N_m N_s N_l N_sp N_d N_res N_i NB NL
      clear HO_c
      have HO_c := Lib.hid O_c
      clear O_c
      go_wp2_with (first | (refine wpList_store_rowTo rfl 75 (.tmp 11) (.tmp 35) rfl rfl (v2.heap.size) #[.slice gA gn gc, .int .i64 gi, .slice gL gm gd, .int .i64 gx, .int .i64 ge, .int .i64 xa, .int .i64 xb, .int .i64 xl] rfl rfl 75 _ bA13_.out Try.sizeI15 rfl (by kernel_rfl) ?_) | (refine wpList_store_rowTo rfl 72 (.tmp 9) (.tmp 37) rfl rfl (v1.heap.size) #[.slice gA gn gc, .int .i64 gi, .slice gL gm gd, .int .i64 gx, .int .i64 ge] rfl rfl 72 _ bR15_.out Try.sizeM15 rfl (by kernel_rfl) ?_) | (at_builtin; refine wpList_append_run rfl _ _ 35 35 rfl _ _ rfl rfl _ _ HRUN.out ?_))
      go_roundw
      case rel => exact ⟨j + 1, ⟨gA, gn, gc, gi, gL, gm, gd, gx, ge⟩, z2, .slice v9A (j + 1) v9c, cs ++ [⟨xa, xb, xl⟩], HJ.out, by rw [hrem2], H_m, H_s, H_l, H_sp, H_d, H_res, Lib.hid (more_shape HM2.out), Lib.hid (more_log HL.out), HO_c, Lib.hid (fun l d e => by
        obtain ⟨l0, d0, a, e1, e2, e3⟩ := more_some (z := z) e
        rw [e3, HCS.out l0 d0 e1, HX2.out a d e2]), HB⟩
      case measure => simp [intOf]
    · obtain rfl : j = K0 := by omega
      have h00 : ((j - j : Nat) : Int) = 0 := by omega
      rw [h00]
      have ha2 : wrap64 (mem + 1) = mem + 1 := by have := HN0.out; unfold wrap64; omega
      have HJK := Lib.hid hK12
      clear h00 hlt hj hK12
      have h0 := HBL.out ⟨bA, bn, bc, bi, bL, bm, bd, bx, be⟩ ((Gn.run (Gn.rep f j) q0).map fun p => (z, p.2)) (mem + 1) wr ⟨by have := HN0.out; omega, by have := HN0.out; omega⟩ HM.out HB.out (HL.out.map_at z)
      have HC := Lib.hid h0
      have HZR := Lib.hid HB.out.size
      clear h0
      have q11_ := H_m.out
      have q11_0 := q11_.cell 0
      have q11_1 := q11_.cell 1
      have q11_2 := q11_.cell 2
      have q11_3 := q11_.cell 3
      have q11_4 := q11_.cell 4
      have q12_ := H_sp.out
      have q12_0 := q12_.cell 0
      have q12_1 := q12_.cell 1
      have q12_2 := q12_.cell 2
      have q12_3 := q12_.cell 3
      have q12_4 := q12_.cell 4
      go_wp2_with (fail)
      refine (HC.out).mono ?_
      rintro e v3 ⟨⟨uA, un, uc, ui, uL, um, ud, ux, ue⟩, rfl, hm3, hl3, hb3⟩
      have O_c : v3.ownsRow w.heap.size 66 3 (.slice vA j vc) (j) (fcells ivs cs) := ownT_below HO_c.out hb3
      have N_m : Blk v3 (v1.heap.size) 72 #[.slice bA bn bc, .int .i64 bi, .slice bL bm bd, .int .i64 bx, .int .i64 be] := H_m.out.below hb3 H_m.out.lt
      have N_s : Blk v3 (W0.heap.size) 39 #[.int .i64 0, .int .i64 0, .slice vA j vc, .slice none 0 0, .slice none 0 0, .slice none 0 0] := H_s.out.below hb3 H_s.out.lt
      have N_l : Blk v3 (w.heap.size) 25 #[.slice N n1 c1, .slice U k c2] := H_l.out.below hb3 H_l.out.lt
      have N_sp : Blk v3 (w.heap.size + 1) 28 #[.int .i64 code, .int .i64 mem, .int .i64 stack, .int .i64 val, .slice W ws.length wk] := H_sp.out.below hb3 H_sp.out.lt
      have N_d : Blk v3 (w.heap.size + 1 + 1) 30 #[.slice A n c, .int .i64 (i : Int), .slice L log.length dd] := H_d.out.below hb3 H_d.out.lt
      have N_res : Blk v3 (w.heap.size + 1 + 1 + 1) 49 #[.slice none 0 0, .int .i64 0, .slice none 0 0, .int .i64 0, .int .i64 0, .slice none 0 0, .slice none 0 0, .slice none 0 0, .slice none 0 0, .int .i64 0] := H_res.out.below hb3 H_res.out.lt
      have NB := HB.out.trans (hb3.mono HB.out.size)
      have NL := HL.out.keep fun k _ hk2 => hb3.block k hk2
      clear q11_ q11_0 q11_1 q11_2 q11_3 q11_4 q12_ q12_0 q12_1 q12_2 q12_3 q12_4
      clear H_m H_s H_l H_sp H_d H_res HB HL
      have H_m := Lib.hid N_m
      have H_s := Lib.hid N_s
      have H_l := Lib.hid N_l
      have H_sp := Lib.hid N_sp
      have H_d := Lib.hid N_d
      have H_res := Lib.hid N_res
      have HB := Lib.hid NB
      have HL := Lib.hid NL
      clear N_m N_s N_l N_sp N_d N_res NB NL
      clear HO_c
      have HO_c := Lib.hid O_c
      clear O_c
      try dsimp only at hm3 hl3
      try dsimp only
      have hl3 := hl3.less HZR.out
      clear HL
      have HL := Lib.hid hl3
      clear hl3
      obtain ⟨q1, hq1⟩ : ∃ q, Gn.run (Gn.tk list (mem + 1)) ((Gn.run (Gn.rep f j) q0).map fun p => (z, p.2)) = q := ⟨_, rfl⟩
      rw [hq1] at hm3 HL
      have hK1 : ∃ K1 : Nat, ux = (K1 : Int) ∧ K1 ≤ 6 ∧ Gn.count q1 = K1 := by
        cases q1 with
        | none => exact ⟨0, congrArg MM.mx hm3, by decide, rfl⟩
        | some p =>
          obtain ⟨z3, d3⟩ := p
          have h1 : ux = z3 := congrArg MM.mx hm3.1
          have h2 : 0 ≤ z3 ∧ z3 < mem + 1 := by
            cases e9 : Gn.run (Gn.rep f j) q0 with
            | none => rw [e9] at hq1; cases hq1
            | some p9 => rw [e9] at hq1; exact Gn.Out.tk list (by have := HN0.out; omega) _ _ _ hq1
          exact ⟨z3.toNat, by omega, by have := HN0.out; omega, rfl⟩
      obtain ⟨K1, rfl, hK6, hK1⟩ := hK1
      have HQ1 := Lib.hid hq1
      have HKE1 := Lib.hid hK1
      have HM3 := Lib.hid hm3
      clear hm3 hb3 HC HM HZR hq1 hK1
      have gR13_ := H_m.out.lt
      obtain ⟨R13_, eR13_, kR13_, hR13_, yR13_⟩ := row15 H_m.out #[.slice uA un uc, .int .i64 ui, .slice uL um ud, .int .i64 (K1 : Int), .int .i64 ue]
      have bR13_ := H_m
      have O_c : R13_.ownsRow w.heap.size 66 3 (.slice vA j vc) (j) (fcells ivs cs) := own_ofD HO_c.out fun g9 hg9 => (show ∀ k9, k9 ≠ v1.heap.size → R13_.heap[k9]? = v3.heap[k9]? from hR13_.out) g9 (by
        obtain ⟨cs9, hb9⟩ := own_blkD HO_c.out hg9
        exact hb9.ty_neD H_m.out (by decide))
      have N_m : Blk R13_ (v1.heap.size) 72 #[.slice uA un uc, .int .i64 ui, .slice uL um ud, .int .i64 (K1 : Int), .int .i64 ue] := kR13_.out
      have N_s : Blk R13_ (W0.heap.size) 39 #[.int .i64 0, .int .i64 0, .slice vA j vc, .slice none 0 0, .slice none 0 0, .slice none 0 0] := (hR13_.out _ (by omega)).trans H_s.out
      have N_l : Blk R13_ (w.heap.size) 25 #[.slice N n1 c1, .slice U k c2] := (hR13_.out _ (by omega)).trans H_l.out
      have N_sp : Blk R13_ (w.heap.size + 1) 28 #[.int .i64 code, .int .i64 mem, .int .i64 stack, .int .i64 val, .slice W ws.length wk] := (hR13_.out _ (by omega)).trans H_sp.out
      have N_d : Blk R13_ (w.heap.size + 1 + 1) 30 #[.slice A n c, .int .i64 (i : Int), .slice L log.length dd] := (hR13_.out _ (by omega)).trans H_d.out
      have N_res : Blk R13_ (w.heap.size + 1 + 1 + 1) 49 #[.slice none 0 0, .int .i64 0, .slice none 0 0, .int .i64 0, .int .i64 0, .slice none 0 0, .slice none 0 0, .slice none 0 0, .slice none 0 0, .int .i64 0] := (hR13_.out _ (by omega)).trans H_res.out
      have NB := yR13_.out _ _ (by omega) HB.out
      have NL := HL.out.put H_m.out (by decide) hR13_.out
      clear H_m H_s H_l H_sp H_d H_res HB HL
      have H_m := Lib.hid N_m
      have H_s := Lib.hid N_s
      have H_l := Lib.hid N_l
      have H_sp := Lib.hid N_sp
      have H_d := Lib.hid N_d
      have H_res := Lib.hid N_res
      have HB := Lib.hid NB
      have HL := Lib.hid NL
      clear N_m N_s N_l N_sp N_d N_res NB NL
      clear HO_c
      have HO_c := Lib.hid O_c
      clear O_c
      clear kR13_ hR13_ yR13_
      have q14_ := H_m.out
      have q14_0 := q14_.cell 0
      have q14_1 := q14_.cell 1
      have q14_2 := q14_.cell 2
      have q14_3 := q14_.cell 3
      have q14_4 := q14_.cell 4
      obtain ⟨g, hg⟩ : ∃ g, Gn.slotF list k ⟨code, mem, stack, val, ws⟩ = g := ⟨_, rfl⟩
      rw [hg] at HSF
      have hs0 : MSh A n c ⟨uA, un, uc, ui, uL, um, ud, (K1 : Int), ue⟩ ((Gn.run (Gn.rep g 0) q1).map fun p => ((K1 : Int), p.2)) := by
        rw [Gn.run_rep]
        have h := HM3.out
        cases q1 with
        | none => exact h
        | some p =>
          obtain ⟨z9, d⟩ := p
          have h1 : (K1 : Int) = z9 := congrArg MM.mx h.1
          subst h1
          exact h
      have hs1 : LogNew w.heap.size R13_ ⟨uA, un, uc, ui, uL, um, ud, (K1 : Int), ue⟩ (Gn.run (Gn.rep g 0) q1) := by
        rw [Gn.run_rep]
        intro z d e
        cases q1 with
        | none => cases e
        | some p =>
          obtain ⟨z1, d1⟩ := p
          have e : some (([] : List St.Slot), d1) = some (z, d) := e
          injection e with e
          injection e with _ e
          exact e ▸ HL.out z1 d1 rfl
      have HS0 := Lib.hid hs0
      have HS1 := Lib.hid hs1
      clear hs0 hs1 HM3 HL
      go_upto_block 2 with (first | (refine wpList_store_rowTo rfl 72 (.tmp 9) (.tmp 49) rfl rfl (v1.heap.size) #[.slice uA un uc, .int .i64 ui, .slice uL um ud, .int .i64 (K1 : Int), .int .i64 ue] rfl rfl 72 _ bR13_.out Try.sizeM15 rfl (by kernel_rfl) ?_))
      go_cut [12, 13] from 52 to 78 (fun x12 x13 wx => ∃ (j3 : Nat) (y : MM) (z : Int) (v : Value) (cs2 : List St.Slot), Hid (Blk wx (v1.heap.size) 72 y.cs) ∧ Hid (Blk wx (W0.heap.size) 39 #[.int .i64 0, .int .i64 0, .slice vA j vc, v, .slice none 0 0, .slice none 0 0]) ∧ Hid (Blk wx (w.heap.size) 25 #[.slice N n1 c1, .slice U k c2]) ∧ Hid (Blk wx (w.heap.size + 1) 28 #[.int .i64 code, .int .i64 mem, .int .i64 stack, .int .i64 val, .slice W ws.length wk]) ∧ Hid (Blk wx (w.heap.size + 1 + 1) 30 #[.slice A n c, .int .i64 (i : Int), .slice L log.length dd]) ∧ Hid (Blk wx (w.heap.size + 1 + 1 + 1) 49 #[.slice none 0 0, .int .i64 0, .slice none 0 0, .int .i64 0, .int .i64 0, .slice none 0 0, .slice none 0 0, .slice none 0 0, .slice none 0 0, .int .i64 0]) ∧
          Hid (MSh A n c y ((Gn.run (Gn.rep g K1) q1).map fun p => (z, p.2))) ∧ Hid (LogNew w.heap.size wx y (Gn.run (Gn.rep g K1) q1)) ∧ Hid (wx.ownsRow w.heap.size 66 3 (.slice vA j vc) j (fcells ivs cs)) ∧ Hid (wx.ownsRow w.heap.size 34 2 v j3 (fcells avs (cs2.map St.toAtom))) ∧ Hid (∀ l d, Gn.run (Gn.rep g K1) q1 = some (l, d) → l = cs2 ∧ j3 = K1) ∧ Hid (Below w.heap.size w wx))
      case first =>
        go_wp2_with (fail)
        go_loopw [12] (fun iv wr => ∃ (j2 : Nat) (y : MM) (z : Int) (v : Value) (cs2 : List St.Slot), j2 ≤ K1 ∧ iv = .int .i64 ((K1 - j2 : Nat) : Int) ∧ Hid (Blk wr (v1.heap.size) 72 y.cs) ∧ Hid (Blk wr (W0.heap.size) 39 #[.int .i64 0, .int .i64 0, .slice vA j vc, v, .slice none 0 0, .slice none 0 0]) ∧ Hid (Blk wr (w.heap.size) 25 #[.slice N n1 c1, .slice U k c2]) ∧ Hid (Blk wr (w.heap.size + 1) 28 #[.int .i64 code, .int .i64 mem, .int .i64 stack, .int .i64 val, .slice W ws.length wk]) ∧ Hid (Blk wr (w.heap.size + 1 + 1) 30 #[.slice A n c, .int .i64 (i : Int), .slice L log.length dd]) ∧ Hid (Blk wr (w.heap.size + 1 + 1 + 1) 49 #[.slice none 0 0, .int .i64 0, .slice none 0 0, .int .i64 0, .int .i64 0, .slice none 0 0, .slice none 0 0, .slice none 0 0, .slice none 0 0, .int .i64 0]) ∧
            Hid (MSh A n c y ((Gn.run (Gn.rep g j2) q1).map fun p => (z, p.2))) ∧ Hid (LogNew w.heap.size wr y (Gn.run (Gn.rep g j2) q1)) ∧ Hid (wr.ownsRow w.heap.size 66 3 (.slice vA j vc) j (fcells ivs cs)) ∧ Hid (wr.ownsRow w.heap.size 34 2 v j2 (fcells avs (cs2.map St.toAtom))) ∧ Hid (∀ l d, Gn.run (Gn.rep g j2) q1 = some (l, d) → l = cs2) ∧ Hid (Below w.heap.size w wr)) (fun iv _ => (intOf iv).toNat)
        case atStart => exact ⟨0, ⟨uA, un, uc, ui, uL, um, ud, (K1 : Int), ue⟩, (K1 : Int), .slice none 0 0, [], Nat.zero_le _, rfl, H_m, H_s, H_l, H_sp, H_d, H_res, HS0, HS1, HO_c, Lib.hid (World.ownsRow_nil _ _ _ _), Lib.hid (fun l d e => by rw [Gn.run_rep] at e; cases q1 with | none => cases e | some p => (injection e with e; injection e with e _; exact e.symm)), HB⟩
        case round =>
          have HCSC := HCS
          clear H_m H_s H_l H_sp H_d H_res HB HS0 HS1 HO_c HCS
          obtain ⟨j2, y, z3, v, cs2, hj, rfl, H_m, H_s, H_l, H_sp, H_d, H_res, HM, HL, HO_c, HO_a, HCS, HB⟩ := hrel
          obtain ⟨pA, pn, pc, pi, pL, pm, pd, px, pe⟩ := y
          unfold MM.cs at H_m
          dsimp only at H_m
          obtain ⟨v2A, v2c, rfl⟩ := ownT_slice HO_a.out
          by_cases hlt : j2 < K1
          · obtain ⟨rem, hrem⟩ : ∃ rem, K1 - j2 = rem + 1 := ⟨K1 - j2 - 1, by omega⟩
            have hrem2 : K1 - (j2 + 1) = rem := by omega
            have hj12 : j2 ≤ 1000 := by omega
            rw [hrem, show (((rem + 1 : Nat)) : Int) = (rem : Int) + 1 from by omega]
            have ht1 : decide ((rem : Int) + 1 > 0) = true := decide_eq_true (by omega)
            have hw9 : wrap64 ((rem : Int) + 1 - 1) = (rem : Int) := by unfold wrap64; omega
            cases e9 : Gn.run (Gn.rep g j2) q1 with
            | none =>
                have hpe : pe = 8 := by
                  have h := HM.out
                  rw [e9] at h
                  exact congrArg MM.me h
                subst hpe
                have h9 : Gn.run (Gn.rep g K1) q1 = none := by
                  have h := Gn.rep_none e9 (K1 - j2)
                  rwa [show j2 + (K1 - j2) = K1 from by omega] at h
                have hm9 : MSh A n c ⟨pA, pn, pc, pi, pL, pm, pd, px, 8⟩ ((Gn.run (Gn.rep g K1) q1).map fun p => (z3, p.2)) := by
                  rw [h9]
                  have h := HM.out
                  rw [e9] at h
                  exact h
                have q9 := H_m.out.cell 4
                have HM9 := Lib.hid hm9
                have H9 := Lib.hid h9
                clear h9 hm9 e9 HM HCS
                go_wp2_with (fail)
                go_meet
                exact ⟨j2, ⟨pA, pn, pc, pi, pL, pm, pd, px, 8⟩, z3, _, cs2, H_m, H_s, H_l, H_sp, H_d, H_res, HM9, Lib.hid (fun z d e => by rw [H9.out] at e; cases e), HO_c, HO_a, Lib.hid (fun l d e => by rw [H9.out] at e; cases e), HB⟩
            | some p9 =>
              have hpe : pe = 0 := by
                have h := HM.out
                rw [e9] at h
                exact congrArg MM.me h.1
              subst hpe
              clear e9
              have h0 := HSF.out ⟨pA, pn, pc, pi, pL, pm, pd, px, 0⟩ ((Gn.run (Gn.rep g j2) q1).map fun p => (z3, p.2)) wr HM.out HB.out (HL.out.map_at z3)
              have HC := Lib.hid h0
              have HZR := Lib.hid HB.out.size
              have HJ := Lib.hid hlt
              clear h0 hlt hrem
              have q15_ := H_m.out
              have q15_0 := q15_.cell 0
              have q15_1 := q15_.cell 1
              have q15_2 := q15_.cell 2
              have q15_3 := q15_.cell 3
              have q15_4 := q15_.cell 4
              have q16_ := H_sp.out
              have q16_0 := q16_.cell 0
              have q16_1 := q16_.cell 1
              have q16_2 := q16_.cell 2
              have q16_3 := q16_.cell 3
              have q16_4 := q16_.cell 4
              go_wp2_with (fail)
              refine (HC.out).mono ?_
              rintro e v5 ⟨⟨gA, gn, gc, gi, gL, gm, gd, gx, ge⟩, z2, xr, xv, xl, rfl, hm2, hx2, hl2, hb2⟩
              have O_c : v5.ownsRow w.heap.size 66 3 (.slice vA j vc) (j) (fcells ivs cs) := ownT_below HO_c.out hb2
              have O_a : v5.ownsRow w.heap.size 34 2 (.slice v2A j2 v2c) (j2) (fcells avs (cs2.map St.toAtom)) := ownT_below HO_a.out hb2
              have N_m : Blk v5 (v1.heap.size) 72 #[.slice pA pn pc, .int .i64 pi, .slice pL pm pd, .int .i64 px, .int .i64 0] := H_m.out.below hb2 H_m.out.lt
              have N_s : Blk v5 (W0.heap.size) 39 #[.int .i64 0, .int .i64 0, .slice vA j vc, .slice v2A j2 v2c, .slice none 0 0, .slice none 0 0] := H_s.out.below hb2 H_s.out.lt
              have N_l : Blk v5 (w.heap.size) 25 #[.slice N n1 c1, .slice U k c2] := H_l.out.below hb2 H_l.out.lt
              have N_sp : Blk v5 (w.heap.size + 1) 28 #[.int .i64 code, .int .i64 mem, .int .i64 stack, .int .i64 val, .slice W ws.length wk] := H_sp.out.below hb2 H_sp.out.lt
              have N_d : Blk v5 (w.heap.size + 1 + 1) 30 #[.slice A n c, .int .i64 (i : Int), .slice L log.length dd] := H_d.out.below hb2 H_d.out.lt
              have N_res : Blk v5 (w.heap.size + 1 + 1 + 1) 49 #[.slice none 0 0, .int .i64 0, .slice none 0 0, .int .i64 0, .int .i64 0, .slice none 0 0, .slice none 0 0, .slice none 0 0, .slice none 0 0, .int .i64 0] := H_res.out.below hb2 H_res.out.lt
              have NB := HB.out.trans (hb2.mono HB.out.size)
              have NL := HL.out.keep fun k _ hk2 => hb2.block k hk2
              clear q15_ q15_0 q15_1 q15_2 q15_3 q15_4 q16_ q16_0 q16_1 q16_2 q16_3 q16_4
              clear H_m H_s H_l H_sp H_d H_res HB HL
              have H_m := Lib.hid N_m
              have H_s := Lib.hid N_s
              have H_l := Lib.hid N_l
              have H_sp := Lib.hid N_sp
              have H_d := Lib.hid N_d
              have H_res := Lib.hid N_res
              have HB := Lib.hid NB
              have HL := Lib.hid NL
              clear N_m N_s N_l N_sp N_d N_res NB NL
              clear HO_c
              have HO_c := Lib.hid O_c
              clear O_c
              clear HO_a
              have HO_a := Lib.hid O_a
              clear O_a
              try dsimp only at hm2 hl2
              try dsimp only
              have hl2 := hl2.less HZR.out
              clear HL
              have HL := Lib.hid hl2
              clear hl2
              have HM2 := Lib.hid hm2
              have HX2 := Lib.hid hx2
              clear hm2 hx2 hb2 HC HM HZR
              have lA17_m := H_m.out.lt
              have lA17_s := H_s.out.lt
              have lA17_l := H_l.out.lt
              have lA17_sp := H_sp.out.lt
              have lA17_d := H_d.out.lt
              have lA17_res := H_res.out.lt
              obtain ⟨A17_, eA17_⟩ : ∃ U, v5.alloc (.cells #[.slice gA gn gc, .int .i64 gi, .slice gL gm gd, .int .i64 gx, .int .i64 ge, .bool xr, .int .i64 xv, .int .i64 xl] 78) = U := ⟨_, rfl⟩
              have nA17_ : Blk A17_ (v5.heap.size) 78 #[.slice gA gn gc, .int .i64 gi, .slice gL gm gd, .int .i64 gx, .int .i64 ge, .bool xr, .int .i64 xv, .int .i64 xl] := eA17_ ▸ Blk.new _ _ _
              have zA17_ := HB.out.size
              have bA17_ := Lib.hid (Blk.new v5 78 #[.slice none 0 0, .int .i64 0, .slice none 0 0, .int .i64 0, .int .i64 0, .bool false, .int .i64 0, .int .i64 0])
              have sA17_ : (v5.alloc (.cells #[.slice none 0 0, .int .i64 0, .slice none 0 0, .int .i64 0, .int .i64 0, .bool false, .int .i64 0, .int .i64 0] 78)).setRow v5.heap.size #[.slice gA gn gc, .int .i64 gi, .slice gL gm gd, .int .i64 gx, .int .i64 ge, .bool xr, .int .i64 xv, .int .i64 xl] = A17_ := (World.setRow_alloc_new v5 _ _ _).trans eA17_
              have O_c : A17_.ownsRow w.heap.size 66 3 (.slice vA j vc) (j) (fcells ivs cs) := eA17_ ▸ HO_c.out.alloc _
              have O_a : A17_.ownsRow w.heap.size 34 2 (.slice v2A j2 v2c) (j2) (fcells avs (cs2.map St.toAtom)) := eA17_ ▸ HO_a.out.alloc _
              have N_m : Blk A17_ (v1.heap.size) 72 #[.slice pA pn pc, .int .i64 pi, .slice pL pm pd, .int .i64 px, .int .i64 0] := eA17_ ▸ H_m.out.alloc _
              have N_s : Blk A17_ (W0.heap.size) 39 #[.int .i64 0, .int .i64 0, .slice vA j vc, .slice v2A j2 v2c, .slice none 0 0, .slice none 0 0] := eA17_ ▸ H_s.out.alloc _
              have N_l : Blk A17_ (w.heap.size) 25 #[.slice N n1 c1, .slice U k c2] := eA17_ ▸ H_l.out.alloc _
              have N_sp : Blk A17_ (w.heap.size + 1) 28 #[.int .i64 code, .int .i64 mem, .int .i64 stack, .int .i64 val, .slice W ws.length wk] := eA17_ ▸ H_sp.out.alloc _
              have N_d : Blk A17_ (w.heap.size + 1 + 1) 30 #[.slice A n c, .int .i64 (i : Int), .slice L log.length dd] := eA17_ ▸ H_d.out.alloc _
              have N_res : Blk A17_ (w.heap.size + 1 + 1 + 1) 49 #[.slice none 0 0, .int .i64 0, .slice none 0 0, .int .i64 0, .int .i64 0, .slice none 0 0, .slice none 0 0, .slice none 0 0, .slice none 0 0, .int .i64 0] := eA17_ ▸ H_res.out.alloc _
              have NB := eA17_ ▸ HB.out.alloc HB.out.size _
              have NL := HL.out.keep fun k _ hk2 => (show A17_.heap[k]? = _ from eA17_ ▸ Below.heap_alloc _ _ k hk2)
              clear H_m H_s H_l H_sp H_d H_res HB HL
              have H_m := Lib.hid N_m
              have H_s := Lib.hid N_s
              have H_l := Lib.hid N_l
              have H_sp := Lib.hid N_sp
              have H_d := Lib.hid N_d
              have H_res := Lib.hid N_res
              have HB := Lib.hid NB
              have HL := Lib.hid NL
              clear N_m N_s N_l N_sp N_d N_res NB NL
              clear HO_c
              have HO_c := Lib.hid O_c
              clear O_c
              clear HO_a
              have HO_a := Lib.hid O_a
              clear O_a
              have H_i := Lib.hid nA17_
              clear nA17_ eA17_
              have q18_ := H_i.out
              have q18_0 := q18_.cell 0
              have q18_1 := q18_.cell 1
              have q18_2 := q18_.cell 2
              have q18_3 := q18_.cell 3
              have q18_4 := q18_.cell 4
              have q18_5 := q18_.cell 5
              have q18_6 := q18_.cell 6
              have q18_7 := q18_.cell 7
              have gR19_ := H_m.out.lt
              obtain ⟨R19_, eR19_, kR19_, hR19_, yR19_⟩ := row15 H_m.out #[.slice gA gn gc, .int .i64 gi, .slice gL gm gd, .int .i64 gx, .int .i64 ge]
              have bR19_ := H_m
              have O_c : R19_.ownsRow w.heap.size 66 3 (.slice vA j vc) (j) (fcells ivs cs) := own_ofD HO_c.out fun g9 hg9 => (show ∀ k9, k9 ≠ v1.heap.size → R19_.heap[k9]? = A17_.heap[k9]? from hR19_.out) g9 (by
                obtain ⟨cs9, hb9⟩ := own_blkD HO_c.out hg9
                exact hb9.ty_neD H_m.out (by decide))
              have O_a : R19_.ownsRow w.heap.size 34 2 (.slice v2A j2 v2c) (j2) (fcells avs (cs2.map St.toAtom)) := own_ofD HO_a.out fun g9 hg9 => (show ∀ k9, k9 ≠ v1.heap.size → R19_.heap[k9]? = A17_.heap[k9]? from hR19_.out) g9 (by
                obtain ⟨cs9, hb9⟩ := own_blkD HO_a.out hg9
                exact hb9.ty_neD H_m.out (by decide))
              have N_m : Blk R19_ (v1.heap.size) 72 #[.slice gA gn gc, .int .i64 gi, .slice gL gm gd, .int .i64 gx, .int .i64 ge] := kR19_.out
              have N_s : Blk R19_ (W0.heap.size) 39 #[.int .i64 0, .int .i64 0, .slice vA j vc, .slice v2A j2 v2c, .slice none 0 0, .slice none 0 0] := (hR19_.out _ (by omega)).trans H_s.out
              have N_l : Blk R19_ (w.heap.size) 25 #[.slice N n1 c1, .slice U k c2] := (hR19_.out _ (by omega)).trans H_l.out
              have N_sp : Blk R19_ (w.heap.size + 1) 28 #[.int .i64 code, .int .i64 mem, .int .i64 stack, .int .i64 val, .slice W ws.length wk] := (hR19_.out _ (by omega)).trans H_sp.out
              have N_d : Blk R19_ (w.heap.size + 1 + 1) 30 #[.slice A n c, .int .i64 (i : Int), .slice L log.length dd] := (hR19_.out _ (by omega)).trans H_d.out
              have N_res : Blk R19_ (w.heap.size + 1 + 1 + 1) 49 #[.slice none 0 0, .int .i64 0, .slice none 0 0, .int .i64 0, .int .i64 0, .slice none 0 0, .slice none 0 0, .slice none 0 0, .slice none 0 0, .int .i64 0] := (hR19_.out _ (by omega)).trans H_res.out
              have N_i : Blk R19_ (v5.heap.size) 78 #[.slice gA gn gc, .int .i64 gi, .slice gL gm gd, .int .i64 gx, .int .i64 ge, .bool xr, .int .i64 xv, .int .i64 xl] := (hR19_.out _ (by omega)).trans H_i.out
              have NB := yR19_.out _ _ (by omega) HB.out
              have NL := HL.out.put H_m.out (by decide) hR19_.out
              clear H_m H_s H_l H_sp H_d H_res H_i HB HL
              have H_m := Lib.hid N_m
              have H_s := Lib.hid N_s
              have H_l := Lib.hid N_l
              have H_sp := Lib.hid N_sp
              have H_d := Lib.hid N_d
              have H_res := Lib.hid N_res
              have H_i := Lib.hid N_i
              have HB := Lib.hid NB
              have HL := Lib.hid NL
              clear N_m N_s N_l N_sp N_d N_res N_i NB NL
              clear HO_c
              have HO_c := Lib.hid O_c
              clear O_c
              clear HO_a
              have HO_a := Lib.hid O_a
              clear O_a
              clear kR19_ hR19_ yR19_
              have q20_ := H_s.out
              have q20_0 := q20_.cell 0
              have q20_1 := q20_.cell 1
              have q20_2 := q20_.cell 2
              have q20_3 := q20_.cell 3
              have q20_4 := q20_.cell 4
              have q20_5 := q20_.cell 5
              have q21_ := H_i.out
              have q21_0 := q21_.cell 0
              have q21_1 := q21_.cell 1
              have q21_2 := q21_.cell 2
              have q21_3 := q21_.cell 3
              have q21_4 := q21_.cell 4
              have q21_5 := q21_.cell 5
              have q21_6 := q21_.cell 6
              have q21_7 := q21_.cell 7
              have zs9 := HB.out.size
              obtain ⟨v9, W9, hrun, hown, hbn, hkn⟩ := app15A xv xl HO_a.out hj12 zs9
              obtain ⟨v9A, v9c, rfl⟩ := ownT_slice hown
              have N_m : Blk W9 (v1.heap.size) 72 #[.slice gA gn gc, .int .i64 gi, .slice gL gm gd, .int .i64 gx, .int .i64 ge] := hkn _ _ _ (by decide) (H_m.out.alloc _)
              have l9m := H_m.out.lt
              have N_s : Blk W9 (W0.heap.size) 39 #[.int .i64 0, .int .i64 0, .slice vA j vc, .slice v2A j2 v2c, .slice none 0 0, .slice none 0 0] := hkn _ _ _ (by decide) (H_s.out.alloc _)
              have l9s := H_s.out.lt
              have N_l : Blk W9 (w.heap.size) 25 #[.slice N n1 c1, .slice U k c2] := hkn _ _ _ (by decide) (H_l.out.alloc _)
              have l9l := H_l.out.lt
              have N_sp : Blk W9 (w.heap.size + 1) 28 #[.int .i64 code, .int .i64 mem, .int .i64 stack, .int .i64 val, .slice W ws.length wk] := hkn _ _ _ (by decide) (H_sp.out.alloc _)
              have l9sp := H_sp.out.lt
              have N_d : Blk W9 (w.heap.size + 1 + 1) 30 #[.slice A n c, .int .i64 (i : Int), .slice L log.length dd] := hkn _ _ _ (by decide) (H_d.out.alloc _)
              have l9d := H_d.out.lt
              have N_res : Blk W9 (w.heap.size + 1 + 1 + 1) 49 #[.slice none 0 0, .int .i64 0, .slice none 0 0, .int .i64 0, .int .i64 0, .slice none 0 0, .slice none 0 0, .slice none 0 0, .slice none 0 0, .int .i64 0] := hkn _ _ _ (by decide) (H_res.out.alloc _)
              have l9res := H_res.out.lt
              have N_i : Blk W9 (v5.heap.size) 78 #[.slice gA gn gc, .int .i64 gi, .slice gL gm gd, .int .i64 gx, .int .i64 ge, .bool xr, .int .i64 xv, .int .i64 xl] := hkn _ _ _ (by decide) (H_i.out.alloc _)
              have l9i := H_i.out.lt
              have NB : Below w.heap.size w W9 := (HB.out.alloc zs9 _).trans hbn
              have NL : LogNew w.heap.size W9 ⟨gA, gn, gc, gi, gL, gm, gd, gx, ge⟩ _ := fun x d e => own_ofD ((HL.out x d e).alloc _) fun g9 hg9 => by
                obtain ⟨cs9, hb9⟩ := own_blkD ((HL.out x d e).alloc _) hg9
                exact (hkn _ _ _ (by decide) hb9).trans hb9.symm
              have NC : W9.ownsRow w.heap.size 66 3 (.slice vA j vc) j (fcells ivs cs) := own_ofD (HO_c.out.alloc _) fun g9 hg9 => by
                obtain ⟨cs9, hb9⟩ := own_blkD (HO_c.out.alloc _) hg9
                exact (hkn _ _ _ (by decide) hb9).trans hb9.symm
              clear H_m H_s H_l H_sp H_d H_res H_i HB HL HO_c HO_a
              have H_m := Lib.hid N_m
              have H_s := Lib.hid N_s
              have H_l := Lib.hid N_l
              have H_sp := Lib.hid N_sp
              have H_d := Lib.hid N_d
              have H_res := Lib.hid N_res
              have H_i := Lib.hid N_i
              have HRUN := Lib.hid hrun
              have HB := Lib.hid NB
              have HL := Lib.hid NL
              have HO_c := Lib.hid NC
              have HO_a := Lib.hid hown
              clear N_m N_s N_l N_sp N_d N_res N_i NB NL NC hown hbn hkn zs9 hrun
              obtain ⟨S22, hS22⟩ : ∃ U, W9.setCell ⟨W0.heap.size, 3, none⟩ (.slice v9A (j2 + 1) v9c) = U := ⟨_, rfl⟩
              have cS22 := H_s.out.cell 3
              have fS22 := H_s.out.frozen 3
              have gS22 := H_s.out.lt
              have O_c : S22.ownsRow w.heap.size 66 3 (.slice vA j vc) (j) (fcells ivs cs) := own_ofD HO_c.out fun g9 hg9 => (show ∀ k9, k9 ≠ W0.heap.size → S22.heap[k9]? = W9.heap[k9]? from (fun k hk => (show S22.heap[k]? = _ from hS22 ▸ Below.heap_setCell _ ⟨W0.heap.size, 3, none⟩ _ k hk))) g9 (by
                obtain ⟨cs9, hb9⟩ := own_blkD HO_c.out hg9
                exact hb9.ty_neD H_s.out (by decide))
              have O_a : S22.ownsRow w.heap.size 34 2 (.slice v9A (j2 + 1) v9c) (j2 + 1) (fcells avs (cs2.map St.toAtom ++ [⟨xv, xl⟩])) := own_ofD HO_a.out fun g9 hg9 => (show ∀ k9, k9 ≠ W0.heap.size → S22.heap[k9]? = W9.heap[k9]? from (fun k hk => (show S22.heap[k]? = _ from hS22 ▸ Below.heap_setCell _ ⟨W0.heap.size, 3, none⟩ _ k hk))) g9 (by
                obtain ⟨cs9, hb9⟩ := own_blkD HO_a.out hg9
                exact hb9.ty_neD H_s.out (by decide))
              have N_m : Blk S22 (v1.heap.size) 72 #[.slice gA gn gc, .int .i64 gi, .slice gL gm gd, .int .i64 gx, .int .i64 ge] := hS22 ▸ H_m.out.other (p := ⟨W0.heap.size, 3, none⟩) (by show W0.heap.size ≠ _; omega) _
              have N_s : Blk S22 (W0.heap.size) 39 #[.int .i64 0, .int .i64 0, .slice vA j vc, .slice v9A (j2 + 1) v9c, .slice none 0 0, .slice none 0 0] := hS22 ▸ H_s.out.set_ 3 (.slice v9A (j2 + 1) v9c)
              have N_l : Blk S22 (w.heap.size) 25 #[.slice N n1 c1, .slice U k c2] := hS22 ▸ H_l.out.other (p := ⟨W0.heap.size, 3, none⟩) (by show W0.heap.size ≠ _; omega) _
              have N_sp : Blk S22 (w.heap.size + 1) 28 #[.int .i64 code, .int .i64 mem, .int .i64 stack, .int .i64 val, .slice W ws.length wk] := hS22 ▸ H_sp.out.other (p := ⟨W0.heap.size, 3, none⟩) (by show W0.heap.size ≠ _; omega) _
              have N_d : Blk S22 (w.heap.size + 1 + 1) 30 #[.slice A n c, .int .i64 (i : Int), .slice L log.length dd] := hS22 ▸ H_d.out.other (p := ⟨W0.heap.size, 3, none⟩) (by show W0.heap.size ≠ _; omega) _
              have N_res : Blk S22 (w.heap.size + 1 + 1 + 1) 49 #[.slice none 0 0, .int .i64 0, .slice none 0 0, .int .i64 0, .int .i64 0, .slice none 0 0, .slice none 0 0, .slice none 0 0, .slice none 0 0, .int .i64 0] := hS22 ▸ H_res.out.other (p := ⟨W0.heap.size, 3, none⟩) (by show W0.heap.size ≠ _; omega) _
              have N_i : Blk S22 (v5.heap.size) 78 #[.slice gA gn gc, .int .i64 gi, .slice gL gm gd, .int .i64 gx, .int .i64 ge, .bool xr, .int .i64 xv, .int .i64 xl] := hS22 ▸ H_i.out.other (p := ⟨W0.heap.size, 3, none⟩) (by show W0.heap.size ≠ _; omega) _
              have NB := hS22 ▸ HB.out.setCell (p := ⟨W0.heap.size, 3, none⟩) (by show w.heap.size ≤ W0.heap.size; omega) _
              have NL := HL.out.put H_s.out (by decide) (fun k hk => (show S22.heap[k]? = _ from hS22 ▸ Below.heap_setCell _ ⟨W0.heap.size, 3, none⟩ _ k hk))
              clear H_m H_s H_l H_sp H_d H_res H_i HB HL
              have H_m := Lib.hid N_m
              have H_s := Lib.hid N_s
              have H_l := Lib.hid N_l
              have H_sp := Lib.hid N_sp
              have H_d := Lib.hid N_d
              have H_res := Lib.hid N_res
              have H_i := Lib.hid N_i
              have HB := Lib.hid NB
              have HL := Lib.hid NL
              clear N_m N_s N_l N_sp N_d N_res N_i NB NL
              clear HO_c
              have HO_c := Lib.hid O_c
              clear O_c
              clear HO_a
              have HO_a := Lib.hid O_a
              clear O_a
              have HO_z : Hid (S22.ownsRow w.heap.size 34 2 (.slice v9A (j2 + 1) v9c) (j2 + 1) (fcells avs ((cs2 ++ [(⟨xr, xv, xl⟩ : St.Slot)]).map St.toAtom))) := Lib.hid (by rw [List.map_append]; exact HO_a.out)
              go_wp2_with (first | (refine wpList_store_rowTo rfl 78 (.tmp 13) (.tmp 64) rfl rfl (v5.heap.size) #[.slice gA gn gc, .int .i64 gi, .slice gL gm gd, .int .i64 gx, .int .i64 ge, .bool xr, .int .i64 xv, .int .i64 xl] rfl rfl 78 _ bA17_.out Try.sizeL15 rfl (by kernel_rfl) ?_) | (refine wpList_store_rowTo rfl 72 (.tmp 9) (.tmp 66) rfl rfl (v1.heap.size) #[.slice gA gn gc, .int .i64 gi, .slice gL gm gd, .int .i64 gx, .int .i64 ge] rfl rfl 72 _ bR19_.out Try.sizeM15 rfl (by kernel_rfl) ?_) | (at_builtin; refine wpList_append_run rfl _ _ 36 36 rfl _ _ rfl rfl _ _ HRUN.out ?_))
              go_roundw
              case rel => exact ⟨j2 + 1, ⟨gA, gn, gc, gi, gL, gm, gd, gx, ge⟩, z2, .slice v9A (j2 + 1) v9c, cs2 ++ [⟨xr, xv, xl⟩], HJ.out, by rw [hrem2], H_m, H_s, H_l, H_sp, H_d, H_res, Lib.hid (more_shape HM2.out), Lib.hid (more_log HL.out), HO_c, HO_z, Lib.hid (fun l d e => by
                obtain ⟨l0, d0, a, e1, e2, e3⟩ := more_some (z := z3) e
                rw [e3, HCS.out l0 d0 e1, HX2.out a d e2]), HB⟩
              case measure => simp [intOf]
          · obtain rfl : j2 = K1 := by omega
            have h00 : ((j2 - j2 : Nat) : Int) = 0 := by omega
            rw [h00]
            clear h00
            go_wp2_with (fail)
            go_meet
            exact ⟨j2, ⟨pA, pn, pc, pi, pL, pm, pd, px, pe⟩, z3, _, cs2, H_m, H_s, H_l, H_sp, H_d, H_res, HM, HL, HO_c, HO_a, Lib.hid (fun l d e => ⟨HCS.out l d e, rfl⟩), HB⟩
      case rest =>
        obtain ⟨j3, y, z5, v, cs2, H_m, H_s, H_l, H_sp, H_d, H_res, HM, HL, HO_c, HO_a, HCS2, HB⟩ := hcut
        obtain ⟨kA, kn, kc, ki, kL, km, kd, kx, ke⟩ := y
        unfold MM.cs at H_m
        dsimp only at H_m
        obtain ⟨w2A, w2c, rfl⟩ := ownT_slice HO_a.out
        have ha3 : wrap64 (stack + 1) = stack + 1 := by have := HN0.out; unfold wrap64; omega
        have h0 := HBL.out ⟨kA, kn, kc, ki, kL, km, kd, kx, ke⟩ ((Gn.run (Gn.rep g K1) q1).map fun p => (z5, p.2)) (stack + 1) wc ⟨by have := HN0.out; omega, by have := HN0.out; omega⟩ HM.out HB.out (HL.out.map_at z5)
        have HC := Lib.hid h0
        have HZR := Lib.hid HB.out.size
        clear h0
        have q11_ := H_m.out
        have q11_0 := q11_.cell 0
        have q11_1 := q11_.cell 1
        have q11_2 := q11_.cell 2
        have q11_3 := q11_.cell 3
        have q11_4 := q11_.cell 4
        have q12_ := H_sp.out
        have q12_0 := q12_.cell 0
        have q12_1 := q12_.cell 1
        have q12_2 := q12_.cell 2
        have q12_3 := q12_.cell 3
        have q12_4 := q12_.cell 4
        go_wp2_with (fail)
        refine (HC.out).mono ?_
        rintro e v6 ⟨⟨rA, rn, rc, ri, rL, rm, rd, rx, re⟩, rfl, hm3, hl3, hb3⟩
        have O_c : v6.ownsRow w.heap.size 66 3 (.slice vA j vc) (j) (fcells ivs cs) := ownT_below HO_c.out hb3
        have O_a : v6.ownsRow w.heap.size 34 2 (.slice w2A j3 w2c) (j3) (fcells avs (cs2.map St.toAtom)) := ownT_below HO_a.out hb3
        have N_m : Blk v6 (v1.heap.size) 72 #[.slice kA kn kc, .int .i64 ki, .slice kL km kd, .int .i64 kx, .int .i64 ke] := H_m.out.below hb3 H_m.out.lt
        have N_s : Blk v6 (W0.heap.size) 39 #[.int .i64 0, .int .i64 0, .slice vA j vc, .slice w2A j3 w2c, .slice none 0 0, .slice none 0 0] := H_s.out.below hb3 H_s.out.lt
        have N_l : Blk v6 (w.heap.size) 25 #[.slice N n1 c1, .slice U k c2] := H_l.out.below hb3 H_l.out.lt
        have N_sp : Blk v6 (w.heap.size + 1) 28 #[.int .i64 code, .int .i64 mem, .int .i64 stack, .int .i64 val, .slice W ws.length wk] := H_sp.out.below hb3 H_sp.out.lt
        have N_d : Blk v6 (w.heap.size + 1 + 1) 30 #[.slice A n c, .int .i64 (i : Int), .slice L log.length dd] := H_d.out.below hb3 H_d.out.lt
        have N_res : Blk v6 (w.heap.size + 1 + 1 + 1) 49 #[.slice none 0 0, .int .i64 0, .slice none 0 0, .int .i64 0, .int .i64 0, .slice none 0 0, .slice none 0 0, .slice none 0 0, .slice none 0 0, .int .i64 0] := H_res.out.below hb3 H_res.out.lt
        have NB := HB.out.trans (hb3.mono HB.out.size)
        have NL := HL.out.keep fun k _ hk2 => hb3.block k hk2
        clear q11_ q11_0 q11_1 q11_2 q11_3 q11_4 q12_ q12_0 q12_1 q12_2 q12_3 q12_4
        clear H_m H_s H_l H_sp H_d H_res HB HL
        have H_m := Lib.hid N_m
        have H_s := Lib.hid N_s
        have H_l := Lib.hid N_l
        have H_sp := Lib.hid N_sp
        have H_d := Lib.hid N_d
        have H_res := Lib.hid N_res
        have HB := Lib.hid NB
        have HL := Lib.hid NL
        clear N_m N_s N_l N_sp N_d N_res NB NL
        clear HO_c
        have HO_c := Lib.hid O_c
        clear O_c
        clear HO_a
        have HO_a := Lib.hid O_a
        clear O_a
        try dsimp only at hm3 hl3
        try dsimp only
        have hl3 := hl3.less HZR.out
        clear HL
        have HL := Lib.hid hl3
        clear hl3
        obtain ⟨q2, hq2⟩ : ∃ q, Gn.run (Gn.tk list (stack + 1)) ((Gn.run (Gn.rep g K1) q1).map fun p => (z5, p.2)) = q := ⟨_, rfl⟩
        rw [hq2] at hm3 HL
        have hK2 : ∃ K2 : Nat, rx = (K2 : Int) ∧ K2 ≤ 12 ∧ Gn.count q2 = K2 := by
          cases q2 with
          | none => exact ⟨0, congrArg MM.mx hm3, by decide, rfl⟩
          | some p =>
            obtain ⟨z3, d3⟩ := p
            have h1 : rx = z3 := congrArg MM.mx hm3.1
            have h2 : 0 ≤ z3 ∧ z3 < stack + 1 := by
              cases e9 : Gn.run (Gn.rep g K1) q1 with
              | none => rw [e9] at hq2; cases hq2
              | some p9 => rw [e9] at hq2; exact Gn.Out.tk list (by have := HN0.out; omega) _ _ _ hq2
            exact ⟨z3.toNat, by omega, by have := HN0.out; omega, rfl⟩
        obtain ⟨K2, rfl, hK12b, hK2⟩ := hK2
        have HQ2 := Lib.hid hq2
        have HKE2 := Lib.hid hK2
        have HM3 := Lib.hid hm3
        clear hm3 hb3 HC HM HZR hq2 hK2
        have gR13_ := H_m.out.lt
        obtain ⟨R13_, eR13_, kR13_, hR13_, yR13_⟩ := row15 H_m.out #[.slice rA rn rc, .int .i64 ri, .slice rL rm rd, .int .i64 (K2 : Int), .int .i64 re]
        have bR13_ := H_m
        have O_c : R13_.ownsRow w.heap.size 66 3 (.slice vA j vc) (j) (fcells ivs cs) := own_ofD HO_c.out fun g9 hg9 => (show ∀ k9, k9 ≠ v1.heap.size → R13_.heap[k9]? = v6.heap[k9]? from hR13_.out) g9 (by
          obtain ⟨cs9, hb9⟩ := own_blkD HO_c.out hg9
          exact hb9.ty_neD H_m.out (by decide))
        have O_a : R13_.ownsRow w.heap.size 34 2 (.slice w2A j3 w2c) (j3) (fcells avs (cs2.map St.toAtom)) := own_ofD HO_a.out fun g9 hg9 => (show ∀ k9, k9 ≠ v1.heap.size → R13_.heap[k9]? = v6.heap[k9]? from hR13_.out) g9 (by
          obtain ⟨cs9, hb9⟩ := own_blkD HO_a.out hg9
          exact hb9.ty_neD H_m.out (by decide))
        have N_m : Blk R13_ (v1.heap.size) 72 #[.slice rA rn rc, .int .i64 ri, .slice rL rm rd, .int .i64 (K2 : Int), .int .i64 re] := kR13_.out
        have N_s : Blk R13_ (W0.heap.size) 39 #[.int .i64 0, .int .i64 0, .slice vA j vc, .slice w2A j3 w2c, .slice none 0 0, .slice none 0 0] := (hR13_.out _ (by omega)).trans H_s.out
        have N_l : Blk R13_ (w.heap.size) 25 #[.slice N n1 c1, .slice U k c2] := (hR13_.out _ (by omega)).trans H_l.out
        have N_sp : Blk R13_ (w.heap.size + 1) 28 #[.int .i64 code, .int .i64 mem, .int .i64 stack, .int .i64 val, .slice W ws.length wk] := (hR13_.out _ (by omega)).trans H_sp.out
        have N_d : Blk R13_ (w.heap.size + 1 + 1) 30 #[.slice A n c, .int .i64 (i : Int), .slice L log.length dd] := (hR13_.out _ (by omega)).trans H_d.out
        have N_res : Blk R13_ (w.heap.size + 1 + 1 + 1) 49 #[.slice none 0 0, .int .i64 0, .slice none 0 0, .int .i64 0, .int .i64 0, .slice none 0 0, .slice none 0 0, .slice none 0 0, .slice none 0 0, .int .i64 0] := (hR13_.out _ (by omega)).trans H_res.out
        have NB := yR13_.out _ _ (by omega) HB.out
        have NL := HL.out.put H_m.out (by decide) hR13_.out
        clear H_m H_s H_l H_sp H_d H_res HB HL
        have H_m := Lib.hid N_m
        have H_s := Lib.hid N_s
        have H_l := Lib.hid N_l
        have H_sp := Lib.hid N_sp
        have H_d := Lib.hid N_d
        have H_res := Lib.hid N_res
        have HB := Lib.hid NB
        have HL := Lib.hid NL
        clear N_m N_s N_l N_sp N_d N_res NB NL
        clear HO_c
        have HO_c := Lib.hid O_c
        clear O_c
        clear HO_a
        have HO_a := Lib.hid O_a
        clear O_a
        clear kR13_ hR13_ yR13_
        have q14_ := H_m.out
        have q14_0 := q14_.cell 0
        have q14_1 := q14_.cell 1
        have q14_2 := q14_.cell 2
        have q14_3 := q14_.cell 3
        have q14_4 := q14_.cell 4
        obtain ⟨g3, hg3⟩ : ∃ g3, Gn.slot list k ⟨code, mem, stack, val, ws⟩ = g3 := ⟨_, rfl⟩
        rw [hg3] at HSL
        have hs0 : MSh A n c ⟨rA, rn, rc, ri, rL, rm, rd, (K2 : Int), re⟩ ((Gn.run (Gn.rep g3 0) q2).map fun p => ((K2 : Int), p.2)) := by
          rw [Gn.run_rep]
          have h := HM3.out
          cases q2 with
          | none => exact h
          | some p =>
            obtain ⟨z9, d⟩ := p
            have h1 : (K2 : Int) = z9 := congrArg MM.mx h.1
            subst h1
            exact h
        have hs1 : LogNew w.heap.size R13_ ⟨rA, rn, rc, ri, rL, rm, rd, (K2 : Int), re⟩ (Gn.run (Gn.rep g3 0) q2) := by
          rw [Gn.run_rep]
          intro z d e
          cases q2 with
          | none => cases e
          | some p =>
            obtain ⟨z1, d1⟩ := p
            have e : some (([] : List St.Slot), d1) = some (z, d) := e
            injection e with e
            injection e with _ e
            exact e ▸ HL.out z1 d1 rfl
        have HS0 := Lib.hid hs0
        have HS1 := Lib.hid hs1
        clear hs0 hs1 HM3 HL
        go_upto_block 4 with (first | (refine wpList_store_rowTo rfl 72 (.tmp 9) (.tmp 83) rfl rfl (v1.heap.size) #[.slice rA rn rc, .int .i64 ri, .slice rL rm rd, .int .i64 (K2 : Int), .int .i64 re] rfl rfl 72 _ bR13_.out Try.sizeM15 rfl (by kernel_rfl) ?_))
        go_cut [14, 15] from 86 to 107 (fun x14 x15 wx => ∃ (j5 : Nat) (y : MM) (z : Int) (v : Value) (cs3 : List St.Slot), Hid (Blk wx (v1.heap.size) 72 y.cs) ∧ Hid (Blk wx (W0.heap.size) 39 #[.int .i64 0, .int .i64 0, .slice vA j vc, .slice w2A j3 w2c, v, .slice none 0 0]) ∧ Hid (Blk wx (w.heap.size) 25 #[.slice N n1 c1, .slice U k c2]) ∧ Hid (Blk wx (w.heap.size + 1) 28 #[.int .i64 code, .int .i64 mem, .int .i64 stack, .int .i64 val, .slice W ws.length wk]) ∧ Hid (Blk wx (w.heap.size + 1 + 1) 30 #[.slice A n c, .int .i64 (i : Int), .slice L log.length dd]) ∧ Hid (Blk wx (w.heap.size + 1 + 1 + 1) 49 #[.slice none 0 0, .int .i64 0, .slice none 0 0, .int .i64 0, .int .i64 0, .slice none 0 0, .slice none 0 0, .slice none 0 0, .slice none 0 0, .int .i64 0]) ∧
            Hid (MSh A n c y ((Gn.run (Gn.rep g3 K2) q2).map fun p => (z, p.2))) ∧ Hid (LogNew w.heap.size wx y (Gn.run (Gn.rep g3 K2) q2)) ∧ Hid (wx.ownsRow w.heap.size 66 3 (.slice vA j vc) j (fcells ivs cs)) ∧ Hid (wx.ownsRow w.heap.size 34 2 (.slice w2A j3 w2c) j3 (fcells avs (cs2.map St.toAtom))) ∧ Hid (wx.ownsRow w.heap.size 70 3 v j5 (fcells svs cs3)) ∧ Hid (∀ l d, Gn.run (Gn.rep g3 K2) q2 = some (l, d) → l = cs3 ∧ j5 = K2) ∧ Hid (Below w.heap.size w wx))
        case first =>
          go_wp2_with (fail)
          go_loopw [14] (fun iv wr => ∃ (j4 : Nat) (y : MM) (z : Int) (v : Value) (cs3 : List St.Slot), j4 ≤ K2 ∧ iv = .int .i64 ((K2 - j4 : Nat) : Int) ∧ Hid (Blk wr (v1.heap.size) 72 y.cs) ∧ Hid (Blk wr (W0.heap.size) 39 #[.int .i64 0, .int .i64 0, .slice vA j vc, .slice w2A j3 w2c, v, .slice none 0 0]) ∧ Hid (Blk wr (w.heap.size) 25 #[.slice N n1 c1, .slice U k c2]) ∧ Hid (Blk wr (w.heap.size + 1) 28 #[.int .i64 code, .int .i64 mem, .int .i64 stack, .int .i64 val, .slice W ws.length wk]) ∧ Hid (Blk wr (w.heap.size + 1 + 1) 30 #[.slice A n c, .int .i64 (i : Int), .slice L log.length dd]) ∧ Hid (Blk wr (w.heap.size + 1 + 1 + 1) 49 #[.slice none 0 0, .int .i64 0, .slice none 0 0, .int .i64 0, .int .i64 0, .slice none 0 0, .slice none 0 0, .slice none 0 0, .slice none 0 0, .int .i64 0]) ∧
              Hid (MSh A n c y ((Gn.run (Gn.rep g3 j4) q2).map fun p => (z, p.2))) ∧ Hid (LogNew w.heap.size wr y (Gn.run (Gn.rep g3 j4) q2)) ∧ Hid (wr.ownsRow w.heap.size 66 3 (.slice vA j vc) j (fcells ivs cs)) ∧ Hid (wr.ownsRow w.heap.size 34 2 (.slice w2A j3 w2c) j3 (fcells avs (cs2.map St.toAtom))) ∧ Hid (wr.ownsRow w.heap.size 70 3 v j4 (fcells svs cs3)) ∧ Hid (∀ l d, Gn.run (Gn.rep g3 j4) q2 = some (l, d) → l = cs3) ∧ Hid (Below w.heap.size w wr)) (fun iv _ => (intOf iv).toNat)
          case atStart => exact ⟨0, ⟨rA, rn, rc, ri, rL, rm, rd, (K2 : Int), re⟩, (K2 : Int), .slice none 0 0, [], Nat.zero_le _, rfl, H_m, H_s, H_l, H_sp, H_d, H_res, HS0, HS1, HO_c, HO_a, Lib.hid (World.ownsRow_nil _ _ _ _), Lib.hid (fun l d e => by rw [Gn.run_rep] at e; cases q2 with | none => cases e | some p => (injection e with e; injection e with e _; exact e.symm)), HB⟩
          case round =>
            clear H_m H_s H_l H_sp H_d H_res HB HS0 HS1 HO_c HO_a
            obtain ⟨j4, y, z7, v, cs3, hj, rfl, H_m, H_s, H_l, H_sp, H_d, H_res, HM, HL, HO_c, HO_a, HO_b, HCS, HB⟩ := hrel
            obtain ⟨pA, pn, pc, pi, pL, pm, pd, px, pe⟩ := y
            unfold MM.cs at H_m
            dsimp only at H_m
            obtain ⟨v4A, v4c, rfl⟩ := ownT_slice HO_b.out
            by_cases hlt : j4 < K2
            · obtain ⟨rem, hrem⟩ : ∃ rem, K2 - j4 = rem + 1 := ⟨K2 - j4 - 1, by omega⟩
              have hrem2 : K2 - (j4 + 1) = rem := by omega
              have hj12 : j4 ≤ 1000 := by omega
              rw [hrem, show (((rem + 1 : Nat)) : Int) = (rem : Int) + 1 from by omega]
              have ht1 : decide ((rem : Int) + 1 > 0) = true := decide_eq_true (by omega)
              have hw9 : wrap64 ((rem : Int) + 1 - 1) = (rem : Int) := by unfold wrap64; omega
              cases e9 : Gn.run (Gn.rep g3 j4) q2 with
              | none =>
                  have hpe : pe = 8 := by
                    have h := HM.out
                    rw [e9] at h
                    exact congrArg MM.me h
                  subst hpe
                  have h9 : Gn.run (Gn.rep g3 K2) q2 = none := by
                    have h := Gn.rep_none e9 (K2 - j4)
                    rwa [show j4 + (K2 - j4) = K2 from by omega] at h
                  have hm9 : MSh A n c ⟨pA, pn, pc, pi, pL, pm, pd, px, 8⟩ ((Gn.run (Gn.rep g3 K2) q2).map fun p => (z7, p.2)) := by
                    rw [h9]
                    have h := HM.out
                    rw [e9] at h
                    exact h
                  have q9 := H_m.out.cell 4
                  have HM9 := Lib.hid hm9
                  have H9 := Lib.hid h9
                  clear h9 hm9 e9 HM HCS
                  go_wp2_with (fail)
                  go_meet
                  exact ⟨j4, ⟨pA, pn, pc, pi, pL, pm, pd, px, 8⟩, z7, _, cs3, H_m, H_s, H_l, H_sp, H_d, H_res, HM9, Lib.hid (fun z d e => by rw [H9.out] at e; cases e), HO_c, HO_a, HO_b, Lib.hid (fun l d e => by rw [H9.out] at e; cases e), HB⟩
              | some p9 =>
                have hpe : pe = 0 := by
                  have h := HM.out
                  rw [e9] at h
                  exact congrArg MM.me h.1
                subst hpe
                clear e9
                have h0 := HSL.out ⟨pA, pn, pc, pi, pL, pm, pd, px, 0⟩ ((Gn.run (Gn.rep g3 j4) q2).map fun p => (z7, p.2)) wr HM.out HB.out (HL.out.map_at z7)
                have HC := Lib.hid h0
                have HZR := Lib.hid HB.out.size
                have HJ := Lib.hid hlt
                clear h0 hlt hrem
                have q15_ := H_m.out
                have q15_0 := q15_.cell 0
                have q15_1 := q15_.cell 1
                have q15_2 := q15_.cell 2
                have q15_3 := q15_.cell 3
                have q15_4 := q15_.cell 4
                have q16_ := H_sp.out
                have q16_0 := q16_.cell 0
                have q16_1 := q16_.cell 1
                have q16_2 := q16_.cell 2
                have q16_3 := q16_.cell 3
                have q16_4 := q16_.cell 4
                go_wp2_with (fail)
                refine (HC.out).mono ?_
                rintro e v7 ⟨⟨gA, gn, gc, gi, gL, gm, gd, gx, ge⟩, z2, xr, xv, xl, rfl, hm2, hx2, hl2, hb2⟩
                have O_c : v7.ownsRow w.heap.size 66 3 (.slice vA j vc) (j) (fcells ivs cs) := ownT_below HO_c.out hb2
                have O_a : v7.ownsRow w.heap.size 34 2 (.slice w2A j3 w2c) (j3) (fcells avs (cs2.map St.toAtom)) := ownT_below HO_a.out hb2
                have O_b : v7.ownsRow w.heap.size 70 3 (.slice v4A j4 v4c) (j4) (fcells svs cs3) := ownT_below HO_b.out hb2
                have N_m : Blk v7 (v1.heap.size) 72 #[.slice pA pn pc, .int .i64 pi, .slice pL pm pd, .int .i64 px, .int .i64 0] := H_m.out.below hb2 H_m.out.lt
                have N_s : Blk v7 (W0.heap.size) 39 #[.int .i64 0, .int .i64 0, .slice vA j vc, .slice w2A j3 w2c, .slice v4A j4 v4c, .slice none 0 0] := H_s.out.below hb2 H_s.out.lt
                have N_l : Blk v7 (w.heap.size) 25 #[.slice N n1 c1, .slice U k c2] := H_l.out.below hb2 H_l.out.lt
                have N_sp : Blk v7 (w.heap.size + 1) 28 #[.int .i64 code, .int .i64 mem, .int .i64 stack, .int .i64 val, .slice W ws.length wk] := H_sp.out.below hb2 H_sp.out.lt
                have N_d : Blk v7 (w.heap.size + 1 + 1) 30 #[.slice A n c, .int .i64 (i : Int), .slice L log.length dd] := H_d.out.below hb2 H_d.out.lt
                have N_res : Blk v7 (w.heap.size + 1 + 1 + 1) 49 #[.slice none 0 0, .int .i64 0, .slice none 0 0, .int .i64 0, .int .i64 0, .slice none 0 0, .slice none 0 0, .slice none 0 0, .slice none 0 0, .int .i64 0] := H_res.out.below hb2 H_res.out.lt
                have NB := HB.out.trans (hb2.mono HB.out.size)
                have NL := HL.out.keep fun k _ hk2 => hb2.block k hk2
                clear q15_ q15_0 q15_1 q15_2 q15_3 q15_4 q16_ q16_0 q16_1 q16_2 q16_3 q16_4
                clear H_m H_s H_l H_sp H_d H_res HB HL
                have H_m := Lib.hid N_m
                have H_s := Lib.hid N_s
                have H_l := Lib.hid N_l
                have H_sp := Lib.hid N_sp
                have H_d := Lib.hid N_d
                have H_res := Lib.hid N_res
                have HB := Lib.hid NB
                have HL := Lib.hid NL
                clear N_m N_s N_l N_sp N_d N_res NB NL
                clear HO_c
                have HO_c := Lib.hid O_c
                clear O_c
                clear HO_a
                have HO_a := Lib.hid O_a
                clear O_a
                clear HO_b
                have HO_b := Lib.hid O_b
                clear O_b
                try dsimp only at hm2 hl2
                try dsimp only
                have hl2 := hl2.less HZR.out
                clear HL
                have HL := Lib.hid hl2
                clear hl2
                have HM2 := Lib.hid hm2
                have HX2 := Lib.hid hx2
                clear hm2 hx2 hb2 HC HM HZR
                have lA17_m := H_m.out.lt
                have lA17_s := H_s.out.lt
                have lA17_l := H_l.out.lt
                have lA17_sp := H_sp.out.lt
                have lA17_d := H_d.out.lt
                have lA17_res := H_res.out.lt
                obtain ⟨A17_, eA17_⟩ : ∃ U, v7.alloc (.cells #[.slice gA gn gc, .int .i64 gi, .slice gL gm gd, .int .i64 gx, .int .i64 ge, .bool xr, .int .i64 xv, .int .i64 xl] 78) = U := ⟨_, rfl⟩
                have nA17_ : Blk A17_ (v7.heap.size) 78 #[.slice gA gn gc, .int .i64 gi, .slice gL gm gd, .int .i64 gx, .int .i64 ge, .bool xr, .int .i64 xv, .int .i64 xl] := eA17_ ▸ Blk.new _ _ _
                have zA17_ := HB.out.size
                have bA17_ := Lib.hid (Blk.new v7 78 #[.slice none 0 0, .int .i64 0, .slice none 0 0, .int .i64 0, .int .i64 0, .bool false, .int .i64 0, .int .i64 0])
                have sA17_ : (v7.alloc (.cells #[.slice none 0 0, .int .i64 0, .slice none 0 0, .int .i64 0, .int .i64 0, .bool false, .int .i64 0, .int .i64 0] 78)).setRow v7.heap.size #[.slice gA gn gc, .int .i64 gi, .slice gL gm gd, .int .i64 gx, .int .i64 ge, .bool xr, .int .i64 xv, .int .i64 xl] = A17_ := (World.setRow_alloc_new v7 _ _ _).trans eA17_
                have O_c : A17_.ownsRow w.heap.size 66 3 (.slice vA j vc) (j) (fcells ivs cs) := eA17_ ▸ HO_c.out.alloc _
                have O_a : A17_.ownsRow w.heap.size 34 2 (.slice w2A j3 w2c) (j3) (fcells avs (cs2.map St.toAtom)) := eA17_ ▸ HO_a.out.alloc _
                have O_b : A17_.ownsRow w.heap.size 70 3 (.slice v4A j4 v4c) (j4) (fcells svs cs3) := eA17_ ▸ HO_b.out.alloc _
                have N_m : Blk A17_ (v1.heap.size) 72 #[.slice pA pn pc, .int .i64 pi, .slice pL pm pd, .int .i64 px, .int .i64 0] := eA17_ ▸ H_m.out.alloc _
                have N_s : Blk A17_ (W0.heap.size) 39 #[.int .i64 0, .int .i64 0, .slice vA j vc, .slice w2A j3 w2c, .slice v4A j4 v4c, .slice none 0 0] := eA17_ ▸ H_s.out.alloc _
                have N_l : Blk A17_ (w.heap.size) 25 #[.slice N n1 c1, .slice U k c2] := eA17_ ▸ H_l.out.alloc _
                have N_sp : Blk A17_ (w.heap.size + 1) 28 #[.int .i64 code, .int .i64 mem, .int .i64 stack, .int .i64 val, .slice W ws.length wk] := eA17_ ▸ H_sp.out.alloc _
                have N_d : Blk A17_ (w.heap.size + 1 + 1) 30 #[.slice A n c, .int .i64 (i : Int), .slice L log.length dd] := eA17_ ▸ H_d.out.alloc _
                have N_res : Blk A17_ (w.heap.size + 1 + 1 + 1) 49 #[.slice none 0 0, .int .i64 0, .slice none 0 0, .int .i64 0, .int .i64 0, .slice none 0 0, .slice none 0 0, .slice none 0 0, .slice none 0 0, .int .i64 0] := eA17_ ▸ H_res.out.alloc _
                have NB := eA17_ ▸ HB.out.alloc HB.out.size _
                have NL := HL.out.keep fun k _ hk2 => (show A17_.heap[k]? = _ from eA17_ ▸ Below.heap_alloc _ _ k hk2)
                clear H_m H_s H_l H_sp H_d H_res HB HL
                have H_m := Lib.hid N_m
                have H_s := Lib.hid N_s
                have H_l := Lib.hid N_l
                have H_sp := Lib.hid N_sp
                have H_d := Lib.hid N_d
                have H_res := Lib.hid N_res
                have HB := Lib.hid NB
                have HL := Lib.hid NL
                clear N_m N_s N_l N_sp N_d N_res NB NL
                clear HO_c
                have HO_c := Lib.hid O_c
                clear O_c
                clear HO_a
                have HO_a := Lib.hid O_a
                clear O_a
                clear HO_b
                have HO_b := Lib.hid O_b
                clear O_b
                have H_i := Lib.hid nA17_
                clear nA17_ eA17_
                have q18_ := H_i.out
                have q18_0 := q18_.cell 0
                have q18_1 := q18_.cell 1
                have q18_2 := q18_.cell 2
                have q18_3 := q18_.cell 3
                have q18_4 := q18_.cell 4
                have q18_5 := q18_.cell 5
                have q18_6 := q18_.cell 6
                have q18_7 := q18_.cell 7
                have gR19_ := H_m.out.lt
                obtain ⟨R19_, eR19_, kR19_, hR19_, yR19_⟩ := row15 H_m.out #[.slice gA gn gc, .int .i64 gi, .slice gL gm gd, .int .i64 gx, .int .i64 ge]
                have bR19_ := H_m
                have O_c : R19_.ownsRow w.heap.size 66 3 (.slice vA j vc) (j) (fcells ivs cs) := own_ofD HO_c.out fun g9 hg9 => (show ∀ k9, k9 ≠ v1.heap.size → R19_.heap[k9]? = A17_.heap[k9]? from hR19_.out) g9 (by
                  obtain ⟨cs9, hb9⟩ := own_blkD HO_c.out hg9
                  exact hb9.ty_neD H_m.out (by decide))
                have O_a : R19_.ownsRow w.heap.size 34 2 (.slice w2A j3 w2c) (j3) (fcells avs (cs2.map St.toAtom)) := own_ofD HO_a.out fun g9 hg9 => (show ∀ k9, k9 ≠ v1.heap.size → R19_.heap[k9]? = A17_.heap[k9]? from hR19_.out) g9 (by
                  obtain ⟨cs9, hb9⟩ := own_blkD HO_a.out hg9
                  exact hb9.ty_neD H_m.out (by decide))
                have O_b : R19_.ownsRow w.heap.size 70 3 (.slice v4A j4 v4c) (j4) (fcells svs cs3) := own_ofD HO_b.out fun g9 hg9 => (show ∀ k9, k9 ≠ v1.heap.size → R19_.heap[k9]? = A17_.heap[k9]? from hR19_.out) g9 (by
                  obtain ⟨cs9, hb9⟩ := own_blkD HO_b.out hg9
                  exact hb9.ty_neD H_m.out (by decide))
                have N_m : Blk R19_ (v1.heap.size) 72 #[.slice gA gn gc, .int .i64 gi, .slice gL gm gd, .int .i64 gx, .int .i64 ge] := kR19_.out
                have N_s : Blk R19_ (W0.heap.size) 39 #[.int .i64 0, .int .i64 0, .slice vA j vc, .slice w2A j3 w2c, .slice v4A j4 v4c, .slice none 0 0] := (hR19_.out _ (by omega)).trans H_s.out
                have N_l : Blk R19_ (w.heap.size) 25 #[.slice N n1 c1, .slice U k c2] := (hR19_.out _ (by omega)).trans H_l.out
                have N_sp : Blk R19_ (w.heap.size + 1) 28 #[.int .i64 code, .int .i64 mem, .int .i64 stack, .int .i64 val, .slice W ws.length wk] := (hR19_.out _ (by omega)).trans H_sp.out
                have N_d : Blk R19_ (w.heap.size + 1 + 1) 30 #[.slice A n c, .int .i64 (i : Int), .slice L log.length dd] := (hR19_.out _ (by omega)).trans H_d.out
                have N_res : Blk R19_ (w.heap.size + 1 + 1 + 1) 49 #[.slice none 0 0, .int .i64 0, .slice none 0 0, .int .i64 0, .int .i64 0, .slice none 0 0, .slice none 0 0, .slice none 0 0, .slice none 0 0, .int .i64 0] := (hR19_.out _ (by omega)).trans H_res.out
                have N_i : Blk R19_ (v7.heap.size) 78 #[.slice gA gn gc, .int .i64 gi, .slice gL gm gd, .int .i64 gx, .int .i64 ge, .bool xr, .int .i64 xv, .int .i64 xl] := (hR19_.out _ (by omega)).trans H_i.out
                have NB := yR19_.out _ _ (by omega) HB.out
                have NL := HL.out.put H_m.out (by decide) hR19_.out
                clear H_m H_s H_l H_sp H_d H_res H_i HB HL
                have H_m := Lib.hid N_m
                have H_s := Lib.hid N_s
                have H_l := Lib.hid N_l
                have H_sp := Lib.hid N_sp
                have H_d := Lib.hid N_d
                have H_res := Lib.hid N_res
                have H_i := Lib.hid N_i
                have HB := Lib.hid NB
                have HL := Lib.hid NL
                clear N_m N_s N_l N_sp N_d N_res N_i NB NL
                clear HO_c
                have HO_c := Lib.hid O_c
                clear O_c
                clear HO_a
                have HO_a := Lib.hid O_a
                clear O_a
                clear HO_b
                have HO_b := Lib.hid O_b
                clear O_b
                clear kR19_ hR19_ yR19_
                have q20_ := H_s.out
                have q20_0 := q20_.cell 0
                have q20_1 := q20_.cell 1
                have q20_2 := q20_.cell 2
                have q20_3 := q20_.cell 3
                have q20_4 := q20_.cell 4
                have q20_5 := q20_.cell 5
                have q21_ := H_i.out
                have q21_0 := q21_.cell 0
                have q21_1 := q21_.cell 1
                have q21_2 := q21_.cell 2
                have q21_3 := q21_.cell 3
                have q21_4 := q21_.cell 4
                have q21_5 := q21_.cell 5
                have q21_6 := q21_.cell 6
                have q21_7 := q21_.cell 7
                have zs9 := HB.out.size
                obtain ⟨v9, W9, hrun, hown, hbn, hkn⟩ := app15S xr xv xl HO_b.out hj12 zs9
                obtain ⟨v9A, v9c, rfl⟩ := ownT_slice hown
                have N_m : Blk W9 (v1.heap.size) 72 #[.slice gA gn gc, .int .i64 gi, .slice gL gm gd, .int .i64 gx, .int .i64 ge] := hkn _ _ _ (by decide) (H_m.out.alloc _)
                have l9m := H_m.out.lt
                have N_s : Blk W9 (W0.heap.size) 39 #[.int .i64 0, .int .i64 0, .slice vA j vc, .slice w2A j3 w2c, .slice v4A j4 v4c, .slice none 0 0] := hkn _ _ _ (by decide) (H_s.out.alloc _)
                have l9s := H_s.out.lt
                have N_l : Blk W9 (w.heap.size) 25 #[.slice N n1 c1, .slice U k c2] := hkn _ _ _ (by decide) (H_l.out.alloc _)
                have l9l := H_l.out.lt
                have N_sp : Blk W9 (w.heap.size + 1) 28 #[.int .i64 code, .int .i64 mem, .int .i64 stack, .int .i64 val, .slice W ws.length wk] := hkn _ _ _ (by decide) (H_sp.out.alloc _)
                have l9sp := H_sp.out.lt
                have N_d : Blk W9 (w.heap.size + 1 + 1) 30 #[.slice A n c, .int .i64 (i : Int), .slice L log.length dd] := hkn _ _ _ (by decide) (H_d.out.alloc _)
                have l9d := H_d.out.lt
                have N_res : Blk W9 (w.heap.size + 1 + 1 + 1) 49 #[.slice none 0 0, .int .i64 0, .slice none 0 0, .int .i64 0, .int .i64 0, .slice none 0 0, .slice none 0 0, .slice none 0 0, .slice none 0 0, .int .i64 0] := hkn _ _ _ (by decide) (H_res.out.alloc _)
                have l9res := H_res.out.lt
                have N_i : Blk W9 (v7.heap.size) 78 #[.slice gA gn gc, .int .i64 gi, .slice gL gm gd, .int .i64 gx, .int .i64 ge, .bool xr, .int .i64 xv, .int .i64 xl] := hkn _ _ _ (by decide) (H_i.out.alloc _)
                have l9i := H_i.out.lt
                have NB : Below w.heap.size w W9 := (HB.out.alloc zs9 _).trans hbn
                have NL : LogNew w.heap.size W9 ⟨gA, gn, gc, gi, gL, gm, gd, gx, ge⟩ _ := fun x d e => own_ofD ((HL.out x d e).alloc _) fun g9 hg9 => by
                  obtain ⟨cs9, hb9⟩ := own_blkD ((HL.out x d e).alloc _) hg9
                  exact (hkn _ _ _ (by decide) hb9).trans hb9.symm
                have NC : W9.ownsRow w.heap.size 66 3 (.slice vA j vc) j (fcells ivs cs) := own_ofD (HO_c.out.alloc _) fun g9 hg9 => by
                  obtain ⟨cs9, hb9⟩ := own_blkD (HO_c.out.alloc _) hg9
                  exact (hkn _ _ _ (by decide) hb9).trans hb9.symm
                have NA : W9.ownsRow w.heap.size 34 2 (.slice w2A j3 w2c) j3 (fcells avs (cs2.map St.toAtom)) := own_ofD (HO_a.out.alloc _) fun g9 hg9 => by
                  obtain ⟨cs9, hb9⟩ := own_blkD (HO_a.out.alloc _) hg9
                  exact (hkn _ _ _ (by decide) hb9).trans hb9.symm
                clear H_m H_s H_l H_sp H_d H_res H_i HB HL HO_c HO_a HO_b
                have H_m := Lib.hid N_m
                have H_s := Lib.hid N_s
                have H_l := Lib.hid N_l
                have H_sp := Lib.hid N_sp
                have H_d := Lib.hid N_d
                have H_res := Lib.hid N_res
                have H_i := Lib.hid N_i
                have HRUN := Lib.hid hrun
                have HB := Lib.hid NB
                have HL := Lib.hid NL
                have HO_c := Lib.hid NC
                have HO_a := Lib.hid NA
                have HO_b := Lib.hid hown
                clear N_m N_s N_l N_sp N_d N_res N_i NB NL NC NA hown hbn hkn zs9 hrun
                obtain ⟨S22, hS22⟩ : ∃ U, W9.setCell ⟨W0.heap.size, 4, none⟩ (.slice v9A (j4 + 1) v9c) = U := ⟨_, rfl⟩
                have cS22 := H_s.out.cell 4
                have fS22 := H_s.out.frozen 4
                have gS22 := H_s.out.lt
                have O_c : S22.ownsRow w.heap.size 66 3 (.slice vA j vc) (j) (fcells ivs cs) := own_ofD HO_c.out fun g9 hg9 => (show ∀ k9, k9 ≠ W0.heap.size → S22.heap[k9]? = W9.heap[k9]? from (fun k hk => (show S22.heap[k]? = _ from hS22 ▸ Below.heap_setCell _ ⟨W0.heap.size, 4, none⟩ _ k hk))) g9 (by
                  obtain ⟨cs9, hb9⟩ := own_blkD HO_c.out hg9
                  exact hb9.ty_neD H_s.out (by decide))
                have O_a : S22.ownsRow w.heap.size 34 2 (.slice w2A j3 w2c) (j3) (fcells avs (cs2.map St.toAtom)) := own_ofD HO_a.out fun g9 hg9 => (show ∀ k9, k9 ≠ W0.heap.size → S22.heap[k9]? = W9.heap[k9]? from (fun k hk => (show S22.heap[k]? = _ from hS22 ▸ Below.heap_setCell _ ⟨W0.heap.size, 4, none⟩ _ k hk))) g9 (by
                  obtain ⟨cs9, hb9⟩ := own_blkD HO_a.out hg9
                  exact hb9.ty_neD H_s.out (by decide))
                have O_b : S22.ownsRow w.heap.size 70 3 (.slice v9A (j4 + 1) v9c) (j4 + 1) (fcells svs (cs3 ++ [⟨xr, xv, xl⟩])) := own_ofD HO_b.out fun g9 hg9 => (show ∀ k9, k9 ≠ W0.heap.size → S22.heap[k9]? = W9.heap[k9]? from (fun k hk => (show S22.heap[k]? = _ from hS22 ▸ Below.heap_setCell _ ⟨W0.heap.size, 4, none⟩ _ k hk))) g9 (by
                  obtain ⟨cs9, hb9⟩ := own_blkD HO_b.out hg9
                  exact hb9.ty_neD H_s.out (by decide))
                have N_m : Blk S22 (v1.heap.size) 72 #[.slice gA gn gc, .int .i64 gi, .slice gL gm gd, .int .i64 gx, .int .i64 ge] := hS22 ▸ H_m.out.other (p := ⟨W0.heap.size, 4, none⟩) (by show W0.heap.size ≠ _; omega) _
                have N_s : Blk S22 (W0.heap.size) 39 #[.int .i64 0, .int .i64 0, .slice vA j vc, .slice w2A j3 w2c, .slice v9A (j4 + 1) v9c, .slice none 0 0] := hS22 ▸ H_s.out.set_ 4 (.slice v9A (j4 + 1) v9c)
                have N_l : Blk S22 (w.heap.size) 25 #[.slice N n1 c1, .slice U k c2] := hS22 ▸ H_l.out.other (p := ⟨W0.heap.size, 4, none⟩) (by show W0.heap.size ≠ _; omega) _
                have N_sp : Blk S22 (w.heap.size + 1) 28 #[.int .i64 code, .int .i64 mem, .int .i64 stack, .int .i64 val, .slice W ws.length wk] := hS22 ▸ H_sp.out.other (p := ⟨W0.heap.size, 4, none⟩) (by show W0.heap.size ≠ _; omega) _
                have N_d : Blk S22 (w.heap.size + 1 + 1) 30 #[.slice A n c, .int .i64 (i : Int), .slice L log.length dd] := hS22 ▸ H_d.out.other (p := ⟨W0.heap.size, 4, none⟩) (by show W0.heap.size ≠ _; omega) _
                have N_res : Blk S22 (w.heap.size + 1 + 1 + 1) 49 #[.slice none 0 0, .int .i64 0, .slice none 0 0, .int .i64 0, .int .i64 0, .slice none 0 0, .slice none 0 0, .slice none 0 0, .slice none 0 0, .int .i64 0] := hS22 ▸ H_res.out.other (p := ⟨W0.heap.size, 4, none⟩) (by show W0.heap.size ≠ _; omega) _
                have N_i : Blk S22 (v7.heap.size) 78 #[.slice gA gn gc, .int .i64 gi, .slice gL gm gd, .int .i64 gx, .int .i64 ge, .bool xr, .int .i64 xv, .int .i64 xl] := hS22 ▸ H_i.out.other (p := ⟨W0.heap.size, 4, none⟩) (by show W0.heap.size ≠ _; omega) _
                have NB := hS22 ▸ HB.out.setCell (p := ⟨W0.heap.size, 4, none⟩) (by show w.heap.size ≤ W0.heap.size; omega) _
                have NL := HL.out.put H_s.out (by decide) (fun k hk => (show S22.heap[k]? = _ from hS22 ▸ Below.heap_setCell _ ⟨W0.heap.size, 4, none⟩ _ k hk))
                clear H_m H_s H_l H_sp H_d H_res H_i HB HL
                have H_m := Lib.hid N_m
                have H_s := Lib.hid N_s
                have H_l := Lib.hid N_l
                have H_sp := Lib.hid N_sp
                have H_d := Lib.hid N_d
                have H_res := Lib.hid N_res
                have H_i := Lib.hid N_i
                have HB := Lib.hid NB
                have HL := Lib.hid NL
                clear N_m N_s N_l N_sp N_d N_res N_i NB NL
                clear HO_c
                have HO_c := Lib.hid O_c
                clear O_c
                clear HO_a
                have HO_a := Lib.hid O_a
                clear O_a
                clear HO_b
                have HO_b := Lib.hid O_b
                clear O_b
                go_wp2_with (first | (refine wpList_store_rowTo rfl 78 (.tmp 15) (.tmp 98) rfl rfl (v7.heap.size) #[.slice gA gn gc, .int .i64 gi, .slice gL gm gd, .int .i64 gx, .int .i64 ge, .bool xr, .int .i64 xv, .int .i64 xl] rfl rfl 78 _ bA17_.out Try.sizeL15 rfl (by kernel_rfl) ?_) | (refine wpList_store_rowTo rfl 72 (.tmp 9) (.tmp 100) rfl rfl (v1.heap.size) #[.slice gA gn gc, .int .i64 gi, .slice gL gm gd, .int .i64 gx, .int .i64 ge] rfl rfl 72 _ bR19_.out Try.sizeM15 rfl (by kernel_rfl) ?_) | (at_builtin; refine wpList_append_run rfl _ _ 37 37 rfl _ _ rfl rfl _ _ HRUN.out ?_))
                go_roundw
                case rel => exact ⟨j4 + 1, ⟨gA, gn, gc, gi, gL, gm, gd, gx, ge⟩, z2, .slice v9A (j4 + 1) v9c, cs3 ++ [⟨xr, xv, xl⟩], HJ.out, by rw [hrem2], H_m, H_s, H_l, H_sp, H_d, H_res, Lib.hid (more_shape HM2.out), Lib.hid (more_log HL.out), HO_c, HO_a, HO_b, Lib.hid (fun l d e => by
                  obtain ⟨l0, d0, a, e1, e2, e3⟩ := more_some (z := z7) e
                  rw [e3, HCS.out l0 d0 e1, HX2.out a d e2]), HB⟩
                case measure => simp [intOf]
            · obtain rfl : j4 = K2 := by omega
              have h00 : ((j4 - j4 : Nat) : Int) = 0 := by omega
              rw [h00]
              clear h00
              go_wp2_with (fail)
              go_meet
              exact ⟨j4, ⟨pA, pn, pc, pi, pL, pm, pd, px, pe⟩, z7, _, cs3, H_m, H_s, H_l, H_sp, H_d, H_res, HM, HL, HO_c, HO_a, HO_b, Lib.hid (fun l d e => ⟨HCS.out l d e, rfl⟩), HB⟩
        case rest =>
          obtain ⟨j5, y, z9, v, cs3, H_m, H_s, H_l, H_sp, H_d, H_res, HM, HL, HO_c, HO_a, HO_b, HCS3, HB⟩ := hcut
          obtain ⟨nA, nn, nc, ni, nL, nm, nd, nx, ne⟩ := y
          unfold MM.cs at H_m
          dsimp only at H_m
          obtain ⟨w4A, w4c, rfl⟩ := ownT_slice HO_b.out
          have h0 := HBL.out ⟨nA, nn, nc, ni, nL, nm, nd, nx, ne⟩ ((Gn.run (Gn.rep g3 K2) q2).map fun p => (z9, p.2)) 13 wc ⟨by decide, by decide⟩ HM.out HB.out (HL.out.map_at z9)
          have HC := Lib.hid h0
          have HZR := Lib.hid HB.out.size
          clear h0
          have q15_ := H_m.out
          have q15_0 := q15_.cell 0
          have q15_1 := q15_.cell 1
          have q15_2 := q15_.cell 2
          have q15_3 := q15_.cell 3
          have q15_4 := q15_.cell 4
          go_wp2_with (fail)
          refine (HC.out).mono ?_
          rintro e v8 ⟨⟨tA, tn, tc, ti, tL, tm, td, tx, te⟩, rfl, hm3, hl3, hb3⟩
          have O_c : v8.ownsRow w.heap.size 66 3 (.slice vA j vc) (j) (fcells ivs cs) := ownT_below HO_c.out hb3
          have O_a : v8.ownsRow w.heap.size 34 2 (.slice w2A j3 w2c) (j3) (fcells avs (cs2.map St.toAtom)) := ownT_below HO_a.out hb3
          have O_b : v8.ownsRow w.heap.size 70 3 (.slice w4A j5 w4c) (j5) (fcells svs cs3) := ownT_below HO_b.out hb3
          have N_m : Blk v8 (v1.heap.size) 72 #[.slice nA nn nc, .int .i64 ni, .slice nL nm nd, .int .i64 nx, .int .i64 ne] := H_m.out.below hb3 H_m.out.lt
          have N_s : Blk v8 (W0.heap.size) 39 #[.int .i64 0, .int .i64 0, .slice vA j vc, .slice w2A j3 w2c, .slice w4A j5 w4c, .slice none 0 0] := H_s.out.below hb3 H_s.out.lt
          have N_l : Blk v8 (w.heap.size) 25 #[.slice N n1 c1, .slice U k c2] := H_l.out.below hb3 H_l.out.lt
          have N_sp : Blk v8 (w.heap.size + 1) 28 #[.int .i64 code, .int .i64 mem, .int .i64 stack, .int .i64 val, .slice W ws.length wk] := H_sp.out.below hb3 H_sp.out.lt
          have N_d : Blk v8 (w.heap.size + 1 + 1) 30 #[.slice A n c, .int .i64 (i : Int), .slice L log.length dd] := H_d.out.below hb3 H_d.out.lt
          have N_res : Blk v8 (w.heap.size + 1 + 1 + 1) 49 #[.slice none 0 0, .int .i64 0, .slice none 0 0, .int .i64 0, .int .i64 0, .slice none 0 0, .slice none 0 0, .slice none 0 0, .slice none 0 0, .int .i64 0] := H_res.out.below hb3 H_res.out.lt
          have NB := HB.out.trans (hb3.mono HB.out.size)
          have NL := HL.out.keep fun k _ hk2 => hb3.block k hk2
          clear q15_ q15_0 q15_1 q15_2 q15_3 q15_4
          clear H_m H_s H_l H_sp H_d H_res HB HL
          have H_m := Lib.hid N_m
          have H_s := Lib.hid N_s
          have H_l := Lib.hid N_l
          have H_sp := Lib.hid N_sp
          have H_d := Lib.hid N_d
          have H_res := Lib.hid N_res
          have HB := Lib.hid NB
          have HL := Lib.hid NL
          clear N_m N_s N_l N_sp N_d N_res NB NL
          clear HO_c
          have HO_c := Lib.hid O_c
          clear O_c
          clear HO_a
          have HO_a := Lib.hid O_a
          clear O_a
          clear HO_b
          have HO_b := Lib.hid O_b
          clear O_b
          try dsimp only at hm3 hl3
          try dsimp only
          have hl3 := hl3.less HZR.out
          clear HL
          have HL := Lib.hid hl3
          clear hl3
          obtain ⟨q3, hq3⟩ : ∃ q, Gn.run (Gn.tk list 13) ((Gn.run (Gn.rep g3 K2) q2).map fun p => (z9, p.2)) = q := ⟨_, rfl⟩
          rw [hq3] at hm3 HL
          have HQ3 := Lib.hid hq3
          have HM3 := Lib.hid hm3
          clear hm3 hb3 HC HM HZR hq3
          have gR16_ := H_m.out.lt
          obtain ⟨R16_, eR16_, kR16_, hR16_, yR16_⟩ := row15 H_m.out #[.slice tA tn tc, .int .i64 ti, .slice tL tm td, .int .i64 tx, .int .i64 te]
          have bR16_ := H_m
          have O_c : R16_.ownsRow w.heap.size 66 3 (.slice vA j vc) (j) (fcells ivs cs) := own_ofD HO_c.out fun g9 hg9 => (show ∀ k9, k9 ≠ v1.heap.size → R16_.heap[k9]? = v8.heap[k9]? from hR16_.out) g9 (by
            obtain ⟨cs9, hb9⟩ := own_blkD HO_c.out hg9
            exact hb9.ty_neD H_m.out (by decide))
          have O_a : R16_.ownsRow w.heap.size 34 2 (.slice w2A j3 w2c) (j3) (fcells avs (cs2.map St.toAtom)) := own_ofD HO_a.out fun g9 hg9 => (show ∀ k9, k9 ≠ v1.heap.size → R16_.heap[k9]? = v8.heap[k9]? from hR16_.out) g9 (by
            obtain ⟨cs9, hb9⟩ := own_blkD HO_a.out hg9
            exact hb9.ty_neD H_m.out (by decide))
          have O_b : R16_.ownsRow w.heap.size 70 3 (.slice w4A j5 w4c) (j5) (fcells svs cs3) := own_ofD HO_b.out fun g9 hg9 => (show ∀ k9, k9 ≠ v1.heap.size → R16_.heap[k9]? = v8.heap[k9]? from hR16_.out) g9 (by
            obtain ⟨cs9, hb9⟩ := own_blkD HO_b.out hg9
            exact hb9.ty_neD H_m.out (by decide))
          have N_m : Blk R16_ (v1.heap.size) 72 #[.slice tA tn tc, .int .i64 ti, .slice tL tm td, .int .i64 tx, .int .i64 te] := kR16_.out
          have N_s : Blk R16_ (W0.heap.size) 39 #[.int .i64 0, .int .i64 0, .slice vA j vc, .slice w2A j3 w2c, .slice w4A j5 w4c, .slice none 0 0] := (hR16_.out _ (by omega)).trans H_s.out
          have N_l : Blk R16_ (w.heap.size) 25 #[.slice N n1 c1, .slice U k c2] := (hR16_.out _ (by omega)).trans H_l.out
          have N_sp : Blk R16_ (w.heap.size + 1) 28 #[.int .i64 code, .int .i64 mem, .int .i64 stack, .int .i64 val, .slice W ws.length wk] := (hR16_.out _ (by omega)).trans H_sp.out
          have N_d : Blk R16_ (w.heap.size + 1 + 1) 30 #[.slice A n c, .int .i64 (i : Int), .slice L log.length dd] := (hR16_.out _ (by omega)).trans H_d.out
          have N_res : Blk R16_ (w.heap.size + 1 + 1 + 1) 49 #[.slice none 0 0, .int .i64 0, .slice none 0 0, .int .i64 0, .int .i64 0, .slice none 0 0, .slice none 0 0, .slice none 0 0, .slice none 0 0, .int .i64 0] := (hR16_.out _ (by omega)).trans H_res.out
          have NB := yR16_.out _ _ (by omega) HB.out
          have NL := HL.out.put H_m.out (by decide) hR16_.out
          clear H_m H_s H_l H_sp H_d H_res HB HL
          have H_m := Lib.hid N_m
          have H_s := Lib.hid N_s
          have H_l := Lib.hid N_l
          have H_sp := Lib.hid N_sp
          have H_d := Lib.hid N_d
          have H_res := Lib.hid N_res
          have HB := Lib.hid NB
          have HL := Lib.hid NL
          clear N_m N_s N_l N_sp N_d N_res NB NL
          clear HO_c
          have HO_c := Lib.hid O_c
          clear O_c
          clear HO_a
          have HO_a := Lib.hid O_a
          clear O_a
          clear HO_b
          have HO_b := Lib.hid O_b
          clear O_b
          clear kR16_ hR16_ yR16_
          have q17_ := H_m.out
          have q17_0 := q17_.cell 0
          have q17_1 := q17_.cell 1
          have q17_2 := q17_.cell 2
          have q17_3 := q17_.cell 3
          have q17_4 := q17_.cell 4
          have q18_ := H_s.out
          have q18_0 := q18_.cell 0
          have q18_1 := q18_.cell 1
          have q18_2 := q18_.cell 2
          have q18_3 := q18_.cell 3
          have q18_4 := q18_.cell 4
          have q18_5 := q18_.cell 5
          obtain ⟨S19, hS19⟩ : ∃ U, R16_.setCell ⟨W0.heap.size, 0, none⟩ (.int .i64 tx) = U := ⟨_, rfl⟩
          have cS19 := H_s.out.cell 0
          have fS19 := H_s.out.frozen 0
          have gS19 := H_s.out.lt
          have O_c : S19.ownsRow w.heap.size 66 3 (.slice vA j vc) (j) (fcells ivs cs) := own_ofD HO_c.out fun g9 hg9 => (show ∀ k9, k9 ≠ W0.heap.size → S19.heap[k9]? = R16_.heap[k9]? from (fun k hk => (show S19.heap[k]? = _ from hS19 ▸ Below.heap_setCell _ ⟨W0.heap.size, 0, none⟩ _ k hk))) g9 (by
            obtain ⟨cs9, hb9⟩ := own_blkD HO_c.out hg9
            exact hb9.ty_neD H_s.out (by decide))
          have O_a : S19.ownsRow w.heap.size 34 2 (.slice w2A j3 w2c) (j3) (fcells avs (cs2.map St.toAtom)) := own_ofD HO_a.out fun g9 hg9 => (show ∀ k9, k9 ≠ W0.heap.size → S19.heap[k9]? = R16_.heap[k9]? from (fun k hk => (show S19.heap[k]? = _ from hS19 ▸ Below.heap_setCell _ ⟨W0.heap.size, 0, none⟩ _ k hk))) g9 (by
            obtain ⟨cs9, hb9⟩ := own_blkD HO_a.out hg9
            exact hb9.ty_neD H_s.out (by decide))
          have O_b : S19.ownsRow w.heap.size 70 3 (.slice w4A j5 w4c) (j5) (fcells svs cs3) := own_ofD HO_b.out fun g9 hg9 => (show ∀ k9, k9 ≠ W0.heap.size → S19.heap[k9]? = R16_.heap[k9]? from (fun k hk => (show S19.heap[k]? = _ from hS19 ▸ Below.heap_setCell _ ⟨W0.heap.size, 0, none⟩ _ k hk))) g9 (by
            obtain ⟨cs9, hb9⟩ := own_blkD HO_b.out hg9
            exact hb9.ty_neD H_s.out (by decide))
          have N_m : Blk S19 (v1.heap.size) 72 #[.slice tA tn tc, .int .i64 ti, .slice tL tm td, .int .i64 tx, .int .i64 te] := hS19 ▸ H_m.out.other (p := ⟨W0.heap.size, 0, none⟩) (by show W0.heap.size ≠ _; omega) _
          have N_s : Blk S19 (W0.heap.size) 39 #[.int .i64 tx, .int .i64 0, .slice vA j vc, .slice w2A j3 w2c, .slice w4A j5 w4c, .slice none 0 0] := hS19 ▸ H_s.out.set_ 0 (.int .i64 tx)
          have N_l : Blk S19 (w.heap.size) 25 #[.slice N n1 c1, .slice U k c2] := hS19 ▸ H_l.out.other (p := ⟨W0.heap.size, 0, none⟩) (by show W0.heap.size ≠ _; omega) _
          have N_sp : Blk S19 (w.heap.size + 1) 28 #[.int .i64 code, .int .i64 mem, .int .i64 stack, .int .i64 val, .slice W ws.length wk] := hS19 ▸ H_sp.out.other (p := ⟨W0.heap.size, 0, none⟩) (by show W0.heap.size ≠ _; omega) _
          have N_d : Blk S19 (w.heap.size + 1 + 1) 30 #[.slice A n c, .int .i64 (i : Int), .slice L log.length dd] := hS19 ▸ H_d.out.other (p := ⟨W0.heap.size, 0, none⟩) (by show W0.heap.size ≠ _; omega) _
          have N_res : Blk S19 (w.heap.size + 1 + 1 + 1) 49 #[.slice none 0 0, .int .i64 0, .slice none 0 0, .int .i64 0, .int .i64 0, .slice none 0 0, .slice none 0 0, .slice none 0 0, .slice none 0 0, .int .i64 0] := hS19 ▸ H_res.out.other (p := ⟨W0.heap.size, 0, none⟩) (by show W0.heap.size ≠ _; omega) _
          have NB := hS19 ▸ HB.out.setCell (p := ⟨W0.heap.size, 0, none⟩) (by show w.heap.size ≤ W0.heap.size; omega) _
          have NL := HL.out.put H_s.out (by decide) (fun k hk => (show S19.heap[k]? = _ from hS19 ▸ Below.heap_setCell _ ⟨W0.heap.size, 0, none⟩ _ k hk))
          clear H_m H_s H_l H_sp H_d H_res HB HL
          have H_m := Lib.hid N_m
          have H_s := Lib.hid N_s
          have H_l := Lib.hid N_l
          have H_sp := Lib.hid N_sp
          have H_d := Lib.hid N_d
          have H_res := Lib.hid N_res
          have HB := Lib.hid NB
          have HL := Lib.hid NL
          clear N_m N_s N_l N_sp N_d N_res NB NL
          clear HO_c
          have HO_c := Lib.hid O_c
          clear O_c
          clear HO_a
          have HO_a := Lib.hid O_a
          clear O_a
          clear HO_b
          have HO_b := Lib.hid O_b
          clear O_b
          have h0 := HBL.out ⟨tA, tn, tc, ti, tL, tm, td, tx, te⟩ q3 (k : Int) S19 ⟨by have := HKK.out; omega, by have := HKK.out; omega⟩ HM3.out HB.out HL.out.at_
          have HC := Lib.hid h0
          have HZR := Lib.hid HB.out.size
          clear h0
          have q20_ := H_m.out
          have q20_0 := q20_.cell 0
          have q20_1 := q20_.cell 1
          have q20_2 := q20_.cell 2
          have q20_3 := q20_.cell 3
          have q20_4 := q20_.cell 4
          go_wp2_with (first | (refine wpList_store_rowTo rfl 72 (.tmp 9) (.tmp 109) rfl rfl (v1.heap.size) #[.slice tA tn tc, .int .i64 ti, .slice tL tm td, .int .i64 tx, .int .i64 te] rfl rfl 72 _ bR16_.out Try.sizeM15 rfl (by kernel_rfl) ?_))
          refine (HC.out).mono ?_
          rintro e v9 ⟨⟨xA, xn, xc, xi, xL, xm, xd, xx, xe⟩, rfl, hm4, hl4, hb4⟩
          clear eR16_ bR16_ hS19
          have O_c : v9.ownsRow w.heap.size 66 3 (.slice vA j vc) (j) (fcells ivs cs) := ownT_below HO_c.out hb4
          have O_a : v9.ownsRow w.heap.size 34 2 (.slice w2A j3 w2c) (j3) (fcells avs (cs2.map St.toAtom)) := ownT_below HO_a.out hb4
          have O_b : v9.ownsRow w.heap.size 70 3 (.slice w4A j5 w4c) (j5) (fcells svs cs3) := ownT_below HO_b.out hb4
          have N_m : Blk v9 (v1.heap.size) 72 #[.slice tA tn tc, .int .i64 ti, .slice tL tm td, .int .i64 tx, .int .i64 te] := H_m.out.below hb4 H_m.out.lt
          have N_s : Blk v9 (W0.heap.size) 39 #[.int .i64 tx, .int .i64 0, .slice vA j vc, .slice w2A j3 w2c, .slice w4A j5 w4c, .slice none 0 0] := H_s.out.below hb4 H_s.out.lt
          have N_l : Blk v9 (w.heap.size) 25 #[.slice N n1 c1, .slice U k c2] := H_l.out.below hb4 H_l.out.lt
          have N_sp : Blk v9 (w.heap.size + 1) 28 #[.int .i64 code, .int .i64 mem, .int .i64 stack, .int .i64 val, .slice W ws.length wk] := H_sp.out.below hb4 H_sp.out.lt
          have N_d : Blk v9 (w.heap.size + 1 + 1) 30 #[.slice A n c, .int .i64 (i : Int), .slice L log.length dd] := H_d.out.below hb4 H_d.out.lt
          have N_res : Blk v9 (w.heap.size + 1 + 1 + 1) 49 #[.slice none 0 0, .int .i64 0, .slice none 0 0, .int .i64 0, .int .i64 0, .slice none 0 0, .slice none 0 0, .slice none 0 0, .slice none 0 0, .int .i64 0] := H_res.out.below hb4 H_res.out.lt
          have NB := HB.out.trans (hb4.mono HB.out.size)
          have NL := HL.out.keep fun k _ hk2 => hb4.block k hk2
          clear q17_ q17_0 q17_1 q17_2 q17_3 q17_4 q18_ q18_0 q18_1 q18_2 q18_3 q18_4 q18_5 cS19 fS19 q20_ q20_0 q20_1 q20_2 q20_3 q20_4
          clear H_m H_s H_l H_sp H_d H_res HB HL
          have H_m := Lib.hid N_m
          have H_s := Lib.hid N_s
          have H_l := Lib.hid N_l
          have H_sp := Lib.hid N_sp
          have H_d := Lib.hid N_d
          have H_res := Lib.hid N_res
          have HB := Lib.hid NB
          have HL := Lib.hid NL
          clear N_m N_s N_l N_sp N_d N_res NB NL
          clear HO_c
          have HO_c := Lib.hid O_c
          clear O_c
          clear HO_a
          have HO_a := Lib.hid O_a
          clear O_a
          clear HO_b
          have HO_b := Lib.hid O_b
          clear O_b
          try dsimp only at hm4 hl4
          try dsimp only
          have hl4 := hl4.less HZR.out
          clear HL
          have HL := Lib.hid hl4
          clear hl4
          obtain ⟨q4, hq4⟩ : ∃ q, Gn.run (Gn.tk list (k : Int)) q3 = q := ⟨_, rfl⟩
          rw [hq4] at hm4 HL
          have HQ4 := Lib.hid hq4
          have HM4 := Lib.hid hm4
          clear hm4 hb4 HC HZR hq4
          have gR21_ := H_m.out.lt
          obtain ⟨R21_, eR21_, kR21_, hR21_, yR21_⟩ := row15 H_m.out #[.slice xA xn xc, .int .i64 xi, .slice xL xm xd, .int .i64 xx, .int .i64 xe]
          have bR21_ := H_m
          have O_c : R21_.ownsRow w.heap.size 66 3 (.slice vA j vc) (j) (fcells ivs cs) := own_ofD HO_c.out fun g9 hg9 => (show ∀ k9, k9 ≠ v1.heap.size → R21_.heap[k9]? = v9.heap[k9]? from hR21_.out) g9 (by
            obtain ⟨cs9, hb9⟩ := own_blkD HO_c.out hg9
            exact hb9.ty_neD H_m.out (by decide))
          have O_a : R21_.ownsRow w.heap.size 34 2 (.slice w2A j3 w2c) (j3) (fcells avs (cs2.map St.toAtom)) := own_ofD HO_a.out fun g9 hg9 => (show ∀ k9, k9 ≠ v1.heap.size → R21_.heap[k9]? = v9.heap[k9]? from hR21_.out) g9 (by
            obtain ⟨cs9, hb9⟩ := own_blkD HO_a.out hg9
            exact hb9.ty_neD H_m.out (by decide))
          have O_b : R21_.ownsRow w.heap.size 70 3 (.slice w4A j5 w4c) (j5) (fcells svs cs3) := own_ofD HO_b.out fun g9 hg9 => (show ∀ k9, k9 ≠ v1.heap.size → R21_.heap[k9]? = v9.heap[k9]? from hR21_.out) g9 (by
            obtain ⟨cs9, hb9⟩ := own_blkD HO_b.out hg9
            exact hb9.ty_neD H_m.out (by decide))
          have N_m : Blk R21_ (v1.heap.size) 72 #[.slice xA xn xc, .int .i64 xi, .slice xL xm xd, .int .i64 xx, .int .i64 xe] := kR21_.out
          have N_s : Blk R21_ (W0.heap.size) 39 #[.int .i64 tx, .int .i64 0, .slice vA j vc, .slice w2A j3 w2c, .slice w4A j5 w4c, .slice none 0 0] := (hR21_.out _ (by omega)).trans H_s.out
          have N_l : Blk R21_ (w.heap.size) 25 #[.slice N n1 c1, .slice U k c2] := (hR21_.out _ (by omega)).trans H_l.out
          have N_sp : Blk R21_ (w.heap.size + 1) 28 #[.int .i64 code, .int .i64 mem, .int .i64 stack, .int .i64 val, .slice W ws.length wk] := (hR21_.out _ (by omega)).trans H_sp.out
          have N_d : Blk R21_ (w.heap.size + 1 + 1) 30 #[.slice A n c, .int .i64 (i : Int), .slice L log.length dd] := (hR21_.out _ (by omega)).trans H_d.out
          have N_res : Blk R21_ (w.heap.size + 1 + 1 + 1) 49 #[.slice none 0 0, .int .i64 0, .slice none 0 0, .int .i64 0, .int .i64 0, .slice none 0 0, .slice none 0 0, .slice none 0 0, .slice none 0 0, .int .i64 0] := (hR21_.out _ (by omega)).trans H_res.out
          have NB := yR21_.out _ _ (by omega) HB.out
          have NL := HL.out.put H_m.out (by decide) hR21_.out
          clear H_m H_s H_l H_sp H_d H_res HB HL
          have H_m := Lib.hid N_m
          have H_s := Lib.hid N_s
          have H_l := Lib.hid N_l
          have H_sp := Lib.hid N_sp
          have H_d := Lib.hid N_d
          have H_res := Lib.hid N_res
          have HB := Lib.hid NB
          have HL := Lib.hid NL
          clear N_m N_s N_l N_sp N_d N_res NB NL
          clear HO_c
          have HO_c := Lib.hid O_c
          clear O_c
          clear HO_a
          have HO_a := Lib.hid O_a
          clear O_a
          clear HO_b
          have HO_b := Lib.hid O_b
          clear O_b
          clear kR21_ hR21_ yR21_
          have q22_ := H_m.out
          have q22_0 := q22_.cell 0
          have q22_1 := q22_.cell 1
          have q22_2 := q22_.cell 2
          have q22_3 := q22_.cell 3
          have q22_4 := q22_.cell 4
          have q23_ := H_s.out
          have q23_0 := q23_.cell 0
          have q23_1 := q23_.cell 1
          have q23_2 := q23_.cell 2
          have q23_3 := q23_.cell 3
          have q23_4 := q23_.cell 4
          have q23_5 := q23_.cell 5
          obtain ⟨S24, hS24⟩ : ∃ U, R21_.setCell ⟨W0.heap.size, 1, none⟩ (.int .i64 xx) = U := ⟨_, rfl⟩
          have cS24 := H_s.out.cell 1
          have fS24 := H_s.out.frozen 1
          have gS24 := H_s.out.lt
          have O_c : S24.ownsRow w.heap.size 66 3 (.slice vA j vc) (j) (fcells ivs cs) := own_ofD HO_c.out fun g9 hg9 => (show ∀ k9, k9 ≠ W0.heap.size → S24.heap[k9]? = R21_.heap[k9]? from (fun k hk => (show S24.heap[k]? = _ from hS24 ▸ Below.heap_setCell _ ⟨W0.heap.size, 1, none⟩ _ k hk))) g9 (by
            obtain ⟨cs9, hb9⟩ := own_blkD HO_c.out hg9
            exact hb9.ty_neD H_s.out (by decide))
          have O_a : S24.ownsRow w.heap.size 34 2 (.slice w2A j3 w2c) (j3) (fcells avs (cs2.map St.toAtom)) := own_ofD HO_a.out fun g9 hg9 => (show ∀ k9, k9 ≠ W0.heap.size → S24.heap[k9]? = R21_.heap[k9]? from (fun k hk => (show S24.heap[k]? = _ from hS24 ▸ Below.heap_setCell _ ⟨W0.heap.size, 1, none⟩ _ k hk))) g9 (by
            obtain ⟨cs9, hb9⟩ := own_blkD HO_a.out hg9
            exact hb9.ty_neD H_s.out (by decide))
          have O_b : S24.ownsRow w.heap.size 70 3 (.slice w4A j5 w4c) (j5) (fcells svs cs3) := own_ofD HO_b.out fun g9 hg9 => (show ∀ k9, k9 ≠ W0.heap.size → S24.heap[k9]? = R21_.heap[k9]? from (fun k hk => (show S24.heap[k]? = _ from hS24 ▸ Below.heap_setCell _ ⟨W0.heap.size, 1, none⟩ _ k hk))) g9 (by
            obtain ⟨cs9, hb9⟩ := own_blkD HO_b.out hg9
            exact hb9.ty_neD H_s.out (by decide))
          have N_m : Blk S24 (v1.heap.size) 72 #[.slice xA xn xc, .int .i64 xi, .slice xL xm xd, .int .i64 xx, .int .i64 xe] := hS24 ▸ H_m.out.other (p := ⟨W0.heap.size, 1, none⟩) (by show W0.heap.size ≠ _; omega) _
          have N_s : Blk S24 (W0.heap.size) 39 #[.int .i64 tx, .int .i64 xx, .slice vA j vc, .slice w2A j3 w2c, .slice w4A j5 w4c, .slice none 0 0] := hS24 ▸ H_s.out.set_ 1 (.int .i64 xx)
          have N_l : Blk S24 (w.heap.size) 25 #[.slice N n1 c1, .slice U k c2] := hS24 ▸ H_l.out.other (p := ⟨W0.heap.size, 1, none⟩) (by show W0.heap.size ≠ _; omega) _
          have N_sp : Blk S24 (w.heap.size + 1) 28 #[.int .i64 code, .int .i64 mem, .int .i64 stack, .int .i64 val, .slice W ws.length wk] := hS24 ▸ H_sp.out.other (p := ⟨W0.heap.size, 1, none⟩) (by show W0.heap.size ≠ _; omega) _
          have N_d : Blk S24 (w.heap.size + 1 + 1) 30 #[.slice A n c, .int .i64 (i : Int), .slice L log.length dd] := hS24 ▸ H_d.out.other (p := ⟨W0.heap.size, 1, none⟩) (by show W0.heap.size ≠ _; omega) _
          have N_res : Blk S24 (w.heap.size + 1 + 1 + 1) 49 #[.slice none 0 0, .int .i64 0, .slice none 0 0, .int .i64 0, .int .i64 0, .slice none 0 0, .slice none 0 0, .slice none 0 0, .slice none 0 0, .int .i64 0] := hS24 ▸ H_res.out.other (p := ⟨W0.heap.size, 1, none⟩) (by show W0.heap.size ≠ _; omega) _
          have NB := hS24 ▸ HB.out.setCell (p := ⟨W0.heap.size, 1, none⟩) (by show w.heap.size ≤ W0.heap.size; omega) _
          have NL := HL.out.put H_s.out (by decide) (fun k hk => (show S24.heap[k]? = _ from hS24 ▸ Below.heap_setCell _ ⟨W0.heap.size, 1, none⟩ _ k hk))
          clear H_m H_s H_l H_sp H_d H_res HB HL
          have H_m := Lib.hid N_m
          have H_s := Lib.hid N_s
          have H_l := Lib.hid N_l
          have H_sp := Lib.hid N_sp
          have H_d := Lib.hid N_d
          have H_res := Lib.hid N_res
          have HB := Lib.hid NB
          have HL := Lib.hid NL
          clear N_m N_s N_l N_sp N_d N_res NB NL
          clear HO_c
          have HO_c := Lib.hid O_c
          clear O_c
          clear HO_a
          have HO_a := Lib.hid O_a
          clear O_a
          clear HO_b
          have HO_b := Lib.hid O_b
          clear O_b
          have hgs : Gn.slotF list k ⟨code, mem, stack, val, ws⟩ = g := hg
          have hfin := st_end (p := ⟨code, mem, stack, val, ws⟩) (cs := cs) (cs2 := cs2) (cs3 := cs3) (K0 := j) (K1 := K1) (K2 := K2) (q1 := q1) (q2 := q2) (q4 := q4) HKE.out HKE1.out HKE2.out HQ0.out (by rw [HFF.out]; exact HQ1.out) (by rw [hgs]; exact HQ2.out) (by rw [hg3]; exact HQ3.out) HQ4.out (by rw [HFF.out]; exact HCS.out) (by rw [hgs]; exact fun l d h => (HCS2.out l d h).1) (by rw [hg3]; exact fun l d h => (HCS3.out l d h).1)
          rw [HANS.out] at hfin
          have HFIN := Lib.hid hfin
          clear hfin hgs
          cases q4 with
          | none =>
            have hans : ans = none := HFIN.out
            subst hans
            have hy := HM4.out
            injection hy with e1 e2 e3 e4 e5 e6 e7 e8 e9
            try dsimp only at e1 e2 e3 e4 e5 e6 e7 e8 e9
            subst e1 e2 e3 e4 e5 e6 e7 e8 e9
            clear HFIN HM4 HL HO_c HO_a HO_b HANS
            have q25_ := H_m.out
            have q25_0 := q25_.cell 0
            have q25_1 := q25_.cell 1
            have q25_2 := q25_.cell 2
            have q25_3 := q25_.cell 3
            have q25_4 := q25_.cell 4
            have gR26_ := H_res.out.lt
            obtain ⟨R26_, eR26_, kR26_, hR26_, yR26_⟩ := row15 H_res.out #[.slice none 0 0, .int .i64 0, .slice none 0 0, .int .i64 0, .int .i64 0, .slice none 0 0, .slice none 0 0, .slice none 0 0, .slice none 0 0, .int .i64 8]
            have bR26_ := H_res
            have N_m : Blk R26_ (v1.heap.size) 72 #[.slice none 0 0, .int .i64 0, .slice none 0 0, .int .i64 0, .int .i64 8] := (hR26_.out _ (by omega)).trans H_m.out
            have N_s : Blk R26_ (W0.heap.size) 39 #[.int .i64 tx, .int .i64 0, .slice vA j vc, .slice w2A j3 w2c, .slice w4A j5 w4c, .slice none 0 0] := (hR26_.out _ (by omega)).trans H_s.out
            have N_l : Blk R26_ (w.heap.size) 25 #[.slice N n1 c1, .slice U k c2] := (hR26_.out _ (by omega)).trans H_l.out
            have N_sp : Blk R26_ (w.heap.size + 1) 28 #[.int .i64 code, .int .i64 mem, .int .i64 stack, .int .i64 val, .slice W ws.length wk] := (hR26_.out _ (by omega)).trans H_sp.out
            have N_d : Blk R26_ (w.heap.size + 1 + 1) 30 #[.slice A n c, .int .i64 (i : Int), .slice L log.length dd] := (hR26_.out _ (by omega)).trans H_d.out
            have N_res : Blk R26_ (w.heap.size + 1 + 1 + 1) 49 #[.slice none 0 0, .int .i64 0, .slice none 0 0, .int .i64 0, .int .i64 0, .slice none 0 0, .slice none 0 0, .slice none 0 0, .slice none 0 0, .int .i64 8] := kR26_.out
            have NB := yR26_.out _ _ (by omega) HB.out
            clear H_m H_s H_l H_sp H_d H_res HB
            have H_m := Lib.hid N_m
            have H_s := Lib.hid N_s
            have H_l := Lib.hid N_l
            have H_sp := Lib.hid N_sp
            have H_d := Lib.hid N_d
            have H_res := Lib.hid N_res
            have HB := Lib.hid NB
            clear N_m N_s N_l N_sp N_d N_res NB
            clear kR26_ hR26_ yR26_
            have q27_ := H_res.out
            have q27_0 := q27_.cell 0
            have q27_1 := q27_.cell 1
            have q27_2 := q27_.cell 2
            have q27_3 := q27_.cell 3
            have q27_4 := q27_.cell 4
            have q27_5 := q27_.cell 5
            have q27_6 := q27_.cell 6
            have q27_7 := q27_.cell 7
            have q27_8 := q27_.cell 8
            have q27_9 := q27_.cell 9
            have hpo : GotSt w A n c none = post := HPOST.out
            go_upto_region 29 with ((refine wpList_store_rowTo rfl 72 (.tmp 9) (.tmp 116) rfl rfl (v1.heap.size) #[.slice none 0 0, .int .i64 0, .slice none 0 0, .int .i64 0, .int .i64 8] rfl rfl 72 _ bR21_.out Try.sizeM15 rfl (by kernel_rfl) ?_))
            iterate 15 (first | (refine wpList_store_rowTo rfl 49 (.tmp 6) (.tmp 126) rfl rfl (w.heap.size + 1 + 1 + 1) #[.slice none 0 0, .int .i64 0, .slice none 0 0, .int .i64 0, .int .i64 0, .slice none 0 0, .slice none 0 0, .slice none 0 0, .slice none 0 0, .int .i64 8] rfl rfl 49 _ bR26_.out Try.sizeS15 rfl (by kernel_rfl) ?_) | go_values | go_skip | go_guarded | go_step | go_upon | go_back)
            try rw [eR26_]
            show bodyPost Try.prog Try.f13 post Exit.ret _ _
            exact bodyPost_ret (v := .agg #[.slice none 0 0, .int .i64 0, .slice none 0 0, .int .i64 0, .int .i64 0, .slice none 0 0, .slice none 0 0, .slice none 0 0, .slice none 0 0, .int .i64 8]) (by simp [results, Try.results13, go_sem, q27_0, q27_1, q27_2, q27_3, q27_4, q27_5, q27_6, q27_7, q27_8, q27_9]) rfl (by rw [← hpo]; exact ⟨rfl, HB.out⟩)
          | some x9 =>
            obtain ⟨l9, d9⟩ := x9
            have hans : ans = some (⟨⟨gi q3, l9⟩, cs, cs2.map St.toAtom, cs3, []⟩, d9) := HFIN.out
            subst hans
            have hq3 : gi q3 = tx := by
              cases q3 with
              | none => have h := HQ4.out; cases h
              | some p3 =>
                have h := HM3.out.1
                injection h with _ _ _ _ _ _ _ h _
                exact h.symm
            obtain ⟨hy, hl9⟩ := HM4.out
            injection hy with e1 e2 e3 e4 e5 e6 e7 e8 e9
            try dsimp only at e1 e2 e3 e4 e6 e8 e9
            subst e1 e2 e3 e4 e6 e8 e9
            clear e5 e7
            have HLO := HL.out _ _ rfl
            dsimp only at HLO
            have HLG := Lib.hid HLO
            have HQT := Lib.hid hq3
            clear HFIN HM4 HL HLO HANS hq3
            have q25_ := H_m.out
            have q25_0 := q25_.cell 0
            have q25_1 := q25_.cell 1
            have q25_2 := q25_.cell 2
            have q25_3 := q25_.cell 3
            have q25_4 := q25_.cell 4
            have q26_ := H_s.out
            have q26_0 := q26_.cell 0
            have q26_1 := q26_.cell 1
            have q26_2 := q26_.cell 2
            have q26_3 := q26_.cell 3
            have q26_4 := q26_.cell 4
            have q26_5 := q26_.cell 5
            have HLB := Lib.hid HB.out
            have HO_g := HLG
            have gR27_ := H_res.out.lt
            obtain ⟨R27_, eR27_, kR27_, hR27_, yR27_⟩ := row15 H_res.out #[.slice xA xn xc, .int .i64 (d9.i : Int), .slice xL d9.log.length xd, .int .i64 tx, .int .i64 xx, .slice vA j vc, .slice w2A j3 w2c, .slice w4A j5 w4c, .slice none 0 0, .int .i64 0]
            have bR27_ := H_res
            have O_c : R27_.ownsRow w.heap.size 66 3 (.slice vA j vc) (j) (fcells ivs cs) := own_ofD HO_c.out fun g9 hg9 => (show ∀ k9, k9 ≠ w.heap.size + 1 + 1 + 1 → R27_.heap[k9]? = S24.heap[k9]? from hR27_.out) g9 (by
              obtain ⟨cs9, hb9⟩ := own_blkD HO_c.out hg9
              exact hb9.ty_neD H_res.out (by decide))
            have O_a : R27_.ownsRow w.heap.size 34 2 (.slice w2A j3 w2c) (j3) (fcells avs (cs2.map St.toAtom)) := own_ofD HO_a.out fun g9 hg9 => (show ∀ k9, k9 ≠ w.heap.size + 1 + 1 + 1 → R27_.heap[k9]? = S24.heap[k9]? from hR27_.out) g9 (by
              obtain ⟨cs9, hb9⟩ := own_blkD HO_a.out hg9
              exact hb9.ty_neD H_res.out (by decide))
            have O_b : R27_.ownsRow w.heap.size 70 3 (.slice w4A j5 w4c) (j5) (fcells svs cs3) := own_ofD HO_b.out fun g9 hg9 => (show ∀ k9, k9 ≠ w.heap.size + 1 + 1 + 1 → R27_.heap[k9]? = S24.heap[k9]? from hR27_.out) g9 (by
              obtain ⟨cs9, hb9⟩ := own_blkD HO_b.out hg9
              exact hb9.ty_neD H_res.out (by decide))
            have O_g : R27_.ownsRow w.heap.size 3 1 (.slice xL d9.log.length xd) (d9.log.length) (ints d9.log) := own_ofD HO_g.out fun g9 hg9 => (show ∀ k9, k9 ≠ w.heap.size + 1 + 1 + 1 → R27_.heap[k9]? = S24.heap[k9]? from hR27_.out) g9 (by
              obtain ⟨cs9, hb9⟩ := own_blkD HO_g.out hg9
              exact hb9.ty_neD H_res.out (by decide))
            have N_m : Blk R27_ (v1.heap.size) 72 #[.slice xA xn xc, .int .i64 (d9.i : Int), .slice xL d9.log.length xd, .int .i64 xx, .int .i64 0] := (hR27_.out _ (by omega)).trans H_m.out
            have N_s : Blk R27_ (W0.heap.size) 39 #[.int .i64 tx, .int .i64 xx, .slice vA j vc, .slice w2A j3 w2c, .slice w4A j5 w4c, .slice none 0 0] := (hR27_.out _ (by omega)).trans H_s.out
            have N_l : Blk R27_ (w.heap.size) 25 #[.slice N n1 c1, .slice U k c2] := (hR27_.out _ (by omega)).trans H_l.out
            have N_sp : Blk R27_ (w.heap.size + 1) 28 #[.int .i64 code, .int .i64 mem, .int .i64 stack, .int .i64 val, .slice W ws.length wk] := (hR27_.out _ (by omega)).trans H_sp.out
            have N_d : Blk R27_ (w.heap.size + 1 + 1) 30 #[.slice xA xn xc, .int .i64 (i : Int), .slice L log.length dd] := (hR27_.out _ (by omega)).trans H_d.out
            have N_res : Blk R27_ (w.heap.size + 1 + 1 + 1) 49 #[.slice xA xn xc, .int .i64 (d9.i : Int), .slice xL d9.log.length xd, .int .i64 tx, .int .i64 xx, .slice vA j vc, .slice w2A j3 w2c, .slice w4A j5 w4c, .slice none 0 0, .int .i64 0] := kR27_.out
            have NB := yR27_.out _ _ (by omega) HB.out
            clear H_m H_s H_l H_sp H_d H_res HB
            have H_m := Lib.hid N_m
            have H_s := Lib.hid N_s
            have H_l := Lib.hid N_l
            have H_sp := Lib.hid N_sp
            have H_d := Lib.hid N_d
            have H_res := Lib.hid N_res
            have HB := Lib.hid NB
            clear N_m N_s N_l N_sp N_d N_res NB
            clear HO_c
            have HO_c := Lib.hid O_c
            clear O_c
            clear HO_a
            have HO_a := Lib.hid O_a
            clear O_a
            clear HO_b
            have HO_b := Lib.hid O_b
            clear O_b
            clear HO_g
            have HO_g := Lib.hid O_g
            clear O_g
            clear kR27_ hR27_ yR27_
            have q28_ := H_res.out
            have q28_0 := q28_.cell 0
            have q28_1 := q28_.cell 1
            have q28_2 := q28_.cell 2
            have q28_3 := q28_.cell 3
            have q28_4 := q28_.cell 4
            have q28_5 := q28_.cell 5
            have q28_6 := q28_.cell 6
            have q28_7 := q28_.cell 7
            have q28_8 := q28_.cell 8
            have q28_9 := q28_.cell 9
            have hpo : GotSt w xA xn xc (some (⟨⟨gi q3, xx⟩, cs, cs2.map St.toAtom, cs3, []⟩, d9)) = post := HPOST.out
            have hcl : cs.length = j := by have h := HO_c.out.1; rw [fcells_length ivs_len] at h; omega
            have hal : (cs2.map St.toAtom).length = j3 := by have h := HO_a.out.1; rw [fcells_length avs_len] at h; omega
            have hbl : cs3.length = j5 := by have h := HO_b.out.1; rw [fcells_length svs_len] at h; omega
            have hend : post (.returned (.agg #[.slice xA xn xc, .int .i64 (d9.i : Int), .slice xL d9.log.length xd, .int .i64 tx, .int .i64 xx, .slice vA j vc, .slice w2A j3 w2c, .slice w4A j5 w4c, .slice none 0 0, .int .i64 0])) R27_ := by
              rw [← hpo]
              refine ⟨xL, xd, _, _, _, ?_, HO_g.out, by rw [hcl]; exact HO_c.out, by rw [hal]; exact HO_a.out, by rw [hbl]; exact HO_b.out, HB.out⟩
              rw [HQT.out]
            have HEND := Lib.hid hend
            clear hpo hcl hal hbl hend
            go_upto_region 30 with ((refine wpList_store_rowTo rfl 72 (.tmp 9) (.tmp 116) rfl rfl (v1.heap.size) #[.slice xA xn xc, .int .i64 (d9.i : Int), .slice xL d9.log.length xd, .int .i64 xx, .int .i64 0] rfl rfl 72 _ bR21_.out Try.sizeM15 rfl (by kernel_rfl) ?_))
            iterate 18 (first | (refine wpList_store_rowTo rfl 49 (.tmp 6) (.tmp 130) rfl rfl (w.heap.size + 1 + 1 + 1) #[.slice xA xn xc, .int .i64 (d9.i : Int), .slice xL d9.log.length xd, .int .i64 tx, .int .i64 xx, .slice vA j vc, .slice w2A j3 w2c, .slice w4A j5 w4c, .slice none 0 0, .int .i64 0] rfl rfl 49 _ bR27_.out Try.sizeS15 rfl (by kernel_rfl) ?_) | go_values | go_skip | go_guarded | go_step | go_upon | go_back)
            try rw [eR27_]
            show bodyPost Try.prog Try.f13 post Exit.ret _ _
            exact bodyPost_ret (v := .agg #[.slice xA xn xc, .int .i64 (d9.i : Int), .slice xL d9.log.length xd, .int .i64 tx, .int .i64 xx, .slice vA j vc, .slice w2A j3 w2c, .slice w4A j5 w4c, .slice none 0 0, .int .i64 0]) (by simp [results, Try.results13, go_sem, q28_0, q28_1, q28_2, q28_3, q28_4, q28_5, q28_6, q28_7, q28_8, q28_9]) rfl HEND.out
end Go.Proofs.Ytmbgndcahlopdaa
