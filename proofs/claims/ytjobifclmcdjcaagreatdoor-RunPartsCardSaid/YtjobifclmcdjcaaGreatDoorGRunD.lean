/- Walk of package run's Run. -/
import Derived.Maps.OwnIn
import Derived.Test.YtjobifclmcdjcaaGreatDoorGStpW
import Derived.Test.YtjobifclmcdjcaaGreatDoorGCodE
import Derived.Test.YtjobifclmcdjcaaGreatDoorGStpS
import Derived.Test.YtjobifclmcdjcaaGreatDoorGFree
import Derived.Test.YtjobifclmcdjcaaGreatDoorGStpR
import Derived.Test.YtjobifclmcdjcaaGreatDoorGCodA
namespace Go.Proofs.YtjobifclmcdjcaaGreatDoor
set_option maxRecDepth 100000
open Go.RowKit Go.Shelf
attribute [local go_sem] Oper.semAt_some
/-- States in a slice. -/
structure StsIn (W : World) (B : Nat) (A : Option Addr) (xs : List El) : Prop where
  row : Row W B A (fcells El.cells xs)
  el : ∀ x ∈ xs, IsSt W B x.val x.s
theorem StsIn.below {W W' : World} {B : Nat} {A : Option Addr} {xs : List El} (h : StsIn W B A xs) (hb : Below B W W') : StsIn W' B A xs := ⟨h.row.below hb, fun x hx => (h.el x hx).below hb⟩
theorem StsIn.more {W : World} {B B' : Nat} {A : Option Addr} {xs : List El} (h : StsIn W B A xs) (hb : B ≤ B') : StsIn W B' A xs := ⟨h.row.more hb, fun x hx => (h.el x hx).more hb⟩
theorem El.cells_len (x : El) : x.cells.length = 6 := rfl
/-- What a run tells. -/
def runL (names : List ByteArray) (up : List Nat) (l : List Tb.PR) (s : St.State) (fuel : Int) : List (St.State × Nat) :=
  if chk11 names up l s fuel = 0 then Rn.seq (stepF names up l) fuel.toNat s else []
theorem Tryz.infoSt : (Tryz.prog.info? 35).map (fun i => (i.zero, i.size, i.bytes)) = some (some (.agg #[.int .i64 0, .int .i64 0, .slice none 0 0, .slice none 0 0, .slice none 0 0, .slice none 0 0]), 6, 112) := by kernel_rfl
/-- What Run's loop holds. -/
structure IRun (w0 : World) (b1 b2 B : Nat) (O : Nat → Prop) (pre : List El) (W : World) : Prop where
  box : ∃ v, Blk W b1 59 #[v] ∧ W.ownsRow B 35 6 v pre.length (fcells El.cells pre) ∧ ∀ k, v.ownBlock = some k → ¬ O k
  came : Blk W b2 3 #[.int .i64 (Rn.came (pre.map El.pl) : Int)]
  el : ∀ x ∈ pre, x.In w0.heap.size W
  no : ¬ O b1 ∧ ¬ O b2
  below : Below w0.heap.size w0 W
  big : B ≤ W.heap.size
theorem IRun.stands (w0 : World) {b1 b2 B Bg : Nat} (h0 : w0.heap.size ≤ b1) (h1 : b1 < B) (h2 : b2 < B) (h3 : B ≤ Bg) : Stands Bg 35 (IRun w0 b1 b2 B) := by
  refine ⟨fun {O b W W'} h hb => ?_, fun {O O' b W} h ho => ?_, fun {O b W g i cs} v h hB hg hk => ?_⟩
  · obtain ⟨⟨v, hv, hown, hvo⟩, hc, hel, ⟨n1, n2⟩, hbl, hbg⟩ := h
    refine ⟨⟨v, hv.below hb hv.lt, own_belowK hown hb, ?_⟩, hc.below hb hc.lt, fun x hx => (hel x hx).below hb, ⟨?_, ?_⟩, hbl.trans (hb.mono hbl.size), Nat.le_trans hbg hb.size⟩
    · rintro k hk (hk' | ⟨hk', -⟩)
      · exact hvo k hk hk'
      · have := (hown.lt k hk).2; omega
    · rintro (hk' | ⟨hk', -⟩)
      · exact n1 hk'
      · have := hv.lt; omega
    · rintro (hk' | ⟨hk', -⟩)
      · exact n2 hk'
      · have := hc.lt; omega
  · obtain ⟨⟨v, hv, hown, hvo⟩, hc, hel, ⟨n1, n2⟩, hbl, hbg⟩ := h
    exact ⟨⟨v, hv, hown, fun k hk hk' => hvo k hk (ho k hk')⟩, hc, hel, ⟨fun hk => n1 (ho _ hk), fun hk => n2 (ho _ hk)⟩, hbl, hbg⟩
  · obtain ⟨⟨u, hv, hown, hvo⟩, hc, hel, hn, hbl, hbg⟩ := h
    refine ⟨⟨u, hv.other (by show g ≠ b1; omega) v, own_set hown (fun e => hvo g e hg) v, hvo⟩, hc.other (by show g ≠ b2; omega) v, fun x hx => (hel x hx).set_ hk v, hn, hbl.setCell (p := ⟨g, i, none⟩) (by show w0.heap.size ≤ g; omega) v, by simpa using hbg⟩
theorem IRun.putObj {w0 : World} {b1 b2 B : Nat} {O : Nat → Prop} {pre : List El} {W : World} {l : Nat} {o : Obj} (o' : Obj) (h : IRun w0 b1 b2 B O pre W) (hl : w0.heap.size ≤ l) (ho : W.heap[l]? = some o) (hc : o.isCells = false) : IRun w0 b1 b2 B O pre (W.putObj l o') := by
  obtain ⟨⟨v, hv, hown, hvo⟩, hcm, hel, hn, hbl, hbg⟩ := h
  refine ⟨⟨v, hv.putObj o' ho hc, own_type hown fun k cs hb => World.putObj_heap_other (fun e => ?_), hvo⟩, hcm.putObj o' ho hc, fun x hx => (hel x hx).putObj ho hc, hn, hbl.trans ?_, by simpa using hbg⟩
  · subst e; unfold Blk at hb; rw [hb] at ho; cases ho; cases hc
  · exact (Below.refl _ W).grown (grownBy_putObj' W l o') (by have := (Array.getElem?_eq_some_iff.1 ho).1; omega) (fun k e => by cases e; omega)
/-- What Run tells. -/
def Runs (names : List ByteArray) (up : List Nat) (l : List Tb.PR) (s : St.State) (fuel : Int) (w : World) (e : Ending) (w' : World) : Prop :=
  ∃ (A : Option Addr) (xs : List El) (cap : Nat), e = .returned (.tuple #[.slice A xs.length cap, .int .i64 (Rn.came (runL names up l s fuel) : Int), .int .i64 (chk11 names up l s fuel : Nat)]) ∧ xs.length ≤ cap ∧ StsIn w' w'.heap.size A xs ∧ xs.map El.pl = runL names up l s fuel ∧ Below w.heap.size w w'
theorem own_cells {W : World} {base e sz n : Nat} {v : Value} {xs : List Value} (h : W.ownsRow base e sz v n xs) : ∀ (j : Nat) (o : Obj), v.ownBlock = some j → W.heap[j]? = some o → o.isCells = true := fun j o hj ho => by
  rcases h.2 with ⟨rfl, _⟩ | ⟨g, cap, cur, rfl, _, hh, _⟩
  · cases hj
  · have : g = j := by simpa [Value.ownBlock] using hj
    subst this
    rw [hh] at ho
    cases ho
    rfl
/-- A row of states grew: rows of other types lie as they lay. -/
theorem El.In.grown {B base n : Nat} {x : El} {W W' : World} {v : Value} {xs : List Value} (h : x.In B W) (hown : W.ownsRow base 35 6 v n xs) (hg : W.grownBy W' v.ownBlock) : x.In B W' :=
  h.type fun k _ _ hb ht => hg.block k hb.lt fun e => own_neM hb hown ht e.symm
theorem El.In.setT {B g i : Nat} {x : El} {W : World} {t : TypeId} {cs : Array Value} (h : x.In B W) (hb : Blk W g t cs) (ht : t ≠ 57 ∧ t ≠ 30 ∧ t ≠ 78) (u : Value) : x.In B (W.setCell ⟨g, i, none⟩ u) :=
  ⟨h.eq, ⟨own_set h.copy.code (own_neM hb h.copy.code ht.1) u, own_set h.copy.mem (own_neM hb h.copy.mem ht.2.1) u, own_set h.copy.stack (own_neM hb h.copy.stack ht.2.2) u, own_set h.copy.out (own_neM hb h.copy.out ht.2.1) u, h.copy.mo⟩⟩
theorem came_snoc (L : List El) (x : El) : Rn.came ((L ++ [x]).map El.pl) = x.came := by
  unfold Rn.came
  rw [List.map_append, List.map_singleton, List.getLast?_concat]
  rfl
theorem cells_newAt (w : World) (xs : List Value) (t : TypeId) : ∀ j u, xs[j]? = some u → (w.alloc (.cells xs.toArray t)).cell? ((⟨w.heap.size, 0, none⟩ : Addr).add j) = some u := fun j u hu => by
  have e : (⟨w.heap.size, 0, none⟩ : Addr).add j = ⟨w.heap.size, j, none⟩ := by unfold Addr.add; split <;> simp_all
  rw [e, (Blk.new w t xs.toArray).cell]
  simpa using hu
/-- What an append of one state leaves. -/
theorem IRun.next {w0 : World} {b1 b2 B : Nat} {O : Nat → Prop} {pre : List El} {x : El} {W W1 W2 : World} {v v' : Value} {o : Obj} (h : IRun w0 b1 b2 B O pre W) (hv : Blk W b1 59 #[v]) (hown : W.ownsRow B 35 6 v pre.length (fcells El.cells pre)) (hvo : ∀ k, v.ownBlock = some k → ¬ O k) (hO : ∀ k, O k → k < W.heap.size) (hb : w0.heap.size ≤ b1 ∧ b1 < B ∧ b2 < B ∧ b1 ≠ b2 ∧ w0.heap.size ≤ b2)
    (hx : x.In w0.heap.size W) (hW1 : W.alloc o = W1) (hown' : W2.ownsRow B 35 6 v' (pre.length + 1) (fcells El.cells pre ++ x.cells)) (hg : W1.grownBy W2 v.ownBlock) (hwh : v'.ownBlock = v.ownBlock ∨ v'.ownBlock = some W1.heap.size) {Wf : World} (hWf : (W2.setCell ⟨b1, 0, none⟩ v').setCell ⟨b2, 0, none⟩ (.int .i64 (x.came : Int)) = Wf) :
    KeepsOthers W Wf ∧ HoldsOn O W Wf ∧ IRun w0 b1 b2 B O (pre ++ [x]) Wf := by
  obtain ⟨-, hc, hel, hn, hbl, hbg⟩ := h
  have ho1 := hown.alloc o
  have hs1 : W1.heap.size = W.heap.size + 1 := by rw [← hW1]; simp
  have hlow : ∀ k, v.ownBlock = some k → B ≤ k ∧ k < W.heap.size := hown.lt
  have ha : Below W.heap.size W (W.alloc o) := (Below.refl _ W).alloc (Nat.le_refl _) o
  rw [hW1] at ho1 ha
  have hv2 : Blk W2 b1 59 #[v] := (hg.block b1 (by have := hv.lt; omega) (fun e => by have := (hlow b1 e.symm).1; omega)).trans (hv.below ha hv.lt)
  have hc2 : Blk W2 b2 3 #[.int .i64 (Rn.came (pre.map El.pl) : Int)] := (hg.block b2 (by have := hc.lt; omega) (fun e => by have := (hlow b2 e.symm).1; omega)).trans (hc.below ha hc.lt)
  have hb2 : Below w0.heap.size W1 W2 := (Below.refl _ W1).grown hg (by have := hbl.size; omega) (fun k e => by have := (hlow k e).1; omega)
  have hnv' : ∀ k, v'.ownBlock = some k → B ≤ k ∧ ¬ O k := fun k hk => by
    rcases hwh with e | e
    · rw [e] at hk; exact ⟨(hlow k hk).1, hvo k hk⟩
    · rw [e] at hk
      injection hk with hk
      have := (hown'.lt k (by rw [e, hk])).1
      exact ⟨this, fun h => by have := hO k h; omega⟩
  subst hWf
  refine ⟨?_, ?_, ⟨v', ?_, ?_, fun k hk => (hnv' k hk).2⟩, ?_, ?_, hn, ?_, by have := hg.size; simp; omega⟩
  · refine (((hW1 ▸ KeepsOthers.alloc W o : KeepsOthers W W1).trans (KeepsOthers.of_grownBy hg fun j o' hj ho' => own_cells ho1 j o' hj ho')).trans (KeepsOthers.setCell _ _ _)).trans (KeepsOthers.setCell _ _ _)
  · refine (((hW1 ▸ HoldsOn.alloc W o hO : HoldsOn O W W1).trans (HoldsOn.grown hg fun k hk => ⟨by have := hO k hk; omega, fun e => hvo k e.symm hk⟩)).trans (HoldsOn.setCell _ (p := ⟨b1, 0, none⟩) _ hn.1)).trans (HoldsOn.setCell _ (p := ⟨b2, 0, none⟩) _ hn.2)
  · exact (hv2.set_ 0 v').other (by show b2 ≠ b1; omega) _
  · have h1 := own_set (own_set hown' (p := ⟨b1, 0, none⟩) (fun e => by have := (hnv' _ e).1; dsimp only at this; omega) v') (p := ⟨b2, 0, none⟩) (fun e => by have := (hnv' _ e).1; dsimp only at this; omega) (.int .i64 (x.came : Int))
    rw [List.length_append, fcells_snoc]
    exact h1
  · rw [came_snoc]
    exact (hc2.other (by show b1 ≠ b2; omega) v').set_ 0 _
  · have hin : ∀ z : El, z.In w0.heap.size W → z.In w0.heap.size ((W2.setCell ⟨b1, 0, none⟩ v').setCell ⟨b2, 0, none⟩ (.int .i64 (x.came : Int))) := fun z hz => by
      exact (((hz.below ha).grown ho1 hg).setT hv2 (by decide) v').setT (hc2.other (by show b1 ≠ b2; omega) v') (by decide) _
    intro z hz
    rcases List.mem_append.1 hz with h | h
    · exact hin z (hel z h)
    · rw [List.mem_singleton] at h; subst h; exact hin _ hx
  · exact ((hbl.trans (ha.mono hbl.size)).trans hb2).setCell (p := ⟨b1, 0, none⟩) hb.1 _ |>.setCell (p := ⟨b2, 0, none⟩) hb.2.2.2.2 _
set_option maxRecDepth 100000 in
set_option maxHeartbeats 16000000 in
theorem run_any {v tv : Value} {names : List ByteArray} {up : List Nat} {s : St.State} {RA : Option Addr} {l : List Tb.PR} (rc : Nat) (fuel : Int) (w : World) (hi : Ins w) (hg : 0 < w.heap.size) (h : IsLat w w.heap.size v names up) (hst : IsSt w w.heap.size tv s) (hsm : SmallS s) (hr : RowsIn w w.heap.size RA l) (hrs : ∀ x ∈ l, Small x) :
    Calls Tryz.prog 23 #[v, .agg #[.slice RA l.length rc], tv, .int .i64 fuel] w (Runs names up l s fuel w) := by
  have hwf : ∀ f, Fence.wide.fn f := fun _ => trivial
  have h' := h
  obtain ⟨⟨N, U, c1, c2, rfl, hN, hU⟩, hsh, hfew, hcaps⟩ := id h
  have hst' := hst
  obtain ⟨cv, mv, stv_, ov, hsv, ⟨cA, cc, rfl, hcr, hcc⟩, ⟨mA, mc, rfl, hmr, hmc⟩, ⟨sA, sc, rfl, hsr, hsc⟩, ⟨oA, oc, rfl, hor, hoc⟩⟩ := hst
  unfold stv at hsv
  subst hsv
  obtain ⟨n1, hn1⟩ : ∃ n, names.length = n := ⟨_, rfl⟩
  obtain ⟨n2, hn2⟩ : ∃ n, up.length = n := ⟨_, rfl⟩
  obtain ⟨nl, hnl⟩ : ∃ n, l.length = n := ⟨_, rfl⟩
  obtain ⟨y, hy⟩ : ∃ y : El, y = ⟨s.pc.v, s.pc.l, cA, s.code.length, cc, mA, s.mem.length, mc, sA, s.stack.length, sc, oA, s.out.length, oc, s, 0⟩ := ⟨_, rfl⟩
  have q0 := Blk.new w 25 #[.slice N n1 c1, .slice U n2 c2]
  have q1 := Blk.new (w.alloc (.cells #[.slice N n1 c1, .slice U n2 c2] 25)) 28 #[.slice RA nl rc]
  rw [show (w.alloc (.cells #[.slice N n1 c1, .slice U n2 c2] 25)).heap.size = w.heap.size + 1 by simp] at q1
  have q2 := Blk.new ((w.alloc (.cells #[.slice N n1 c1, .slice U n2 c2] 25)).alloc (.cells #[.slice RA nl rc] 28)) 35 #[.int .i64 s.pc.v, .int .i64 s.pc.l, .slice cA s.code.length cc, .slice mA s.mem.length mc, .slice sA s.stack.length sc, .slice oA s.out.length oc]
  rw [show ((w.alloc (.cells #[.slice N n1 c1, .slice U n2 c2] 25)).alloc (.cells #[.slice RA nl rc] 28)).heap.size = w.heap.size + 2 by simp] at q2
  have hbox := (((Below.refl w.heap.size w).alloc (by simp <;> omega) (.cells #[.slice N n1 c1, .slice U n2 c2] 25)).alloc (by simp <;> omega) (.cells #[.slice RA nl rc] 28)).alloc (by simp <;> omega) (.cells #[.int .i64 s.pc.v, .int .i64 s.pc.l, .slice cA s.code.length cc, .slice mA s.mem.length mc, .slice sA s.stack.length sc, .slice oA s.out.length oc] 35)
  obtain ⟨W, hW⟩ : ∃ W, ((w.alloc (.cells #[.slice N n1 c1, .slice U n2 c2] 25)).alloc (.cells #[.slice RA nl rc] 28)).alloc (.cells #[.int .i64 s.pc.v, .int .i64 s.pc.l, .slice cA s.code.length cc, .slice mA s.mem.length mc, .slice sA s.stack.length sc, .slice oA s.out.length oc] 35) = W := ⟨_, rfl⟩
  have p0 := ((q0.alloc (.cells #[.slice RA nl rc] 28)).alloc (.cells #[.int .i64 s.pc.v, .int .i64 s.pc.l, .slice cA s.code.length cc, .slice mA s.mem.length mc, .slice sA s.stack.length sc, .slice oA s.out.length oc] 35))
  have p1 := (q1.alloc (.cells #[.int .i64 s.pc.v, .int .i64 s.pc.l, .slice cA s.code.length cc, .slice mA s.mem.length mc, .slice sA s.stack.length sc, .slice oA s.out.length oc] 35))
  have hWs : W.heap.size = w.heap.size + 3 := by rw [← hW]; simp
  rw [hW] at hbox p0 p1 q2
  have HCK := Lib.hid (check_any11 (s := s) (tv := .agg #[.int .i64 s.pc.v, .int .i64 s.pc.l, .slice cA s.code.length cc, .slice mA s.mem.length mc, .slice sA s.stack.length sc, .slice oA s.out.length oc]) rc fuel W (hi.below hbox hg) (Nat.lt_of_lt_of_le hg hbox.size) ((h'.below hbox).more hbox.size) ((hst'.below hbox).more hbox.size) hsm ((hr.below hbox).more hbox.size) hrs)
  rw [hn1, hn2] at HCK h'
  rw [hn1, hn2, hnl]
  rw [hnl] at HCK
  have l0 : W.cell? ⟨w.heap.size, 0, none⟩ = some (.slice N n1 c1) := p0.cell 0
  have l1 : W.cell? ⟨w.heap.size, 1, none⟩ = some (.slice U n2 c2) := p0.cell 1
  have t0 : W.cell? ⟨w.heap.size + 1, 0, none⟩ = some (.slice RA nl rc) := p1.cell 0
  have s0 : W.cell? ⟨w.heap.size + 2, 0, none⟩ = some (.int .i64 s.pc.v) := q2.cell 0
  have s1 : W.cell? ⟨w.heap.size + 2, 1, none⟩ = some (.int .i64 s.pc.l) := q2.cell 1
  have s2 : W.cell? ⟨w.heap.size + 2, 2, none⟩ = some (.slice cA s.code.length cc) := q2.cell 2
  have s3 : W.cell? ⟨w.heap.size + 2, 3, none⟩ = some (.slice mA s.mem.length mc) := q2.cell 3
  have s4 : W.cell? ⟨w.heap.size + 2, 4, none⟩ = some (.slice sA s.stack.length sc) := q2.cell 4
  have s5 : W.cell? ⟨w.heap.size + 2, 5, none⟩ = some (.slice oA s.out.length oc) := q2.cell 5
  have HB := Lib.hid hbox
  have HP0 := Lib.hid p0
  have HP1 := Lib.hid p1
  have HP2 := Lib.hid q2
  have HWS := Lib.hid hWs
  have HIN := Lib.hid hi
  have HLA := Lib.hid h'
  have HST := Lib.hid hst'
  have HRO := Lib.hid hr
  have HNL := Lib.hid hnl
  unfold Runs runL
  obtain ⟨c, hc⟩ : ∃ c, chk11 names up l s fuel = c := ⟨_, rfl⟩
  rw [hc] at HCK ⊢
  clear q0 q1 q2 p0 p1 hbox h h' hst' hr hi hcr hcc hmr hmc hsr hsc hor hoc hN hU hsh hfew hcaps hn1 hn2 hnl hWs
  by_cases hz : c = 0
  · subst hz
    have hf40 : 0 ≤ fuel ∧ fuel ≤ 40 ∧ chk10 names up l s = 0 := by
      unfold chk11 at hc
      split at hc
      · next h0 =>
        split at hc
        · cases hc
        · exact ⟨by omega, by omega, h0⟩
      · next h0 => exact absurd hc h0
    obtain ⟨hf0, hf4, hck⟩ := hf40
    obtain ⟨fu, rfl⟩ : ∃ fu : Nat, fuel = (fu : Int) := ⟨fuel.toNat, by omega⟩
    have hfu : fu ≤ 40 := by omega
    rw [if_pos rfl, Int.toNat_natCast]
    have HCH := Lib.hid hck
    obtain ⟨L, hL⟩ : ∃ L, Rn.seq (stepF names up l) fu s = L := ⟨_, rfl⟩
    rw [hL]
    have HL := Lib.hid hL
    clear hL hck hc hf0 hf4
    refine (callsIn_wide (n := 5)).1 ?_
    refine callsIn_of_wp_marks Tryz.func23 rfl trivial ?_ rfl
    simp only [Tryz.ntmps23, List.size_toArray, List.length_cons, List.length_nil, Nat.reduceAdd, Nat.reduceSub, Array.replicate_succ, Array.replicate_zero, List.push_toArray, List.append_toArray, List.nil_append, List.cons_append]
    gi_wp2_with (fail)
    refine (callsIn_wide.2 HCK.out).mono ?_
    rintro e w1 ⟨rfl, hb1⟩
    have hp0 := HP0.out.below hb1 HP0.out.lt
    have hp1 := HP1.out.below hb1 HP1.out.lt
    have hp2 := HP2.out.below hb1 HP2.out.lt
    have hB1 := HB.out.trans (hb1.mono HB.out.size)
    have ha1 := Below.refl w1.heap.size w1 |>.alloc (Nat.le_refl _) (.cells #[.slice none 0 0] 59)
    have hk1 := Blk.new w1 59 #[.slice none 0 0]
    obtain ⟨w2, hw2⟩ : ∃ w2, w1.alloc (.cells #[.slice none 0 0] 59) = w2 := ⟨_, rfl⟩
    have hz2 : w2.heap.size = w1.heap.size + 1 := by rw [← hw2]; simp
    rw [hw2] at ha1 hk1
    have ha2 := Below.refl w2.heap.size w2 |>.alloc (Nat.le_refl _) (.cells #[.int .i64 0] 3)
    have hk2 := Blk.new w2 3 #[.int .i64 0]
    obtain ⟨w3, hw3⟩ : ∃ w3, w2.alloc (.cells #[.int .i64 0] 3) = w3 := ⟨_, rfl⟩
    have hz3 : w3.heap.size = w2.heap.size + 1 := by rw [← hw3]; simp
    rw [hw3] at ha2 hk2
    rw [hz2] at hk2
    have hk1' := hk1.below ha2 hk1.lt
    have hp0' := (hp0.below ha1 hp0.lt).below ha2 (by have := hp0.lt; omega)
    have hp1' := (hp1.below ha1 hp1.lt).below ha2 (by have := hp1.lt; omega)
    have hp2' := (hp2.below ha1 hp2.lt).below ha2 (by have := hp2.lt; omega)
    have hB3 := (hB1.trans (ha1.mono hB1.size)).trans (ha2.mono (Nat.le_trans hB1.size ha1.size))
    have l0 : w3.cell? ⟨w.heap.size, 0, none⟩ = some (.slice N n1 c1) := hp0'.cell 0
    have l1 : w3.cell? ⟨w.heap.size, 1, none⟩ = some (.slice U n2 c2) := hp0'.cell 1
    have t0 : w3.cell? ⟨w.heap.size + 1, 0, none⟩ = some (.slice RA nl rc) := hp1'.cell 0
    have s0 : w3.cell? ⟨w.heap.size + 2, 0, none⟩ = some (.int .i64 s.pc.v) := hp2'.cell 0
    have s1 : w3.cell? ⟨w.heap.size + 2, 1, none⟩ = some (.int .i64 s.pc.l) := hp2'.cell 1
    have s2 : w3.cell? ⟨w.heap.size + 2, 2, none⟩ = some (.slice cA s.code.length cc) := hp2'.cell 2
    have s3 : w3.cell? ⟨w.heap.size + 2, 3, none⟩ = some (.slice mA s.mem.length mc) := hp2'.cell 3
    have s4 : w3.cell? ⟨w.heap.size + 2, 4, none⟩ = some (.slice sA s.stack.length sc) := hp2'.cell 4
    have s5 : w3.cell? ⟨w.heap.size + 2, 5, none⟩ = some (.slice oA s.out.length oc) := hp2'.cell 5
    have HK1 := Lib.hid hk1'
    have HK2 := Lib.hid hk2
    have HB3 := Lib.hid hB3
    have HB1 := Lib.hid hB1
    have HZ2 := Lib.hid hz2
    have HZ3 := Lib.hid (show w3.heap.size = w1.heap.size + 2 by omega)
    clear hp0 hp1 hp2 hp0' hp1' hp2' hB1 hB3 hk1 hk1' hk2 ha1 ha2 hb1 hz2 hz3
    gi_wp2_with (fail)
    refine (callsIn_wide.2 (run_run_any (fu : Int) w3)).mono ?_
    rintro e w4 ⟨rfl, hw4⟩
    have hz4 : w4.heap.size = w3.heap.size + 4 := by rw [← hw4]; simp
    have hb4 : Below w3.heap.size w3 w4 := by
      rw [← hw4]; exact ((((Below.refl _ w3).alloc (Nat.le_refl _) _).alloc (by simp) _).alloc (by simp; omega) _).alloc (by simp; omega) _
    have hrb : RBox names up l s w.heap.size w3.heap.size N U RA n1 c1 n2 c2 nl rc y fu w4 := by
      have hbw := HB3.out.trans (hb4.mono HB3.out.size)
      subst hy
      refine ⟨HIN.out.below hbw hg, ⟨hg, HB3.out.size⟩, HLA.out.below hbw, ⟨HRO.out.below hbw, HNL.out⟩, HST.out.below hbw, ?_, ?_, ?_, ?_⟩
      · rw [← hw4]; exact (((Blk.new w3 _ _).alloc _).alloc _).alloc _
      · have h := (((Blk.new (w3.alloc (.cells #[.slice N n1 c1, .slice U n2 c2] 25)) 28 #[.slice RA nl rc])).alloc (.cells #[.int .i64 s.pc.v, .int .i64 s.pc.l, .slice cA s.code.length cc, .slice mA s.mem.length mc, .slice sA s.stack.length sc, .slice oA s.out.length oc] 35)).alloc (.cells #[.int .i64 (fu : Int)] 3)
        rw [hw4, show (w3.alloc (.cells #[.slice N n1 c1, .slice U n2 c2] 25)).heap.size = w3.heap.size + 1 by simp] at h
        exact h
      · have h := (Blk.new ((w3.alloc (.cells #[.slice N n1 c1, .slice U n2 c2] 25)).alloc (.cells #[.slice RA nl rc] 28)) 35 #[.int .i64 s.pc.v, .int .i64 s.pc.l, .slice cA s.code.length cc, .slice mA s.mem.length mc, .slice sA s.stack.length sc, .slice oA s.out.length oc]).alloc (.cells #[.int .i64 (fu : Int)] 3)
        rw [hw4, show ((w3.alloc (.cells #[.slice N n1 c1, .slice U n2 c2] 25)).alloc (.cells #[.slice RA nl rc] 28)).heap.size = w3.heap.size + 2 by simp] at h
        exact h
      · have h := Blk.new (((w3.alloc (.cells #[.slice N n1 c1, .slice U n2 c2] 25)).alloc (.cells #[.slice RA nl rc] 28)).alloc (.cells #[.int .i64 s.pc.v, .int .i64 s.pc.l, .slice cA s.code.length cc, .slice mA s.mem.length mc, .slice sA s.stack.length sc, .slice oA s.out.length oc] 35)) 3 #[.int .i64 (fu : Int)]
        rw [hw4, show (((w3.alloc (.cells #[.slice N n1 c1, .slice U n2 c2] 25)).alloc (.cells #[.slice RA nl rc] 28)).alloc (.cells #[.int .i64 s.pc.v, .int .i64 s.pc.l, .slice cA s.code.length cc, .slice mA s.mem.length mc, .slice sA s.stack.length sc, .slice oA s.out.length oc] 35)).heap.size = w3.heap.size + 3 by simp] at h
        exact h
    have h0 : IRun w w1.heap.size w2.heap.size w4.heap.size (O11 w.heap.size w3.heap.size) [] w4 := by
      have hz3 := HZ3.out
      have hz2 := HZ2.out
      have h1 := HK1.out.below hb4 HK1.out.lt
      have h2 := HK2.out.below hb4 HK2.out.lt
      have hw1 := HB1.out.size
      refine ⟨⟨_, h1, World.ownsRow_nil _ _ _ _, fun k hk => (nomatch hk)⟩, ?_, fun x hx => (nomatch hx), ⟨?_, ?_⟩, HB3.out.trans (hb4.mono HB3.out.size), Nat.le_refl _⟩
      · rw [hz2]; exact h2
      · unfold O11; omega
      · unfold O11; omega
    have hO : ∀ k, O11 w.heap.size w3.heap.size k → k < w4.heap.size := fun k hk => by have := HB3.out.size; unfold O11 at hk; omega
    have HRB := Lib.hid hrb
    have HI0 := Lib.hid h0
    have HO := Lib.hid hO
    have HZ4 := Lib.hid hz4
    clear hrb h0 hO hb4 hw4 hz4 l0 l1 t0 s0 s1 s2 s3 s4 s5 HK1 HK2
    gi_wp2
    refine wpIn_rangeHolds rfl (by decide) (gf := 77) (lb := #[.pointer (some ⟨w3.heap.size + 2, 0, none⟩), .pointer (some ⟨w3.heap.size + 3, 0, none⟩), .pointer (some ⟨w3.heap.size, 0, none⟩), .pointer (some ⟨w3.heap.size + 1, 0, none⟩)]) rfl trivial (enters_of Tryz.func77 (by kernel_rfl) rfl)
      (run1_holds _ _ (by decide) w4 HRB.out hrs HCH.out hfu) HO.out (fun _ => rfl) (IRun w w1.heap.size w2.heap.size w4.heap.size) (IRun.stands w HB1.out.size (by have := HZ3.out; have := HZ4.out; omega) (by have := HZ2.out; have := HZ3.out; have := HZ4.out; omega) (by omega))
      (fun O pre W l o o' h hl _ ho hc => h.putObj o' (by have := HB3.out.size; have := HZ4.out; omega) ho hc) HI0.out ?assign ?done
    case assign =>
      clear HI0 HCK HP0 HP1 HP2 HIN HLA HST HRO
      rintro lp O pre ⟨a, b, A1, m1, d1, A2, m2, d2, A3, m3, d3, A4, m4, d4, s9, c9⟩ W9 K hI hG hOlt hK
      dsimp only [El.encs, El.val]
      have hlen : pre.length < 41 := by
        have h1 := hG.2.length_le
        rw [List.length_map, List.length_append, List.length_singleton] at h1
        have h2 := Rn.seq_le (stepF names up l) fu s
        omega
      have HLEN := Lib.hid hlen
      have hst := IRun.stands (b1 := w1.heap.size) (b2 := w2.heap.size) (B := w4.heap.size) (Bg := w4.heap.size) w HB1.out.size (by have := HZ3.out; have := HZ4.out; omega) (by have := HZ2.out; have := HZ3.out; have := HZ4.out; omega) (Nat.le_refl _)
      have hal := (Below.refl W9.heap.size W9).alloc (Nat.le_refl _) (.cells #[.int .i64 a, .int .i64 b, .slice A1 m1 d1, .slice A2 m2 d2, .slice A3 m3 d3, .slice A4 m4 d4] 35)
      have hi9 := hst.less (hst.grow hI hal) (fun k hk => .inl hk)
      have hx9 := hG.1.below hal
      have hk9 := Blk.new W9 35 #[.int .i64 a, .int .i64 b, .slice A1 m1 d1, .slice A2 m2 d2, .slice A3 m3 d3, .slice A4 m4 d4]
      have HI9 := Lib.hid hi9
      have HX9 := Lib.hid hx9
      have HK9 := Lib.hid hk9
      have HOL := Lib.hid hOlt
      clear hlen hst hal hi9 hx9 hk9 hI hG hOlt
      gi_wp2
      refine hK _ _ (KeepsOthers.alloc _ _) (HoldsOn.alloc _ _ HOL.out) ?_
      clear hK
      intro l' o o' hl hno ho hc
      have hiA := HI9.out.putObj o' (by have := HB3.out.size; have := HZ4.out; omega) ho hc
      have hxA := HX9.out.putObj (o' := o') ho hc
      have hkA := HK9.out.putObj o' ho hc
      have hszA := hkA.lt
      obtain ⟨WA, hWA⟩ : ∃ WA, (W9.alloc (.cells #[.int .i64 a, .int .i64 b, .slice A1 m1 d1, .slice A2 m2 d2, .slice A3 m3 d3, .slice A4 m4 d4] 35)).putObj l' o' = WA := ⟨_, rfl⟩
      rw [hWA] at hiA hxA hkA hszA ⊢
      clear hWA ho hc hl HI9 HX9 HK9
      obtain ⟨v, hv, hown, hvo⟩ := hiA.box
      obtain ⟨Av, cv, rfl⟩ := ownT_slice hown
      obtain ⟨i0, hi, hz0, hz1, hz2⟩ := info_parts Tryz.infoSt
      have hcmA := hiA.came
      have v0 : WA.cell? ⟨w1.heap.size, 0, none⟩ = some (.slice Av pre.length cv) := hv.cell 0
      have v1 : WA.frozen? ⟨w1.heap.size, 0, none⟩ = false := hv.frozen 0
      have x0 : WA.cell? ⟨W9.heap.size, 0, none⟩ = some (.int .i64 a) := hkA.cell 0
      have x1 : WA.cell? ⟨W9.heap.size, 1, none⟩ = some (.int .i64 b) := hkA.cell 1
      have x2 : WA.cell? ⟨W9.heap.size, 2, none⟩ = some (.slice A1 m1 d1) := hkA.cell 2
      have x3 : WA.cell? ⟨W9.heap.size, 3, none⟩ = some (.slice A2 m2 d2) := hkA.cell 3
      have x4 : WA.cell? ⟨W9.heap.size, 4, none⟩ = some (.slice A3 m3 d3) := hkA.cell 4
      have x5 : WA.cell? ⟨W9.heap.size, 5, none⟩ = some (.slice A4 m4 d4) := hkA.cell 5
      have HIA := Lib.hid hiA
      have HXA := Lib.hid hxA
      have HVA := Lib.hid hv
      have HWN := Lib.hid hown
      have HVO := Lib.hid hvo
      clear hiA hxA hv hvo hkA
      gi_wp2_with (gi_at_builtin; refine wpListIn_append_own_at _ rfl _ _ 59 rfl w4.heap.size 35 i0 (.agg #[.int .i64 0, .int .i64 0, .slice none 0 0, .slice none 0 0, .slice none 0 0, .slice none 0 0]) 6 112 Tryz.underlying59 hi hz0 hz1 hz2 rfl (by decide) _ _ _ rfl (hown.alloc _) ⟨WA.heap.size, 0, none⟩ 1 1 [.int .i64 a, .int .i64 b, .slice A1 m1 d1, .slice A2 m2 d2, .slice A3 m3 d3, .slice A4 m4 d4] rfl rfl ?e1 ?e2 ?e3 ?e4 ?e5 ?_)
      case e1 => exact cells_newAt _ _ _
      case e2 => simp [Value.oneCell']
      case e3 => have := HLEN.out; unfold maxLen; omega
      case e4 => have := HLEN.out; omega
      case e5 => have := HIA.out.big; simp; omega
      intro v' w5 hown' hgrow _ hwh
      have hcm5 := (hgrow.block w2.heap.size (by have := hcmA.lt; simp; omega) (fun e => by have := (HWN.out.lt _ e.symm).1; have := HZ2.out; have := HZ3.out; have := HZ4.out; omega)).trans (hcmA.alloc (.cells #[.int .i64 a, .int .i64 b, .slice A1 m1 d1, .slice A2 m2 d2, .slice A3 m3 d3, .slice A4 m4 d4] 35))
      have hst5 := (hgrow.block w1.heap.size (by have := HVA.out.lt; simp; omega) (fun e => by have := (HWN.out.lt _ e.symm).1; have := HZ2.out; have := HZ3.out; have := HZ4.out; omega)).trans (HVA.out.alloc (.cells #[.int .i64 a, .int .i64 b, .slice A1 m1 d1, .slice A2 m2 d2, .slice A3 m3 d3, .slice A4 m4 d4] 35))
      have hfin := HIA.out.next (x := ⟨a, b, A1, m1, d1, A2, m2, d2, A3, m3, d3, A4, m4, d4, s9, c9⟩) HVA.out HWN.out HVO.out (fun k hk => by have := HOL.out k hk; omega) ⟨HB1.out.size, by have := HZ3.out; have := HZ4.out; omega, by have := HZ2.out; have := HZ3.out; have := HZ4.out; omega, by have := HZ2.out; omega, by have := HZ2.out; have := HB1.out.size; omega⟩ HXA.out rfl hown' hgrow (by rw [World.size_alloc]; exact hwh) rfl
      obtain ⟨Av', cv', rfl⟩ := ownT_slice hown'
      have HFIN := Lib.hid hfin
      have k0 : w5.cell? ⟨w2.heap.size, 0, none⟩ = some _ := Blk.cell hcm5 0
      have k1 : w5.frozen? ⟨w2.heap.size, 0, none⟩ = false := Blk.frozen hcm5 0
      have k2 : w5.cell? ⟨w1.heap.size, 0, none⟩ = some _ := Blk.cell hst5 0
      have k3 : w5.frozen? ⟨w1.heap.size, 0, none⟩ = false := Blk.frozen hst5 0
      clear hfin hcm5 hst5 hown hown' hgrow hwh v0 v1 x0 x1 x2 x3 x4 x5 HIA HXA HVA HWN HVO hcmA
      have hne1 : w1.heap.size ≠ w2.heap.size := by have := HZ2.out; omega
      have hne2 : w2.heap.size ≠ w1.heap.size := fun e => hne1 e.symm
      gi_wp2
      exact HFIN.out
    case done =>
      clear HI0 HCK HP0 HP1 HP2 HIN HLA HST HRO
      rintro D O xs W9 hD hxs hI hK
      obtain ⟨⟨v, hv, hown, -⟩, hcm, hel, -, hbl, -⟩ := hI
      obtain ⟨Av, cv, rfl⟩ := ownT_slice hown
      have v0 : W9.cell? ⟨w1.heap.size, 0, none⟩ = some (.slice Av xs.length cv) := hv.cell 0
      have v1 : W9.cell? ⟨w2.heap.size, 0, none⟩ = some (.int .i64 (Rn.came (xs.map El.pl) : Int)) := hcm.cell 0
      have HXS := Lib.hid (hxs.trans HL.out)
      rw [HXS.out] at v1
      have hin : ∀ x ∈ xs, IsSt (W9.putObj D (.deferred none)) (W9.putObj D (.deferred none)).heap.size x.val x.s := fun x hx => ((hel x hx).putObj (o' := .deferred none) hK rfl).isSt
      have hown2 : (W9.putObj D (.deferred none)).ownsRow w4.heap.size 35 6 (.slice Av xs.length cv) xs.length (fcells El.cells xs) := own_type hown fun k cs hb => World.putObj_heap_other (fun e => by subst e; unfold Blk at hb; rw [hb] at hK; cases hK)
      have hbl2 : Below w.heap.size w (W9.putObj D (.deferred none)) := hbl.trans (belowK_b (w := w) (Nat.le_refl _) W9 D _ _ (by have := HZ4.out; have := HB3.out.size; omega) hK rfl rfl)
      have HFIN := Lib.hid (And.intro (⟨(ownT_row hown2).1, hin⟩ : StsIn _ _ Av xs) (And.intro (ownT_row hown2).2 hbl2))
      have HKD := Lib.hid hK
      clear hxs hv hown hcm hel hbl hin hown2 hbl2 hK
      gi_wp2
      gi_region
      gi_wp2
      refine ⟨by simp, .inl ⟨_, _, rfl, run_takeDeferred (w := W9.drew) HKD.out, ?_⟩⟩
      refine ⟨.tuple #[.slice Av xs.length cv, .int .i64 (Rn.came L : Int), .int .i64 0], by simp [results, Tryz.results23, go_sem], Av, xs, cv, rfl, HFIN.out.2.1, ⟨HFIN.out.1.row, HFIN.out.1.el⟩, HXS.out, ⟨HFIN.out.2.2.os, HFIN.out.2.2.tape, HFIN.out.2.2.output, HFIN.out.2.2.size, HFIN.out.2.2.block⟩⟩
  · have hnz : ((c : Int) != 0) = true := by rw [bne_iff_ne]; omega
    clear hy
    refine (callsIn_wide (n := 5)).1 ?_
    refine callsIn_of_wp_marks Tryz.func23 rfl trivial ?_ rfl
    simp only [Tryz.ntmps23, List.size_toArray, List.length_cons, List.length_nil, Nat.reduceAdd, Nat.reduceSub, Array.replicate_succ, Array.replicate_zero, List.push_toArray, List.append_toArray, List.nil_append, List.cons_append]
    gi_wp2_with (fail)
    refine (callsIn_wide.2 HCK.out).mono ?_
    rintro e w1 ⟨rfl, hb1⟩
    have HB1 := Lib.hid (HB.out.trans (hb1.mono HB.out.size))
    clear hb1
    gi_wp2
    refine ⟨.tuple #[.slice none 0 0, .int .i64 0, .int .i64 (c : Int)], by simp [results, Tryz.results23, go_sem], none, [], 0, ?_, Nat.le_refl _, ⟨Row.nil, fun x hx => nomatch hx⟩, ?_, HB1.out⟩
    · rfl
    · rfl
end Go.Proofs.YtjobifclmcdjcaaGreatDoor

/- law11's same. -/
namespace Go.Proofs.YtjobifclmcdjcaaGreatDoor
set_option maxRecDepth 100000
open Go.RowKit Go.Shelf Go.Sort
attribute [local go_sem] Oper.semAt_some
theorem strow_at {w : World} {B : Nat} {A : Option Addr} {l : List El} {k : Nat} (h : Row w B A (fcells El.cells l)) (hk : k < l.length) : ∃ ad x, A = some ad ∧ ad.block < B ∧ l[k]? = some x ∧ w.cell? (ad.add (k * 6)) = some (.int .i64 x.a) ∧
    w.cell? ⟨(ad.add (k * 6)).block, (ad.add (k * 6)).off + 1, none⟩ = some (.int .i64 x.b) ∧ w.cell? ⟨(ad.add (k * 6)).block, (ad.add (k * 6)).off + 2, none⟩ = some (.slice x.A1 x.n1 x.d1) ∧
    w.cell? ⟨(ad.add (k * 6)).block, (ad.add (k * 6)).off + 3, none⟩ = some (.slice x.A2 x.n2 x.d2) ∧ w.cell? ⟨(ad.add (k * 6)).block, (ad.add (k * 6)).off + 4, none⟩ = some (.slice x.A3 x.n3 x.d3) ∧
    w.cell? ⟨(ad.add (k * 6)).block, (ad.add (k * 6)).off + 5, none⟩ = some (.slice x.A4 x.n4 x.d4) := by
  have hlen := fcells_length El.cells_len l
  obtain ⟨ad, e, hb, hc⟩ := h (by intro e; rw [e] at hlen; simp at hlen; omega)
  have hx := List.getElem?_eq_getElem hk
  have g := fun j (hj : j < 6) => fcells_at El.cells_len l k l[k] hx j hj
  exact ⟨ad, l[k], e, hb, hx, hc _ _ (g 0 (by decide)), by rw [← addr_next _ _ _ (by decide)]; exact hc _ _ (g 1 (by decide)), by rw [← addr_next _ _ _ (by decide)]; exact hc _ _ (g 2 (by decide)), by rw [← addr_next _ _ _ (by decide)]; exact hc _ _ (g 3 (by decide)), by rw [← addr_next _ _ _ (by decide)]; exact hc _ _ (g 4 (by decide)), by rw [← addr_next _ _ _ (by decide)]; exact hc _ _ (g 5 (by decide))⟩
def sts (l : List El) : List St.State := l.map (·.s)
def sameL (a b : List St.State) : Bool := decide (a = b)
theorem take_eq_succ {a b : List St.State} {k : Nat} {x y : St.State} (ha : a[k]? = some x) (hb : b[k]? = some y) (h : a.take k = b.take k) : a.take (k + 1) = b.take (k + 1) ↔ x = y := by
  rw [List.take_add_one, List.take_add_one, ha, hb, h]
  simp
set_option maxRecDepth 100000 in
set_option maxHeartbeats 8000000 in
theorem sameL_any {A A' : Option Addr} {xs ys : List El} (c c' : Nat) (w : World) (hx : StsIn w w.heap.size A xs) (hy : StsIn w w.heap.size A' ys) (hxs : ∀ x ∈ xs, SmallS x.s) (hys : ∀ x ∈ ys, SmallS x.s) (hlx : xs.length ≤ 1000) :
    Calls Tryz.prog 27 #[.slice A xs.length c, .slice A' ys.length c'] w (Tells w (sameL (sts xs) (sts ys))) := by
  by_cases hl : xs.length = ys.length
  · obtain ⟨n, hn⟩ : ∃ n, xs.length = n := ⟨_, rfl⟩
    rw [← hl, hn]
    have hm : ys.length = n := by omega
    have HX := Lib.hid hx
    have HY := Lib.hid hy
    have HSX := Lib.hid hxs
    have HSY := Lib.hid hys
    have HN := Lib.hid hn
    have HM := Lib.hid hm
    have hn9 : n ≤ 1000 := by omega
    clear hx hy hxs hys hlx hn hm hl
    go_enter Tryz.func27, Tryz.ntmps27
    go_wp2
    go_loopw [13] (fun i wr => ∃ k : Nat, k ≤ n ∧ i = .int .i64 k ∧ Hid ((sts xs).take k = (sts ys).take k) ∧ Hid (Below w.heap.size w wr)) (fun i _ => n - (intOf i).toNat)
    case atStart => exact ⟨0, Nat.zero_le _, rfl, Lib.hid rfl, Lib.hid (Below.refl _ _)⟩
    case round =>
      obtain ⟨k, hk, rfl, HT, HB⟩ := hrel
      by_cases hlt : k < n
      · obtain ⟨ad, x, rfl, had, hxk, x0, x1, x2, x3, x4, x5⟩ := strow_at ((HX.out.below HB.out).row) (by rw [HN.out]; exact hlt)
        obtain ⟨ad', y, rfl, had', hyk, y0, y1, y2, y3, y4, y5⟩ := strow_at ((HY.out.below HB.out).row) (by rw [HM.out]; exact hlt)
        have hmx := List.mem_of_getElem? hxk
        have hmy := List.mem_of_getElem? hyk
        have HC := Lib.hid (fun W (hb : Below wr.heap.size wr W) => rSame9_any (sv := x.val) (tv := y.val) W ((((HX.out.el x hmx).below HB.out).more HB.out.size).below hb |>.more hb.size) ((((HY.out.el y hmy).below HB.out).more HB.out.size).below hb |>.more hb.size) (HSX.out x hmx) (HSY.out y hmy))
        have HE := Lib.hid (take_eq_succ (a := sts xs) (b := sts ys) (k := k) (x := x.s) (y := y.s) (by unfold sts; rw [List.getElem?_map, hxk]; rfl) (by unfold sts; rw [List.getElem?_map, hyk]; rfl) HT.out)
        obtain ⟨a, b, A1, n1, d1, A2, n2, d2, A3, n3, d3, A4, n4, d4, s, cx⟩ := x
        obtain ⟨a', b', A1', n1', d1', A2', n2', d2', A3', n3', d3', A4', n4', d4', s', cx'⟩ := y
        unfold El.val at HC
        dsimp only at x0 x1 x2 x3 x4 x5 y0 y1 y2 y3 y4 y5 HC HE
        obtain ⟨q, hq⟩ : ∃ q, sameB s s' = q := ⟨_, rfl⟩
        rw [hq] at HC
        have HQ := Lib.hid hq
        clear hxk hyk hmx hmy hq
        have hb1 : (ad.add (k * 6)).block < wr.heap.size := by rw [add_block]; exact Nat.lt_of_lt_of_le had HB.out.size
        have hb2 : (ad'.add (k * 6)).block < wr.heap.size := by rw [add_block]; exact Nat.lt_of_lt_of_le had' HB.out.size
        cases q with
        | true =>
          go_wp2_with (fail)
          have g0 := fun d os => cell_regrown x0 d os
          have g1 := fun d os => cell_regrown x1 d os
          have g2 := fun d os => cell_regrown x2 d os
          have g3 := fun d os => cell_regrown x3 d os
          have g4 := fun d os => cell_regrown x4 d os
          have g5 := fun d os => cell_regrown x5 d os
          have k0 := fun d os => cell_regrown y0 d os
          have k1 := fun d os => cell_regrown y1 d os
          have k2 := fun d os => cell_regrown y2 d os
          have k3 := fun d os => cell_regrown y3 d os
          have k4 := fun d os => cell_regrown y4 d os
          have k5 := fun d os => cell_regrown y5 d os
          refine wp_region_quiet_below (by kernel_rfl) (by kernel_rfl) ?_
          repeat (quiet_step (first | (go_at_call 14; exact Calls.regrown_of (HC.out _ (below_regrown _ _ _)))))
          refine wpQuiet_nil ?_
          rintro _ ⟨⟨d9, os9⟩, rfl⟩
          have HB9 := Lib.hid (HB.out.trans ((below_regrown wr d9 os9).mono HB.out.size))
          clear g0 g1 g2 g3 g4 g5 k0 k1 k2 k3 k4 k5 x0 x1 x2 x3 x4 x5 y0 y1 y2 y3 y4 y5
          generalize grow (redrawn wr d9) os9 = w9 at *
          go_wp2
          go_roundw
          case rel => exact ⟨k + 1, by omega, by simp, Lib.hid (HE.out.2 (sameB_iff.1 HQ.out)), HB9⟩
          case measure => simp [intOf]; omega
        | false =>
          go_wp2_with (fail)
          have g0 := fun d os => cell_regrown x0 d os
          have g1 := fun d os => cell_regrown x1 d os
          have g2 := fun d os => cell_regrown x2 d os
          have g3 := fun d os => cell_regrown x3 d os
          have g4 := fun d os => cell_regrown x4 d os
          have g5 := fun d os => cell_regrown x5 d os
          have k0 := fun d os => cell_regrown y0 d os
          have k1 := fun d os => cell_regrown y1 d os
          have k2 := fun d os => cell_regrown y2 d os
          have k3 := fun d os => cell_regrown y3 d os
          have k4 := fun d os => cell_regrown y4 d os
          have k5 := fun d os => cell_regrown y5 d os
          refine wp_region_quiet_below (by kernel_rfl) (by kernel_rfl) ?_
          repeat (quiet_step (first | (go_at_call 14; exact Calls.regrown_of (HC.out _ (below_regrown _ _ _)))))
          refine wpQuiet_nil ?_
          rintro _ ⟨⟨d9, os9⟩, rfl⟩
          have HB9 := Lib.hid (HB.out.trans ((below_regrown wr d9 os9).mono HB.out.size))
          clear g0 g1 g2 g3 g4 g5 k0 k1 k2 k3 k4 k5 x0 x1 x2 x3 x4 x5 y0 y1 y2 y3 y4 y5
          generalize grow (redrawn wr d9) os9 = w9 at *
          go_wp2
          go_ret
          refine ⟨?_, HB9.out⟩
          have hne : sts xs ≠ sts ys := fun e => by
            have h := HE.out.1 (by rw [e])
            have h2 := sameB_iff.2 h
            rw [HQ.out] at h2
            cases h2
          unfold sameL
          rw [decide_eq_false hne]
          rfl
      · obtain rfl : k = n := by omega
        have heq : sts xs = sts ys := by
          have h := HT.out
          rw [List.take_of_length_le (by unfold sts; rw [List.length_map, HN.out]; exact Nat.le_refl _), List.take_of_length_le (by unfold sts; rw [List.length_map, HM.out]; exact Nat.le_refl _)] at h
          exact h
        have HEQ := Lib.hid heq
        clear heq
        go_wp2
        go_ret
        exact ⟨by unfold sameL; rw [decide_eq_true HEQ.out]; rfl, HB.out⟩
  · have hne : sts xs ≠ sts ys := fun e => hl (by have h := congrArg List.length e; unfold sts at h; rw [List.length_map, List.length_map] at h; exact h)
    have hb : sameL (sts xs) (sts ys) = false := decide_eq_false hne
    rw [hb]
    generalize xs.length = n at *
    generalize ys.length = m at *
    have h1 : ((n : Int) != (m : Int)) = true := by rw [bne_iff_ne]; omega
    clear hx hy hxs hys hne hb
    go_enter Tryz.func27, Tryz.ntmps27
    go_wp2
    go_ret
    exact ⟨rfl, Below.refl _ _⟩
end Go.Proofs.YtjobifclmcdjcaaGreatDoor

/- law11's alive. -/
namespace Go.Proofs.YtjobifclmcdjcaaGreatDoor
set_option maxRecDepth 100000
open Go.RowKit Go.Shelf
attribute [local go_sem] Oper.semAt_some
def bIn11 : St.State := ⟨⟨0, 0⟩, [⟨1, 1, 0⟩, ⟨1, 2, 0⟩, ⟨12, 0, 0⟩], [], [], []⟩
def bSts11 : List (St.State × Nat) := [(bIn11, 0), (⟨⟨1, 0⟩, [⟨1, 1, 0⟩, ⟨1, 2, 0⟩, ⟨12, 0, 0⟩], [], [⟨false, 1, 0⟩], []⟩, 0), (⟨⟨2, 0⟩, [⟨1, 1, 0⟩, ⟨1, 2, 0⟩, ⟨12, 0, 0⟩], [], [⟨false, 1, 0⟩, ⟨false, 2, 0⟩], []⟩, 1)]
theorem bChk11 : chk11 bNames8 bUp8 Tb.usualRows bIn11 9 = 0 := by decide +kernel
theorem bRun11 : runL bNames8 bUp8 Tb.usualRows bIn11 9 = bSts11 := by decide +kernel
theorem bCame11 : Rn.came bSts11 = 1 := by decide +kernel
theorem El.stack_len {W : World} {B : Nat} {x : El} {s : St.State} (h : IsSt W B x.val s) : x.n3 = s.stack.length := by
  obtain ⟨cv, mv, sv, ov, e, -, -, ⟨A, c, rfl, -⟩, -⟩ := h
  unfold El.val stv at e
  injection e with e
  simp only [Array.mk.injEq, List.cons.injEq, Value.slice.injEq] at e
  exact e.2.2.2.2.1.2.1
set_option maxRecDepth 100000 in
set_option maxHeartbeats 8000000 in
theorem alive11_any (w : World) (hi : Ins w) : Calls Tryz.prog 25 #[] w (Tells w true) := by
  have hlat := alive8_lat w
  obtain ⟨Wa, hWa⟩ : ∃ Wa : World, ((w.alloc (.cells #[.string ⟨#[97]⟩, .string ⟨#[98]⟩] 9)).alloc (.cells #[.int .u32 3, .int .u32 2] 75)).alloc (.cells #[.slice (some ⟨w.heap.size, 0, none⟩) 2 2, .slice (some ⟨w.heap.size + 1, 0, none⟩) 2 2] 25) = Wa := ⟨_, rfl⟩
  have hBa : Below w.heap.size w Wa := by rw [← hWa]; exact (((Below.refl _ w).alloc (Nat.le_refl _) _).alloc (by simp) _).alloc (by simp; omega) _
  have hsa : Wa.heap.size = w.heap.size + 3 := by rw [← hWa]; simp
  have hla : Blk Wa (w.heap.size + 1 + 1) 25 #[.slice (some ⟨w.heap.size, 0, none⟩) 2 2, .slice (some ⟨w.heap.size + 1, 0, none⟩) 2 2] := by rw [← hWa]; exact Blk.new' _ _ _ _ (by simp)
  rw [hWa, ← hsa] at hlat
  obtain ⟨Wb, hWb⟩ : ∃ Wb : World, Wa.alloc (.cells #[.int .i64 1, .int .i64 1, .int .i64 0, .int .i64 1, .int .i64 2, .int .i64 0, .int .i64 12, .int .i64 0, .int .i64 0] 57) = Wb := ⟨_, rfl⟩
  have hsb : Wb.heap.size = w.heap.size + 4 := by rw [← hWb]; simp; omega
  have hab : Below Wa.heap.size Wa Wb := by rw [← hWb]; exact (Below.refl _ Wa).alloc (Nat.le_refl _) _
  have hcb : Blk Wb Wa.heap.size 57 #[.int .i64 1, .int .i64 1, .int .i64 0, .int .i64 1, .int .i64 2, .int .i64 0, .int .i64 12, .int .i64 0, .int .i64 0] := by rw [← hWb]; exact Blk.new _ _ _
  obtain ⟨W0, hW0⟩ : ∃ W0 : World, Wb.alloc (.cells #[.int .i64 0, .int .i64 0, .slice (some ⟨Wa.heap.size, 0, none⟩) 3 3, .slice none 0 0, .slice none 0 0, .slice none 0 0] 35) = W0 := ⟨_, rfl⟩
  have hbc : Below Wb.heap.size Wb W0 := by rw [← hW0]; exact (Below.refl _ Wb).alloc (Nat.le_refl _) _
  have hsz : W0.heap.size = w.heap.size + 5 := by rw [← hW0]; simp; omega
  have hst : Blk W0 Wb.heap.size 35 #[.int .i64 0, .int .i64 0, .slice (some ⟨Wa.heap.size, 0, none⟩) 3 3, .slice none 0 0, .slice none 0 0, .slice none 0 0] := by rw [← hW0]; exact Blk.new _ _ _
  have hac : Below Wa.heap.size Wa W0 := hab.trans (hbc.mono hab.size)
  have hB : Below w.heap.size w W0 := hBa.trans (hac.mono hBa.size)
  have hl0 := hla.below hac hla.lt
  have hc0 := hcb.below hbc hcb.lt
  have hlat0 := (hlat.below hac).more hac.size
  have hin0 : IsSt W0 W0.heap.size (.agg #[.int .i64 0, .int .i64 0, .slice (some ⟨Wa.heap.size, 0, none⟩) 3 3, .slice none 0 0, .slice none 0 0, .slice none 0 0]) bIn11 := by
    refine ⟨_, _, _, _, rfl, ⟨some ⟨Wa.heap.size, 0, none⟩, 3, rfl, ?_, Nat.le_refl _⟩, IsL.nil _ _ _, IsL.nil _ _ _, IsL.nil _ _ _⟩
    exact hc0.row.more hc0.lt
  have hins : ∀ W, Below W0.heap.size W0 W → Ins W ∧ 0 < W.heap.size := fun W hb => ⟨(hi.below hB hi.lt).below hb (Nat.lt_of_lt_of_le hi.lt hB.size), Nat.lt_of_lt_of_le (Nat.lt_of_lt_of_le hi.lt hB.size) hb.size⟩
  have HU := Lib.hid (fun (W : World) (hb : Below W0.heap.size W0 W) => usual_any W (hins W hb).1)
  have hrun := fun (W : World) (hb : Below W0.heap.size W0 W) (RA : Option Addr) (rc : Nat) (hr : RowsIn W W.heap.size RA Tb.usualRows) => run_any (l := Tb.usualRows) rc 9 W (hins W hb).1 (hins W hb).2 ((hlat0.below hb).more hb.size) ((hin0.below hb).more hb.size) ⟨by decide, by decide, by decide, by decide⟩ hr small_usual
  unfold Runs at hrun
  rw [bRun11, bChk11] at hrun
  have HR := Lib.hid hrun
  have HB := Lib.hid hB
  have HL0 := Lib.hid hl0
  have HS0 := Lib.hid hst
  have HSZ := Lib.hid hsz
  have HW0 := Lib.hid hW0
  clear hW0 hlat hBa hsa hla hsb hab hcb hbc hsz hst hac hB hl0 hc0 hlat0 hin0 hins hrun hi
  have l0 : W0.cell? ⟨w.heap.size + 1 + 1, 0, none⟩ = some (.slice (some ⟨w.heap.size, 0, none⟩) 2 2) := HL0.out.cell 0
  have l1 : W0.cell? ⟨w.heap.size + 1 + 1, 1, none⟩ = some (.slice (some ⟨w.heap.size + 1, 0, none⟩) 2 2) := HL0.out.cell 1
  have b0 : W0.cell? ⟨Wb.heap.size, 0, none⟩ = some (.int .i64 0) := HS0.out.cell 0
  have b1 : W0.cell? ⟨Wb.heap.size, 1, none⟩ = some (.int .i64 0) := HS0.out.cell 1
  have b2 : W0.cell? ⟨Wb.heap.size, 2, none⟩ = some (.slice (some ⟨Wa.heap.size, 0, none⟩) 3 3) := HS0.out.cell 2
  have b3 : W0.cell? ⟨Wb.heap.size, 3, none⟩ = some (.slice none 0 0) := HS0.out.cell 3
  have b4 : W0.cell? ⟨Wb.heap.size, 4, none⟩ = some (.slice none 0 0) := HS0.out.cell 4
  have b5 : W0.cell? ⟨Wb.heap.size, 5, none⟩ = some (.slice none 0 0) := HS0.out.cell 5
  go_enter Tryz.func25, Tryz.ntmps25
  go_wp2
  rw [HW0.out]
  clear hWa hWb HW0
  refine Free.region_seq [1, 3] [0, 2] 3 (fun W' => W'.cell? ⟨w.heap.size + 1 + 1, 0, none⟩ = some (.slice (some ⟨w.heap.size, 0, none⟩) 2 2) ∧ W'.cell? ⟨w.heap.size + 1 + 1, 1, none⟩ = some (.slice (some ⟨w.heap.size + 1, 0, none⟩) 2 2) ∧ W'.cell? ⟨Wb.heap.size, 0, none⟩ = some (.int .i64 0) ∧ W'.cell? ⟨Wb.heap.size, 1, none⟩ = some (.int .i64 0) ∧ W'.cell? ⟨Wb.heap.size, 2, none⟩ = some (.slice (some ⟨Wa.heap.size, 0, none⟩) 3 3) ∧ W'.cell? ⟨Wb.heap.size, 3, none⟩ = some (.slice none 0 0) ∧ W'.cell? ⟨Wb.heap.size, 4, none⟩ = some (.slice none 0 0) ∧ W'.cell? ⟨Wb.heap.size, 5, none⟩ = some (.slice none 0 0)) (by kernel_rfl) (by kernel_rfl) (by kernel_rfl) (by kernel_rfl) (⟨l0, l1, b0, b1, b2, b3, b4, b5⟩) (fun ops hops => ?_)
  clear hops
  iterate 1
    refine Free.Seq.quiet (v := ?_) (a' := ?_) rfl rfl (fun W' hW' => ?_) ?_ ?_
    rotate_left 2
    · first | obtain ⟨l0, l1, b0, b1, b2, b3, b4, b5⟩ := hW' rfl | skip
      go_simp
      try with_reducible rfl
    · simp only [Act.put, List.setIfInBounds_toArray, List.set_cons_zero, List.set_cons_succ]
      try with_reducible rfl
  refine Free.Seq.loud_ rfl (.inl rfl) (fun K hK => ?_)
  go_simp
  refine (HU.out W0.drew (Below.refl _ W0).drew).mono ?_
  rintro e w1 ⟨v, rfl, ⟨TA, tc, rfl, htr, -⟩, hb1⟩
  have hb1 := (Below.refl _ W0).drew.trans hb1
  have hl1 := HL0.out.below hb1 HL0.out.lt
  have hs1 := HS0.out.below hb1 HS0.out.lt
  have HB1 := Lib.hid hb1
  have HTR := Lib.hid htr
  refine hK.out _ _ rfl (fun _ => ⟨hl1.cell 0, hl1.cell 1, hs1.cell 0, hs1.cell 1, hs1.cell 2, hs1.cell 3, hs1.cell 4, hs1.cell 5⟩) ?_
  clear hK K hl1 hs1 hb1 htr
  iterate 1
    refine Free.Seq.quiet (v := ?_) (a' := ?_) rfl rfl (fun W' hW' => ?_) ?_ ?_
    rotate_left 2
    · first | obtain ⟨l0, l1, b0, b1, b2, b3, b4, b5⟩ := hW' rfl | skip
      go_simp
      try with_reducible rfl
    · simp only [Act.put, List.setIfInBounds_toArray, List.set_cons_zero, List.set_cons_succ]
      try with_reducible rfl
  refine Free.Seq.loud_ rfl (.inl rfl) (fun K hK => ?_)
  go_simp
  refine (HR.out w1 HB1.out TA tc HTR.out).mono ?_
  rintro e w2 ⟨RA, xs, cap, rfl, hcap, hxs, hpl, hb2⟩
  have HB2 := Lib.hid (HB1.out.trans (hb2.mono HB1.out.size))
  refine hK.out _ _ rfl (fun h => absurd h (by decide)) ?_
  clear hK K hb2
  iterate 7
    refine Free.Seq.quiet (v := ?_) (a' := ?_) rfl rfl (fun W' hW' => ?_) ?_ ?_
    rotate_left 2
    · skip
      go_simp
      try with_reducible rfl
    · simp only [Act.put, List.setIfInBounds_toArray, List.set_cons_zero, List.set_cons_succ]
      try with_reducible rfl
  refine Free.Seq.nil_ ?_
  have hlen : xs.length = 3 := by rw [← List.length_map (f := El.pl), hpl]; rfl
  obtain ⟨ad, x, rfl, had, hx2, x0, x1, x2, x3, x4, x5⟩ := strow_at (k := 2) hxs.row (by omega)
  have hn3 : x.n3 = 2 := by
    have h1 := El.stack_len (hxs.el x (List.mem_of_getElem? hx2))
    have h2 : (xs.map El.pl)[2]? = some (x.s, x.came) := by rw [List.getElem?_map, hx2]; rfl
    rw [hpl] at h2
    have h3 : bSts11[2]? = some (⟨⟨2, 0⟩, [⟨1, 1, 0⟩, ⟨1, 2, 0⟩, ⟨12, 0, 0⟩], [], [⟨false, 1, 0⟩, ⟨false, 2, 0⟩], []⟩, 1) := rfl
    rw [h3] at h2
    injection h2 with h2
    injection h2 with h2 h4
    rw [h1, ← h2]
    rfl
  rw [hlen, bCame11]
  rw [hlen] at hcap
  rw [hn3] at x4
  have e12 : ad.add (2 * 6) = ⟨ad.block, ad.off + 12, none⟩ := by unfold Addr.add; rfl
  rw [e12] at x4
  have x4' : w2.cell? ⟨ad.block, ad.off + 12 + 4, none⟩ = some (.slice x.A3 2 x.d3) := x4
  clear x0 x1 x2 x3 x4 x5 e12
  clear l0 l1 b0 b1 b2 b3 b4 b5
  go_wp2
  go_ret
  exact ⟨rfl, HB.out.trans (HB2.out.mono HB.out.size)⟩
end Go.Proofs.YtjobifclmcdjcaaGreatDoor

/- Walk of the law RunParts (by gen_rung.py). -/
namespace Go.Proofs.YtjobifclmcdjcaaGreatDoor
set_option maxRecDepth 100000
open Go.RowKit Go.Shelf Go.Sort
attribute [local go_sem] Oper.semAt_some
theorem mod20 (f : Int) : ∃ n : Nat, n < 20 ∧ (wrap64 (f.tmod 20 + 20)).tmod 20 = (n : Int) := by
  have h1 := Int.tmod_lt_of_pos f (show (0 : Int) < 20 by decide)
  have h2 := Int.lt_tmod_of_pos f (show (0 : Int) < 20 by decide)
  obtain ⟨t, ht⟩ : ∃ t, f.tmod 20 = t := ⟨_, rfl⟩
  rw [ht] at h1 h2 ⊢
  have hw : wrap64 (t + 20) = t + 20 := by unfold wrap64; omega
  rw [hw, Int.tmod_eq_emod_of_nonneg (by omega)]
  exact ⟨((t + 20) % 20).toNat, by omega, by omega⟩
theorem seq_chk {names : List ByteArray} {up : List Nat} {l : List Tb.PR} : ∀ (n : Nat) (s : St.State), chk10 names up l s = 0 → ∀ x ∈ Rn.seq (stepF names up l) n s, chk10 names up l x.1 = 0
  | 0, s, h, x, hx => by
    unfold Rn.seq at hx
    rw [List.mem_singleton] at hx
    subst hx; exact h
  | n + 1, s, h, x, hx => by
    rw [Rn.seq_succ] at hx
    split at hx
    · rcases List.mem_cons.1 hx with rfl | hx
      · exact h
      · exact seq_chk n _ (chk_step h).1 x hx
    · rw [List.mem_singleton] at hx
      subst hx; exact h
theorem sts_pl (xs : List El) : sts xs = (xs.map El.pl).map (·.1) := by unfold sts; rw [List.map_map]; rfl
theorem Row.drop {w : World} {B : Nat} {ad : Addr} {xs : List Value} (h : Row w B (some ad) xs) (n : Nat) : Row w B (some (ad.add n)) (xs.drop n) := fun hn => by
  obtain ⟨ad', e, hb, hc⟩ := h (by rintro rfl; simp at hn)
  injection e with e
  subst e
  refine ⟨_, rfl, by rw [add_block]; exact hb, fun j u hu => ?_⟩
  rw [Addr.add_add]
  refine hc _ _ ?_
  rw [List.getElem?_drop] at hu
  exact hu
theorem fcells_drop6 : ∀ (l : List El) (n : Nat), fcells El.cells (l.drop n) = (fcells El.cells l).drop (n * 6)
  | l, 0 => by simp
  | [], n + 1 => by simp [fcells]
  | x :: r, n + 1 => by
    have hd : List.drop ((n + 1) * 6) x.cells = [] := List.drop_eq_nil_of_le (by rw [show x.cells.length = 6 from rfl]; omega)
    rw [List.drop_succ_cons, fcells_drop6 r n, show fcells El.cells (x :: r) = x.cells ++ fcells El.cells r from rfl, List.drop_append, hd, List.nil_append, show x.cells.length = 6 from rfl, show (n + 1) * 6 - 6 = n * 6 by omega]
theorem StsIn.take {W : World} {B : Nat} {A : Option Addr} {xs : List El} (h : StsIn W B A xs) (n : Nat) : StsIn W B A (xs.take n) :=
  ⟨by rw [fcells_take El.cells_len]; exact h.row.take _, fun x hx => h.el x (List.mem_of_mem_take hx)⟩
theorem StsIn.drop {W : World} {B : Nat} {ad : Addr} {xs : List El} (h : StsIn W B (some ad) xs) (n : Nat) : StsIn W B (some (ad.add (n * 6))) (xs.drop n) :=
  ⟨by rw [fcells_drop6]; exact h.row.drop _, fun x hx => h.el x (List.mem_of_mem_drop hx)⟩
theorem chk_small_all {names : List ByteArray} {up : List Nat} {l : List Tb.PR} {n : Nat} {s : St.State} {xs : List El} (h : chk10 names up l s = 0) (hx : xs.map El.pl = Rn.seq (stepF names up l) n s) : ∀ x ∈ xs, chk10 names up l x.s = 0 := fun x hm =>
  seq_chk n s h (x.s, x.came) (by rw [← hx]; exact List.mem_map_of_mem (f := El.pl) hm)
set_option maxRecDepth 100000 in
set_option maxHeartbeats 32000000 in
theorem runParts_any {A A' TA : Option Addr} {n1 : List ByteArray} {u1 : List Nat} {l : List Tb.PR} {s0 : St.State} {cA mA sA oA : Option Addr} {cc mc sc oc : Nat} (c c' tc : Nat) (fa fb : Int) (w : World) (hi : Ins w) (hN : Row w w.heap.size A (strs n1)) (hU : Ups w w.heap.size A' u1) (hT : RowsIn w w.heap.size TA l) (hst : StIn w w.heap.size s0 cA cc mA mc sA sc oA oc) (hc : n1.length ≤ c) (hc' : u1.length ≤ c') (hm : c ≤ maxLen) (hm' : c' ≤ maxLen) (hs : ∀ s ∈ n1, s.size ≤ maxLen) (htc : l.length ≤ tc) (htm : tc ≤ maxLen) :
    Calls Tryz.prog 7 #[.agg #[.slice A n1.length c, .slice A' u1.length c'], .agg #[.slice TA l.length tc], incv s0 cA cc mA mc sA sc oA oc, .int .i64 fa, .int .i64 fb] w (Tells w true) := by
  have hfa := fun W (hW : Below w.heap.size w W) => few_any w.heap.size c c' W hW.size (hN.below hW) (hU.below hW) hc hc' hm hm' hs
  have hft := fun W (hW : Below w.heap.size w W) => rows10_keep w.heap.size tc W hW.size (hT.below hW) htc htm
  have hcut := fun W => scut_any10 W hst
  have his := fun W (hb : Below w.heap.size w W) => ((hst.cut.below hb).more hb.size).isSt
  have HSM := Lib.hid (cutS_small s0)
  have hl1 : (cutS s0).code.length = min 15 s0.code.length := by unfold cutS; simp
  have hl2 : (cutS s0).mem.length = min 15 s0.mem.length := by unfold cutS; simp
  have hl3 : (cutS s0).stack.length = min 15 s0.stack.length := by unfold cutS; simp
  have hl4 : (cutS s0).out.length = min 15 s0.out.length := by unfold cutS; simp
  have hp1 : (cutS s0).pc = s0.pc := rfl
  rw [incv_cut] at his hcut
  obtain ⟨a, ha⟩ : ∃ a, cutS s0 = a := ⟨_, rfl⟩
  obtain ⟨lt, hlt⟩ : ∃ lt, fewT l = lt := ⟨_, rfl⟩
  rw [ha] at his HSM hl1 hl2 hl3 hl4 hp1
  unfold Cut10 at hft
  rw [hlt] at hft
  have hsml : ∀ x ∈ lt, Small x := by rw [← hlt]; exact fewT_small l
  unfold incv at hcut ⊢
  have hrc : Row w w.heap.size cA (icells a.code) := by rw [← ha]; exact hst.cut.rc.1
  have hro : Row w w.heap.size oA (fcells avs a.out) := by rw [← ha]; exact hst.cut.ro.1
  have hpv : a.pc.v = s0.pc.v := by rw [hp1]
  have HRC := Lib.hid hrc
  have HRO := Lib.hid hro
  clear hst ha hlt hp1 hrc hro
  generalize s0.pc.v = pv at *
  generalize s0.pc.l = pl at *
  generalize hcn : min 15 s0.code.length = cN at *
  generalize hmn : min 15 s0.mem.length = mN at *
  generalize hsn : min 15 s0.stack.length = sN at *
  generalize hon : min 15 s0.out.length = oN at *
  generalize s0.code.length = cn at *
  generalize s0.mem.length = mn at *
  generalize s0.stack.length = sn at *
  generalize s0.out.length = on at *
  clear hcn hmn hsn hon
  have hb0 := ((((Below.refl _ w).alloc (Nat.le_refl _) (.cells #[.slice A n1.length c, .slice A' u1.length c'] 25)).alloc (by simp) (.cells #[.slice TA l.length tc] 28)).alloc (by simp; omega) (.cells #[.int .i64 pv, .int .i64 pl, .slice cA cn cc, .slice mA mn mc, .slice sA sn sc, .slice oA on oc] 35)).drew
  obtain ⟨W0, hW0⟩ : ∃ W0, ((w.alloc (.cells #[.slice A n1.length c, .slice A' u1.length c'] 25)).alloc (.cells #[.slice TA l.length tc] 28)).alloc (.cells #[.int .i64 pv, .int .i64 pl, .slice cA cn cc, .slice mA mn mc, .slice sA sn sc, .slice oA on oc] 35) = W0 := ⟨_, rfl⟩
  have hp0 : Blk W0 w.heap.size 25 #[.slice A n1.length c, .slice A' u1.length c'] := hW0 ▸ ((Blk.new _ _ _).alloc _).alloc _
  have ht0 : Blk W0 (w.heap.size + 1) 28 #[.slice TA l.length tc] := by
    have h1 := (Blk.new (w.alloc (.cells #[.slice A n1.length c, .slice A' u1.length c'] 25)) 28 #[.slice TA l.length tc]).alloc (.cells #[.int .i64 pv, .int .i64 pl, .slice cA cn cc, .slice mA mn mc, .slice sA sn sc, .slice oA on oc] 35)
    rw [show (w.alloc (.cells #[.slice A n1.length c, .slice A' u1.length c'] 25)).heap.size = w.heap.size + 1 by simp] at h1
    rw [← hW0]; exact h1
  have hq0 : Blk W0 (w.heap.size + 2) 35 #[.int .i64 pv, .int .i64 pl, .slice cA cn cc, .slice mA mn mc, .slice sA sn sc, .slice oA on oc] := by
    have h1 := Blk.new ((w.alloc (.cells #[.slice A n1.length c, .slice A' u1.length c'] 25)).alloc (.cells #[.slice TA l.length tc] 28)) 35 #[.int .i64 pv, .int .i64 pl, .slice cA cn cc, .slice mA mn mc, .slice sA sn sc, .slice oA on oc]
    rw [show ((w.alloc (.cells #[.slice A n1.length c, .slice A' u1.length c'] 25)).alloc (.cells #[.slice TA l.length tc] 28)).heap.size = w.heap.size + 2 by simp] at h1
    rw [← hW0]; exact h1
  have hz0 : W0.heap.size = w.heap.size + 3 := by rw [← hW0]; simp
  rw [hW0] at hb0
  have HFA := Lib.hid hfa
  have HFT := Lib.hid hft
  have HCUT := Lib.hid hcut
  have HIA := Lib.hid his
  have HP := Lib.hid hp0
  have HT := Lib.hid ht0
  have HQ := Lib.hid hq0
  have HB0 := Lib.hid hb0
  have HZ0 := Lib.hid hz0
  have HI := Lib.hid hi
  have HSL := Lib.hid hsml
  have HL := Lib.hid (show a.code.length = cN ∧ a.mem.length = mN ∧ a.stack.length = sN ∧ a.out.length = oN ∧ a.pc.v = pv from ⟨hl1, hl2, hl3, hl4, hpv⟩)
  have l0 : W0.cell? ⟨w.heap.size, 0, none⟩ = some (.slice A n1.length c) := hp0.cell 0
  have l1 : W0.cell? ⟨w.heap.size, 1, none⟩ = some (.slice A' u1.length c') := hp0.cell 1
  have t0 : W0.cell? ⟨w.heap.size + 1, 0, none⟩ = some (.slice TA l.length tc) := ht0.cell 0
  have b0 : W0.cell? ⟨w.heap.size + 2, 0, none⟩ = some (.int .i64 pv) := hq0.cell 0
  have b1 : W0.cell? ⟨w.heap.size + 2, 1, none⟩ = some (.int .i64 pl) := hq0.cell 1
  have b2 : W0.cell? ⟨w.heap.size + 2, 2, none⟩ = some (.slice cA cn cc) := hq0.cell 2
  have b3 : W0.cell? ⟨w.heap.size + 2, 3, none⟩ = some (.slice mA mn mc) := hq0.cell 3
  have b4 : W0.cell? ⟨w.heap.size + 2, 4, none⟩ = some (.slice sA sn sc) := hq0.cell 4
  have b5 : W0.cell? ⟨w.heap.size + 2, 5, none⟩ = some (.slice oA on oc) := hq0.cell 5
  clear hfa hft hcut his hb0 hp0 hq0 ht0 hz0 hN hU hT hc hc' hm hm' hs htc htm hi hsml hl1 hl2 hl3 hl4 hpv
  go_enter Tryz.func7, Tryz.ntmps7
  go_wp2_with (fail)
  refine Free.region_seq [1, 3, 5, 6, 7, 8] [0, 2, 4] 5 (fun W' => W'.cell? ⟨w.heap.size, 0, none⟩ = some (.slice A n1.length c) ∧ W'.cell? ⟨w.heap.size, 1, none⟩ = some (.slice A' u1.length c') ∧ W'.cell? ⟨w.heap.size + 1, 0, none⟩ = some (.slice TA l.length tc) ∧ W'.cell? ⟨w.heap.size + 2, 0, none⟩ = some (.int .i64 pv) ∧ W'.cell? ⟨w.heap.size + 2, 1, none⟩ = some (.int .i64 pl) ∧ W'.cell? ⟨w.heap.size + 2, 2, none⟩ = some (.slice cA cn cc) ∧ W'.cell? ⟨w.heap.size + 2, 3, none⟩ = some (.slice mA mn mc) ∧ W'.cell? ⟨w.heap.size + 2, 4, none⟩ = some (.slice sA sn sc) ∧ W'.cell? ⟨w.heap.size + 2, 5, none⟩ = some (.slice oA on oc)) (by kernel_rfl) (by kernel_rfl) (by kernel_rfl) (by kernel_rfl) (⟨l0, l1, t0, b0, b1, b2, b3, b4, b5⟩) (fun ops hops => ?_)
  clear hops
  iterate 1
    refine Free.Seq.quiet (v := ?_) (a' := ?_) rfl rfl (fun W' hW' => ?_) ?_ ?_
    rotate_left 2
    · first | obtain ⟨q0, q1, q2, q3, q4, q5, q6, q7, q8⟩ := hW' rfl | skip
      go_simp
      try with_reducible rfl
    · simp only [Act.put, List.setIfInBounds_toArray, List.set_cons_zero, List.set_cons_succ]
      try with_reducible rfl
  refine Free.Seq.loud_ rfl (.inl rfl) (fun K hK => ?_)
  go_simp
  refine (HFA.out _ HB0.out).mono ?_
  rintro e w1 ⟨v, names, up, rfl, hlw, hb1⟩
  have hlat : ∀ W2, Keeps w.heap.size (w.heap.size + 3) w1 W2 → IsLat W2 W2.heap.size v names up := fun W2 k => hlw W2 (k.mono_ (by show w.heap.size + 3 ≤ W0.heap.size; rw [HZ0.out]; exact Nat.le_refl _))
  obtain ⟨A1, k1, c1, A2, k2, c2, rfl⟩ := lat_two (hlat w1 ⟨Nat.le_refl _, fun _ _ _ => rfl⟩)
  have hp1 := (HP.out.drew).below hb1 HP.out.lt
  have ht1 := (HT.out.drew).below hb1 HT.out.lt
  have hq1 := (HQ.out.drew).below hb1 HQ.out.lt
  have HB1 := Lib.hid (HB0.out.trans (hb1.mono HB0.out.size))
  have HLAT := Lib.hid hlat
  have HP1 := Lib.hid hp1
  have HT1 := Lib.hid ht1
  have HQ1 := Lib.hid hq1
  refine hK.out _ _ rfl (fun _ => ⟨HP1.out.cell 0, HP1.out.cell 1, HT1.out.cell 0, HQ1.out.cell 0, HQ1.out.cell 1, HQ1.out.cell 2, HQ1.out.cell 3, HQ1.out.cell 4, HQ1.out.cell 5⟩) ?_
  clear hK K hb1 hlw hp1 hq1 ht1 hlat
  iterate 1
    refine Free.Seq.quiet (v := ?_) (a' := ?_) rfl rfl (fun W' hW' => ?_) ?_ ?_
    rotate_left 2
    · first | obtain ⟨q0, q1, q2, q3, q4, q5, q6, q7, q8⟩ := hW' rfl | skip
      go_simp
      try with_reducible rfl
    · simp only [Act.put, List.setIfInBounds_toArray, List.set_cons_zero, List.set_cons_succ]
      try with_reducible rfl
  refine Free.Seq.loud_ rfl (.inl rfl) (fun K hK => ?_)
  go_simp
  refine (HFT.out w1 HB1.out).mono ?_
  rintro e w2 ⟨v2, rfl, htw, hb2⟩
  have htab : ∀ W2, Keeps w.heap.size (w.heap.size + 3) w2 W2 → IsTab W2 W2.heap.size v2 lt := fun W2 k => htw W2 (k.mono_ (by have := HQ1.out.lt; omega))
  obtain ⟨T1, t1, rfl, -, -⟩ := htab w2 ⟨Nat.le_refl _, fun _ _ _ => rfl⟩
  obtain ⟨tn, htn⟩ : ∃ tn, lt.length = tn := ⟨_, rfl⟩
  rw [htn] at htab
  have HTN := Lib.hid htn
  have hp2 := HP1.out.below hb2 HP1.out.lt
  have ht2 := HT1.out.below hb2 HT1.out.lt
  have hq2 := HQ1.out.below hb2 HQ1.out.lt
  have HB2 := Lib.hid (HB1.out.trans (hb2.mono HB1.out.size))
  have HKB2 : Hid (Keeps w.heap.size (w.heap.size + 3) w1 w2) := Lib.hid (Keeps.below hb2)
  have HTAB := Lib.hid htab
  have HP2 := Lib.hid hp2
  have HT2 := Lib.hid ht2
  have HQ2 := Lib.hid hq2
  dsimp only
  rw [htn]
  refine hK.out _ _ rfl (fun _ => ⟨HP2.out.cell 0, HP2.out.cell 1, HT2.out.cell 0, HQ2.out.cell 0, HQ2.out.cell 1, HQ2.out.cell 2, HQ2.out.cell 3, HQ2.out.cell 4, HQ2.out.cell 5⟩) ?_
  clear hK K hb2 htw hp2 hq2 ht2 htab htn
  iterate 1
    refine Free.Seq.quiet (v := ?_) (a' := ?_) rfl rfl (fun W' hW' => ?_) ?_ ?_
    rotate_left 2
    · first | obtain ⟨q0, q1, q2, q3, q4, q5, q6, q7, q8⟩ := hW' rfl | skip
      go_simp
      try with_reducible rfl
    · simp only [Act.put, List.setIfInBounds_toArray, List.set_cons_zero, List.set_cons_succ]
      try with_reducible rfl
  refine Free.Seq.loud_ rfl (.inl rfl) (fun K hK => ?_)
  go_simp
  refine (HCUT.out w2).mono ?_
  rintro e w3 ⟨rfl, hb3⟩
  have hp3 := HP2.out.below hb3 HP2.out.lt
  have ht3 := HT2.out.below hb3 HT2.out.lt
  have hq3 := HQ2.out.below hb3 HQ2.out.lt
  have HB3 := Lib.hid (HB2.out.trans (hb3.mono HB2.out.size))
  have hkt : Keeps w.heap.size (w.heap.size + 3) w2 w3 := Keeps.below hb3
  have hkb : Keeps w.heap.size (w.heap.size + 3) w1 w3 := HKB2.out.trans_ hkt
  have i0 := hp3.cell 0
  have f0 := hp3.frozen 0
  have i1 := hp3.cell 1
  have f1 := hp3.frozen 1
  have h0 := ht3.cell 0
  have e0 := ht3.frozen 0
  have j0 := hq3.cell 0
  have g0 := hq3.frozen 0
  have j1 := hq3.cell 1
  have g1 := hq3.frozen 1
  have j2 := hq3.cell 2
  have g2 := hq3.frozen 2
  have j3 := hq3.cell 3
  have g3 := hq3.frozen 3
  have j4 := hq3.cell 4
  have g4 := hq3.frozen 4
  have j5 := hq3.cell 5
  have g5 := hq3.frozen 5
  refine hK.out _ _ rfl (fun h => absurd h (by decide)) ?_
  clear hK K
  refine Free.Seq.loud_ rfl (.inl rfl) (fun K hK => ?_)
  go_simp
  refine hK.out _ _ rfl (fun h => absurd h (by decide)) ?_
  clear hK K
  refine Free.Seq.loud_ rfl (.inl rfl) (fun K hK => ?_)
  go_simp
  refine hK.out _ _ rfl (fun h => absurd h (by decide)) ?_
  clear hK K
  refine Free.Seq.loud_ rfl (.inl rfl) (fun K hK => ?_)
  go_simp
  refine hK.out _ _ rfl (fun h => absurd h (by decide)) ?_
  clear hK K
  refine Free.Seq.nil_ ?_
  obtain ⟨W3, hW3⟩ : ∃ W3, (((((((((w3.setCell ⟨w.heap.size, 0, none⟩ (.slice A1 k1 c1)).setCell ⟨w.heap.size, 1, none⟩ (.slice A2 k2 c2)).setCell ⟨w.heap.size + 1, 0, none⟩ (.slice T1 tn t1)).setCell ⟨w.heap.size + 2, 0, none⟩ (.int .i64 pv)).setCell ⟨w.heap.size + 2, 1, none⟩ (.int .i64 pl)).setCell ⟨w.heap.size + 2, 2, none⟩ (.slice cA cN cc)).setCell ⟨w.heap.size + 2, 3, none⟩ (.slice mA mN mc)).setCell ⟨w.heap.size + 2, 4, none⟩ (.slice sA sN sc)).setCell ⟨w.heap.size + 2, 5, none⟩ (.slice oA oN oc)) = W3 := ⟨_, rfl⟩
  have hlw : Law10 w (.slice A1 k1 c1) (.slice A2 k2 c2) names up (.slice T1 tn t1) lt #[.int .i64 pv, .int .i64 pl, .slice cA cN cc, .slice mA mN mc, .slice sA sN sc, .slice oA oN oc] W3 := by
    rw [← hW3]
    exact ⟨⟨(((((((((hp3).set_ 0 _).set_ 1 _).other (by show w.heap.size + 1 ≠ w.heap.size; omega) _).other (by show w.heap.size + 2 ≠ w.heap.size; omega) _).other (by show w.heap.size + 2 ≠ w.heap.size; omega) _).other (by show w.heap.size + 2 ≠ w.heap.size; omega) _).other (by show w.heap.size + 2 ≠ w.heap.size; omega) _).other (by show w.heap.size + 2 ≠ w.heap.size; omega) _).other (by show w.heap.size + 2 ≠ w.heap.size; omega) _, HLAT.out _ ((((((((((hkb).trans_ (Keeps.set_ (p := ⟨w.heap.size, 0, none⟩) (by show w.heap.size ≤ w.heap.size; omega) (by show w.heap.size < w.heap.size + 3; omega))).trans_ (Keeps.set_ (p := ⟨w.heap.size, 1, none⟩) (by show w.heap.size ≤ w.heap.size; omega) (by show w.heap.size < w.heap.size + 3; omega))).trans_ (Keeps.set_ (p := ⟨w.heap.size + 1, 0, none⟩) (by show w.heap.size ≤ w.heap.size + 1; omega) (by show w.heap.size + 1 < w.heap.size + 3; omega))).trans_ (Keeps.set_ (p := ⟨w.heap.size + 2, 0, none⟩) (by show w.heap.size ≤ w.heap.size + 2; omega) (by show w.heap.size + 2 < w.heap.size + 3; omega))).trans_ (Keeps.set_ (p := ⟨w.heap.size + 2, 1, none⟩) (by show w.heap.size ≤ w.heap.size + 2; omega) (by show w.heap.size + 2 < w.heap.size + 3; omega))).trans_ (Keeps.set_ (p := ⟨w.heap.size + 2, 2, none⟩) (by show w.heap.size ≤ w.heap.size + 2; omega) (by show w.heap.size + 2 < w.heap.size + 3; omega))).trans_ (Keeps.set_ (p := ⟨w.heap.size + 2, 3, none⟩) (by show w.heap.size ≤ w.heap.size + 2; omega) (by show w.heap.size + 2 < w.heap.size + 3; omega))).trans_ (Keeps.set_ (p := ⟨w.heap.size + 2, 4, none⟩) (by show w.heap.size ≤ w.heap.size + 2; omega) (by show w.heap.size + 2 < w.heap.size + 3; omega))).trans_ (Keeps.set_ (p := ⟨w.heap.size + 2, 5, none⟩) (by show w.heap.size ≤ w.heap.size + 2; omega) (by show w.heap.size + 2 < w.heap.size + 3; omega))), (((((((((HB3.out).setCell (p := ⟨w.heap.size, 0, none⟩) (by show w.heap.size ≤ w.heap.size; omega) _).setCell (p := ⟨w.heap.size, 1, none⟩) (by show w.heap.size ≤ w.heap.size; omega) _).setCell (p := ⟨w.heap.size + 1, 0, none⟩) (by show w.heap.size ≤ w.heap.size + 1; omega) _).setCell (p := ⟨w.heap.size + 2, 0, none⟩) (by show w.heap.size ≤ w.heap.size + 2; omega) _).setCell (p := ⟨w.heap.size + 2, 1, none⟩) (by show w.heap.size ≤ w.heap.size + 2; omega) _).setCell (p := ⟨w.heap.size + 2, 2, none⟩) (by show w.heap.size ≤ w.heap.size + 2; omega) _).setCell (p := ⟨w.heap.size + 2, 3, none⟩) (by show w.heap.size ≤ w.heap.size + 2; omega) _).setCell (p := ⟨w.heap.size + 2, 4, none⟩) (by show w.heap.size ≤ w.heap.size + 2; omega) _).setCell (p := ⟨w.heap.size + 2, 5, none⟩) (by show w.heap.size ≤ w.heap.size + 2; omega) _⟩, (((((((((ht3).other (by show w.heap.size ≠ w.heap.size + 1; omega) _).other (by show w.heap.size ≠ w.heap.size + 1; omega) _).set_ 0 _).other (by show w.heap.size + 2 ≠ w.heap.size + 1; omega) _).other (by show w.heap.size + 2 ≠ w.heap.size + 1; omega) _).other (by show w.heap.size + 2 ≠ w.heap.size + 1; omega) _).other (by show w.heap.size + 2 ≠ w.heap.size + 1; omega) _).other (by show w.heap.size + 2 ≠ w.heap.size + 1; omega) _).other (by show w.heap.size + 2 ≠ w.heap.size + 1; omega) _, HTAB.out _ ((((((((((hkt).trans_ (Keeps.set_ (p := ⟨w.heap.size, 0, none⟩) (by show w.heap.size ≤ w.heap.size; omega) (by show w.heap.size < w.heap.size + 3; omega))).trans_ (Keeps.set_ (p := ⟨w.heap.size, 1, none⟩) (by show w.heap.size ≤ w.heap.size; omega) (by show w.heap.size < w.heap.size + 3; omega))).trans_ (Keeps.set_ (p := ⟨w.heap.size + 1, 0, none⟩) (by show w.heap.size ≤ w.heap.size + 1; omega) (by show w.heap.size + 1 < w.heap.size + 3; omega))).trans_ (Keeps.set_ (p := ⟨w.heap.size + 2, 0, none⟩) (by show w.heap.size ≤ w.heap.size + 2; omega) (by show w.heap.size + 2 < w.heap.size + 3; omega))).trans_ (Keeps.set_ (p := ⟨w.heap.size + 2, 1, none⟩) (by show w.heap.size ≤ w.heap.size + 2; omega) (by show w.heap.size + 2 < w.heap.size + 3; omega))).trans_ (Keeps.set_ (p := ⟨w.heap.size + 2, 2, none⟩) (by show w.heap.size ≤ w.heap.size + 2; omega) (by show w.heap.size + 2 < w.heap.size + 3; omega))).trans_ (Keeps.set_ (p := ⟨w.heap.size + 2, 3, none⟩) (by show w.heap.size ≤ w.heap.size + 2; omega) (by show w.heap.size + 2 < w.heap.size + 3; omega))).trans_ (Keeps.set_ (p := ⟨w.heap.size + 2, 4, none⟩) (by show w.heap.size ≤ w.heap.size + 2; omega) (by show w.heap.size + 2 < w.heap.size + 3; omega))).trans_ (Keeps.set_ (p := ⟨w.heap.size + 2, 5, none⟩) (by show w.heap.size ≤ w.heap.size + 2; omega) (by show w.heap.size + 2 < w.heap.size + 3; omega))), (((((((((hq3).other (by show w.heap.size ≠ w.heap.size + 2; omega) _).other (by show w.heap.size ≠ w.heap.size + 2; omega) _).other (by show w.heap.size + 1 ≠ w.heap.size + 2; omega) _).set_ 0 _).set_ 1 _).set_ 2 _).set_ 3 _).set_ 4 _).set_ 5 _⟩
  rw [hW3]
  have HLW := Lib.hid hlw
  clear hW3 hlw hp3 hq3 ht3 hkb hkt HB2 HB1 HB3 HB0 HLAT HTAB HKB2 HP HT HQ HP1 HT1 HQ1 HP2 HT2 HQ2 HFA HFT HCUT HZ0 hb3 l0 l1 t0 b0 b1 b2 b3 b4 b5 i0 i1 f0 f1 h0 e0 j0 j1 j2 j3 j4 j5 g0 g1 g2 g3 g4 g5 hW0
  have HRUN : Hid (∀ W f, Law10 w (.slice A1 k1 c1) (.slice A2 k2 c2) names up (.slice T1 tn t1) lt #[.int .i64 pv, .int .i64 pl, .slice cA cN cc, .slice mA mN mc, .slice sA sN sc, .slice oA oN oc] W → ∀ tv s, IsSt W W.heap.size tv s → SmallS s → Calls Tryz.prog 23 #[.agg #[.slice A1 k1 c1, .slice A2 k2 c2], .agg #[.slice T1 tn t1], tv, .int .i64 f] W (Runs names up lt s f W)) := Lib.hid (fun W f hW tv s his hsm => by
    obtain ⟨A, d, he, hr, -⟩ := hW.ta
    injection he with h1 h2 h3
    subst h1 h3
    exact (HTN.out ▸ (run_any (l := lt) (RA := T1) t1 f W (HI.out.below hW.one.below HI.out.lt) (Nat.lt_of_lt_of_le HI.out.lt hW.one.below.size) hW.one.la his hsm hr HSL.out)))
  have HAL := Lib.hid (fun W (hW : Law10 w (.slice A1 k1 c1) (.slice A2 k2 c2) names up (.slice T1 tn t1) lt #[.int .i64 pv, .int .i64 pl, .slice cA cN cc, .slice mA mN mc, .slice sA sN sc, .slice oA oN oc] W) => alive11_any W (HI.out.below hW.one.below HI.out.lt))
  have l0 : W3.cell? ⟨w.heap.size, 0, none⟩ = some (.slice A1 k1 c1) := HLW.out.one.a.cell 0
  have l1 : W3.cell? ⟨w.heap.size, 1, none⟩ = some (.slice A2 k2 c2) := HLW.out.one.a.cell 1
  have t0 : W3.cell? ⟨w.heap.size + 1, 0, none⟩ = some (.slice T1 tn t1) := HLW.out.tb.cell 0
  have b0 : W3.cell? ⟨w.heap.size + 2, 0, none⟩ = some (.int .i64 pv) := HLW.out.st.cell 0
  have b1 : W3.cell? ⟨w.heap.size + 2, 1, none⟩ = some (.int .i64 pl) := HLW.out.st.cell 1
  have b2 : W3.cell? ⟨w.heap.size + 2, 2, none⟩ = some (.slice cA cN cc) := HLW.out.st.cell 2
  have b3 : W3.cell? ⟨w.heap.size + 2, 3, none⟩ = some (.slice mA mN mc) := HLW.out.st.cell 3
  have b4 : W3.cell? ⟨w.heap.size + 2, 4, none⟩ = some (.slice sA sN sc) := HLW.out.st.cell 4
  have b5 : W3.cell? ⟨w.heap.size + 2, 5, none⟩ = some (.slice oA oN oc) := HLW.out.st.cell 5
  obtain ⟨na, hna, hA⟩ := mod20 fa
  obtain ⟨nb, hnb, hB⟩ := mod20 fb
  have hAB : wrap64 ((na : Int) + (nb : Int)) = (na : Int) + (nb : Int) := by unfold wrap64; omega
  have hA1 : wrap64 ((na : Int) + 1) = (na : Int) + 1 := by unfold wrap64; omega
  obtain ⟨ck, hck⟩ : ∃ ck, chk10 names up lt a = ck := ⟨_, rfl⟩
  have hca : chk11 names up lt a (na : Int) = ck := by unfold chk11; rw [hck, if_neg (show ¬ ((na : Int) < 0 ∨ 40 < (na : Int)) by omega)]; split <;> omega
  have hcb : chk11 names up lt a ((na : Int) + (nb : Int)) = ck := by unfold chk11; rw [hck, if_neg (show ¬ ((na : Int) + (nb : Int) < 0 ∨ 40 < (na : Int) + (nb : Int)) by omega)]; split <;> omega
  have hR1 := HRUN.out W3 (na : Int) HLW.out _ _ (HIA.out W3 HLW.out.one.below) HSM.out
  unfold Runs at hR1
  have hla : runL names up lt a (na : Int) = if ck = 0 then Rn.seq (stepF names up lt) na a else [] := by unfold runL; rw [hca, Int.toNat_natCast]
  have hlb : runL names up lt a ((na : Int) + (nb : Int)) = if ck = 0 then Rn.seq (stepF names up lt) (na + nb) a else [] := by unfold runL; rw [hcb, show ((na : Int) + (nb : Int)).toNat = na + nb by omega]
  obtain ⟨L1, hL1⟩ : ∃ L, (if ck = 0 then Rn.seq (stepF names up lt) na a else []) = L := ⟨_, rfl⟩
  obtain ⟨L2, hL2⟩ : ∃ L, (if ck = 0 then Rn.seq (stepF names up lt) (na + nb) a else []) = L := ⟨_, rfl⟩
  obtain ⟨m1, hm1⟩ : ∃ m, Rn.came L1 = m := ⟨_, rfl⟩
  obtain ⟨m2, hm2⟩ : ∃ m, Rn.came L2 = m := ⟨_, rfl⟩
  rw [hL1] at hla
  rw [hL2] at hlb
  rw [hca, hla, hm1] at hR1
  have HL1 := Lib.hid hL1
  have HL2 := Lib.hid hL2
  have HM1 := Lib.hid hm1
  have HM2 := Lib.hid hm2
  clear hL1 hL2 hm1 hm2
  have HR1 := Lib.hid hR1
  have HCB := Lib.hid hcb
  have HLB := Lib.hid hlb
  have HCK := Lib.hid hck
  clear hR1 hca hcb hla hlb hck
  go_wp2_with (fail)
  refine HR1.out.mono ?_
  rintro e w4 ⟨XA, xs, xc, rfl, hxc, hxs, hxp, hb⟩
  have hlw := HLW.out.next hb
  clear HLW
  have HLW := Lib.hid hlw
  have hR2 := HRUN.out w4 ((na : Int) + (nb : Int)) HLW.out _ _ (HIA.out w4 HLW.out.one.below) HSM.out
  unfold Runs at hR2
  rw [HCB.out, HLB.out, HM2.out] at hR2
  have HR2 := Lib.hid hR2
  have HXS := Lib.hid hxs
  have HXP := Lib.hid hxp
  have HXC := Lib.hid hxc
  clear hb hlw hR2 hxs hxp hxc HR1 l0 l1 t0 b0 b1 b2 b3 b4 b5
  have l0 : w4.cell? ⟨w.heap.size, 0, none⟩ = some (.slice A1 k1 c1) := HLW.out.one.a.cell 0
  have l1 : w4.cell? ⟨w.heap.size, 1, none⟩ = some (.slice A2 k2 c2) := HLW.out.one.a.cell 1
  have t0 : w4.cell? ⟨w.heap.size + 1, 0, none⟩ = some (.slice T1 tn t1) := HLW.out.tb.cell 0
  have b0 : w4.cell? ⟨w.heap.size + 2, 0, none⟩ = some (.int .i64 pv) := HLW.out.st.cell 0
  have b1 : w4.cell? ⟨w.heap.size + 2, 1, none⟩ = some (.int .i64 pl) := HLW.out.st.cell 1
  have b2 : w4.cell? ⟨w.heap.size + 2, 2, none⟩ = some (.slice cA cN cc) := HLW.out.st.cell 2
  have b3 : w4.cell? ⟨w.heap.size + 2, 3, none⟩ = some (.slice mA mN mc) := HLW.out.st.cell 3
  have b4 : w4.cell? ⟨w.heap.size + 2, 4, none⟩ = some (.slice sA sN sc) := HLW.out.st.cell 4
  have b5 : w4.cell? ⟨w.heap.size + 2, 5, none⟩ = some (.slice oA oN oc) := HLW.out.st.cell 5
  go_wp2_with (fail)
  refine HR2.out.mono ?_
  rintro e w5 ⟨YA, ys, yc, rfl, hyc, hys, hyp, hb⟩
  have hlw := HLW.out.next hb
  clear HLW
  have HLW := Lib.hid hlw
  have hxs2 := (HXS.out.below hb).more hb.size
  clear HXS
  have HXS := Lib.hid hxs2
  have HYS := Lib.hid hys
  have HYP := Lib.hid hyp
  have HYC := Lib.hid hyc
  clear hb hlw hxs2 hys hyp hyc HR2 l0 l1 t0 b0 b1 b2 b3 b4 b5
  by_cases hz : ck = 0
  · subst hz
    have hE1 : Rn.seq (stepF names up lt) na a = L1 := by have h := HL1.out; rw [if_pos rfl] at h; exact h
    have hE2 : Rn.seq (stepF names up lt) (na + nb) a = L2 := by have h := HL2.out; rw [if_pos rfl] at h; exact h
    have hpx := HXP.out.trans hE1.symm
    have hpy := HYP.out.trans hE2.symm
    have hcx := chk_small_all HCK.out hpx
    have hcy := chk_small_all HCK.out hpy
    have hlx : xs.length = (Rn.seq (stepF names up lt) na a).length := by rw [← hpx, List.length_map]
    have hly : ys.length = (Rn.seq (stepF names up lt) (na + nb) a).length := by rw [← hpy, List.length_map]
    have h1 := Rn.seq_pos (stepF names up lt) na a
    have h2 := Rn.seq_le (stepF names up lt) na a
    have h3 := Rn.seq_longer (stepF names up lt) na nb a
    have h4 := Rn.seq_le (stepF names up lt) (na + nb) a
    have hbeg : sts (ys.take xs.length) = sts xs := by
      have h := Rn.seq_begins (stepF names up lt) na nb a
      rw [← hlx, ← hpx, ← hpy, ← sts_pl, ← sts_pl] at h
      rw [← h]
      unfold sts
      rw [List.map_take]
    rw [← hlx] at h1 h2 h3
    rw [← hly] at h3 h4
    have HS1 := Lib.hid (fun (W : World) (hb : Below w5.heap.size w5 W) => sameL_any (xs := ys.take xs.length) (ys := xs) yc xc W (((HYS.out.below hb).more hb.size).take _) ((HXS.out.below hb).more hb.size) (fun x hx => chk_small (hcy x (List.mem_of_mem_take hx))) (fun x hx => chk_small (hcx x hx)) (by rw [List.length_take]; omega))
    rw [hbeg, List.length_take, show min xs.length ys.length = xs.length by omega, show sameL (sts xs) (sts xs) = true from decide_eq_true rfl] at HS1
    have HBG := Lib.hid hbeg
    have HCX := Lib.hid hcx
    have HCY := Lib.hid hcy
    have HPX := Lib.hid hpx
    have HPY := Lib.hid hpy
    obtain ⟨xn, hxn⟩ : ∃ n, xs.length = n := ⟨_, rfl⟩
    obtain ⟨yn, hyn⟩ : ∃ n, ys.length = n := ⟨_, rfl⟩
    have HE1 := Lib.hid hE1
    have HE2 := Lib.hid hE2
    rw [hxn] at HS1 h1 h2 h3
    rw [hyn] at h3 h4
    rw [hxn, hyn]
    have hxc := HXC.out
    rw [hxn] at hxc
    have hyc := HYC.out
    rw [hyn] at hyc
    have HXN := Lib.hid hxn
    have HYN := Lib.hid hyn
    have q1 : decide ((na : Int) + 1 < (xn : Int)) = false := decide_eq_false (by omega)
    have q2 : decide ((yn : Int) < (xn : Int)) = false := decide_eq_false (by omega)
    have q3 : ((xn : Int) == 0) = false := by rw [beq_eq_false_iff_ne]; omega
    have q4 : xn ≤ yc := by omega
    clear hE1 hE2 hpx hpy hcx hcy hlx hly hbeg hxn hyn HXC HYC HXP HYP HL1 HL2
    go_wp2_with (fail)
    refine (HS1.out w5 (Below.refl _ _)).mono ?_
    rintro e w6 ⟨rfl, hb⟩
    have hlw := HLW.out.next hb
    have hxs6 := (HXS.out.below hb).more hb.size
    have hys6 := (HYS.out.below hb).more hb.size
    clear HLW HXS HYS
    have HLW := Lib.hid hlw
    have HXS := Lib.hid hxs6
    have HYS := Lib.hid hys6
    clear hb hlw hxs6 hys6 HS1
    go_wp2_with (fail)
    refine (HAL.out w6 HLW.out).mono ?_
    rintro e w7 ⟨rfl, hb⟩
    have hlw := HLW.out.next hb
    have hxs7 := (HXS.out.below hb).more hb.size
    have hys7 := (HYS.out.below hb).more hb.size
    clear HLW HXS HYS
    have HLW := Lib.hid hlw
    have HXS := Lib.hid hxs7
    have HYS := Lib.hid hys7
    clear hb hlw hxs7 hys7 HAL
    by_cases hm : m1 = 0
    · subst hm
      obtain ⟨z, hz1, hz2, hz3, hz4⟩ := Rn.seq_add_go (stepF names up lt) nb na a (by rw [HE1.out, HM1.out])
      obtain rfl : xn = na + 1 := by
        have h := Rn.seq_full (stepF names up lt) na a (by rw [HE1.out, HM1.out])
        rw [← HPX.out, List.length_map, HXN.out] at h
        exact h
      obtain ⟨ad, x, rfl, had, hx2, x0, x1, x2, x3, x4, x5⟩ := strow_at (k := na) HXS.out.row (by rw [HXN.out]; exact Nat.lt_succ_self _)
      obtain ⟨ad2, y, rfl, -, -, -⟩ := strow_at (k := 0) HYS.out.row (by rw [HYN.out]; omega)
      have hxz : z = (x.s, x.came) := by
        have h : (xs.map El.pl)[na]? = some (x.s, x.came) := by rw [List.getElem?_map, hx2]; rfl
        rw [HPX.out, hz1] at h
        injection h
      subst hxz
      dsimp only at hz3 hz4
      have hmx := List.mem_of_getElem? hx2
      have hck := HCX.out x hmx
      have hR3 := fun (W : World) (hb : Below w7.heap.size w7 W) => HRUN.out W (nb : Int) (HLW.out.next hb) x.val x.s (((HXS.out.el x hmx).below hb).more hb.size) (chk_small hck)
      have hc3 : chk11 names up lt x.s (nb : Int) = 0 := by unfold chk11; rw [if_pos hck, if_neg (show ¬ ((nb : Int) < 0 ∨ 40 < (nb : Int)) by omega)]
      have hl3 : runL names up lt x.s (nb : Int) = Rn.seq (stepF names up lt) nb x.s := by unfold runL; rw [if_pos hc3, Int.toNat_natCast]
      unfold Runs at hR3
      rw [hl3, hc3, ← hz4, HE2.out, HM2.out] at hR3
      have hdrop : sts (ys.drop na) = (Rn.seq (stepF names up lt) nb x.s).map (·.1) := by
        rw [← hz3, ← HPY.out, ← List.map_drop, ← sts_pl]
      have HR3 := Lib.hid hR3
      have HDR := Lib.hid hdrop
      have HCK3 := Lib.hid hck
      obtain ⟨xa, xb, A1', n1', d1', A2', n2', d2', A3', n3', d3', A4', n4', d4', xst, xcm⟩ := x
      dsimp only at x0 x1 x2 x3 x4 x5
      unfold El.val at HR3
      dsimp only at HR3 HDR HCK3
      have hidx : wrap64 (((na + 1 : Nat) : Int) - 1) = (na : Int) := by unfold wrap64; omega
      have hadb : (ad.add (na * 6)).block < w7.heap.size := by rw [add_block]; exact had
      clear hz1 hz2 hz3 hz4 hx2 hmx hck hR3 hc3 hl3 hdrop
      have l0 : w7.cell? ⟨w.heap.size, 0, none⟩ = some (.slice A1 k1 c1) := HLW.out.one.a.cell 0
      have l1 : w7.cell? ⟨w.heap.size, 1, none⟩ = some (.slice A2 k2 c2) := HLW.out.one.a.cell 1
      have t0 : w7.cell? ⟨w.heap.size + 1, 0, none⟩ = some (.slice T1 tn t1) := HLW.out.tb.cell 0
      have hwr : IntKind.i64.wrap (na : Int) = (na : Int) := IntWalk.i64_in _ (by omega)
      have hnn : (0 : Int) ≤ (na : Int) := by omega
      have hnl : (na : Int) < (na : Int) + 1 := by omega
      go_wp2_with (fail)
      refine Free.region_seq [9] [0, 1, 7] 9 (fun W' => W'.cell? ⟨w.heap.size, 0, none⟩ = some (.slice A1 k1 c1) ∧ W'.cell? ⟨w.heap.size, 1, none⟩ = some (.slice A2 k2 c2) ∧ W'.cell? ⟨w.heap.size + 1, 0, none⟩ = some (.slice T1 tn t1) ∧ W'.cell? (ad.add (na * 6)) = some (.int .i64 xa) ∧ W'.cell? ⟨(ad.add (na * 6)).block, (ad.add (na * 6)).off + 1, none⟩ = some (.int .i64 xb) ∧ W'.cell? ⟨(ad.add (na * 6)).block, (ad.add (na * 6)).off + 2, none⟩ = some (.slice A1' n1' d1') ∧ W'.cell? ⟨(ad.add (na * 6)).block, (ad.add (na * 6)).off + 3, none⟩ = some (.slice A2' n2' d2') ∧ W'.cell? ⟨(ad.add (na * 6)).block, (ad.add (na * 6)).off + 4, none⟩ = some (.slice A3' n3' d3') ∧ W'.cell? ⟨(ad.add (na * 6)).block, (ad.add (na * 6)).off + 5, none⟩ = some (.slice A4' n4' d4')) (by kernel_rfl) (by kernel_rfl) (by kernel_rfl) (by kernel_rfl) (⟨l0, l1, t0, x0, x1, x2, x3, x4, x5⟩) (fun ops hops => ?_)
      clear hops
      clear l0 l1 t0 x0 x1 x2 x3 x4 x5
      iterate 9
        refine Free.Seq.quiet (v := ?_) (a' := ?_) rfl rfl (fun W' hW' => ?_) ?_ ?_
        rotate_left 2
        · first | obtain ⟨l0, l1, t0, x0, x1, x2, x3, x4, x5⟩ := hW' rfl | skip
          go_simp
          try with_reducible rfl
        · simp only [Act.put, List.setIfInBounds_toArray, List.set_cons_zero, List.set_cons_succ]
          try with_reducible rfl
      refine Free.Seq.loud_ rfl (.inl rfl) (fun K hK => ?_)
      go_simp
      refine (HR3.out w7.drew (Below.refl _ w7).drew).mono ?_
      rintro e w8 ⟨ZA, zs, zc, rfl, hzc, hzs, hzp, hb⟩
      have hb := (Below.refl _ w7).drew.trans hb
      have hlw := HLW.out.next hb
      have hys8 := (HYS.out.below hb).more hb.size
      clear HLW HYS
      have HLW := Lib.hid hlw
      have HYS := Lib.hid hys8
      have HZS := Lib.hid hzs
      have HZP := Lib.hid hzp
      refine hK.out _ _ rfl (fun h => absurd h (by decide)) ?_
      clear hK K hb hlw hys8 hzs hzp HR3
      iterate 7
        refine Free.Seq.quiet (v := ?_) (a' := ?_) rfl rfl (fun W' hW' => ?_) ?_ ?_
        rotate_left 2
        · skip
          go_simp
          try with_reducible rfl
        · simp only [Act.put, List.setIfInBounds_toArray, List.set_cons_zero, List.set_cons_succ]
          try with_reducible rfl
      refine Free.Seq.nil_ ?_
      have hsz : sts zs = (Rn.seq (stepF names up lt) nb xst).map (·.1) := by rw [← HZP.out, ← sts_pl]
      have HS2 := Lib.hid (fun (W : World) (hb : Below w8.heap.size w8 W) => sameL_any (xs := ys.drop na) (ys := zs) (yc - na) zc W (((HYS.out.below hb).more hb.size).drop na) ((HZS.out.below hb).more hb.size) (fun x hx => chk_small (HCY.out x (List.mem_of_mem_drop hx))) (fun x hx => chk_small (chk_small_all HCK3.out HZP.out x hx)) (by rw [List.length_drop, HYN.out]; omega))
      rw [HDR.out, ← hsz, List.length_drop, HYN.out, show sameL (sts zs) (sts zs) = true from decide_eq_true rfl] at HS2
      obtain ⟨zn, hzn⟩ : ∃ n, zs.length = n := ⟨_, rfl⟩
      rw [hzn] at HS2 ⊢
      clear hzn hzc hsz
      have q5 : na ≤ yn := by omega
      have q6 : na ≤ yc := by omega
      have q7 : yn ≤ yc := by omega
      go_wp2_with (fail)
      refine (HS2.out w8 (Below.refl _ _)).mono ?_
      rintro e w9 ⟨rfl, hb⟩
      have HBW := Lib.hid (HLW.out.one.below.trans (hb.mono HLW.out.one.below.size))
      clear hb
      go_wp2
      go_ret
      exact ⟨rfl, HBW.out⟩
    · have hmm : ((m1 : Int) != 0) = true := by rw [bne_iff_ne]; omega
      have hst := Rn.seq_add_stop (stepF names up lt) nb na a (by rw [HE1.out, HM1.out]; exact hm)
      rw [HE1.out, HE2.out] at hst
      obtain rfl : m2 = m1 := by rw [← HM1.out, ← HM2.out, hst]
      obtain rfl : yn = xn := by
        have h := HPY.out
        rw [HE2.out, hst, ← HE1.out, ← HPX.out] at h
        have h := congrArg List.length h
        rw [List.length_map, List.length_map, HXN.out, HYN.out] at h
        exact h
      clear hst
      have HBW := Lib.hid HLW.out.one.below
      go_wp2
      go_ret
      exact ⟨rfl, HBW.out⟩
  · have hnz : ((ck : Int) != 0) = true := by rw [bne_iff_ne]; omega
    have hx0 : xs = [] := by have h := HXP.out; rw [← HL1.out, if_neg hz] at h; exact List.map_eq_nil_iff.1 h
    have hy0 : ys = [] := by have h := HYP.out; rw [← HL2.out, if_neg hz] at h; exact List.map_eq_nil_iff.1 h
    subst hx0 hy0
    go_wp2_with (fail)
    refine (HAL.out w5 HLW.out).mono ?_
    rintro e w6 ⟨rfl, hb⟩
    have HB6 := Lib.hid (HLW.out.one.below.trans (hb.mono HLW.out.one.below.size))
    clear hb
    go_wp2
    go_ret
    exact ⟨rfl, HB6.out⟩
end Go.Proofs.YtjobifclmcdjcaaGreatDoor
