/- The reference's put and must. -/
import Derived.Test.YtggcmkpafpjnoaaGreatDoorGRefA
import Derived.Test.YtggcmkpafpjnoaaGreatDoorGRulO
namespace Go.Proofs.YtggcmkpafpjnoaaGreatDoor
set_option maxRecDepth 100000
open Go.RowKit Go.Shelf

/-- The rule so far, in memory: in a block of those that S tells. -/
structure RIn (w : World) (S : Nat → Prop) (A2 : Option Addr) (c2 : Nat) (x : List Int) : Prop where
  row : Row w w.heap.size A2 (ints x)
  cap : x.length ≤ c2
  nil : x = [] → A2 = none ∧ c2 = 0
  side : ∀ ad, A2 = some ad → S ad.block
  lt : ∀ k, S k → k < w.heap.size
theorem RIn.below {w w' : World} {S : Nat → Prop} {A2 : Option Addr} {c2 : Nat} {x : List Int} (h : RIn w S A2 c2 x) (hb : Below w.heap.size w w') : RIn w' S A2 c2 x := ⟨(h.row.below hb).more hb.size, h.cap, h.nil, h.side, fun k hk => Nat.lt_of_lt_of_le (h.lt k hk) hb.size⟩
/-- The rule so far, behind a call: where it was, or in a new block. -/
structure ROut (w : World) (S : Nat → Prop) (w' : World) (A2 : Option Addr) (c2 : Nat) (x : List Int) : Prop where
  row : Row w' w'.heap.size A2 (ints x)
  cap : x.length ≤ c2
  nil : x = [] → A2 = none ∧ c2 = 0
  side : ∀ ad, A2 = some ad → S ad.block ∨ w.heap.size ≤ ad.block
theorem RIn.out {w w' : World} {S : Nat → Prop} {A2 : Option Addr} {c2 : Nat} {x : List Int} (h : RIn w S A2 c2 x) (hb : Below w.heap.size w w') : ROut w S w' A2 c2 x := ⟨(h.row.below hb).more hb.size, h.cap, h.nil, fun ad e => .inl (h.side ad e)⟩
/-- What a part of the reference's answers. -/
def RTold (w : World) (S : Nat → Prop) (A : Option Addr) (n c : Nat) (r : Rl.Res) (en : Ending) (w' : World) : Prop :=
  ∃ (A2 : Option Addr) (m c2 : Nat) (d : Int), en = .returned (.agg #[.slice A n c, .int .i64 r.1.pos, .slice A2 m c2, .int .i64 d, .int .i64 r.2]) ∧ (r.2 = 0 → d = r.1.deep ∧ m = r.1.out.length ∧ ROut w S w' A2 c2 r.1.out) ∧ Below w.heap.size w w'
theorem made2 (w : World) (o1 o2 : Obj) : (((w.alloc o1).alloc o2).alloc (.cells #[] 3)).ownsRow (w.heap.size + 1 + 1) 3 1 (.slice (some ⟨w.heap.size + 1 + 1, 0, none⟩) 0 0) 0 [] := by
  have hz : ((w.alloc o1).alloc o2).heap.size = w.heap.size + 1 + 1 := by simp
  have ho := World.ownsRow_made (e := 3) (size := 1) ((w.alloc o1).alloc o2) #[] 0 (Nat.le_refl _) (by decide) rfl
  rwa [hz] at ho
/-- A state's block, and the result's behind it. -/
structure PS (w : World) (v1 v2 : Value) (p d e : Int) (W : World) : Prop where
  blk : Blk W w.heap.size 107 #[v1, .int .i64 p, v2, .int .i64 d, .int .i64 e]
  z : PZ w W
section
variable {w W W' : World} {v1 v2 : Value} {p d e : Int}
theorem PS.start (w : World) (v1 v2 : Value) (p d e : Int) (hb : Below ((w.alloc (.cells #[v1, .int .i64 p, v2, .int .i64 d, .int .i64 e] 107)).alloc (.cells #[.slice none 0 0, .int .i64 0, .slice none 0 0, .int .i64 0, .int .i64 0] 107)).heap.size ((w.alloc (.cells #[v1, .int .i64 p, v2, .int .i64 d, .int .i64 e] 107)).alloc (.cells #[.slice none 0 0, .int .i64 0, .slice none 0 0, .int .i64 0, .int .i64 0] 107)) W) : PS w v1 v2 p d e W :=
  ⟨((Blk.new w _ _).alloc _).below hb (by simp; omega), PZ.start w W _ hb⟩
theorem PS.call (h : PS w v1 v2 p d e W) (hb : Below W.heap.size W W') : PS w v1 v2 p d e W' := ⟨h.blk.below hb h.blk.lt, h.z.call hb⟩
theorem PS.grow {row : Option Nat} (h : PS w v1 v2 p d e W) (hg : W.grownBy W' row) (hr : ∀ k, row = some k → w.heap.size + 1 + 1 ≤ k) : PS w v1 v2 p d e W' :=
  ⟨(hg.block _ h.blk.lt (fun e => by have := hr _ e.symm; omega)).trans h.blk, ⟨(hg.block _ h.z.blk.lt (fun e => by have := hr _ e.symm; omega)).trans h.z.blk, h.z.below.grown hg h.z.below.size (fun k hk => by have := hr k hk; omega)⟩⟩
theorem PS.setOut (h : PS w v1 v2 p d e W) (u : Value) : PS w v1 u p d e (W.setCell ⟨w.heap.size, 2, none⟩ u) :=
  ⟨h.blk.set_ 2 u, ⟨h.z.blk.other (by simp) _, h.z.below.setCell (p := ⟨w.heap.size, 2, none⟩) (Nat.le_refl _) _⟩⟩
theorem PS.facts (h : PS w v1 v2 p d e W) : W.cell? ⟨w.heap.size, 0, none⟩ = some v1 ∧ W.cell? ⟨w.heap.size, 1, none⟩ = some (.int .i64 p) ∧ W.cell? ⟨w.heap.size, 2, none⟩ = some v2 ∧ W.cell? ⟨w.heap.size, 3, none⟩ = some (.int .i64 d) ∧ W.cell? ⟨w.heap.size, 4, none⟩ = some (.int .i64 e) ∧ W.frozen? ⟨w.heap.size, 2, none⟩ = false :=
  ⟨by rw [h.blk.cell]; rfl, by rw [h.blk.cell]; rfl, by rw [h.blk.cell]; rfl, by rw [h.blk.cell]; rfl, by rw [h.blk.cell]; rfl, h.blk.frozen _⟩
theorem PS.own {ty : TypeId} {sz k : Nat} {v : Value} {xs : List Value} (_ : PS w v1 v2 p d e W) (h : W.ownsRow (w.heap.size + 1 + 1) ty sz v k xs) (u u1 u2 : Value) (a b c : Int) :
    ((((((W.setCell ⟨w.heap.size, 2, none⟩ u).setCell ⟨w.heap.size + 1, 0, none⟩ u1).setCell ⟨w.heap.size + 1, 1, none⟩ (.int .i64 a)).setCell ⟨w.heap.size + 1, 2, none⟩ u2).setCell ⟨w.heap.size + 1, 3, none⟩ (.int .i64 b)).setCell ⟨w.heap.size + 1, 4, none⟩ (.int .i64 c)).ownsRow (w.heap.size + 1 + 1) ty sz v k xs :=
  ownsRow_setCell_below (ownsRow_setCell_below (ownsRow_setCell_below (ownsRow_setCell_below (ownsRow_setCell_below (ownsRow_setCell_below h (by simp; omega) _) (by simp) _) (by simp) _) (by simp) _) (by simp) _) (by simp) _
end
section
variable {A A2 : Option Addr} {c c2 : Nat} {S : Nat → Prop}
set_option maxHeartbeats 4000000 in
theorem rput_room (n : Nat) (s : Rl.St) (o : Int) (w : World) (h : RIn w S A2 c2 s.out) (hl : s.out.length < 40) :
    Calls Tryz.prog 99 #[.agg #[.slice A n c, .int .i64 s.pos, .slice A2 s.out.length c2, .int .i64 s.deep, .int .i64 0], .int .i64 o] w (RTold w S A n c ({ s with out := s.out ++ [o] }, 0)) := by
  obtain ⟨i0, hi, hz0, hz1, hz2⟩ := info_parts Tryz.infoInt
  obtain ⟨p, d, out⟩ := s
  dsimp only at h hl ⊢
  have hne : ((out.length : Int) == 40) = false := by rw [beq_eq_false_iff_ne]; omega
  have H := Lib.hid h
  by_cases h0 : out = []
  · subst h0
    obtain ⟨rfl, rfl⟩ := h.nil rfl
    clear h hne hl
    have hown0 := made2 w (.cells #[.slice A n c, .int .i64 p, .slice none 0 0, .int .i64 d, .int .i64 0] 107) (.cells #[.slice none 0 0, .int .i64 0, .slice none 0 0, .int .i64 0, .int .i64 0] 107)
    have HPS := Lib.hid (PS.start w (.slice A n c) (.slice none 0 0) p d 0 (((Below.refl _ _).alloc (Nat.le_refl _) (.cells #[] 3)).alloc (by simp) (.cells #[.int .i64 o] 3)))
    go_enter Tryz.func99, Tryz.ntmps99
    go_wp2_with (at_builtin; refine wpList_append_own _ rfl _ _ 41 rfl (w.heap.size + 1 + 1) 3 i0 (.int .i64 0) 1 8 Tryz.underlying41 hi hz0 hz1 hz2 rfl (by decide) _ _ _ rfl (hown0.alloc _) ⟨w.heap.size + 1 + 1 + 1, 0, none⟩ 1 1 [.int .i64 o] rfl rfl ?c1 ?c2 ?c3 ?c4 ?c5 ?_)
    case c1 => exact cells_newR _ _ (by simp)
    case c2 => simp [Value.oneCell']
    case c3 => unfold maxLen; omega
    case c4 => omega
    case c5 => simp
    intro v' w' hown' hgrow _
    obtain ⟨g', cap', rfl⟩ := ownsRow_succ hown'
    have hps := HPS.out.grow hgrow (fun k he => by have := (hown0.lt k he).1; omega)
    have HPS2 := Lib.hid hps
    obtain ⟨z0, z1, z2, z3, z4, y0, y1, y2, y3, y4⟩ := hps.z.facts
    obtain ⟨x0, x1, x2, x3, x4, fx⟩ := hps.facts
    have HOWN := Lib.hid hown'
    clear hps hown' hgrow
    go_wp2
    obtain ⟨r0, r1, r2, r3, r4, rB⟩ := (HPS2.out.setOut (.slice (some ⟨g', 0, none⟩) (0 + 1) cap')).z.set_ (.slice A n c) (.slice (some ⟨g', 0, none⟩) (0 + 1) cap') p d 0
    have RB := Lib.hid rB
    clear rB
    refine bodyPost_ret (v := .agg #[.slice A n c, .int .i64 p, (.slice (some ⟨g', 0, none⟩) (0 + 1) cap'), .int .i64 d, .int .i64 0]) (by simp [results, Tryz.results99, go_sem, r0, r1, r2, r3, r4]) rfl ?_
    refine ⟨some ⟨g', 0, none⟩, 0 + 1, cap', d, rfl, fun _ => ⟨rfl, rfl, ?_⟩, RB.out⟩
    have ho := HPS2.out.own HOWN.out (.slice (some ⟨g', 0, none⟩) (0 + 1) cap') (.slice A n c) (.slice (some ⟨g', 0, none⟩) (0 + 1) cap') p d 0
    obtain ⟨q1, q2⟩ := ownT_row ho
    exact ⟨q1, q2, (fun e => by cases e), fun ad e => .inr (by injection e with e; subst e; have := (ho.lt g' rfl).1; show w.heap.size ≤ g'; omega)⟩
  · have hpos : 0 < out.length := List.length_pos_iff.2 h0
    obtain ⟨ad, rfl, hb, hcell⟩ := h.row (by intro e; have h1 := ints_length out; rw [e] at h1; exact absurd h1 (by simp only [List.length_nil]; omega))
    have hown0 := made2 w (.cells #[.slice A n c, .int .i64 p, .slice (some ad) out.length c2, .int .i64 d, .int .i64 0] 107) (.cells #[.slice none 0 0, .int .i64 0, .slice none 0 0, .int .i64 0, .int .i64 0] 107)
    have hcc : ∀ o1 o2 o3 j u, (ints out)[j]? = some u → (((w.alloc o1).alloc o2).alloc o3).cell? (ad.add j) = some u := fun o1 o2 o3 j u hu => (((((Below.refl w.heap.size w).alloc (Nat.le_refl _) o1).alloc (by simp) o2).alloc (by simp; omega) o3).cell (by rw [add_block]; exact hb)).trans (hcell j u hu)
    have HCC := Lib.hid hcc
    have HL : Hid ((ints out).length = out.length * 1) := by unfold Hid; rw [ints_length]; omega
    have H1 : Hid (∀ u ∈ ints out, u.oneCell' = true) := fun u hu => by
      obtain ⟨x, _, rfl⟩ := List.mem_map.1 hu
      rfl
    have hcap := h.cap
    have HPS0 := Lib.hid (PS.start w (.slice A n c) (.slice (some ad) out.length c2) p d 0 ((Below.refl _ _).alloc (Nat.le_refl _) (.cells #[] 3)))
    clear hcc hcell h h0
    go_enter Tryz.func99, Tryz.ntmps99
    go_wp2_with (at_builtin; refine wpList_append_own _ rfl _ _ 41 rfl (w.heap.size + 1 + 1) 3 i0 (.int .i64 0) 1 8 Tryz.underlying41 hi hz0 hz1 hz2 rfl (by decide) _ _ _ rfl hown0 ad out.length c2 (ints out) rfl HL.out (HCC.out _ _ _) H1.out ?c3 ?c4 ?c5 ?_)
    case c3 => unfold maxLen; omega
    case c4 => omega
    case c5 => simp
    intro v1 w1 hown1 hgrow1 _
    have hps1 := HPS0.out.grow hgrow1 (fun k he => by have := (hown0.lt k he).1; omega)
    have HPS1 := Lib.hid hps1
    have hsz1 := hps1.z.below.size
    have hs2 : w.heap.size + 1 + 1 ≤ w1.heap.size := by have := hps1.z.blk.lt; omega
    have HPS := Lib.hid (hps1.call ((Below.refl _ w1).alloc (Nat.le_refl _) (.cells #[.int .i64 o] 3)))
    obtain ⟨z0, z1, z2, z3, z4, y0, y1, y2, y3, y4⟩ := hps1.z.facts
    obtain ⟨x0, x1, x2, x3, x4, fx⟩ := hps1.facts
    clear hps1 hgrow1
    go_wp2_with (at_builtin; refine wpList_append_own _ rfl _ _ 41 rfl (w.heap.size + 1 + 1) 3 i0 (.int .i64 0) 1 8 Tryz.underlying41 hi hz0 hz1 hz2 rfl (by decide) _ _ _ rfl (hown1.alloc _) ⟨w1.heap.size, 0, none⟩ 1 1 [.int .i64 o] rfl rfl ?c1 ?c2 ?c3 ?c4 ?c5 ?_)
    case c1 => exact cells_newR _ _ rfl
    case c2 => simp [Value.oneCell']
    case c3 => unfold maxLen; omega
    case c4 => omega
    case c5 => simp; omega
    intro v' w' hown' hgrow _
    clear z0 z1 z2 z3 z4 y0 y1 y2 y3 y4 x0 x1 x2 x3 x4 fx
    obtain ⟨g', cap', rfl⟩ := ownsRow_succ hown'
    have hps := HPS.out.grow hgrow (fun k he => by have := (hown1.lt k he).1; omega)
    have HPS2 := Lib.hid hps
    obtain ⟨z0, z1, z2, z3, z4, y0, y1, y2, y3, y4⟩ := hps.z.facts
    obtain ⟨x0, x1, x2, x3, x4, fx⟩ := hps.facts
    have HOWN := Lib.hid hown'
    clear hps hown' hgrow
    go_wp2
    obtain ⟨r0, r1, r2, r3, r4, rB⟩ := (HPS2.out.setOut (.slice (some ⟨g', 0, none⟩) (out.length + 1) cap')).z.set_ (.slice A n c) (.slice (some ⟨g', 0, none⟩) (out.length + 1) cap') p d 0
    have RB := Lib.hid rB
    clear rB
    refine bodyPost_ret (v := .agg #[.slice A n c, .int .i64 p, (.slice (some ⟨g', 0, none⟩) (out.length + 1) cap'), .int .i64 d, .int .i64 0]) (by simp [results, Tryz.results99, go_sem, r0, r1, r2, r3, r4]) rfl ?_
    refine ⟨some ⟨g', 0, none⟩, out.length + 1, cap', d, rfl, fun _ => ⟨rfl, by simp, ?_⟩, RB.out⟩
    have ho := HPS2.out.own HOWN.out (.slice (some ⟨g', 0, none⟩) (out.length + 1) cap') (.slice A n c) (.slice (some ⟨g', 0, none⟩) (out.length + 1) cap') p d 0
    obtain ⟨q1, q2⟩ := ownT_row ho
    refine ⟨?_, by simp; omega, (fun e => by have := congrArg List.length e; simp at this), fun ad e => .inr (by injection e with e; subst e; have := (ho.lt g' rfl).1; show w.heap.size ≤ g'; omega)⟩
    rw [ints_snoc]
    exact q1
theorem rput_any (n : Nat) (s : Rl.St) (o : Int) (w : World) (h : RIn w S A2 c2 s.out) (hl : s.out.length ≤ 40) :
    Calls Tryz.prog 99 #[.agg #[.slice A n c, .int .i64 s.pos, .slice A2 s.out.length c2, .int .i64 s.deep, .int .i64 0], .int .i64 o] w (RTold w S A n c (Rl.put o s)) := by
  unfold Rl.put
  by_cases h40 : s.out.length = 40
  · rw [if_pos h40, h40]
    exact (rput_full n o w).mono fun e w' ⟨he, hb⟩ => ⟨_, _, _, _, he, (fun h0 => by cases h0), hb⟩
  · rw [if_neg h40]
    exact rput_room n s o w h (by omega)
/-- A mark is taken. -/
def Rl.must (l : List Lx.Tk) (x : ByteArray) (s : Rl.St) : Rl.Res := if Rl.isN l s.pos x = true then (Rl.adv s, 0) else (s, 4)
set_option maxHeartbeats 4000000 in
theorem rmust_any {l : List Lx.Tk} (x : ByteArray) (s : Rl.St) (w : World) (ht : Row w w.heap.size A (tcells l)) (he : Rl.Ends l) (hl : l.length ≤ 1000000) (hp : s.pos < l.length) (h : RIn w S A2 c2 s.out) :
    Calls Tryz.prog 138 #[.agg #[.slice A l.length c, .int .i64 s.pos, .slice A2 s.out.length c2, .int .i64 s.deep, .int .i64 0], .string x] w (RTold w S A l.length c (Rl.must l x s)) := by
  obtain ⟨p, d, out⟩ := s
  dsimp only at h hp ⊢
  unfold Rl.must
  dsimp only
  have hh := fun W (hb : Below w.heap.size w W) => here_ok (c := c) (d := (d : Int)) (A2 := A2) (m := out.length) (c2 := c2) x W ((ht.below hb).more hb.size) hp
  have hb0 := (((Below.refl _ w).alloc (Nat.le_refl _) (.cells #[.slice A l.length c, .int .i64 p, .slice A2 out.length c2, .int .i64 d, .int .i64 0] 107)).alloc (by simp) (.cells #[.slice none 0 0, .int .i64 0, .slice none 0 0, .int .i64 0, .int .i64 0] 107))
  have HH := Lib.hid (hh _ hb0)
  have H := Lib.hid h
  cases hn : Rl.isN l p x
  · rw [hn] at HH
    rw [if_neg (by decide)]
    have hf := fun W => fail_ok (A := A) (c := c) (p := p) (d := (d : Int)) (A2 := A2) (m := out.length) (c2 := c2) l.length 4 W
    have HF := Lib.hid hf
    clear hf hh hn ht h he hp hb0
    go_enter Tryz.func138, Tryz.ntmps138
    go_wp2_with (fail)
    refine HH.out.mono ?_
    rintro e w1 ⟨rfl, hb1⟩
    have hps := PS.start w (.slice A l.length c) (.slice A2 out.length c2) p d 0 hb1
    have HPS := Lib.hid hps
    obtain ⟨x0, x1, x2, x3, x4, fx⟩ := hps.facts
    clear hps hb1
    go_wp2_with (fail)
    refine (HF.out w1).mono ?_
    rintro e w2 ⟨rfl, hb2⟩
    have hz := HPS.out.z.call hb2
    have HZ := Lib.hid hz
    obtain ⟨z0, z1, z2, z3, z4, y0, y1, y2, y3, y4⟩ := hz.facts
    clear hz hb2 x0 x1 x2 x3 x4 fx
    go_wp2
    obtain ⟨r0, r1, r2, r3, r4, rB⟩ := HZ.out.set_ (.slice A l.length c) (.slice A2 out.length c2) p d 4
    have RB := Lib.hid rB
    clear rB
    exact bodyPost_ret (v := .agg #[.slice A l.length c, .int .i64 p, .slice A2 out.length c2, .int .i64 d, .int .i64 4]) (by simp [results, Tryz.results138, go_sem, r0, r1, r2, r3, r4]) rfl ⟨_, _, _, _, rfl, (fun h0 => by cases h0), RB.out⟩
  · rw [hn] at HH
    rw [if_pos rfl]
    have hlt := Rl.isN_lt he hn
    have hf := fun W => next_ok (A := A) (c := c) (p := p) (d := (d : Int)) (A2 := A2) (m := out.length) (c2 := c2) l.length 0 W hlt hl
    have HF := Lib.hid hf
    clear hf hh hn ht h he hp hb0
    go_enter Tryz.func138, Tryz.ntmps138
    go_wp2_with (fail)
    refine HH.out.mono ?_
    rintro e w1 ⟨rfl, hb1⟩
    have hps := PS.start w (.slice A l.length c) (.slice A2 out.length c2) p d 0 hb1
    have HPS := Lib.hid hps
    obtain ⟨x0, x1, x2, x3, x4, fx⟩ := hps.facts
    clear hps hb1
    go_wp2_with (fail)
    refine (HF.out w1).mono ?_
    rintro e w2 ⟨rfl, hb2⟩
    have hz := HPS.out.z.call hb2
    have HZ := Lib.hid hz
    obtain ⟨z0, z1, z2, z3, z4, y0, y1, y2, y3, y4⟩ := hz.facts
    clear hz hb2 x0 x1 x2 x3 x4 fx
    go_wp2
    obtain ⟨r0, r1, r2, r3, r4, rB⟩ := HZ.out.set_ (.slice A l.length c) (.slice A2 out.length c2) ((p : Int) + 1) d 0
    have RB := Lib.hid rB
    clear rB
    exact bodyPost_ret (v := .agg #[.slice A l.length c,   .int .i64 ((p : Int) + 1), .slice A2 out.length c2, .int .i64 d, .int .i64 0]) (by simp [results, Tryz.results138, go_sem, r0, r1, r2, r3, r4]) rfl ⟨_, _, _, _, rfl, fun _ => ⟨rfl, rfl, H.out.out RB.out⟩, RB.out⟩
end
end Go.Proofs.YtggcmkpafpjnoaaGreatDoor
