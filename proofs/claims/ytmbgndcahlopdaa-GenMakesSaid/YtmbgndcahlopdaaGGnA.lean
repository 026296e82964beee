/- The reference of stage 15: in, near, Right, May (by gen_gna.py). -/
import Derived.Test.YtmbgndcahlopdaaGCodP
import Derived.Test.YtmbgndcahlopdaaGDrwC
import Derived.Test.YtmbgndcahlopdaaGPub
import Derived.Test.YtmbgndcahlopdaaGCodE
import Derived.Test.YtmbgndcahlopdaaGFree
import Derived.Test.YtmbgndcahlopdaaGCodA
import Derived.Test.YtmbgndcahlopdaaGOrd
import Derived.Test.YtmbgndcahlopdaaGFew
namespace Go.Proofs.Ytmbgndcahlopdaa
set_option maxRecDepth 100000
open Go.RowKit Go.Shelf
attribute [local go_sem] Oper.semAt_some

/-- A space as a value. -/
def spv (p : Gn.Sp) (A : Option Addr) (c : Nat) : Value := .agg #[.int .i64 p.code, .int .i64 p.mem, .int .i64 p.stack, .int .i64 p.val, .slice A p.ws.length c]
theorem rIn15_any (n most : Int) (w : World) : Calls Try.prog 45 #[.int .i64 n, .int .i64 most] w fun e w' => e = .returned (.bool (decide (0 ≤ n ∧ n ≤ most))) ∧ w = w' := by
  by_cases h0 : n ≥ 0
  · have e0 : decide (n ≥ 0) = true := decide_eq_true h0
    by_cases h1 : n ≤ most
    · have e1 : decide (n ≤ most) = true := decide_eq_true h1
      rw [decide_eq_true (show 0 ≤ n ∧ n ≤ most from ⟨h0, h1⟩)]
      clear h0 h1
      go_enter Try.func45, Try.ntmps45
      go_wp2
      go_ret
      exact ⟨rfl, rfl⟩
    · have e1 : decide (n ≤ most) = false := decide_eq_false h1
      rw [decide_eq_false (fun h => h1 h.2)]
      clear h0 h1
      go_enter Try.func45, Try.ntmps45
      go_wp2
      go_ret
      exact ⟨rfl, rfl⟩
  · have e0 : decide (n ≥ 0) = false := decide_eq_false h0
    rw [decide_eq_false (fun h => h0 h.1)]
    clear h0
    go_enter Try.func45, Try.ntmps45
    go_wp2
    go_ret
    exact ⟨rfl, rfl⟩
theorem Gn.spB_six (p : Gn.Sp) : Gn.spB p = (decide (0 ≤ p.code ∧ p.code ≤ 12) && (decide (0 ≤ p.mem ∧ p.mem ≤ 6) && (decide (0 ≤ p.stack ∧ p.stack ≤ 12) && (decide (0 ≤ p.val ∧ p.val ≤ 20) && (decide (p.ws.length = 13) && Pk.right p.ws))))) := by
  unfold Gn.spB
  rw [Bool.eq_iff_iff]
  simp only [Bool.and_eq_true, decide_eq_true_eq]
  constructor
  · rintro ⟨⟨a1, a2, a3, a4, a5, a6, a7, a8, a9⟩, b⟩; exact ⟨⟨a1, a2⟩, ⟨a3, a4⟩, ⟨a5, a6⟩, ⟨a7, a8⟩, a9, b⟩
  · rintro ⟨⟨a1, a2⟩, ⟨a3, a4⟩, ⟨a5, a6⟩, ⟨a7, a8⟩, a9, b⟩; exact ⟨⟨a1, a2, a3, a4, a5, a6, a7, a8, a9⟩, b⟩
set_option maxHeartbeats 4000000 in
theorem rRight15_any {A : Option Addr} (p : Gn.Sp) (c : Nat) (w : World) (h : Row w w.heap.size A (ints p.ws)) (hl : p.ws.length ≤ 1000000) : Calls Try.prog 20 #[spv p A c] w (Tells w (Gn.spB p)) := by
  rw [Gn.spB_six]
  unfold spv
  obtain ⟨code, mem, stack, val, ws⟩ := p
  dsimp only at h hl ⊢
  have hb := (Below.refl _ w).alloc (Nat.le_refl _) (.cells #[.int .i64 code, .int .i64 mem, .int .i64 stack, .int .i64 val, .slice A ws.length c] 28)
  have hk := Blk.new w 28 #[.int .i64 code, .int .i64 mem, .int .i64 stack, .int .i64 val, .slice A ws.length c]
  have q0 := hk.cell 0
  have q1 := hk.cell 1
  have q2 := hk.cell 2
  have q3 := hk.cell 3
  have q4 := hk.cell 4
  have HB := Lib.hid hb
  have HW := Lib.hid (fun W (hW : Below w.heap.size w W) => rWeights14_any (A := A) ws.length c W ((h.below hW).more hW.size) rfl hl)
  have HI1 := Lib.hid (rIn15_any code 12)
  have HI2 := Lib.hid (rIn15_any mem 6)
  have HI3 := Lib.hid (rIn15_any stack 12)
  have HI4 := Lib.hid (rIn15_any val 20)
  have e5 : ((ws.length : Int) == 13) = decide (ws.length = 13) := by rw [Bool.eq_iff_iff, beq_iff_eq, decide_eq_true_iff]; omega
  generalize decide (0 ≤ code ∧ code ≤ 12) = b1 at *
  generalize decide (0 ≤ mem ∧ mem ≤ 6) = b2 at *
  generalize decide (0 ≤ stack ∧ stack ≤ 12) = b3 at *
  generalize decide (0 ≤ val ∧ val ≤ 20) = b4 at *
  generalize decide (ws.length = 13) = b5 at *
  generalize Pk.right ws = b6 at *
  generalize ws.length = n at *
  clear hk hb h hl
  cases b1 with
  | false =>
    simp only [Bool.false_and]
    go_enter Try.func20, Try.ntmps20
    go_wp2_with (fail)
    refine (HI1.out _).mono ?_
    rintro e w1 ⟨rfl, rfl⟩
    go_wp2
    go_ret
    exact ⟨rfl, HB.out⟩
  | true =>
    cases b2 with
    | false =>
      simp only [Bool.false_and, Bool.true_and]
      go_enter Try.func20, Try.ntmps20
      go_wp2_with (fail)
      refine (HI1.out _).mono ?_
      rintro e w1 ⟨rfl, rfl⟩
      go_wp2_with (fail)
      refine (HI2.out _).mono ?_
      rintro e w2 ⟨rfl, rfl⟩
      go_wp2
      go_ret
      exact ⟨rfl, HB.out⟩
    | true =>
      cases b3 with
      | false =>
        simp only [Bool.false_and, Bool.true_and]
        go_enter Try.func20, Try.ntmps20
        go_wp2_with (fail)
        refine (HI1.out _).mono ?_
        rintro e w1 ⟨rfl, rfl⟩
        go_wp2_with (fail)
        refine (HI2.out _).mono ?_
        rintro e w2 ⟨rfl, rfl⟩
        go_wp2_with (fail)
        refine (HI3.out _).mono ?_
        rintro e w3 ⟨rfl, rfl⟩
        go_wp2
        go_ret
        exact ⟨rfl, HB.out⟩
      | true =>
        cases b4 with
        | false =>
          simp only [Bool.false_and, Bool.true_and]
          go_enter Try.func20, Try.ntmps20
          go_wp2_with (fail)
          refine (HI1.out _).mono ?_
          rintro e w1 ⟨rfl, rfl⟩
          go_wp2_with (fail)
          refine (HI2.out _).mono ?_
          rintro e w2 ⟨rfl, rfl⟩
          go_wp2_with (fail)
          refine (HI3.out _).mono ?_
          rintro e w3 ⟨rfl, rfl⟩
          go_wp2_with (fail)
          refine (HI4.out _).mono ?_
          rintro e w4 ⟨rfl, rfl⟩
          go_wp2
          go_ret
          exact ⟨rfl, HB.out⟩
        | true =>
          cases b5 with
          | false =>
            simp only [Bool.false_and, Bool.true_and]
            go_enter Try.func20, Try.ntmps20
            go_wp2_with (fail)
            refine (HI1.out _).mono ?_
            rintro e w1 ⟨rfl, rfl⟩
            go_wp2_with (fail)
            refine (HI2.out _).mono ?_
            rintro e w2 ⟨rfl, rfl⟩
            go_wp2_with (fail)
            refine (HI3.out _).mono ?_
            rintro e w3 ⟨rfl, rfl⟩
            go_wp2_with (fail)
            refine (HI4.out _).mono ?_
            rintro e w4 ⟨rfl, rfl⟩
            go_wp2
            go_ret
            exact ⟨rfl, HB.out⟩
          | true =>
            simp only [Bool.true_and]
            go_enter Try.func20, Try.ntmps20
            go_wp2_with (fail)
            refine (HI1.out _).mono ?_
            rintro e w1 ⟨rfl, rfl⟩
            go_wp2_with (fail)
            refine (HI2.out _).mono ?_
            rintro e w2 ⟨rfl, rfl⟩
            go_wp2_with (fail)
            refine (HI3.out _).mono ?_
            rintro e w3 ⟨rfl, rfl⟩
            go_wp2_with (fail)
            refine (HI4.out _).mono ?_
            rintro e w4 ⟨rfl, rfl⟩
            go_wp2_with (fail)
            refine (HW.out _ HB.out).mono ?_
            rintro e w5 ⟨rfl, rfl⟩
            go_wp2
            go_ret
            exact ⟨rfl, HB.out⟩
/-- Why a space can't be looked at. -/
def Gn.mayN (names : List ByteArray) (up : List Nat) (p : Gn.Sp) : Nat := if rCheckN names up = 0 then (if Gn.spB p = true then 0 else 1) else rCheckN names up
set_option maxHeartbeats 4000000 in
theorem rMay15_any {v : Value} {names : List ByteArray} {up : List Nat} {A : Option Addr} (p : Gn.Sp) (c : Nat) (w : World) (h : IsLat w w.heap.size v names up) (hr : Row w w.heap.size A (ints p.ws)) (hl : p.ws.length ≤ 1000000) : Calls Try.prog 8 #[v, spv p A c] w (TellsN w (Gn.mayN names up p)) := by
  unfold Gn.mayN
  have hck := fun W (hW : Below w.heap.size w W) => rCheck_any W ((h.below hW).more hW.size)
  have hrt := fun W (hW : Below w.heap.size w W) => rRight15_any p c W ((hr.below hW).more hW.size) hl
  obtain ⟨⟨N, U, c1, c2, rfl, -, -⟩, -, -, -⟩ := h
  unfold spv at hrt ⊢
  generalize Gn.spB p = bp at *
  obtain ⟨code, mem, stack, val, ws⟩ := p
  dsimp only at hrt ⊢
  have hb := ((Below.refl _ w).alloc (Nat.le_refl _) (.cells #[.slice N names.length c1, .slice U up.length c2] 25)).alloc (by simp) (.cells #[.int .i64 code, .int .i64 mem, .int .i64 stack, .int .i64 val, .slice A ws.length c] 28)
  have hp0 := (Blk.new w 25 #[.slice N names.length c1, .slice U up.length c2]).alloc (.cells #[.int .i64 code, .int .i64 mem, .int .i64 stack, .int .i64 val, .slice A ws.length c] 28)
  have hp1 := Blk.new (w.alloc (.cells #[.slice N names.length c1, .slice U up.length c2] 25)) 28 #[.int .i64 code, .int .i64 mem, .int .i64 stack, .int .i64 val, .slice A ws.length c]
  rw [World.size_alloc] at hp1
  have a0 := hp0.cell 0
  have a1 := hp0.cell 1
  have HB := Lib.hid hb
  have HP := Lib.hid hp1
  have HCK := Lib.hid hck
  have HRT := Lib.hid hrt
  generalize rCheckN names up = r at *
  generalize ws.length = n at *
  generalize names.length = n1 at *
  generalize up.length = n2 at *
  clear hb hp0 hp1 hck hrt hr hl
  by_cases hr0 : r = 0
  · subst hr0
    rw [if_pos rfl]
    obtain ⟨ans, hans⟩ : ∃ a : Nat, (if bp = true then 0 else 1) = a := ⟨_, rfl⟩
    rw [hans]
    have HANS := Lib.hid hans
    clear hans
    go_enter Try.func8, Try.ntmps8
    go_wp2_with (fail)
    refine (HCK.out _ HB.out).mono ?_
    rintro e w1 ⟨rfl, hb1⟩
    have hb2 := HB.out.trans (hb1.mono HB.out.size)
    have hp2 := HP.out.below hb1 HP.out.lt
    have HC := Lib.hid (HRT.out _ hb2)
    have HB2 := Lib.hid hb2
    have s0 := hp2.cell 0
    have s1 := hp2.cell 1
    have s2 := hp2.cell 2
    have s3 := hp2.cell 3
    have s4 := hp2.cell 4
    clear hb1 hb2 hp2 HRT HCK HP a0 a1
    cases bp with
    | true =>
      obtain rfl : 0 = ans := HANS.out
      go_wp2_with (fail)
      refine HC.out.mono ?_
      rintro e w2 ⟨rfl, hb2⟩
      have HB3 := Lib.hid (HB2.out.trans (hb2.mono HB2.out.size))
      clear hb2
      go_wp2
      go_ret
      exact ⟨rfl, HB3.out⟩
    | false =>
      obtain rfl : 1 = ans := HANS.out
      go_wp2_with (fail)
      refine HC.out.mono ?_
      rintro e w2 ⟨rfl, hb2⟩
      have HB3 := Lib.hid (HB2.out.trans (hb2.mono HB2.out.size))
      clear hb2
      go_wp2
      go_ret
      exact ⟨rfl, HB3.out⟩
  · have hz : ((r : Int) == 0) = false := by rw [beq_eq_false_iff_ne]; omega
    rw [if_neg hr0]
    go_enter Try.func8, Try.ntmps8
    go_wp2_with (fail)
    refine (HCK.out _ HB.out).mono ?_
    rintro e w1 ⟨rfl, hb1⟩
    have HB2 := Lib.hid (HB.out.trans (hb1.mono HB.out.size))
    clear hb1
    go_wp2
    go_ret
    exact ⟨rfl, HB2.out⟩
end Go.Proofs.Ytmbgndcahlopdaa

/- The reference of stage 15: took, Below, Number (by gen_gnc.py). -/
namespace Go.Proofs.Ytmbgndcahlopdaa
set_option maxRecDepth 100000
open Go.RowKit Go.Shelf
attribute [local go_sem] Oper.semAt_some

theorem n5_steps15 {W : World} {g : Nat} {t : TypeId} {u0 u1 u2 u3 u4 : Value} (h : Blk W g t #[u0, u1, u2, u3, u4]) (v0 v1 v2 v3 v4 : Value) : ∃ X1 X2 X3 X4 X5, W.setCell ⟨g, 0, none⟩ v0 = X1 ∧ X1.setCell ⟨g, 1, none⟩ v1 = X2 ∧ X2.setCell ⟨g, 2, none⟩ v2 = X3 ∧ X3.setCell ⟨g, 3, none⟩ v3 = X4 ∧ X4.setCell ⟨g, 4, none⟩ v4 = X5 ∧ W.frozen? ⟨g, 0, none⟩ = false ∧ X1.frozen? ⟨g, 1, none⟩ = false ∧ X2.frozen? ⟨g, 2, none⟩ = false ∧ X3.frozen? ⟨g, 3, none⟩ = false ∧ X4.frozen? ⟨g, 4, none⟩ = false ∧ W.cell? ⟨g, 0, none⟩ = some u0 ∧ X1.cell? ⟨g, 1, none⟩ = some u1 ∧ X2.cell? ⟨g, 2, none⟩ = some u2 ∧ X3.cell? ⟨g, 3, none⟩ = some u3 ∧ X4.cell? ⟨g, 4, none⟩ = some u4 ∧ X5.cell? ⟨g, 0, none⟩ = some v0 ∧ X5.cell? ⟨g, 1, none⟩ = some v1 ∧ X5.cell? ⟨g, 2, none⟩ = some v2 ∧ X5.cell? ⟨g, 3, none⟩ = some v3 ∧ X5.cell? ⟨g, 4, none⟩ = some v4 ∧ Hid (Blk X5 g t #[v0, v1, v2, v3, v4]) ∧ Hid (∀ k, k ≠ g → X5.heap[k]? = W.heap[k]?) ∧ Hid (∀ B V, B ≤ g → Below B V W → Below B V X5) := by
  have h0 := h
  obtain ⟨X1, e0⟩ : ∃ X, W.setCell ⟨g, 0, none⟩ v0 = X := ⟨_, rfl⟩
  have h1 : Blk X1 g t #[v0, u1, u2, u3, u4] := e0 ▸ h0.set_ 0 v0
  obtain ⟨X2, e1⟩ : ∃ X, X1.setCell ⟨g, 1, none⟩ v1 = X := ⟨_, rfl⟩
  have h2 : Blk X2 g t #[v0, v1, u2, u3, u4] := e1 ▸ h1.set_ 1 v1
  obtain ⟨X3, e2⟩ : ∃ X, X2.setCell ⟨g, 2, none⟩ v2 = X := ⟨_, rfl⟩
  have h3 : Blk X3 g t #[v0, v1, v2, u3, u4] := e2 ▸ h2.set_ 2 v2
  obtain ⟨X4, e3⟩ : ∃ X, X3.setCell ⟨g, 3, none⟩ v3 = X := ⟨_, rfl⟩
  have h4 : Blk X4 g t #[v0, v1, v2, v3, u4] := e3 ▸ h3.set_ 3 v3
  obtain ⟨X5, e4⟩ : ∃ X, X4.setCell ⟨g, 4, none⟩ v4 = X := ⟨_, rfl⟩
  have h5 : Blk X5 g t #[v0, v1, v2, v3, v4] := e4 ▸ h4.set_ 4 v4
  refine ⟨X1, X2, X3, X4, X5, e0, e1, e2, e3, e4, h0.frozen 0, h1.frozen 1, h2.frozen 2, h3.frozen 3, h4.frozen 4, h0.cell 0, h1.cell 1, h2.cell 2, h3.cell 3, h4.cell 4, h5.cell 0, h5.cell 1, h5.cell 2, h5.cell 3, h5.cell 4, Lib.hid h5, Lib.hid fun k hk => ?_, Lib.hid fun B V hB hb => ?_⟩
  · rw [← e4, ← e3, ← e2, ← e1, ← e0]
    exact ((((Below.heap_setCell _ _ _ k hk).trans (Below.heap_setCell _ _ _ k hk)).trans (Below.heap_setCell _ _ _ k hk)).trans (Below.heap_setCell _ _ _ k hk)).trans (Below.heap_setCell _ _ _ k hk)
  · rw [← e4, ← e3, ← e2, ← e1, ← e0]
    exact (((((hb).setCell (p := ⟨g, 0, none⟩) hB _).setCell (p := ⟨g, 1, none⟩) hB _).setCell (p := ⟨g, 2, none⟩) hB _).setCell (p := ⟨g, 3, none⟩) hB _).setCell (p := ⟨g, 4, none⟩) hB _
/-- What took answers. -/
def took15 (A : Option Addr) (n c : Nat) (i : Int) (L : Option Addr) (m d : Nat) (mx me : Int) (B : Option Addr) (n2 c2 : Nat) (j : Int) (K : Option Addr) (m2 d2 : Nat) (tx te : Int) : Array Value :=
  if me = 0 then (if te = 0 then #[.slice B n2 c2, .int .i64 j, .slice K m2 d2, .int .i64 tx, .int .i64 0] else #[.slice none 0 0, .int .i64 0, .slice none 0 0, .int .i64 0, .int .i64 te]) else #[.slice A n c, .int .i64 i, .slice L m d, .int .i64 mx, .int .i64 me]
set_option maxHeartbeats 2000000 in
theorem took15_any {A L B K E : Option Addr} (n c m d n2 c2 m2 d2 q f : Nat) (i j mx me tx te : Int) (w : World) :
    Calls Try.prog 47 #[.agg #[.slice A n c, .int .i64 i, .slice L m d, .int .i64 mx, .int .i64 me], .agg #[.slice B n2 c2, .int .i64 j, .slice K m2 d2, .int .i64 tx, .slice E q f, .int .i64 te]] w fun e w' => e = .returned (.agg (took15 A n c i L m d mx me B n2 c2 j K m2 d2 tx te)) ∧ Below w.heap.size w w' := by
  unfold took15
  have hb := (((Below.refl _ w).alloc (Nat.le_refl _) (.cells #[.slice A n c, .int .i64 i, .slice L m d, .int .i64 mx, .int .i64 me] 72)).alloc (by simp) (.cells #[.slice B n2 c2, .int .i64 j, .slice K m2 d2, .int .i64 tx, .slice E q f, .int .i64 te] 98)).alloc (by simp; omega) (.cells #[.slice none 0 0, .int .i64 0, .slice none 0 0, .int .i64 0, .int .i64 0] 72)
  obtain ⟨W0, hW0⟩ : ∃ W0, ((w.alloc (.cells #[.slice A n c, .int .i64 i, .slice L m d, .int .i64 mx, .int .i64 me] 72)).alloc (.cells #[.slice B n2 c2, .int .i64 j, .slice K m2 d2, .int .i64 tx, .slice E q f, .int .i64 te] 98)).alloc (.cells #[.slice none 0 0, .int .i64 0, .slice none 0 0, .int .i64 0, .int .i64 0] 72) = W0 := ⟨_, rfl⟩
  have hp0 : Blk W0 w.heap.size 72 #[.slice A n c, .int .i64 i, .slice L m d, .int .i64 mx, .int .i64 me] := hW0 ▸ ((Blk.new w 72 #[.slice A n c, .int .i64 i, .slice L m d, .int .i64 mx, .int .i64 me]).alloc _).alloc _
  have hp1 : Blk W0 (w.heap.size + 1) 98 #[.slice B n2 c2, .int .i64 j, .slice K m2 d2, .int .i64 tx, .slice E q f, .int .i64 te] := by
    have h1 := (Blk.new (w.alloc (.cells #[.slice A n c, .int .i64 i, .slice L m d, .int .i64 mx, .int .i64 me] 72)) 98 #[.slice B n2 c2, .int .i64 j, .slice K m2 d2, .int .i64 tx, .slice E q f, .int .i64 te]).alloc (.cells #[.slice none 0 0, .int .i64 0, .slice none 0 0, .int .i64 0, .int .i64 0] 72)
    rw [World.size_alloc] at h1
    rw [← hW0]; exact h1
  have hp2 : Blk W0 (w.heap.size + 1 + 1) 72 #[.slice none 0 0, .int .i64 0, .slice none 0 0, .int .i64 0, .int .i64 0] := by
    have h1 := Blk.new ((w.alloc (.cells #[.slice A n c, .int .i64 i, .slice L m d, .int .i64 mx, .int .i64 me] 72)).alloc (.cells #[.slice B n2 c2, .int .i64 j, .slice K m2 d2, .int .i64 tx, .slice E q f, .int .i64 te] 98)) 72 #[.slice none 0 0, .int .i64 0, .slice none 0 0, .int .i64 0, .int .i64 0]
    rw [World.size_alloc, World.size_alloc] at h1
    rw [← hW0]; exact h1
  rw [hW0] at hb
  have a0 := hp0.cell 0
  have a1 := hp0.cell 1
  have a2 := hp0.cell 2
  have a3 := hp0.cell 3
  have a4 := hp0.cell 4
  have b0 := hp1.cell 0
  have b1 := hp1.cell 1
  have b2 := hp1.cell 2
  have b3 := hp1.cell 3
  have b5 := hp1.cell 5
  have HB := Lib.hid hb
  have HP := Lib.hid hp2
  clear hb hp0 hp1 hp2
  by_cases hm : me = 0
  · subst hm
    rw [if_pos rfl]
    by_cases ht : te = 0
    · subst ht
      rw [if_pos rfl]
      obtain ⟨Y1, Y2, Y3, Y4, Y5, e0, e1, e2, e3, e4, f0, f1, f2, f3, f4, g0, g1, g2, g3, g4, r0, r1, r2, r3, r4, -, -, HYB⟩ := n5_steps15 HP.out (.slice B n2 c2) (.int .i64 j) (.slice K m2 d2) (.int .i64 tx) (.int .i64 0)
      have HB3 := Lib.hid (HYB.out _ _ (by omega) HB.out)
      clear HYB
      go_enter Try.func47, Try.ntmps47
      go_wp2
      exact bodyPost_ret (v := .agg #[.slice B n2 c2, .int .i64 j, .slice K m2 d2, .int .i64 tx, .int .i64 0]) (by simp [results, Try.results47, go_sem, r0, r1, r2, r3, r4]) rfl ⟨rfl, HB3.out⟩
    · rw [if_neg ht]
      have hz : (te != (0 : Int)) = true := by rw [bne_iff_ne]; exact ht
      obtain ⟨Y1, Y2, Y3, Y4, Y5, e0, e1, e2, e3, e4, f0, f1, f2, f3, f4, g0, g1, g2, g3, g4, r0, r1, r2, r3, r4, -, -, HYB⟩ := n5_steps15 HP.out (.slice none 0 0) (.int .i64 0) (.slice none 0 0) (.int .i64 0) (.int .i64 te)
      have HB3 := Lib.hid (HYB.out _ _ (by omega) HB.out)
      clear HYB
      go_enter Try.func47, Try.ntmps47
      go_wp2
      exact bodyPost_ret (v := .agg #[.slice none 0 0, .int .i64 0, .slice none 0 0, .int .i64 0, .int .i64 te]) (by simp [results, Try.results47, go_sem, r0, r1, r2, r3, r4]) rfl ⟨rfl, HB3.out⟩
  · rw [if_neg hm]
    have hz : (me != (0 : Int)) = true := by rw [bne_iff_ne]; exact hm
    obtain ⟨Y1, Y2, Y3, Y4, Y5, e0, e1, e2, e3, e4, f0, f1, f2, f3, f4, g0, g1, g2, g3, g4, r0, r1, r2, r3, r4, -, -, HYB⟩ := n5_steps15 HP.out (.slice A n c) (.int .i64 i) (.slice L m d) (.int .i64 mx) (.int .i64 me)
    have HB3 := Lib.hid (HYB.out _ _ (by omega) HB.out)
    clear HYB
    go_enter Try.func47, Try.ntmps47
    go_wp2
    exact bodyPost_ret (v := .agg #[.slice A n c, .int .i64 i, .slice L m d, .int .i64 mx, .int .i64 me]) (by simp [results, Try.results47, go_sem, r0, r1, r2, r3, r4]) rfl ⟨rfl, HB3.out⟩
/-- What choices read, as a value: a draws, a choice, an error. -/
structure MM where
  A : Option Addr
  n : Nat
  c : Nat
  i : Int
  L : Option Addr
  m : Nat
  d : Nat
  mx : Int
  me : Int
def MM.dv (x : MM) : Value := .agg #[.slice x.A x.n x.c, .int .i64 x.i, .slice x.L x.m x.d]
def MM.cs (x : MM) : Array Value := #[.slice x.A x.n x.c, .int .i64 x.i, .slice x.L x.m x.d, .int .i64 x.mx, .int .i64 x.me]
def MM.v (x : MM) : Value := .agg x.cs
/-- What Take answers, as a value. -/
structure TA where
  B : Option Addr
  n2 : Nat
  c2 : Nat
  j : Int
  K : Option Addr
  m2 : Nat
  d2 : Nat
  tx : Int
  E : Option Addr
  q : Nat
  f : Nat
  te : Int
def TA.v (t : TA) : Value := .agg #[.slice t.B t.n2 t.c2, .int .i64 t.j, .slice t.K t.m2 t.d2, .int .i64 t.tx, .slice t.E t.q t.f, .int .i64 t.te]
def MM.took (x : MM) (t : TA) : MM := if x.me = 0 then (if t.te = 0 then ⟨t.B, t.n2, t.c2, t.j, t.K, t.m2, t.d2, t.tx, 0⟩ else ⟨none, 0, 0, 0, none, 0, 0, 0, t.te⟩) else x
theorem MM.took_any (x : MM) (t : TA) (w : World) : Calls Try.prog 47 #[x.v, t.v] w fun e w' => e = .returned (x.took t).v ∧ Below w.heap.size w w' := by
  refine (took15_any (A := x.A) (L := x.L) (B := t.B) (K := t.K) (E := t.E) x.n x.c x.m x.d t.n2 t.c2 t.m2 t.d2 t.q t.f x.i t.j x.mx x.me t.tx t.te w).mono ?_
  rintro e w' ⟨rfl, hb⟩
  refine ⟨?_, hb⟩
  unfold took15 MM.took MM.v MM.cs
  by_cases h1 : x.me = 0
  · rw [if_pos h1, if_pos h1]
    by_cases h2 : t.te = 0
    · rw [if_pos h2, if_pos h2]
    · rw [if_neg h2, if_neg h2]
  · rw [if_neg h1, if_neg h1]
/-- What is said of an answer stands as long as the blocks from B on stand. -/
structure KeptR (R : Nat → TA → World → Prop) : Prop where
  keep : ∀ {B t W W'}, R B t W → (∀ k, B ≤ k → k < W.heap.size → W'.heap[k]? = W.heap[k]?) → R B t W'
  less : ∀ {B B' t W}, R B t W → B' ≤ B → R B' t W
set_option maxHeartbeats 8000000 in
theorem below15_walk (x : MM) (b : Int) (w : World) (R : Nat → TA → World → Prop) (hR : KeptR R)
    (hT : ∀ W, Below w.heap.size w W → Calls Try.prog 48 #[x.dv, .int .i64 b] W fun e w' => ∃ t : TA, e = .returned t.v ∧ R W.heap.size t w' ∧ Below W.heap.size W w') :
    Calls Try.prog 24 #[x.v, .int .i64 b] w fun e w' => ∃ t : TA, e = .returned (x.took t).v ∧ R w.heap.size t w' ∧ Below w.heap.size w w' := by
  have htk := x.took_any
  generalize x.took = tk at *
  obtain ⟨xA, xn, xc, xi, xL, xm, xd, xx, xe⟩ := x
  unfold MM.dv at hT
  unfold MM.v MM.cs at htk ⊢
  dsimp only at hT htk ⊢
  have hb := ((Below.refl _ w).alloc (Nat.le_refl _) (.cells #[.slice xA xn xc, .int .i64 xi, .slice xL xm xd, .int .i64 xx, .int .i64 xe] 72)).alloc (by simp) (.cells #[.slice none 0 0, .int .i64 0, .slice none 0 0, .int .i64 0, .int .i64 0] 72)
  obtain ⟨W0, hW0⟩ : ∃ W0, (w.alloc (.cells #[.slice xA xn xc, .int .i64 xi, .slice xL xm xd, .int .i64 xx, .int .i64 xe] 72)).alloc (.cells #[.slice none 0 0, .int .i64 0, .slice none 0 0, .int .i64 0, .int .i64 0] 72) = W0 := ⟨_, rfl⟩
  have hp0 : Blk W0 w.heap.size 72 #[.slice xA xn xc, .int .i64 xi, .slice xL xm xd, .int .i64 xx, .int .i64 xe] := hW0 ▸ (Blk.new w 72 #[.slice xA xn xc, .int .i64 xi, .slice xL xm xd, .int .i64 xx, .int .i64 xe]).alloc _
  have hp2 : Blk W0 (w.heap.size + 1) 72 #[.slice none 0 0, .int .i64 0, .slice none 0 0, .int .i64 0, .int .i64 0] := by
    have h1 := Blk.new (w.alloc (.cells #[.slice xA xn xc, .int .i64 xi, .slice xL xm xd, .int .i64 xx, .int .i64 xe] 72)) 72 #[.slice none 0 0, .int .i64 0, .slice none 0 0, .int .i64 0, .int .i64 0]
    rw [World.size_alloc] at h1
    rw [← hW0]; exact h1
  rw [hW0] at hb
  have HB := Lib.hid hb
  have HP0 := Lib.hid hp0
  have HP2 := Lib.hid hp2
  have HT := Lib.hid hT
  have HTK := Lib.hid htk
  have HR := Lib.hid hR
  have HSK : Hid (∀ W', Below W0.heap.size W0 W' → W'.cell? ⟨w.heap.size, 0, none⟩ = some (.slice xA xn xc) ∧ W'.cell? ⟨w.heap.size, 1, none⟩ = some (.int .i64 xi) ∧ W'.cell? ⟨w.heap.size, 2, none⟩ = some (.slice xL xm xd) ∧ W'.cell? ⟨w.heap.size, 3, none⟩ = some (.int .i64 xx) ∧ W'.cell? ⟨w.heap.size, 4, none⟩ = some (.int .i64 xe)) := Lib.hid fun W' hb =>
    have h1 := HP0.out.below hb HP0.out.lt
    ⟨h1.cell 0, h1.cell 1, h1.cell 2, h1.cell 3, h1.cell 4⟩
  have BR := Lib.hid (Below.refl W0.heap.size W0)
  have BD := Lib.hid ((Below.refl W0.heap.size W0).drew)
  have HWB : Hid (∀ W', Below W0.heap.size W0 W' → Below w.heap.size w W') := Lib.hid fun W' hb => HB.out.trans (hb.mono HB.out.size)
  clear hb hp0 hp2 hT htk hR
  go_enter Try.func24, Try.ntmps24
  go_wp2_with (fail)
  go_region_held3 (fun W' => W'.cell? ⟨w.heap.size, 0, none⟩ = some (.slice xA xn xc) ∧ W'.cell? ⟨w.heap.size, 1, none⟩ = some (.int .i64 xi) ∧ W'.cell? ⟨w.heap.size, 2, none⟩ = some (.slice xL xm xd) ∧ W'.cell? ⟨w.heap.size, 3, none⟩ = some (.int .i64 xx) ∧ W'.cell? ⟨w.heap.size, 4, none⟩ = some (.int .i64 xe))
    (first | (refine HSK.out _ ?_; first | with_reducible exact BR.out | with_reducible exact BD.out | with_reducible exact hA | with_reducible exact hB) | exact hYC)
    (first
      | (go_at_call 48; refine (HT.out _ (HWB.out _ BD.out)).mono ?_; rintro e wa ⟨t, rfl, hrt, hba⟩; have hA : Below W0.heap.size W0 wa := BD.out.trans (hba.mono BD.out.size); obtain ⟨tB, tn2, tc2, tj, tK, tm2, td2, ttx, tE, tq, tf, tte⟩ := t; unfold TA.v)
      | (go_at_call 47; refine (HTK.out ⟨tB, tn2, tc2, tj, tK, tm2, td2, ttx, tE, tq, tf, tte⟩ _).mono ?_; rintro e wb ⟨rfl, hbb⟩; have hB : Below W0.heap.size W0 wb := hA.trans (hbb.mono hA.size); obtain ⟨z, hz⟩ : ∃ z, tk ⟨tB, tn2, tc2, tj, tK, tm2, td2, ttx, tE, tq, tf, tte⟩ = z := ⟨_, rfl⟩; rw [hz]; obtain ⟨zA, zn, zc, zi, zL, zm, zd, zx, ze⟩ := z; dsimp only; have hk5 := HP2.out.below hB HP2.out.lt; obtain ⟨Z1, Z2, Z3, Z4, Z5, e0, e1, e2, e3, e4, f0, f1, f2, f3, f4, g0, g1, g2, g3, g4, r0, r1, r2, r3, r4, -, hyh, HYB⟩ := n5_steps15 hk5 (.slice zA zn zc) (.int .i64 zi) (.slice zL zm zd) (.int .i64 zx) (.int .i64 ze); have hk6 := HP0.out.below hB HP0.out.lt; have hk7 : Blk Z5 w.heap.size 72 #[.slice xA xn xc, .int .i64 xi, .slice xL xm xd, .int .i64 xx, .int .i64 xe] := (hyh.out _ (by omega)).trans hk6; have hYC := And.intro (hk7.cell 0) (And.intro (hk7.cell 1) (And.intro (hk7.cell 2) (And.intro (hk7.cell 3) (hk7.cell 4)))); have HBZ := Lib.hid (HYB.out _ _ (by omega) (HWB.out _ hB)); have HRZ := Lib.hid (HR.out.less (HR.out.keep (HR.out.keep hrt fun k _ hk => hbb.block k hk) fun k hk1 _ => hyh.out k (by have := BD.out.size; have := HP2.out.lt; omega)) (Nat.le_trans HB.out.size BD.out.size))))
  have HZ := Lib.hid hz
  clear hz hrt hba hbb hA hB hk5 hk6 hk7 hyh HYB hYC
  go_wp2
  exact bodyPost_ret (v := .agg #[.slice zA zn zc, .int .i64 zi, .slice zL zm zd, .int .i64 zx, .int .i64 ze]) (by simp [results, Try.results24, go_sem, r0, r1, r2, r3, r4]) rfl ⟨_, by rw [HZ.out], HRZ.out, HBZ.out⟩
set_option maxHeartbeats 8000000 in
theorem number15_walk (x : MM) (code mem stack val : Int) {W : Option Addr} (wn wc : Nat) (w : World) (R : Nat → TA → World → Prop) (hR : KeptR R)
    (hT : ∀ W, Below w.heap.size w W → Calls Try.prog 81 #[x.dv, .int .i64 val] W fun e w' => ∃ t : TA, e = .returned t.v ∧ R W.heap.size t w' ∧ Below W.heap.size W w') :
    Calls Try.prog 50 #[x.v, .agg #[.int .i64 code, .int .i64 mem, .int .i64 stack, .int .i64 val, .slice W wn wc]] w fun e w' => ∃ t : TA, e = .returned (x.took t).v ∧ R w.heap.size t w' ∧ Below w.heap.size w w' := by
  have htk := x.took_any
  generalize x.took = tk at *
  obtain ⟨xA, xn, xc, xi, xL, xm, xd, xx, xe⟩ := x
  unfold MM.dv at hT
  unfold MM.v MM.cs at htk ⊢
  dsimp only at hT htk ⊢
  have hb := (((Below.refl _ w).alloc (Nat.le_refl _) (.cells #[.slice xA xn xc, .int .i64 xi, .slice xL xm xd, .int .i64 xx, .int .i64 xe] 72)).alloc (by simp) (.cells #[.int .i64 code, .int .i64 mem, .int .i64 stack, .int .i64 val, .slice W wn wc] 28)).alloc (by simp; omega) (.cells #[.slice none 0 0, .int .i64 0, .slice none 0 0, .int .i64 0, .int .i64 0] 72)
  obtain ⟨W0, hW0⟩ : ∃ W0, ((w.alloc (.cells #[.slice xA xn xc, .int .i64 xi, .slice xL xm xd, .int .i64 xx, .int .i64 xe] 72)).alloc (.cells #[.int .i64 code, .int .i64 mem, .int .i64 stack, .int .i64 val, .slice W wn wc] 28)).alloc (.cells #[.slice none 0 0, .int .i64 0, .slice none 0 0, .int .i64 0, .int .i64 0] 72) = W0 := ⟨_, rfl⟩
  have hp0 : Blk W0 w.heap.size 72 #[.slice xA xn xc, .int .i64 xi, .slice xL xm xd, .int .i64 xx, .int .i64 xe] := hW0 ▸ ((Blk.new w 72 #[.slice xA xn xc, .int .i64 xi, .slice xL xm xd, .int .i64 xx, .int .i64 xe]).alloc _).alloc _
  have hp1 : Blk W0 (w.heap.size + 1) 28 #[.int .i64 code, .int .i64 mem, .int .i64 stack, .int .i64 val, .slice W wn wc] := by
    have h1 := (Blk.new (w.alloc (.cells #[.slice xA xn xc, .int .i64 xi, .slice xL xm xd, .int .i64 xx, .int .i64 xe] 72)) 28 #[.int .i64 code, .int .i64 mem, .int .i64 stack, .int .i64 val, .slice W wn wc]).alloc (.cells #[.slice none 0 0, .int .i64 0, .slice none 0 0, .int .i64 0, .int .i64 0] 72)
    rw [World.size_alloc] at h1
    rw [← hW0]; exact h1
  have hp2 : Blk W0 (w.heap.size + 1 + 1) 72 #[.slice none 0 0, .int .i64 0, .slice none 0 0, .int .i64 0, .int .i64 0] := by
    have h1 := Blk.new ((w.alloc (.cells #[.slice xA xn xc, .int .i64 xi, .slice xL xm xd, .int .i64 xx, .int .i64 xe] 72)).alloc (.cells #[.int .i64 code, .int .i64 mem, .int .i64 stack, .int .i64 val, .slice W wn wc] 28)) 72 #[.slice none 0 0, .int .i64 0, .slice none 0 0, .int .i64 0, .int .i64 0]
    rw [World.size_alloc, World.size_alloc] at h1
    rw [← hW0]; exact h1
  rw [hW0] at hb
  have HB := Lib.hid hb
  have HP0 := Lib.hid hp0
  have HP1 := Lib.hid hp1
  have HP2 := Lib.hid hp2
  have HT := Lib.hid hT
  have HTK := Lib.hid htk
  have HR := Lib.hid hR
  have HSK : Hid (∀ W', Below W0.heap.size W0 W' → W'.cell? ⟨w.heap.size, 0, none⟩ = some (.slice xA xn xc) ∧ W'.cell? ⟨w.heap.size, 1, none⟩ = some (.int .i64 xi) ∧ W'.cell? ⟨w.heap.size, 2, none⟩ = some (.slice xL xm xd) ∧ W'.cell? ⟨w.heap.size, 3, none⟩ = some (.int .i64 xx) ∧ W'.cell? ⟨w.heap.size, 4, none⟩ = some (.int .i64 xe) ∧ W'.cell? ⟨w.heap.size + 1, 3, none⟩ = some (.int .i64 val)) := Lib.hid fun W' hb =>
    have h1 := HP0.out.below hb HP0.out.lt
    have h2 := HP1.out.below hb HP1.out.lt
    ⟨h1.cell 0, h1.cell 1, h1.cell 2, h1.cell 3, h1.cell 4, h2.cell 3⟩
  have BR := Lib.hid (Below.refl W0.heap.size W0)
  have BD := Lib.hid ((Below.refl W0.heap.size W0).drew)
  have HWB : Hid (∀ W', Below W0.heap.size W0 W' → Below w.heap.size w W') := Lib.hid fun W' hb => HB.out.trans (hb.mono HB.out.size)
  clear hb hp0 hp1 hp2 hT htk hR
  go_enter Try.func50, Try.ntmps50
  go_wp2_with (fail)
  go_region_held3 (fun W' => W'.cell? ⟨w.heap.size, 0, none⟩ = some (.slice xA xn xc) ∧ W'.cell? ⟨w.heap.size, 1, none⟩ = some (.int .i64 xi) ∧ W'.cell? ⟨w.heap.size, 2, none⟩ = some (.slice xL xm xd) ∧ W'.cell? ⟨w.heap.size, 3, none⟩ = some (.int .i64 xx) ∧ W'.cell? ⟨w.heap.size, 4, none⟩ = some (.int .i64 xe) ∧ W'.cell? ⟨w.heap.size + 1, 3, none⟩ = some (.int .i64 val))
    (first | (refine HSK.out _ ?_; first | with_reducible exact BR.out | with_reducible exact BD.out | with_reducible exact hA | with_reducible exact hB) | exact hYC)
    (first
      | (go_at_call 81; refine (HT.out _ (HWB.out _ BD.out)).mono ?_; rintro e wa ⟨t, rfl, hrt, hba⟩; have hA : Below W0.heap.size W0 wa := BD.out.trans (hba.mono BD.out.size); obtain ⟨tB, tn2, tc2, tj, tK, tm2, td2, ttx, tE, tq, tf, tte⟩ := t; unfold TA.v)
      | (go_at_call 47; refine (HTK.out ⟨tB, tn2, tc2, tj, tK, tm2, td2, ttx, tE, tq, tf, tte⟩ _).mono ?_; rintro e wb ⟨rfl, hbb⟩; have hB : Below W0.heap.size W0 wb := hA.trans (hbb.mono hA.size); obtain ⟨z, hz⟩ : ∃ z, tk ⟨tB, tn2, tc2, tj, tK, tm2, td2, ttx, tE, tq, tf, tte⟩ = z := ⟨_, rfl⟩; rw [hz]; obtain ⟨zA, zn, zc, zi, zL, zm, zd, zx, ze⟩ := z; dsimp only; have hk5 := HP2.out.below hB HP2.out.lt; obtain ⟨Z1, Z2, Z3, Z4, Z5, e0, e1, e2, e3, e4, f0, f1, f2, f3, f4, g0, g1, g2, g3, g4, r0, r1, r2, r3, r4, -, hyh, HYB⟩ := n5_steps15 hk5 (.slice zA zn zc) (.int .i64 zi) (.slice zL zm zd) (.int .i64 zx) (.int .i64 ze); have hk6 := HP0.out.below hB HP0.out.lt; have hk7 : Blk Z5 w.heap.size 72 #[.slice xA xn xc, .int .i64 xi, .slice xL xm xd, .int .i64 xx, .int .i64 xe] := (hyh.out _ (by omega)).trans hk6; have hk8 := HP1.out.below hB HP1.out.lt; have hk9 : Blk Z5 (w.heap.size + 1) 28 #[.int .i64 code, .int .i64 mem, .int .i64 stack, .int .i64 val, .slice W wn wc] := (hyh.out _ (by omega)).trans hk8; have hYC := And.intro (hk7.cell 0) (And.intro (hk7.cell 1) (And.intro (hk7.cell 2) (And.intro (hk7.cell 3) (And.intro (hk7.cell 4) (hk9.cell 3))))); have HBZ := Lib.hid (HYB.out _ _ (by omega) (HWB.out _ hB)); have HRZ := Lib.hid (HR.out.less (HR.out.keep (HR.out.keep hrt fun k _ hk => hbb.block k hk) fun k hk1 _ => hyh.out k (by have := BD.out.size; have := HP2.out.lt; omega)) (Nat.le_trans HB.out.size BD.out.size))))
  have HZ := Lib.hid hz
  clear hz hrt hba hbb hA hB hk5 hk6 hk7 hk8 hk9 hyh HYB hYC
  go_wp2
  exact bodyPost_ret (v := .agg #[.slice zA zn zc, .int .i64 zi, .slice zL zm zd, .int .i64 zx, .int .i64 ze]) (by simp [results, Try.results50, go_sem, r0, r1, r2, r3, r4]) rfl ⟨_, by rw [HZ.out], HRZ.out, HBZ.out⟩
end Go.Proofs.Ytmbgndcahlopdaa

/- The reference of stage 15: Below and Number, by what choices tell plainly. -/
namespace Go.Proofs.Ytmbgndcahlopdaa
set_option maxRecDepth 100000
open Go.RowKit Go.Shelf
attribute [local go_sem] Oper.semAt_some

def Gn.run {α β : Type} (f : Gn.G α) (r : Option (β × Gn.D)) : Option (α × Gn.D) := match r with
  | none => none
  | some (_, d) => f d
theorem Gn.tk_no {list : List Int} {b : Int} {d : Gn.D} (h : d.log.length = 2000) : Gn.tk list b d = none := by unfold Gn.tk; rw [if_pos h]
theorem Gn.tk_yes {list : List Int} {b : Int} {d : Gn.D} (h : ¬ d.log.length = 2000) : Gn.tk list b d = some (Dr.choice list d.i b, ⟨Dr.next list d.i, d.log ++ [Dr.choice list d.i b]⟩) := by unfold Gn.tk; rw [if_neg h]
theorem Gn.num_no {list : List Int} {val : Int} {d : Gn.D} (h : d.log.length = 2000) : Gn.num list val d = none := by unfold Gn.num; rw [Gn.bnd_none (Gn.tk_no h)]
theorem Gn.num_yes {list : List Int} {val : Int} {d : Gn.D} (h : ¬ d.log.length = 2000) : Gn.num list val d = some (Pk.made (Dr.choice list d.i (2 * val + 1)).toNat, ⟨Dr.next list d.i, d.log ++ [Dr.choice list d.i (2 * val + 1)]⟩) := by unfold Gn.num; rw [Gn.bnd_some (Gn.tk_yes h)]; rfl
/-- The shape of what reads choices: of a list at A. -/
def MSh (A : Option Addr) (n c : Nat) (y : MM) : Option (Int × Gn.D) → Prop
  | some (z, d) => y = ⟨A, n, c, d.i, y.L, d.log.length, y.d, z, 0⟩ ∧ d.log.length ≤ 2000
  | none => y = ⟨none, 0, 0, 0, none, 0, 0, 0, 8⟩
/-- The row of what was chosen. -/
def LogAt {α : Type} (W : World) (y : MM) (r : Option (α × Gn.D)) : Prop := ∀ z d, r = some (z, d) → Row W W.heap.size y.L (ints d.log)
/-- It is a new one. -/
def LogNew {α : Type} (B : Nat) (W : World) (y : MM) (r : Option (α × Gn.D)) : Prop := ∀ z d, r = some (z, d) → W.ownsRow B 3 1 (.slice y.L d.log.length y.d) d.log.length (ints d.log)
theorem LogNew.at_ {α : Type} {B : Nat} {W : World} {y : MM} {r : Option (α × Gn.D)} (h : LogNew B W y r) : LogAt W y r := fun z d e => (ownT_row (h z d e)).1
/-- What a choice answers. -/
def Chose (w : World) (A : Option Addr) (n c : Nat) (r : Option (Int × Gn.D)) (e : Ending) (w' : World) : Prop := ∃ y : MM, e = .returned y.v ∧ MSh A n c y r ∧ LogNew w.heap.size w' y r ∧ Below w.heap.size w w'
theorem KeptR.any : KeptR (fun _ _ _ => True) := ⟨fun _ _ => trivial, fun _ _ => trivial⟩
/-- An answer of Take's, where it chooses. -/
def TookR (A : Option Addr) (n c : Nat) (j m : Nat) (x : Int) (log : List Int) (B : Nat) (t : TA) (W : World) : Prop := ∃ K d2, t = ⟨A, n, c, (j : Int), K, m, d2, x, none, 0, 0, 0⟩ ∧ W.ownsRow B 3 1 (.slice K m d2) m (ints log)
theorem KeptR.took (A : Option Addr) (n c j m : Nat) (x : Int) (log : List Int) : KeptR (TookR A n c j m x log) := ⟨fun h hk => by
    obtain ⟨K, d2, rfl, ho⟩ := h
    exact ⟨K, d2, rfl, own_ofD ho fun g' hg' => hk g' (ho.lt g' hg').1 (ho.lt g' hg').2⟩, fun h hB => by
    obtain ⟨K, d2, rfl, ho⟩ := h
    exact ⟨K, d2, rfl, ownT_mono ho hB⟩⟩
theorem KeptR.no : KeptR (fun _ t _ => t = ⟨none, 0, 0, 0, none, 0, 0, 0, none, 0, 0, 8⟩) := ⟨fun h _ => h, fun h _ => h⟩
theorem right15 {n m i : Nat} (hn : n ≤ 500) (hm : m ≤ 2000) : Dr.right n (i : Int) m = true := by
  unfold Dr.right
  exact decide_eq_true (by omega)
theorem rBelow15_any {A : Option Addr} {list : List Int} (n c : Nat) (x : MM) (r : Option (Int × Gn.D)) (b : Int) (w : World) (hx : MSh A n c x r) (hA : Row w w.heap.size A (ints list)) (hn : list.length = n) (hn5 : n ≤ 500) (hL : LogAt w x r) (h1 : 1 ≤ b) (hB : b < 9223372036854775808) :
    Calls Try.prog 24 #[x.v, .int .i64 b] w (Chose w A n c (Gn.run (Gn.tk list b) r)) := by
  cases r with
  | none =>
    have hx : x = ⟨none, 0, 0, 0, none, 0, 0, 0, 8⟩ := hx
    subst hx
    refine (below15_walk _ b w (fun _ _ _ => True) KeptR.any fun W hW => ?_).mono ?_
    · have h := rTake13_yes (A := none) (L := none) (list := []) (log := []) 0 0 0 0 0 b W Row.nil Row.nil rfl rfl (by decide) h1 (by decide) hB
      refine h.mono ?_
      rintro e w' ⟨L', d', rfl, -, hb⟩
      exact ⟨⟨none, 0, 0, _, L', 0 + 1, d', _, none, 0, 0, 0⟩, rfl, trivial, hb⟩
    · rintro e w' ⟨t, rfl, -, hb⟩
      exact ⟨_, rfl, rfl, fun z d e => (by cases e), hb⟩
  | some p =>
    obtain ⟨z, d⟩ := p
    obtain ⟨hx, hm⟩ := hx
    obtain ⟨xA, xn, xc, xi, xL, xm, xd, xx, xe⟩ := x
    have hrow : Row w w.heap.size xL (ints d.log) := hL z d rfl
    injection hx with e1 e2 e3 e4 _ e6 _ e8 e9
    subst e1 e2 e3 e4 e6 e8 e9
    by_cases hm2 : d.log.length = 2000
    · refine (below15_walk _ b w (fun _ t _ => t = ⟨none, 0, 0, 0, none, 0, 0, 0, none, 0, 0, 8⟩) KeptR.no fun W hW => ?_).mono ?_
      · have h := rTake13_no (A := xA) (L := xL) xn xc d.log.length xd (d.i : Int) b W fun h3 => h3.2.2 hm2
        rw [if_pos ⟨right15 hn5 hm, h1⟩] at h
        refine h.mono ?_
        rintro e w' ⟨rfl, hb⟩
        exact ⟨_, rfl, rfl, hb⟩
      · rintro e w' ⟨t, rfl, rfl, hb⟩
        have e9 : Gn.run (Gn.tk list b) (some (xx, d)) = none := Gn.tk_no hm2
        rw [e9]
        exact ⟨_, rfl, rfl, fun z d e => (by cases e), hb⟩
    · refine (below15_walk _ b w (TookR xA xn xc (Dr.next list d.i) (d.log.length + 1) (Dr.choice list d.i b) (d.log ++ [Dr.choice list d.i b])) (KeptR.took _ _ _ _ _ _ _) fun W hW => ?_).mono ?_
      · have h := rTake13_yes (A := xA) (L := xL) xn xc d.log.length xd d.i b W ((hA.below hW).more hW.size) ((hrow.below hW).more hW.size) hn rfl (right15 hn5 hm) h1 hm2 hB
        refine h.mono ?_
        rintro e w' ⟨L', d', rfl, ho, hb⟩
        exact ⟨_, rfl, ⟨L', d', rfl, ho⟩, hb⟩
      · rintro e w' ⟨t, rfl, ⟨K, d2, rfl, ho⟩, hb⟩
        have e9 : Gn.run (Gn.tk list b) (some (xx, d)) = some (Dr.choice list d.i b, ⟨Dr.next list d.i, d.log ++ [Dr.choice list d.i b]⟩) := Gn.tk_yes hm2
        rw [e9]
        have e10 : (d.log ++ [Dr.choice list d.i b]).length = d.log.length + 1 := by simp
        refine ⟨_, rfl, ⟨?_, by rw [e10]; omega⟩, fun z' d' e => ?_, hb⟩
        · rw [e10]; rfl
        · injection e with e
          injection e with _ e
          subst e
          rw [e10]
          exact ho
theorem rNumber15_any {A W0 : Option Addr} {list : List Int} (n c : Nat) (x : MM) (r : Option (Int × Gn.D)) (p : Gn.Sp) (wc : Nat) (w : World) (hx : MSh A n c x r) (hA : Row w w.heap.size A (ints list)) (hn : list.length = n) (hn5 : n ≤ 500) (hL : LogAt w x r) (hv : 0 ≤ p.val ∧ p.val ≤ 20) :
    Calls Try.prog 50 #[x.v, spv p W0 wc] w (Chose w A n c (Gn.run (Gn.num list p.val) r)) := by
  obtain ⟨code, mem, stack, val, ws⟩ := p
  unfold spv
  dsimp only at hv ⊢
  have h1 : (1 : Int) ≤ 2 * val + 1 := by omega
  have hB : 2 * val + 1 < 9223372036854775808 := by omega
  cases r with
  | none =>
    have hx : x = ⟨none, 0, 0, 0, none, 0, 0, 0, 8⟩ := hx
    subst hx
    refine (number15_walk _ code mem stack val ws.length wc w (fun _ _ _ => True) KeptR.any fun W hW => ?_).mono ?_
    · have hlow := Dr.choice_low (list := []) (i := 0) h1
      have h := rSigned14_yes (A := none) (L := none) (log := []) 0 0 0 0 (Dr.next [] 0) (Dr.choice [] 0 (2 * val + 1)).toNat 0 val W hv (by omega) fun W2 h2 => by
        have h := rTake13_yes (A := none) (L := none) (list := []) (log := []) 0 0 0 0 0 (2 * val + 1) W2 Row.nil Row.nil rfl rfl (by decide) h1 (by decide) hB
        rw [Int.toNat_of_nonneg hlow.1]
        exact h
      refine h.mono ?_
      rintro e w' ⟨L', d', rfl, -, hb⟩
      exact ⟨⟨none, 0, 0, _, L', 0 + 1, d', _, none, 0, 0, 0⟩, rfl, trivial, hb⟩
    · rintro e w' ⟨t, rfl, -, hb⟩
      exact ⟨_, rfl, rfl, fun z d e => (by cases e), hb⟩
  | some p =>
    obtain ⟨z, d⟩ := p
    obtain ⟨hx, hm⟩ := hx
    obtain ⟨xA, xn, xc, xi, xL, xm, xd, xx, xe⟩ := x
    have hrow : Row w w.heap.size xL (ints d.log) := hL z d rfl
    injection hx with e1 e2 e3 e4 _ e6 _ e8 e9
    subst e1 e2 e3 e4 e6 e8 e9
    by_cases hm2 : d.log.length = 2000
    · refine (number15_walk _ code mem stack val ws.length wc w (fun _ t _ => t = ⟨none, 0, 0, 0, none, 0, 0, 0, none, 0, 0, 8⟩) KeptR.no fun W hW => ?_).mono ?_
      · have h := rSigned14_no (A := xA) (L := xL) xn xc d.log.length xd 8 (d.i : Int) val W hv (.inr rfl) fun W2 h2 => by
          have h := rTake13_no (A := xA) (L := xL) xn xc d.log.length xd (d.i : Int) (2 * val + 1) W2 fun h3 => h3.2.2 hm2
          rw [if_pos ⟨right15 hn5 hm, h1⟩] at h
          exact h
        refine h.mono ?_
        rintro e w' ⟨rfl, hb⟩
        exact ⟨_, rfl, rfl, hb⟩
      · rintro e w' ⟨t, rfl, rfl, hb⟩
        have e9 : Gn.run (Gn.num list val) (some (xx, d)) = none := Gn.num_no hm2
        rw [e9]
        exact ⟨_, rfl, rfl, fun z d e => (by cases e), hb⟩
    · have hlow := Dr.choice_low (list := list) (i := d.i) h1
      refine (number15_walk _ code mem stack val ws.length wc w (TookR xA xn xc (Dr.next list d.i) (d.log.length + 1) (Pk.made (Dr.choice list d.i (2 * val + 1)).toNat) (d.log ++ [Dr.choice list d.i (2 * val + 1)])) (KeptR.took _ _ _ _ _ _ _) fun W hW => ?_).mono ?_
      · have h := rSigned14_yes (A := xA) (L := xL) (log := d.log) xn xc d.log.length xd (Dr.next list d.i) (Dr.choice list d.i (2 * val + 1)).toNat (d.i : Int) val W hv (by omega) fun W2 h2 => by
          have hb2 := hW.trans (h2.mono hW.size)
          have h := rTake13_yes (A := xA) (L := xL) xn xc d.log.length xd d.i (2 * val + 1) W2 ((hA.below hb2).more hb2.size) ((hrow.below hb2).more hb2.size) hn rfl (right15 hn5 hm) h1 hm2 hB
          rw [Int.toNat_of_nonneg hlow.1]
          exact h
        rw [Int.toNat_of_nonneg hlow.1] at h
        refine h.mono ?_
        rintro e w' ⟨L', d', rfl, ho, hb⟩
        exact ⟨_, rfl, ⟨L', d', rfl, ho⟩, hb⟩
      · rintro e w' ⟨t, rfl, ⟨K, d2, rfl, ho⟩, hb⟩
        have e9 : Gn.run (Gn.num list val) (some (xx, d)) = some (Pk.made (Dr.choice list d.i (2 * val + 1)).toNat, ⟨Dr.next list d.i, d.log ++ [Dr.choice list d.i (2 * val + 1)]⟩) := Gn.num_yes hm2
        rw [e9]
        have e10 : (d.log ++ [Dr.choice list d.i (2 * val + 1)]).length = d.log.length + 1 := by simp
        refine ⟨_, rfl, ⟨?_, by rw [e10]; omega⟩, fun z' d' e => ?_, hb⟩
        · rw [e10]; rfl
        · injection e with e
          injection e with _ e
          subst e
          rw [e10]
          exact ho
end Go.Proofs.Ytmbgndcahlopdaa

/- Package gen's maker in memory; choose. -/
namespace Go.Proofs.Ytmbgndcahlopdaa
set_option maxRecDepth 100000
open Go.RowKit Go.Shelf
attribute [local go_sem] Oper.semAt_some

/-- What stood stands, but for the block g. -/
structure Kpg (g : Nat) (w w' : World) : Prop where
  os : w'.os = w.os
  tape : w'.tape = w.tape
  output : w'.output = w.output
  size : w.heap.size ≤ w'.heap.size
  block : ∀ k, k < w.heap.size → k ≠ g → w'.heap[k]? = w.heap[k]?
section
variable {g : Nat} {a w w' w2 : World}
theorem Kpg.refl (g : Nat) (w : World) : Kpg g w w := ⟨rfl, rfl, rfl, Nat.le_refl _, fun _ _ _ => rfl⟩
theorem Kpg.trans (h : Kpg g a w) (k : Kpg g w w2) : Kpg g a w2 :=
  ⟨k.os.trans h.os, k.tape.trans h.tape, k.output.trans h.output, Nat.le_trans h.size k.size, fun i hi hg => (k.block i (Nat.lt_of_lt_of_le hi h.size) hg).trans (h.block i hi hg)⟩
theorem Kpg.below (g : Nat) (h : Below w.heap.size w w') : Kpg g w w' := ⟨h.os, h.tape, h.output, h.size, fun k hk _ => h.block k hk⟩
theorem Kpg.andBelow (h : Kpg g a w) (k : Below w.heap.size w w') : Kpg g a w' := h.trans (Kpg.below g k)
theorem Kpg.alloc (h : Kpg g a w) (o : Obj) : Kpg g a (w.alloc o) := h.andBelow ((Below.refl _ w).alloc (Nat.le_refl _) o)
theorem Kpg.setG (h : Kpg g a w) {p : Addr} (hp : p.block = g) (u : Value) : Kpg g a (w.setCell p u) :=
  ⟨h.os, h.tape, h.output, by simpa [World.setCell] using h.size, fun k hk hg => (Below.heap_setCell w p u k (by rw [hp]; exact hg)).trans (h.block k hk hg)⟩
theorem Kpg.setNew (h : Kpg g a w) {p : Addr} (hp : a.heap.size ≤ p.block) (u : Value) : Kpg g a (w.setCell p u) :=
  ⟨h.os, h.tape, h.output, by simpa [World.setCell] using h.size, fun k hk hg => (Below.heap_setCell w p u k (by omega)).trans (h.block k hk hg)⟩
theorem Kpg.grown {row : Option Nat} (h : Kpg g a w) (hg : w.grownBy w' row) (hr : ∀ k, row = some k → a.heap.size ≤ k) : Kpg g a w' :=
  ⟨hg.os.trans h.os, hg.tape.trans h.tape, hg.output.trans h.output, Nat.le_trans h.size hg.size, fun k hk hk2 => (hg.block k (Nat.lt_of_lt_of_le hk h.size) (fun e => by have := hr k e.symm; omega)).trans (h.block k hk hk2)⟩
/-- Below the block, all stands. -/
theorem Kpg.low {B : Nat} (h : Kpg g w w') (hB : B ≤ g) (hs : B ≤ w.heap.size) : Below B w w' := ⟨h.os, h.tape, h.output, h.size, fun k hk => h.block k (by omega) (by omega)⟩
end
theorem Blk.kpg {W W' : World} {g b : Nat} {t : TypeId} {cs : Array Value} (h : Blk W b t cs) (hk : Kpg g W W') (hb : b ≠ g) : Blk W' b t cs := (hk.block b h.lt hb).trans h
theorem own_kpg {W W' : World} {g base sz n : Nat} {e t : TypeId} {rv : Value} {xs : List Value} {cs : Array Value} (h : W.ownsRow base e sz rv n xs) (hk : Kpg g W W') (hb : Blk W g t cs) (ht : e ≠ t) : W'.ownsRow base e sz rv n xs :=
  own_ofD h fun k hk2 => by
    obtain ⟨cs', hc⟩ := own_blkD h hk2
    exact hk.block k hc.lt (hc.ty_neD hb ht)

/-- What rows of numbers ask of a step: all below g stands, and all blocks of numbers. -/
structure Mv (g : Nat) (W W' : World) : Prop where
  size : W.heap.size ≤ W'.heap.size
  low : ∀ k, k < g → k < W.heap.size → W'.heap[k]? = W.heap[k]?
  int : ∀ k cs, Blk W k 3 cs → Blk W' k 3 cs
section
variable {g : Nat} {W W' W2 : World}
theorem Mv.below (g : Nat) (h : Below W.heap.size W W') : Mv g W W' := ⟨h.size, fun k _ hl => h.block k hl, fun _ _ hb => hb.below h hb.lt⟩
theorem Mv.kpg {B : Nat} {cs : Array Value} {t : TypeId} (h : Kpg g W W') (hb : Blk W g t cs) (ht : 3 ≠ t) (hB : B ≤ g) : Mv B W W' := ⟨h.size, fun k hk hl => h.block k hl (by omega), fun _ _ hi => hi.kpg h (hi.ty_neD hb ht)⟩
theorem Mv.set_ {p : Addr} {cs : Array Value} {t : TypeId} (hb : Blk W p.block t cs) (ht : 3 ≠ t) (hg : g ≤ p.block) (u : Value) : Mv g W (W.setCell p u) :=
  ⟨by simp [World.setCell], fun k hk _ => Below.heap_setCell W p u k (by omega), fun _ _ hi => hi.other (fun e => hi.ty_neD hb ht e.symm) u⟩
/-- A row of numbers, that lies below g, or in a block of numbers. -/
def RowX (W : World) (g : Nat) (A : Option Addr) (l : List Int) : Prop := l ≠ [] → ∃ ad, A = some ad ∧ ad.block < W.heap.size ∧ (ad.block < g ∨ ∃ cs, Blk W ad.block 3 cs) ∧ ∀ j u, (ints l)[j]? = some u → W.cell? (ad.add j) = some u
variable {A : Option Addr} {l : List Int}
theorem RowX.row (h : RowX W g A l) : Row W W.heap.size A (ints l) := fun hn => by
  obtain ⟨ad, e, h1, -, h3⟩ := h (by rintro rfl; exact hn rfl)
  exact ⟨ad, e, h1, h3⟩
theorem RowX.move (h : RowX W g A l) (hm : Mv g W W') : RowX W' g A l := fun hn => by
  obtain ⟨ad, e, h1, h2, h3⟩ := h hn
  have hb : W'.heap[ad.block]? = W.heap[ad.block]? := by
    rcases h2 with h2 | ⟨cs, h2⟩
    · exact hm.low _ h2 h1
    · exact (hm.int _ _ h2).trans h2.symm
  refine ⟨ad, e, Nat.lt_of_lt_of_le h1 hm.size, h2.imp id fun ⟨cs, h2⟩ => ⟨cs, hm.int _ _ h2⟩, fun j u hu => ?_⟩
  exact (World.cell?_of_block (a := ad.add j) (by rw [add_block]; exact hb)).trans (h3 j u hu)
theorem RowX.of_low {B : Nat} (h : Row W B A (ints l)) (hB : B ≤ g) (hs : B ≤ W.heap.size) : RowX W g A l := fun hn => by
  obtain ⟨ad, e, hb, h3⟩ := h (by intro e; exact hn (List.map_eq_nil_iff.1 e))
  exact ⟨ad, e, by omega, .inl (by omega), h3⟩
theorem RowX.of_own {B n c : Nat} (h : W.ownsRow B 3 1 (.slice A n c) n (ints l)) : RowX W g A l := fun hn => by
  obtain ⟨ad, e, h1, h3⟩ := (ownT_row h).1 (by intro e; exact hn (List.map_eq_nil_iff.1 e))
  subst e
  exact ⟨ad, rfl, h1, .inr (own_blkD h rfl), h3⟩
end
def gi (r : Option (Int × Gn.D)) : Int := match r with
  | none => 0
  | some (x, _) => x
/-- The shape of the maker's draws and error. -/
def DSh {α : Type} (er n : Nat) (y : MM) : Option (α × Gn.D) → Prop
  | some (_, d) => y = ⟨y.A, n, y.c, d.i, y.L, d.log.length, y.d, 0, 0⟩ ∧ d.log.length ≤ 2000 ∧ d.i < 9223372036854775808
  | none => y = ⟨none, 0, 0, 0, none, 0, 0, 0, (er : Int)⟩
/-- Its rows. -/
def DRow {α : Type} (W : World) (g : Nat) (list : List Int) (y : MM) (r : Option (α × Gn.D)) : Prop := ∀ z d, r = some (z, d) → RowX W g y.A list ∧ RowX W g y.L d.log
/-- What the maker is made with. -/
structure MC where
  g : Nat
  k : Nat
  p : Gn.Sp
  Q : Option Addr
  f : Nat
  er : Nat
  n : Nat
  list : List Int
  B : Nat
def MC.cells (c : MC) (y : MM) : Array Value := #[.int .i64 (c.k : Int), .int .i64 c.p.code, .int .i64 c.p.mem, .int .i64 c.p.stack, .int .i64 c.p.val, .slice c.Q 13 c.f, .slice y.A y.n y.c, .int .i64 y.i, .slice y.L y.m y.d, .int .i64 y.me]
/-- The maker in memory. -/
structure Mkr {α : Type} (W : World) (c : MC) (y : MM) (r : Option (α × Gn.D)) : Prop where
  box : Blk W c.g 59 (c.cells y)
  sh : DSh c.er c.n y r
  rows : DRow W c.B c.list y r
  ws : RowX W c.B c.Q c.p.ws
  low : c.B ≤ c.g
section
variable {α : Type} {W W' : World} {c : MC} {y : MM} {r : Option (α × Gn.D)}
theorem Mkr.move (h : Mkr W c y r) (hm : Mv c.B W W') (hb : Blk W' c.g 59 (c.cells y)) : Mkr W' c y r :=
  ⟨hb, h.sh, fun z d e => ⟨(h.rows z d e).1.move hm, (h.rows z d e).2.move hm⟩, h.ws.move hm, h.low⟩
theorem Mkr.keep (h : Mkr W c y r) (hb : Below W.heap.size W W') : Mkr W' c y r := h.move (Mv.below _ hb) (h.box.below hb h.box.lt)
theorem Mkr.alloc (h : Mkr W c y r) (o : Obj) : Mkr (W.alloc o) c y r := h.keep ((Below.refl _ W).alloc (Nat.le_refl _) o)
/-- A block of another kind is turned. -/
theorem Mkr.set_ (h : Mkr W c y r) {p : Addr} {cs : Array Value} {t : TypeId} (hb : Blk W p.block t cs) (ht : 3 ≠ t) (hg : c.g < p.block) (u : Value) : Mkr (W.setCell p u) c y r :=
  h.move (Mv.set_ hb ht (Nat.le_trans h.low (Nat.le_of_lt hg)) u) (h.box.other (by omega) u)
end
theorem Mkr.map {α β : Type} {W : World} {c : MC} {y : MM} {r : Option (α × Gn.D)} (h : Mkr W c y r) (f : α → β) : Mkr W c y (r.map fun p => (f p.1, p.2)) := by
  refine ⟨h.box, ?_, fun z d e => ?_, h.ws, h.low⟩
  · cases r with
    | none => exact h.sh
    | some p => exact h.sh
  · cases r with
    | none => cases e
    | some p =>
      injection e with e
      injection e with _ e
      exact e ▸ h.rows p.1 p.2 rfl
/-- What a choice answers: the number, and the maker behind it. -/
def ChP (w : World) (c : MC) (r : Option (Int × Gn.D)) (e : Ending) (w' : World) : Prop := ∃ y, e = .returned (.int .i64 (gi r)) ∧ Mkr w' c y r ∧ Kpg c.g w w'

theorem mk4_steps {W : World} {g : Nat} {t : TypeId} {a0 a1 a2 a3 a4 a5 u6 u7 u8 u9 : Value} (h : Blk W g t #[a0, a1, a2, a3, a4, a5, u6, u7, u8, u9]) (v6 v7 v8 v9 : Value) : ∃ X1 X2 X3 X4, W.setCell ⟨g, 6, none⟩ v6 = X1 ∧ X1.setCell ⟨g, 7, none⟩ v7 = X2 ∧ X2.setCell ⟨g, 8, none⟩ v8 = X3 ∧ X3.setCell ⟨g, 9, none⟩ v9 = X4 ∧
    W.frozen? ⟨g, 6, none⟩ = false ∧ X1.frozen? ⟨g, 7, none⟩ = false ∧ X2.frozen? ⟨g, 8, none⟩ = false ∧ X3.frozen? ⟨g, 9, none⟩ = false ∧ W.cell? ⟨g, 6, none⟩ = some u6 ∧ X1.cell? ⟨g, 7, none⟩ = some u7 ∧ X2.cell? ⟨g, 8, none⟩ = some u8 ∧ X3.cell? ⟨g, 9, none⟩ = some u9 ∧
    Hid (Blk X4 g t #[a0, a1, a2, a3, a4, a5, v6, v7, v8, v9]) ∧ Hid (Kpg g W X4) := by
  obtain ⟨X1, e0⟩ : ∃ X, W.setCell ⟨g, 6, none⟩ v6 = X := ⟨_, rfl⟩
  have h1 : Blk X1 g t #[a0, a1, a2, a3, a4, a5, v6, u7, u8, u9] := e0 ▸ h.set_ 6 v6
  obtain ⟨X2, e1⟩ : ∃ X, X1.setCell ⟨g, 7, none⟩ v7 = X := ⟨_, rfl⟩
  have h2 : Blk X2 g t #[a0, a1, a2, a3, a4, a5, v6, v7, u8, u9] := e1 ▸ h1.set_ 7 v7
  obtain ⟨X3, e2⟩ : ∃ X, X2.setCell ⟨g, 8, none⟩ v8 = X := ⟨_, rfl⟩
  have h3 : Blk X3 g t #[a0, a1, a2, a3, a4, a5, v6, v7, v8, u9] := e2 ▸ h2.set_ 8 v8
  obtain ⟨X4, e3⟩ : ∃ X, X3.setCell ⟨g, 9, none⟩ v9 = X := ⟨_, rfl⟩
  have h4 : Blk X4 g t #[a0, a1, a2, a3, a4, a5, v6, v7, v8, v9] := e3 ▸ h3.set_ 9 v9
  refine ⟨X1, X2, X3, X4, e0, e1, e2, e3, h.frozen 6, h1.frozen 7, h2.frozen 8, h3.frozen 9, h.cell 6, h1.cell 7, h2.cell 8, h3.cell 9, Lib.hid h4, Lib.hid ?_⟩
  rw [← e3, ← e2, ← e1, ← e0]
  exact ((((Kpg.refl g W).setG rfl _).setG rfl _).setG rfl _).setG rfl _
set_option maxHeartbeats 2000000 in
theorem choose_none {c : MC} {y : MM} {z : Value} (w : World) (h : Mkr (α := Int) w c y none) (her : c.er ≠ 0) : Calls Try.prog 98 #[.pointer (some ⟨c.g, 0, none⟩), z] w (ChP w c none) := by
  have hy := h.sh
  have hy : y = ⟨none, 0, 0, 0, none, 0, 0, 0, (c.er : Int)⟩ := hy
  have q9 : w.cell? ⟨c.g, 9, none⟩ = some (.int .i64 (c.er : Int)) := by have h := h.box.cell 9; rw [hy] at h; exact h
  have hz : ((c.er : Int) != 0) = true := by rw [bne_iff_ne]; omega
  have H := Lib.hid h
  clear h hy
  go_enter Try.func98, Try.ntmps98
  go_wp2
  go_ret
  exact ⟨y, rfl, H.out, Kpg.refl _ _⟩
/-- What a reader of draws answers. -/
def ByR (w : World) (c : MC) (r : Option (Int × Gn.D)) (e : Ending) (w' : World) : Prop := ∃ y : MM, e = .returned (.tuple #[y.dv, .int .i64 (gi r), .int .i64 y.me]) ∧ DSh c.er c.n y r ∧ DRow w' c.B c.list y r ∧ Below w.heap.size w w'
set_option maxHeartbeats 4000000 in
theorem choose_go {c : MC} {y : MM} {fid : FuncId} {cap : Value} {r : Option (Int × Gn.D)} (w : World) (hbox : Blk w c.g 59 (c.cells y)) (hme : y.me = 0) (hws : RowX w c.B c.Q c.p.ws) (hlow : c.B ≤ c.g) (hen : ∀ args W, (callFunc fid args).run Try.prog W = .ok (.enter fid args) W)
    (hby : Calls Try.prog fid #[y.dv, cap] w (ByR w c r)) : Calls Try.prog 98 #[.pointer (some ⟨c.g, 0, none⟩), .func (.func fid) #[] #[cap]] w (ChP w c r) := by
  obtain ⟨g, k, p, Q, f, er, n, list, B⟩ := c
  dsimp only at hlow
  obtain ⟨yA, yn, yc, yi, yL, ym, yd, yx, ye⟩ := y
  dsimp only at hme
  subst hme
  have hbox : Blk w g 59 #[.int .i64 (k : Int), .int .i64 p.code, .int .i64 p.mem, .int .i64 p.stack, .int .i64 p.val, .slice Q 13 f, .slice yA yn yc, .int .i64 yi, .slice yL ym yd, .int .i64 0] := hbox
  have q6 := hbox.cell 6
  have q7 := hbox.cell 7
  have q8 := hbox.cell 8
  have q9 := hbox.cell 9
  have HBOX := Lib.hid hbox
  have HWS := Lib.hid hws
  have hby : Calls Try.prog fid #[.agg #[.slice yA yn yc, .int .i64 yi, .slice yL ym yd], cap] w (ByR w ⟨g, k, p, Q, f, er, n, list, B⟩ r) := hby
  have HBY := Lib.hid hby
  clear hbox hby hws
  go_enter Try.func98, Try.ntmps98
  go_wp2_with (fail)
  refine HBY.out.mono ?_
  rintro e w1 ⟨⟨xA, xn, xc, xi, xL, xm, xd, xx, xe⟩, rfl, hsh, hrow, hb⟩
  have hb1 := HBOX.out.below hb HBOX.out.lt
  obtain ⟨X1, X2, X3, X4, e0, e1, e2, e3, f0, f1, f2, f3, g0, g1, g2, g3, HX, HK⟩ := mk4_steps hb1 (.slice xA xn xc) (.int .i64 xi) (.slice xL xm xd) (.int .i64 xe)
  have HSH := Lib.hid hsh
  have HROW := Lib.hid hrow
  have HK2 := Lib.hid ((Kpg.below g hb).trans HK.out)
  have HMV := Lib.hid (Mv.kpg HK.out hb1 (by decide) hlow)
  have HMB := Lib.hid (Mv.below B hb)
  clear hb1 hsh hrow hb
  unfold MM.dv
  go_wp2
  go_ret
  exact ⟨⟨xA, xn, xc, xi, xL, xm, xd, xx, xe⟩, rfl, ⟨HX.out, HSH.out, fun z' d' e => ⟨((HROW.out z' d' e).1).move HMV.out, ((HROW.out z' d' e).2).move HMV.out⟩, (HWS.out.move HMB.out).move HMV.out, hlow⟩, HK2.out⟩
end Go.Proofs.Ytmbgndcahlopdaa

/- Package gen's maker: the closures that choose (by gen_gmb.py). -/
namespace Go.Proofs.Ytmbgndcahlopdaa
set_option maxRecDepth 100000
open Go.RowKit Go.Shelf
attribute [local go_sem] Oper.semAt_some

/-- As ByR, its rows new ones. -/
def ByO (w : World) (c : MC) (r : Option (Int × Gn.D)) (e : Ending) (w' : World) : Prop := ∃ y : MM, e = .returned (.tuple #[y.dv, .int .i64 (gi r), .int .i64 y.me]) ∧ DSh c.er c.n y r ∧
  (∀ z d, r = some (z, d) → w'.ownsRow w.heap.size 3 1 (.slice y.A c.n y.c) c.n (ints c.list) ∧ w'.ownsRow w.heap.size 3 1 (.slice y.L d.log.length y.d) d.log.length (ints d.log)) ∧ Below w.heap.size w w'
theorem ByO.by_ {w : World} {c : MC} {r : Option (Int × Gn.D)} {e : Ending} {w' : World} (h : ByO w c r e w') : ByR w c r e w' := by
  obtain ⟨y, he, hs, ho, hb⟩ := h
  exact ⟨y, he, hs, fun z d e => ⟨RowX.of_own (ho z d e).1, RowX.of_own (ho z d e).2⟩, hb⟩
theorem ByO.no {w : World} {c : MC} {e : Ending} {w' : World} (h : TakeNo13 w c.er e w') : ByO w c none e w' := ⟨⟨none, 0, 0, 0, none, 0, 0, 0, (c.er : Int)⟩, h.1, rfl, fun z d e => (by cases e), h.2⟩
theorem ByO.yes {w : World} {c : MC} {e : Ending} {w' : World} {log : List Int} {x v : Int} {i : Nat} (h : PTake14 w c.n log.length c.list log x v i e w') (hl : log.length < 2000) (hi : i < 9223372036854775808) : ByO w c (some (v, ⟨i, log ++ [x]⟩)) e w' := by
  obtain ⟨A, cc, L, d, rfl, hA, hL, hb⟩ := h
  have e10 : (log ++ [x]).length = log.length + 1 := by simp
  refine ⟨⟨A, c.n, cc, (i : Int), L, (log ++ [x]).length, d, 0, 0⟩, by rw [e10]; rfl, ⟨rfl, by show (log ++ [x]).length ≤ 2000; omega, hi⟩, fun z d' e => ?_, hb⟩
  injection e with e
  injection e with _ e
  subst e
  refine ⟨hA, ?_⟩
  show w'.ownsRow _ _ _ (.slice L (log ++ [x]).length d) (log ++ [x]).length _
  rw [e10]
  exact hL
/-- What holds of a maker. -/
structure MOk (c : MC) : Prop where
  len : c.list.length = c.n
  n5 : c.n ≤ 500
  fits : Gn.Fits c.k c.p
  k9 : c.k ≤ 1000
section
variable {c : MC} {y : MM} {z : Int} {d : Gn.D} (W : World)
theorem next_low {list : List Int} {i : Nat} (h : i < 9223372036854775808) (hl : list.length ≤ 500) : Dr.next list i < 9223372036854775808 := by
  unfold Dr.next
  split <;> omega
theorem dsh_y {er n : Nat} (hs : DSh er n y (some (z, d))) : y.dv = .agg #[.slice y.A n y.c, .int .i64 (d.i : Int), .slice y.L d.log.length y.d] := by
  have h := hs.1
  obtain ⟨yA, yn, yc, yi, yL, ym, yd, yx, ye⟩ := y
  injection h with e1 e2 e3 e4 e5 e6 e7 e8 e9
  try dsimp only at e2 e4 e6
  subst e2 e4 e6
  rfl
theorem dsh_me {er n : Nat} (hs : DSh er n y (some (z, d))) : y.me = 0 := by
  have h := hs.1
  obtain ⟨yA, yn, yc, yi, yL, ym, yd, yx, ye⟩ := y
  injection h
theorem takes_byO (ok : MOk c) (her : c.er = 8) (hs : DSh c.er c.n y (some (z, d))) (hA : RowX W c.B y.A c.list) (hL : RowX W c.B y.L d.log) {b : Int} (h1 : 1 ≤ b) (hB : b < 9223372036854775808) :
    Calls Try.prog 100 #[y.dv, .int .i64 b] W (ByO W c (Gn.tk c.list b d)) := by
  have hm := hs.2.1
  have hi := hs.2.2
  have hnx := next_low (list := c.list) hi (by rw [ok.len]; exact ok.n5)
  have hr := right15 (i := d.i) ok.n5 hm
  rw [dsh_y hs]
  by_cases hm2 : d.log.length = 2000
  · rw [Gn.tk_no hm2]
    have h := dTake14_no c.n y.c d.log.length y.d (d.i : Int) b W hA.row hL.row ok.len rfl h1 hB (by omega) fun h3 => h3.2 hm2
    rw [if_pos hr] at h
    exact h.mono fun e w' h => ByO.no (by rw [her]; exact h)
  · rw [Gn.tk_yes hm2]
    refine (dTake14_yes c.n y.c d.log.length y.d d.i b W hA.row hL.row ok.len rfl h1 hB (by omega) hr hm2).mono fun e w' h => ?_
    obtain ⟨A, cc, L, dd, rfl, hA2, hL2, hb⟩ := h
    exact ByO.yes ⟨A, cc, L, dd, rfl, hA2, hL2, hb⟩ (by omega) hnx
theorem signed_byO (ok : MOk c) (her : c.er = 8) (hs : DSh c.er c.n y (some (z, d))) (hA : RowX W c.B y.A c.list) (hL : RowX W c.B y.L d.log) :
    Calls Try.prog 108 #[y.dv, .int .i64 c.p.val] W (ByO W c (Gn.num c.list c.p.val d)) := by
  have hm := hs.2.1
  have hi := hs.2.2
  have hnx := next_low (list := c.list) hi (by rw [ok.len]; exact ok.n5)
  have hv0 := ok.fits.v0
  have hv1 := ok.fits.v1
  have hr := right15 (i := d.i) ok.n5 hm
  rw [dsh_y hs]
  by_cases hm2 : d.log.length = 2000
  · rw [Gn.num_no hm2]
    refine (pSigned14_no c.n y.c d.log.length y.d 8 (d.i : Int) c.p.val W ⟨hv0, hv1⟩ (.inr rfl) fun V hV => ?_).mono fun e w' h => ByO.no (by rw [her]; exact h)
    have h := dTake14_no c.n y.c d.log.length y.d (d.i : Int) (2 * c.p.val + 1) V ((hA.move (Mv.below _ hV)).row) ((hL.move (Mv.below _ hV)).row) ok.len rfl (by omega) (by omega) (by omega) fun h3 => h3.2 hm2
    rw [if_pos hr] at h
    exact h
  · rw [Gn.num_yes hm2]
    have hlo := Dr.choice_low (list := c.list) (i := d.i) (b := 2 * c.p.val + 1) (by omega)
    have hx : (((Dr.choice c.list d.i (2 * c.p.val + 1)).toNat : Nat) : Int) = Dr.choice c.list d.i (2 * c.p.val + 1) := by omega
    refine (pSigned14_yes (list := c.list) (log := d.log) c.n y.c d.log.length y.d (Dr.choice c.list d.i (2 * c.p.val + 1)).toNat (Dr.next c.list d.i) (d.i : Int) c.p.val W ⟨hv0, hv1⟩ (by omega) fun V hV => ?_).mono fun e w' h => ?_
    · rw [hx]
      exact dTake14_yes c.n y.c d.log.length y.d d.i (2 * c.p.val + 1) V ((hA.move (Mv.below _ hV)).row) ((hL.move (Mv.below _ hV)).row) ok.len rfl (by omega) (by omega) (by omega) hr hm2
    · rw [hx] at h
      exact ByO.yes h (by omega) hnx
theorem weighted_byO (ok : MOk c) (her : c.er = 8) (hs : DSh c.er c.n y (some (z, d))) (hA : RowX W c.B y.A c.list) (hL : RowX W c.B y.L d.log) (hQ : RowX W c.B c.Q c.p.ws) :
    Calls Try.prog 106 #[y.dv, .slice c.Q 13 c.f] W (ByO W c (Gn.wtd c.list c.p.ws d)) := by
  have hm := hs.2.1
  have hi := hs.2.2
  have hnx := next_low (list := c.list) hi (by rw [ok.len]; exact ok.n5)
  have hl := ok.fits.len
  obtain ⟨hg, h1, h20, hs0⟩ := Pk.right_good ok.fits.ws
  have hlow := (Pk.sum_low hg).2
  have hr := right15 (i := d.i) ok.n5 hm
  rw [dsh_y hs]
  unfold Gn.wtd
  by_cases hm2 : d.log.length = 2000
  · rw [Gn.bnd_none (Gn.tk_no hm2)]
    refine (pWeighted14_no c.n y.c d.log.length y.d 13 c.f 8 (d.i : Int) W hQ.row hl (by decide) ok.fits.ws (.inr rfl) fun V hV => ?_).mono fun e w' h => ByO.no (by rw [her]; exact h)
    have h := dTake14_no c.n y.c d.log.length y.d (d.i : Int) (Pk.sum c.p.ws) V ((hA.move (Mv.below _ hV)).row) ((hL.move (Mv.below _ hV)).row) ok.len rfl (by omega) (by omega) (by omega) fun h3 => h3.2 hm2
    rw [if_pos hr] at h
    exact h
  · rw [Gn.bnd_some (Gn.tk_yes hm2)]
    have hlo := Dr.choice_low (list := c.list) (i := d.i) (b := Pk.sum c.p.ws) (by omega)
    refine (pWeighted14_yes (list := c.list) (log := d.log) c.n y.c d.log.length y.d 13 c.f (Dr.next c.list d.i) (d.i : Int) (Dr.choice c.list d.i (Pk.sum c.p.ws)) W hQ.row hl (by decide) ok.fits.ws hlo.1 hlo.2 fun V hV => ?_).mono fun e w' h => ByO.yes h (by omega) hnx
    exact dTake14_yes c.n y.c d.log.length y.d d.i (Pk.sum c.p.ws) V ((hA.move (Mv.below _ hV)).row) ((hL.move (Mv.below _ hV)).row) ok.len rfl (by omega) (by omega) (by omega) hr hm2
end
set_option maxHeartbeats 4000000 in
theorem cbelow_any {c : MC} {y : MM} {r : Option (Int × Gn.D)} {bb : Nat} {b : Int} (w : World) (hcap : Blk w bb 3 #[.int .i64 b]) (hC : ∀ W, Below w.heap.size w W → Calls Try.prog 100 #[y.dv, .int .i64 b] W (ByO W c r)) :
    Calls Try.prog 99 #[y.dv, .pointer (some ⟨bb, 0, none⟩)] w (ByO w c r) := by
  have qc := hcap.cell 0
  have hcl := hcap.lt
  obtain ⟨yA, yn, yc, yi, yL, ym, yd, yx, ye⟩ := y
  unfold MM.dv at hC ⊢
  dsimp only at hC ⊢
  have hb := ((Below.refl _ w).alloc (Nat.le_refl _) (.cells #[.slice yA yn yc, .int .i64 yi, .slice yL ym yd] 30)).alloc (by simp) (.cells #[.slice none 0 0, .int .i64 0, .slice none 0 0] 30)
  have hk0 := (Blk.new w 30 #[.slice yA yn yc, .int .i64 yi, .slice yL ym yd]).alloc (.cells #[.slice none 0 0, .int .i64 0, .slice none 0 0] 30)
  have hk1 := Blk.new (w.alloc (.cells #[.slice yA yn yc, .int .i64 yi, .slice yL ym yd] 30)) 30 #[.slice none 0 0, .int .i64 0, .slice none 0 0]
  rw [World.size_alloc] at hk1
  obtain ⟨W1, hW1⟩ : ∃ W1, (w.alloc (.cells #[.slice yA yn yc, .int .i64 yi, .slice yL ym yd] 30)).alloc (.cells #[.slice none 0 0, .int .i64 0, .slice none 0 0] 30) = W1 := ⟨_, rfl⟩
  rw [hW1] at hb hk0 hk1
  have q0 := hk0.cell 0
  have q1 := hk0.cell 1
  have q2 := hk0.cell 2
  have qc1 : W1.cell? ⟨bb, 0, none⟩ = _ := (hb.cell (p := ⟨bb, 0, none⟩) hcl).trans qc
  have HC := Lib.hid (hC W1 hb)
  have HB := Lib.hid hb
  have HK1 := Lib.hid hk1
  clear hk0 hk1 hb hC hcap hcl qc
  go_enter Try.func99, Try.ntmps99
  go_wp2_with (fail)
  refine HC.out.mono ?_
  rintro e w1 ⟨⟨xA, xn, xc, xi, xL, xm, xd, xx, xe⟩, rfl, hsh, ho, hb1⟩
  have hk2 := HK1.out.below hb1 HK1.out.lt
  have hlt := hk2.lt
  have hge := HB.out.size
  obtain ⟨Y1, Y2, Y3, e0, e1, e2, f0, f1, f2, g0, g1, g2, r0, r1, r2, -, hyh, HYB⟩ := n3_steps hk2 (.slice xA xn xc) (.int .i64 xi) (.slice xL xm xd)
  have HB3 := Lib.hid (HYB.out _ _ (Nat.le_succ _) (HB.out.trans (hb1.mono HB.out.size)))
  have HSH := Lib.hid hsh
  have HO := Lib.hid (show ∀ z d, r = some (z, d) → Y3.ownsRow w.heap.size 3 1 (.slice xA c.n xc) c.n (ints c.list) ∧ Y3.ownsRow w.heap.size 3 1 (.slice xL d.log.length xd) d.log.length (ints d.log) from fun z d e => by
    have hl := HK1.out.lt
    exact ⟨ownT_mono (own_ofD (ho z d e).1 fun g' hg' => hyh.out g' (by have := ((ho z d e).1.lt g' hg').1; omega)) (by omega), ownT_mono (own_ofD (ho z d e).2 fun g' hg' => hyh.out g' (by have := ((ho z d e).2.lt g' hg').1; omega)) (by omega)⟩)
  clear hk2 hlt hge hyh HYB hsh ho hb1
  unfold MM.dv
  go_wp2
  exact bodyPost_ret (v := .tuple #[.agg #[.slice xA xn xc, .int .i64 xi, .slice xL xm xd], .int .i64 (gi r), .int .i64 xe]) (by simp [results, Try.results99, go_sem, r0, r1, r2]) rfl ⟨⟨xA, xn, xc, xi, xL, xm, xd, xx, xe⟩, rfl, HSH.out, HO.out, HB3.out⟩
set_option maxHeartbeats 4000000 in
theorem cnumber_any {c : MC} {y : MM} {r : Option (Int × Gn.D)} {bb : Nat} (w : World) (hcap : Blk w bb 57 #[.pointer (some ⟨c.g, 0, none⟩)]) (hbox : Blk w c.g 59 (c.cells y)) (hC : ∀ W, Below w.heap.size w W → Calls Try.prog 108 #[y.dv, .int .i64 c.p.val] W (ByO W c r)) :
    Calls Try.prog 107 #[y.dv, .pointer (some ⟨bb, 0, none⟩)] w (ByO w c r) := by
  have qg := hbox.cell 4
  have hgl := hbox.lt
  have qc := hcap.cell 0
  have hcl := hcap.lt
  obtain ⟨yA, yn, yc, yi, yL, ym, yd, yx, ye⟩ := y
  unfold MM.dv at hC ⊢
  dsimp only at hC ⊢
  have hb := ((Below.refl _ w).alloc (Nat.le_refl _) (.cells #[.slice yA yn yc, .int .i64 yi, .slice yL ym yd] 30)).alloc (by simp) (.cells #[.slice none 0 0, .int .i64 0, .slice none 0 0] 30)
  have hk0 := (Blk.new w 30 #[.slice yA yn yc, .int .i64 yi, .slice yL ym yd]).alloc (.cells #[.slice none 0 0, .int .i64 0, .slice none 0 0] 30)
  have hk1 := Blk.new (w.alloc (.cells #[.slice yA yn yc, .int .i64 yi, .slice yL ym yd] 30)) 30 #[.slice none 0 0, .int .i64 0, .slice none 0 0]
  rw [World.size_alloc] at hk1
  obtain ⟨W1, hW1⟩ : ∃ W1, (w.alloc (.cells #[.slice yA yn yc, .int .i64 yi, .slice yL ym yd] 30)).alloc (.cells #[.slice none 0 0, .int .i64 0, .slice none 0 0] 30) = W1 := ⟨_, rfl⟩
  rw [hW1] at hb hk0 hk1
  have q0 := hk0.cell 0
  have q1 := hk0.cell 1
  have q2 := hk0.cell 2
  have qc1 : W1.cell? ⟨bb, 0, none⟩ = _ := (hb.cell (p := ⟨bb, 0, none⟩) hcl).trans qc
  have qg1 : W1.cell? ⟨c.g, 4, none⟩ = some (.int .i64 c.p.val) := (hb.cell (p := ⟨c.g, 4, none⟩) hgl).trans qg
  have HC := Lib.hid (hC W1.drew hb.drew)
  have HB := Lib.hid hb
  have HK1 := Lib.hid hk1
  have HK0 := Lib.hid hk0
  have HL := Lib.hid (show bb < W1.heap.size ∧ c.g < W1.heap.size from ⟨Nat.lt_of_lt_of_le hcl hb.size, Nat.lt_of_lt_of_le hgl hb.size⟩)
  clear hk0 hk1 hb hC hcap hcl qc hbox hgl qg
  go_enter Try.func107, Try.ntmps107
  go_wp2_with (fail)
  refine Free.region_seq [6, 10] [0, 1, 5] 6 (fun W' => W'.cell? ⟨w.heap.size, 0, none⟩ = some (.slice yA yn yc) ∧ W'.cell? ⟨w.heap.size, 1, none⟩ = some (.int .i64 yi) ∧ W'.cell? ⟨w.heap.size, 2, none⟩ = some (.slice yL ym yd) ∧ W'.cell? ⟨bb, 0, none⟩ = some (.pointer (some ⟨c.g, 0, none⟩)) ∧ W'.cell? ⟨c.g, 4, none⟩ = some (.int .i64 c.p.val)) (by kernel_rfl) (by kernel_rfl) (by kernel_rfl) (by kernel_rfl) (⟨q0, q1, q2, qc1, qg1⟩) (fun ops hops => ?_)
  clear hops
  iterate 6
    refine Free.Seq.quiet (v := ?_) (a' := ?_) rfl rfl (fun W' hW' => ?_) ?_ ?_
    rotate_left 2
    · first | obtain ⟨s0, s1, s2, s3, s4⟩ := hW' rfl | skip
      go_simp
      try with_reducible rfl
    · simp only [Act.put, List.setIfInBounds_toArray, List.set_cons_zero, List.set_cons_succ]
      try with_reducible rfl
  refine Free.Seq.loud_ rfl (.inl rfl) (fun K hK => ?_)
  go_simp
  refine HC.out.mono ?_
  rintro e w1 ⟨⟨xA, xn, xc, xi, xL, xm, xd, xx, xe⟩, rfl, hsh, ho, hb1⟩
  have hb1 : Below W1.heap.size W1 w1 := (Below.refl _ W1).drew.trans hb1
  have ho : ∀ z d, r = some (z, d) → w1.ownsRow W1.heap.size 3 1 (.slice xA c.n xc) c.n (ints c.list) ∧ w1.ownsRow W1.heap.size 3 1 (.slice xL d.log.length xd) d.log.length (ints d.log) := ho
  have hk2 := HK1.out.below hb1 HK1.out.lt
  have hlt := hk2.lt
  have hge := HB.out.size
  obtain ⟨Y1, Y2, Y3, e0, e1, e2, f0, f1, f2, g0, g1, g2, r0, r1, r2, -, hyh, HYB⟩ := n3_steps hk2 (.slice xA xn xc) (.int .i64 xi) (.slice xL xm xd)
  have HB3 := Lib.hid (HYB.out _ _ (Nat.le_succ _) (HB.out.trans (hb1.mono HB.out.size)))
  have HSH := Lib.hid hsh
  have HO := Lib.hid (show ∀ z d, r = some (z, d) → Y3.ownsRow w.heap.size 3 1 (.slice xA c.n xc) c.n (ints c.list) ∧ Y3.ownsRow w.heap.size 3 1 (.slice xL d.log.length xd) d.log.length (ints d.log) from fun z d e => by
    have hl := HK1.out.lt
    exact ⟨ownT_mono (own_ofD (ho z d e).1 fun g' hg' => hyh.out g' (by have := ((ho z d e).1.lt g' hg').1; omega)) (by omega), ownT_mono (own_ofD (ho z d e).2 fun g' hg' => hyh.out g' (by have := ((ho z d e).2.lt g' hg').1; omega)) (by omega)⟩)
  clear hk2 hlt hge hyh HYB hsh ho hb1
  unfold MM.dv
  refine hK.out _ _ rfl (fun h => absurd h (by decide)) ?_
  clear hK K
  iterate 3
    refine Free.Seq.quiet (v := ?_) (a' := ?_) rfl rfl (fun W' hW' => ?_) ?_ ?_
    rotate_left 2
    · skip
      go_simp
      try with_reducible rfl
    · simp only [Act.put, List.setIfInBounds_toArray, List.set_cons_zero, List.set_cons_succ]
      try with_reducible rfl
  refine Free.Seq.loud_ rfl (.inl rfl) (fun K hK => ?_)
  go_simp
  refine hK.out _ _ rfl (fun h => absurd h (by decide)) ?_
  clear hK K
  iterate 2
    refine Free.Seq.quiet (v := ?_) (a' := ?_) rfl rfl (fun W' hW' => ?_) ?_ ?_
    rotate_left 2
    · skip
      go_simp
      try with_reducible rfl
    · simp only [Act.put, List.setIfInBounds_toArray, List.set_cons_zero, List.set_cons_succ]
      try with_reducible rfl
  refine Free.Seq.nil_ ?_
  go_wp2
  exact bodyPost_ret (v := .tuple #[.agg #[.slice xA xn xc, .int .i64 xi, .slice xL xm xd], .int .i64 (gi r), .int .i64 xe]) (by simp [results, Try.results107, go_sem, r0, r1, r2]) rfl ⟨⟨xA, xn, xc, xi, xL, xm, xd, xx, xe⟩, rfl, HSH.out, HO.out, HB3.out⟩
set_option maxHeartbeats 4000000 in
theorem cop_any {c : MC} {y : MM} {r : Option (Int × Gn.D)} {bb : Nat} (w : World) (hcap : Blk w bb 57 #[.pointer (some ⟨c.g, 0, none⟩)]) (hbox : Blk w c.g 59 (c.cells y)) (hC : ∀ W, Below w.heap.size w W → Calls Try.prog 106 #[y.dv, .slice c.Q 13 c.f] W (ByO W c r)) :
    Calls Try.prog 105 #[y.dv, .pointer (some ⟨bb, 0, none⟩)] w (ByO w c r) := by
  have qg := hbox.cell 5
  have hgl := hbox.lt
  have qc := hcap.cell 0
  have hcl := hcap.lt
  obtain ⟨yA, yn, yc, yi, yL, ym, yd, yx, ye⟩ := y
  unfold MM.dv at hC ⊢
  dsimp only at hC ⊢
  have hb := ((Below.refl _ w).alloc (Nat.le_refl _) (.cells #[.slice yA yn yc, .int .i64 yi, .slice yL ym yd] 30)).alloc (by simp) (.cells #[.slice none 0 0, .int .i64 0, .slice none 0 0] 30)
  have hk0 := (Blk.new w 30 #[.slice yA yn yc, .int .i64 yi, .slice yL ym yd]).alloc (.cells #[.slice none 0 0, .int .i64 0, .slice none 0 0] 30)
  have hk1 := Blk.new (w.alloc (.cells #[.slice yA yn yc, .int .i64 yi, .slice yL ym yd] 30)) 30 #[.slice none 0 0, .int .i64 0, .slice none 0 0]
  rw [World.size_alloc] at hk1
  obtain ⟨W1, hW1⟩ : ∃ W1, (w.alloc (.cells #[.slice yA yn yc, .int .i64 yi, .slice yL ym yd] 30)).alloc (.cells #[.slice none 0 0, .int .i64 0, .slice none 0 0] 30) = W1 := ⟨_, rfl⟩
  rw [hW1] at hb hk0 hk1
  have q0 := hk0.cell 0
  have q1 := hk0.cell 1
  have q2 := hk0.cell 2
  have qc1 : W1.cell? ⟨bb, 0, none⟩ = _ := (hb.cell (p := ⟨bb, 0, none⟩) hcl).trans qc
  have qg1 : W1.cell? ⟨c.g, 5, none⟩ = some (.slice c.Q 13 c.f) := (hb.cell (p := ⟨c.g, 5, none⟩) hgl).trans qg
  have HC := Lib.hid (hC W1.drew hb.drew)
  have HB := Lib.hid hb
  have HK1 := Lib.hid hk1
  have HK0 := Lib.hid hk0
  have HL := Lib.hid (show bb < W1.heap.size ∧ c.g < W1.heap.size from ⟨Nat.lt_of_lt_of_le hcl hb.size, Nat.lt_of_lt_of_le hgl hb.size⟩)
  clear hk0 hk1 hb hC hcap hcl qc hbox hgl qg
  go_enter Try.func105, Try.ntmps105
  go_wp2_with (fail)
  refine Free.region_seq [6, 10] [0, 1, 5] 6 (fun W' => W'.cell? ⟨w.heap.size, 0, none⟩ = some (.slice yA yn yc) ∧ W'.cell? ⟨w.heap.size, 1, none⟩ = some (.int .i64 yi) ∧ W'.cell? ⟨w.heap.size, 2, none⟩ = some (.slice yL ym yd) ∧ W'.cell? ⟨bb, 0, none⟩ = some (.pointer (some ⟨c.g, 0, none⟩)) ∧ W'.cell? ⟨c.g, 5, none⟩ = some (.slice c.Q 13 c.f)) (by kernel_rfl) (by kernel_rfl) (by kernel_rfl) (by kernel_rfl) (⟨q0, q1, q2, qc1, qg1⟩) (fun ops hops => ?_)
  clear hops
  iterate 6
    refine Free.Seq.quiet (v := ?_) (a' := ?_) rfl rfl (fun W' hW' => ?_) ?_ ?_
    rotate_left 2
    · first | obtain ⟨s0, s1, s2, s3, s4⟩ := hW' rfl | skip
      go_simp
      try with_reducible rfl
    · simp only [Act.put, List.setIfInBounds_toArray, List.set_cons_zero, List.set_cons_succ]
      try with_reducible rfl
  refine Free.Seq.loud_ rfl (.inl rfl) (fun K hK => ?_)
  go_simp
  refine HC.out.mono ?_
  rintro e w1 ⟨⟨xA, xn, xc, xi, xL, xm, xd, xx, xe⟩, rfl, hsh, ho, hb1⟩
  have hb1 : Below W1.heap.size W1 w1 := (Below.refl _ W1).drew.trans hb1
  have ho : ∀ z d, r = some (z, d) → w1.ownsRow W1.heap.size 3 1 (.slice xA c.n xc) c.n (ints c.list) ∧ w1.ownsRow W1.heap.size 3 1 (.slice xL d.log.length xd) d.log.length (ints d.log) := ho
  have hk2 := HK1.out.below hb1 HK1.out.lt
  have hlt := hk2.lt
  have hge := HB.out.size
  obtain ⟨Y1, Y2, Y3, e0, e1, e2, f0, f1, f2, g0, g1, g2, r0, r1, r2, -, hyh, HYB⟩ := n3_steps hk2 (.slice xA xn xc) (.int .i64 xi) (.slice xL xm xd)
  have HB3 := Lib.hid (HYB.out _ _ (Nat.le_succ _) (HB.out.trans (hb1.mono HB.out.size)))
  have HSH := Lib.hid hsh
  have HO := Lib.hid (show ∀ z d, r = some (z, d) → Y3.ownsRow w.heap.size 3 1 (.slice xA c.n xc) c.n (ints c.list) ∧ Y3.ownsRow w.heap.size 3 1 (.slice xL d.log.length xd) d.log.length (ints d.log) from fun z d e => by
    have hl := HK1.out.lt
    exact ⟨ownT_mono (own_ofD (ho z d e).1 fun g' hg' => hyh.out g' (by have := ((ho z d e).1.lt g' hg').1; omega)) (by omega), ownT_mono (own_ofD (ho z d e).2 fun g' hg' => hyh.out g' (by have := ((ho z d e).2.lt g' hg').1; omega)) (by omega)⟩)
  clear hk2 hlt hge hyh HYB hsh ho hb1
  unfold MM.dv
  refine hK.out _ _ rfl (fun h => absurd h (by decide)) ?_
  clear hK K
  iterate 3
    refine Free.Seq.quiet (v := ?_) (a' := ?_) rfl rfl (fun W' hW' => ?_) ?_ ?_
    rotate_left 2
    · skip
      go_simp
      try with_reducible rfl
    · simp only [Act.put, List.setIfInBounds_toArray, List.set_cons_zero, List.set_cons_succ]
      try with_reducible rfl
  refine Free.Seq.loud_ rfl (.inl rfl) (fun K hK => ?_)
  go_simp
  refine hK.out _ _ rfl (fun h => absurd h (by decide)) ?_
  clear hK K
  iterate 2
    refine Free.Seq.quiet (v := ?_) (a' := ?_) rfl rfl (fun W' hW' => ?_) ?_ ?_
    rotate_left 2
    · skip
      go_simp
      try with_reducible rfl
    · simp only [Act.put, List.setIfInBounds_toArray, List.set_cons_zero, List.set_cons_succ]
      try with_reducible rfl
  refine Free.Seq.nil_ ?_
  go_wp2
  exact bodyPost_ret (v := .tuple #[.agg #[.slice xA xn xc, .int .i64 xi, .slice xL xm xd], .int .i64 (gi r), .int .i64 xe]) (by simp [results, Try.results105, go_sem, r0, r1, r2]) rfl ⟨⟨xA, xn, xc, xi, xL, xm, xd, xx, xe⟩, rfl, HSH.out, HO.out, HB3.out⟩
theorem below_go {c : MC} {y : MM} {r : Option (Int × Gn.D)} (b : Int) (w : World) (hbox : Blk w c.g 59 (c.cells y)) (hme : y.me = 0) (hws : RowX w c.B c.Q c.p.ws) (hlow : c.B ≤ c.g) (hC : ∀ W, Below w.heap.size w W → Calls Try.prog 100 #[y.dv, .int .i64 b] W (ByO W c r)) :
    Calls Try.prog 69 #[.pointer (some ⟨c.g, 0, none⟩), .int .i64 b] w (ChP w c r) := by
  have hmf : ∀ (fn : Fn) (first cap : Array Value) (w : World), (Instr.makeFunc fn first cap).run Try.prog w = .ok (.func fn first cap) w := fun _ _ _ _ => rfl
  have hal := (Below.refl w.heap.size w).alloc (Nat.le_refl _) (.cells #[.int .i64 b] 3)
  have hch := choose_go (w.alloc (.cells #[.int .i64 b] 3)) (hbox.alloc _) hme (hws.move (Mv.below _ hal)) hlow Try.call99 ((cbelow_any (w.alloc (.cells #[.int .i64 b] 3)) (Blk.new w 3 #[.int .i64 b]) fun W hW => hC W (hal.trans (hW.mono (by simp)))).mono fun e w' h => h.by_)
  have HCH := Lib.hid hch
  have HAL := Lib.hid hal
  clear hch hal hC hbox hws hlow
  go_enter Try.func69, Try.ntmps69
  go_wp2_with (fail)
  refine HCH.out.mono ?_
  rintro e w1 ⟨y2, rfl, hm, hk⟩
  have HM := Lib.hid hm
  have HK := Lib.hid ((Kpg.below c.g HAL.out).trans hk)
  clear hm hk
  go_wp2
  go_ret
  exact ⟨y2, rfl, HM.out, HK.out⟩
theorem number_go {c : MC} {y : MM} {r : Option (Int × Gn.D)}  (w : World) (hbox : Blk w c.g 59 (c.cells y)) (hme : y.me = 0) (hws : RowX w c.B c.Q c.p.ws) (hlow : c.B ≤ c.g) (hC : ∀ W, Below w.heap.size w W → Calls Try.prog 108 #[y.dv, .int .i64 c.p.val] W (ByO W c r)) :
    Calls Try.prog 73 #[.pointer (some ⟨c.g, 0, none⟩)] w (ChP w c r) := by
  have hmf : ∀ (fn : Fn) (first cap : Array Value) (w : World), (Instr.makeFunc fn first cap).run Try.prog w = .ok (.func fn first cap) w := fun _ _ _ _ => rfl
  have hal := (Below.refl w.heap.size w).alloc (Nat.le_refl _) (.cells #[.pointer (some ⟨c.g, 0, none⟩)] 57)
  have hch := choose_go (w.alloc (.cells #[.pointer (some ⟨c.g, 0, none⟩)] 57)) (hbox.alloc _) hme (hws.move (Mv.below _ hal)) hlow Try.call107 ((cnumber_any (w.alloc (.cells #[.pointer (some ⟨c.g, 0, none⟩)] 57)) (Blk.new w 57 #[.pointer (some ⟨c.g, 0, none⟩)]) (hbox.alloc _) fun W hW => hC W (hal.trans (hW.mono (by simp)))).mono fun e w' h => h.by_)
  have HCH := Lib.hid hch
  have HAL := Lib.hid hal
  clear hch hal hC hbox hws hlow
  go_enter Try.func73, Try.ntmps73
  go_wp2_with (fail)
  refine HCH.out.mono ?_
  rintro e w1 ⟨y2, rfl, hm, hk⟩
  have HM := Lib.hid hm
  have HK := Lib.hid ((Kpg.below c.g HAL.out).trans hk)
  clear hm hk
  go_wp2
  go_ret
  exact ⟨y2, rfl, HM.out, HK.out⟩
theorem op_go {c : MC} {y : MM} {r : Option (Int × Gn.D)}  (w : World) (hbox : Blk w c.g 59 (c.cells y)) (hme : y.me = 0) (hws : RowX w c.B c.Q c.p.ws) (hlow : c.B ≤ c.g) (hC : ∀ W, Below w.heap.size w W → Calls Try.prog 106 #[y.dv, .slice c.Q 13 c.f] W (ByO W c r)) :
    Calls Try.prog 72 #[.pointer (some ⟨c.g, 0, none⟩)] w (ChP w c r) := by
  have hmf : ∀ (fn : Fn) (first cap : Array Value) (w : World), (Instr.makeFunc fn first cap).run Try.prog w = .ok (.func fn first cap) w := fun _ _ _ _ => rfl
  have hal := (Below.refl w.heap.size w).alloc (Nat.le_refl _) (.cells #[.pointer (some ⟨c.g, 0, none⟩)] 57)
  have hch := choose_go (w.alloc (.cells #[.pointer (some ⟨c.g, 0, none⟩)] 57)) (hbox.alloc _) hme (hws.move (Mv.below _ hal)) hlow Try.call105 ((cop_any (w.alloc (.cells #[.pointer (some ⟨c.g, 0, none⟩)] 57)) (Blk.new w 57 #[.pointer (some ⟨c.g, 0, none⟩)]) (hbox.alloc _) fun W hW => hC W (hal.trans (hW.mono (by simp)))).mono fun e w' h => h.by_)
  have HCH := Lib.hid hch
  have HAL := Lib.hid hal
  clear hch hal hC hbox hws hlow
  go_enter Try.func72, Try.ntmps72
  go_wp2_with (fail)
  refine HCH.out.mono ?_
  rintro e w1 ⟨y2, rfl, hm, hk⟩
  have HM := Lib.hid hm
  have HK := Lib.hid ((Kpg.below c.g HAL.out).trans hk)
  clear hm hk
  go_wp2
  go_ret
  exact ⟨y2, rfl, HM.out, HK.out⟩
section
variable {c : MC} {y : MM} {r : Option (Int × Gn.D)} (w : World)
theorem cases_r (r : Option (Int × Gn.D)) : r = none ∨ ∃ z d, r = some (z, d) := by
  cases r with
  | none => exact .inl rfl
  | some p => exact .inr ⟨p.1, p.2, rfl⟩
theorem below_nil (b : Int) (h : Mkr (α := Int) w c y none) (her : c.er ≠ 0) : Calls Try.prog 69 #[.pointer (some ⟨c.g, 0, none⟩), .int .i64 b] w (ChP w c none) := by
  have hmf : ∀ (fn : Fn) (first cap : Array Value) (w : World), (Instr.makeFunc fn first cap).run Try.prog w = .ok (.func fn first cap) w := fun _ _ _ _ => rfl
  have hal := (Below.refl w.heap.size w).alloc (Nat.le_refl _) (.cells #[.int .i64 b] 3)
  have HCH := Lib.hid (fun z => choose_none (z := z) (w.alloc (.cells #[.int .i64 b] 3)) (h.alloc _) her)
  have HAL := Lib.hid hal
  clear hal h
  go_enter Try.func69, Try.ntmps69
  go_wp2_with (fail)
  refine (HCH.out _).mono ?_
  rintro e w1 ⟨y2, rfl, hm, hk⟩
  have HM := Lib.hid hm
  have HK := Lib.hid ((Kpg.below c.g HAL.out).trans hk)
  clear hm hk
  go_wp2
  go_ret
  exact ⟨y2, rfl, HM.out, HK.out⟩
theorem mbelow_any (b : Int) (h : Mkr w c y r) (ok : MOk c) (her : c.er ≠ 0) (hr : r = none ∨ c.er = 8) (h1 : 1 ≤ b) (hB : b < 9223372036854775808) :
    Calls Try.prog 69 #[.pointer (some ⟨c.g, 0, none⟩), .int .i64 b] w (ChP w c (Gn.run (Gn.tk c.list b) r)) := by
  rcases cases_r r with rfl | ⟨z, d, rfl⟩
  · exact below_nil w b h her
  · have h8 : c.er = 8 := hr.resolve_left (by simp)
    have hro := h.rows z d rfl
    exact below_go b w h.box (dsh_me h.sh) h.ws h.low fun W hW => takes_byO W ok h8 h.sh (hro.1.move (Mv.below _ hW)) (hro.2.move (Mv.below _ hW)) h1 hB
theorem number_nil  (h : Mkr (α := Int) w c y none) (her : c.er ≠ 0) : Calls Try.prog 73 #[.pointer (some ⟨c.g, 0, none⟩)] w (ChP w c none) := by
  have hmf : ∀ (fn : Fn) (first cap : Array Value) (w : World), (Instr.makeFunc fn first cap).run Try.prog w = .ok (.func fn first cap) w := fun _ _ _ _ => rfl
  have hal := (Below.refl w.heap.size w).alloc (Nat.le_refl _) (.cells #[.pointer (some ⟨c.g, 0, none⟩)] 57)
  have HCH := Lib.hid (fun z => choose_none (z := z) (w.alloc (.cells #[.pointer (some ⟨c.g, 0, none⟩)] 57)) (h.alloc _) her)
  have HAL := Lib.hid hal
  clear hal h
  go_enter Try.func73, Try.ntmps73
  go_wp2_with (fail)
  refine (HCH.out _).mono ?_
  rintro e w1 ⟨y2, rfl, hm, hk⟩
  have HM := Lib.hid hm
  have HK := Lib.hid ((Kpg.below c.g HAL.out).trans hk)
  clear hm hk
  go_wp2
  go_ret
  exact ⟨y2, rfl, HM.out, HK.out⟩
theorem mnumber_any  (h : Mkr w c y r) (ok : MOk c) (her : c.er ≠ 0) (hr : r = none ∨ c.er = 8)  :
    Calls Try.prog 73 #[.pointer (some ⟨c.g, 0, none⟩)] w (ChP w c (Gn.run (Gn.num c.list c.p.val) r)) := by
  rcases cases_r r with rfl | ⟨z, d, rfl⟩
  · exact number_nil w h her
  · have h8 : c.er = 8 := hr.resolve_left (by simp)
    have hro := h.rows z d rfl
    exact number_go w h.box (dsh_me h.sh) h.ws h.low fun W hW => signed_byO W ok h8 h.sh (hro.1.move (Mv.below _ hW)) (hro.2.move (Mv.below _ hW))
theorem op_nil  (h : Mkr (α := Int) w c y none) (her : c.er ≠ 0) : Calls Try.prog 72 #[.pointer (some ⟨c.g, 0, none⟩)] w (ChP w c none) := by
  have hmf : ∀ (fn : Fn) (first cap : Array Value) (w : World), (Instr.makeFunc fn first cap).run Try.prog w = .ok (.func fn first cap) w := fun _ _ _ _ => rfl
  have hal := (Below.refl w.heap.size w).alloc (Nat.le_refl _) (.cells #[.pointer (some ⟨c.g, 0, none⟩)] 57)
  have HCH := Lib.hid (fun z => choose_none (z := z) (w.alloc (.cells #[.pointer (some ⟨c.g, 0, none⟩)] 57)) (h.alloc _) her)
  have HAL := Lib.hid hal
  clear hal h
  go_enter Try.func72, Try.ntmps72
  go_wp2_with (fail)
  refine (HCH.out _).mono ?_
  rintro e w1 ⟨y2, rfl, hm, hk⟩
  have HM := Lib.hid hm
  have HK := Lib.hid ((Kpg.below c.g HAL.out).trans hk)
  clear hm hk
  go_wp2
  go_ret
  exact ⟨y2, rfl, HM.out, HK.out⟩
theorem mop_any  (h : Mkr w c y r) (ok : MOk c) (her : c.er ≠ 0) (hr : r = none ∨ c.er = 8)  :
    Calls Try.prog 72 #[.pointer (some ⟨c.g, 0, none⟩)] w (ChP w c (Gn.run (Gn.wtd c.list c.p.ws) r)) := by
  rcases cases_r r with rfl | ⟨z, d, rfl⟩
  · exact op_nil w h her
  · have h8 : c.er = 8 := hr.resolve_left (by simp)
    have hro := h.rows z d rfl
    exact op_go w h.box (dsh_me h.sh) h.ws h.low fun W hW => weighted_byO W ok h8 h.sh (hro.1.move (Mv.below _ hW)) (hro.2.move (Mv.below _ hW)) (h.ws.move (Mv.below _ hW))
end
end Go.Proofs.Ytmbgndcahlopdaa

/- Package gen's maker: label, place, atom, slot (by gen_gmc.py). -/
namespace Go.Proofs.Ytmbgndcahlopdaa
set_option maxRecDepth 100000
open Go.RowKit Go.Shelf
attribute [local go_sem] Oper.semAt_some

/-- What one thing's maker answers: the thing's value, and the maker behind it. -/
def OneP {β : Type} (enc : β → Value) (w : World) (c : MC) (r : Option (β × Gn.D)) (e : Ending) (w' : World) : Prop := ∃ y x, e = .returned (enc x) ∧ Mkr w' c y r ∧ Kpg c.g w w' ∧ ∀ x' d, r = some (x', d) → x' = x
theorem map_val {α β : Type} {r : Option (α × Gn.D)} {f : α → β} {x : β} {d : Gn.D} (h : (r.map fun p => (f p.1, p.2)) = some (x, d)) : ∃ z, r = some (z, d) ∧ x = f z := by
  cases r with
  | none => cases h
  | some p =>
    injection h with h
    injection h with h1 h2
    exact ⟨p.1, by rw [← h2], h1.symm⟩
theorem gi_some {z : Int} {d : Gn.D} {r : Option (Int × Gn.D)} (h : r = some (z, d)) : gi r = z := by rw [h]; rfl
theorem hr_run {α : Type} {er : Nat} {r : Option (Int × Gn.D)} (h : r = none ∨ er = 8) (f : Gn.G α) : Gn.run f r = none ∨ er = 8 := h.imp (fun h => by rw [h]; rfl) id
theorem run_ret2 {β : Type} (f : Gn.G Int) (mk : Int → β) (d : Gn.D) : Gn.bnd f (fun l => Gn.ret (mk l)) d = (f d).map fun p => (mk p.1, p.2) := by
  cases e : f d with
  | none => rw [Gn.bnd_none e]; rfl
  | some p => rw [Gn.bnd_some e]; rfl
theorem atom_run (list : List Int) (k : Nat) (p : Gn.Sp) (r : Option (Int × Gn.D)) : Gn.run (Gn.atom list k p) r = (Gn.run (Gn.tk list k) (Gn.run (Gn.num list p.val) r)).map fun q => (⟨gi (Gn.run (Gn.num list p.val) r), q.1⟩, q.2) := by
  cases r with
  | none => rfl
  | some q =>
    obtain ⟨z, d⟩ := q
    show Gn.bnd (Gn.num list p.val) _ d = (Gn.run (Gn.tk list k) (Gn.num list p.val d)).map _
    cases e : Gn.num list p.val d with
    | none => rw [Gn.bnd_none e]; rfl
    | some q2 => rw [Gn.bnd_some e, run_ret2]; show _ = Option.map _ (Gn.tk list k q2.2); rw [show Gn.run (Gn.num list p.val) (some (z, d)) = some q2 from e]; rfl
def slotQ (list : List Int) (p : Gn.Sp) (q : Option (Int × Gn.D)) : Option (Int × Gn.D) := if gi q = 1 then Gn.run (Gn.tk list 13) q else Gn.run (Gn.num list p.val) q
theorem slot_runP (list : List Int) (k : Nat) (p : Gn.Sp) (r : Option (Int × Gn.D)) : Gn.run (Gn.slot list k p) r = (Gn.run (Gn.tk list k) (slotQ list p (Gn.run (Gn.tk list 2) r))).map fun q => (⟨decide (gi (Gn.run (Gn.tk list 2) r) = 1), gi (slotQ list p (Gn.run (Gn.tk list 2) r)), q.1⟩, q.2) := by
  cases r with
  | none => rfl
  | some q =>
    obtain ⟨z, d⟩ := q
    show Gn.bnd (Gn.tk list 2) _ d = _
    have e0 : Gn.run (Gn.tk list 2) (some (z, d)) = Gn.tk list 2 d := rfl
    rw [e0]
    cases e : Gn.tk list 2 d with
    | none => rw [Gn.bnd_none e]; rfl
    | some q2 =>
      obtain ⟨b, d2⟩ := q2
      rw [Gn.bnd_some e]
      unfold slotQ Gn.slotV
      rw [show gi (some (b, d2)) = b from rfl]
      by_cases hb : b = 1
      · simp only [if_pos hb]
        show _ = (Gn.run (Gn.tk list k) (Gn.tk list 13 d2)).map fun q => ((⟨decide (b = 1), gi (Gn.tk list 13 d2), q.1⟩ : St.Slot), q.2)
        cases e3 : Gn.tk list 13 d2 with
        | none => rw [Gn.bnd_none e3]; rfl
        | some q3 => rw [Gn.bnd_some e3, run_ret2]; rfl
      · simp only [if_neg hb]
        show _ = (Gn.run (Gn.tk list k) (Gn.num list p.val d2)).map fun q => ((⟨decide (b = 1), gi (Gn.num list p.val d2), q.1⟩ : St.Slot), q.2)
        cases e3 : Gn.num list p.val d2 with
        | none => rw [Gn.bnd_none e3]; rfl
        | some q3 => rw [Gn.bnd_some e3, run_ret2]; rfl
section
variable {c : MC} {y : MM} {r : Option (Int × Gn.D)} (w : World)
theorem mlabel_any (h : Mkr w c y r) (ok : MOk c) (her : c.er ≠ 0) (hr : r = none ∨ c.er = 8) : Calls Try.prog 40 #[.pointer (some ⟨c.g, 0, none⟩)] w (ChP w c (Gn.run (Gn.tk c.list (c.k : Int)) r)) := by
  have q0 : w.cell? ⟨c.g, 0, none⟩ = some (.int .i64 (c.k : Int)) := h.box.cell 0
  have HL := Lib.hid (mbelow_any w (c.k : Int) h ok her hr (by have := ok.fits.n1; omega) (by have := ok.k9; omega))
  clear h ok hr
  go_enter Try.func40, Try.ntmps40
  go_wp2_with (fail)
  refine HL.out.mono ?_
  rintro e w1 ⟨y2, rfl, hm, hk⟩
  have HM := Lib.hid hm
  have HK := Lib.hid hk
  clear hm hk
  go_wp2
  go_ret
  exact ⟨y2, rfl, HM.out, HK.out⟩
theorem mplace_any (h : Mkr w c y r) (ok : MOk c) (her : c.er ≠ 0) (hr : r = none ∨ c.er = 8) : Calls Try.prog 39 #[.pointer (some ⟨c.g, 0, none⟩)] w (ChP w c (Gn.run (Gn.tk c.list 13) r)) := by
  have HL := Lib.hid (mbelow_any w 13 h ok her hr (by decide) (by decide))
  clear h ok hr
  go_enter Try.func39, Try.ntmps39
  go_wp2_with (fail)
  refine HL.out.mono ?_
  rintro e w1 ⟨y2, rfl, hm, hk⟩
  have HM := Lib.hid hm
  have HK := Lib.hid hk
  clear hm hk
  go_wp2
  go_ret
  exact ⟨y2, rfl, HM.out, HK.out⟩
set_option maxHeartbeats 4000000 in
theorem matom_any (h : Mkr w c y r) (ok : MOk c) (her : c.er ≠ 0) (hr : r = none ∨ c.er = 8) : Calls Try.prog 36 #[.pointer (some ⟨c.g, 0, none⟩)] w (OneP atv w c (Gn.run (Gn.atom c.list c.k c.p) r)) := by
  rw [atom_run]
  obtain ⟨q1, hq1⟩ : ∃ q, Gn.run (Gn.num c.list c.p.val) r = q := ⟨_, rfl⟩
  rw [hq1]
  obtain ⟨q2, hq2⟩ : ∃ q, Gn.run (Gn.tk c.list (c.k : Int)) q1 = q := ⟨_, rfl⟩
  rw [hq2]
  have HR1 := Lib.hid (show q1 = none ∨ c.er = 8 from hq1 ▸ hr_run hr _)
  have HQ1 := Lib.hid hq1
  have HQ2 := Lib.hid hq2
  clear hq1 hq2
  have HM := Lib.hid h
  have HK := Lib.hid (Kpg.refl c.g w)
  have hgw := h.box.lt
  have HR := Lib.hid hr
  clear h hr
  obtain ⟨A1, eA1⟩ : ∃ U, w.alloc (.cells #[.int .i64 0, .int .i64 0] 34) = U := ⟨_, rfl⟩
  have nA1 : Blk A1 (w.heap.size) 34 #[.int .i64 0, .int .i64 0] := eA1 ▸ Blk.new _ _ _
  have NM := eA1 ▸ HM.out.alloc (.cells #[.int .i64 0, .int .i64 0] 34)
  have NK : Kpg c.g w A1 := eA1 ▸ HK.out.alloc _
  have gA1 := HM.out.box.lt
  have kA1 := HK.out.size
  clear HM HK
  have HM := Lib.hid NM
  have HK := Lib.hid NK
  clear NM NK
  have H_res := Lib.hid nA1
  clear nA1
  obtain ⟨A2, eA2⟩ : ∃ U, A1.alloc (.cells #[.int .i64 0, .int .i64 0] 34) = U := ⟨_, rfl⟩
  have N_res : Blk A2 (w.heap.size) 34 #[.int .i64 0, .int .i64 0] := eA2 ▸ H_res.out.alloc _
  have lA2res := H_res.out.lt
  have nA2 : Blk A2 (A1.heap.size) 34 #[.int .i64 0, .int .i64 0] := eA2 ▸ Blk.new _ _ _
  have NM := eA2 ▸ HM.out.alloc (.cells #[.int .i64 0, .int .i64 0] 34)
  have NK : Kpg c.g w A2 := eA2 ▸ HK.out.alloc _
  have gA2 := HM.out.box.lt
  have kA2 := HK.out.size
  clear H_res HM HK
  have H_res := Lib.hid N_res
  clear N_res
  have HM := Lib.hid NM
  have HK := Lib.hid NK
  clear NM NK
  have H_x := Lib.hid nA2
  clear nA2
  have HC := Lib.hid (mnumber_any A2 HM.out ok her HR.out)
  go_enter Try.func36, Try.ntmps36
  go_wp2_with (fail)
  refine HC.out.mono ?_
  rintro e v1 ⟨y1, rfl, hm, hk⟩
  rw [HQ1.out] at hm ⊢
  clear eA1 eA2
  have N_res : Blk v1 (w.heap.size) 34 #[.int .i64 0, .int .i64 0] := H_res.out.kpg hk (by omega)
  have N_x : Blk v1 (A1.heap.size) 34 #[.int .i64 0, .int .i64 0] := H_x.out.kpg hk (by omega)
  have NM := hm
  have NK := HK.out.trans hk
  clear hm hk
  clear H_res H_x HM HK
  have H_res := Lib.hid N_res
  clear N_res
  have H_x := Lib.hid N_x
  clear N_x
  have HM := Lib.hid NM
  have HK := Lib.hid NK
  clear NM NK
  clear HC
  obtain ⟨X3, eX3⟩ : ∃ U, v1.setCell ⟨A1.heap.size, 0, none⟩ (.int .i64 (gi q1)) = U := ⟨_, rfl⟩
  have fX3 := H_x.out.frozen 0
  have cX3 := H_x.out.cell 0
  have N_res : Blk X3 (w.heap.size) 34 #[.int .i64 0, .int .i64 0] := eX3 ▸ H_res.out.other (show A1.heap.size ≠ w.heap.size by omega) _
  have N_x : Blk X3 (A1.heap.size) 34 #[.int .i64 (gi q1), .int .i64 0] := eX3 ▸ H_x.out.set_ 0 _
  have NM := eX3 ▸ HM.out.set_ (p := ⟨A1.heap.size, 0, none⟩) H_x.out (by decide) (show c.g < A1.heap.size by omega) (.int .i64 (gi q1))
  have NK : Kpg c.g w X3 := eX3 ▸ HK.out.setNew (p := ⟨A1.heap.size, 0, none⟩) (by show w.heap.size ≤ A1.heap.size; omega) _
  clear H_res H_x HM HK
  have H_res := Lib.hid N_res
  clear N_res
  have H_x := Lib.hid N_x
  clear N_x
  have HM := Lib.hid NM
  have HK := Lib.hid NK
  clear NM NK
  have HC := Lib.hid (mlabel_any X3 HM.out ok her HR1.out)
  go_wp2_with (fail)
  refine HC.out.mono ?_
  rintro e v2 ⟨y2, rfl, hm, hk⟩
  rw [HQ2.out] at hm ⊢
  clear eX3 fX3 cX3
  have N_res : Blk v2 (w.heap.size) 34 #[.int .i64 0, .int .i64 0] := H_res.out.kpg hk (by omega)
  have N_x : Blk v2 (A1.heap.size) 34 #[.int .i64 (gi q1), .int .i64 0] := H_x.out.kpg hk (by omega)
  have NM := hm
  have NK := HK.out.trans hk
  clear hm hk
  clear H_res H_x HM HK
  have H_res := Lib.hid N_res
  clear N_res
  have H_x := Lib.hid N_x
  clear N_x
  have HM := Lib.hid NM
  have HK := Lib.hid NK
  clear NM NK
  clear HC
  obtain ⟨X4, eX4⟩ : ∃ U, v2.setCell ⟨A1.heap.size, 1, none⟩ (.int .i64 (gi q2)) = U := ⟨_, rfl⟩
  have fX4 := H_x.out.frozen 1
  have cX4 := H_x.out.cell 1
  have N_res : Blk X4 (w.heap.size) 34 #[.int .i64 0, .int .i64 0] := eX4 ▸ H_res.out.other (show A1.heap.size ≠ w.heap.size by omega) _
  have N_x : Blk X4 (A1.heap.size) 34 #[.int .i64 (gi q1), .int .i64 (gi q2)] := eX4 ▸ H_x.out.set_ 1 _
  have NM := eX4 ▸ HM.out.set_ (p := ⟨A1.heap.size, 1, none⟩) H_x.out (by decide) (show c.g < A1.heap.size by omega) (.int .i64 (gi q2))
  have NK : Kpg c.g w X4 := eX4 ▸ HK.out.setNew (p := ⟨A1.heap.size, 1, none⟩) (by show w.heap.size ≤ A1.heap.size; omega) _
  clear H_res H_x HM HK
  have H_res := Lib.hid N_res
  clear N_res
  have H_x := Lib.hid N_x
  clear N_x
  have HM := Lib.hid NM
  have HK := Lib.hid NK
  clear NM NK
  have x_0_X4 := H_x.out.cell 0
  have x_1_X4 := H_x.out.cell 1
  obtain ⟨X5, eX5⟩ : ∃ U, X4.setCell ⟨w.heap.size, 0, none⟩ (.int .i64 (gi q1)) = U := ⟨_, rfl⟩
  have fX5 := H_res.out.frozen 0
  have cX5 := H_res.out.cell 0
  have N_res : Blk X5 (w.heap.size) 34 #[.int .i64 (gi q1), .int .i64 0] := eX5 ▸ H_res.out.set_ 0 _
  have N_x : Blk X5 (A1.heap.size) 34 #[.int .i64 (gi q1), .int .i64 (gi q2)] := eX5 ▸ H_x.out.other (show w.heap.size ≠ A1.heap.size by omega) _
  have NM := eX5 ▸ HM.out.set_ (p := ⟨w.heap.size, 0, none⟩) H_res.out (by decide) (show c.g < w.heap.size by omega) (.int .i64 (gi q1))
  have NK : Kpg c.g w X5 := eX5 ▸ HK.out.setNew (p := ⟨w.heap.size, 0, none⟩) (by show w.heap.size ≤ w.heap.size; omega) _
  clear H_res H_x HM HK
  have H_res := Lib.hid N_res
  clear N_res
  have H_x := Lib.hid N_x
  clear N_x
  have HM := Lib.hid NM
  have HK := Lib.hid NK
  clear NM NK
  obtain ⟨X6, eX6⟩ : ∃ U, X5.setCell ⟨w.heap.size, 1, none⟩ (.int .i64 (gi q2)) = U := ⟨_, rfl⟩
  have fX6 := H_res.out.frozen 1
  have cX6 := H_res.out.cell 1
  have N_res : Blk X6 (w.heap.size) 34 #[.int .i64 (gi q1), .int .i64 (gi q2)] := eX6 ▸ H_res.out.set_ 1 _
  have N_x : Blk X6 (A1.heap.size) 34 #[.int .i64 (gi q1), .int .i64 (gi q2)] := eX6 ▸ H_x.out.other (show w.heap.size ≠ A1.heap.size by omega) _
  have NM := eX6 ▸ HM.out.set_ (p := ⟨w.heap.size, 1, none⟩) H_res.out (by decide) (show c.g < w.heap.size by omega) (.int .i64 (gi q2))
  have NK : Kpg c.g w X6 := eX6 ▸ HK.out.setNew (p := ⟨w.heap.size, 1, none⟩) (by show w.heap.size ≤ w.heap.size; omega) _
  clear H_res H_x HM HK
  have H_res := Lib.hid N_res
  clear N_res
  have H_x := Lib.hid N_x
  clear N_x
  have HM := Lib.hid NM
  have HK := Lib.hid NK
  clear NM NK
  have res_0_X6 := H_res.out.cell 0
  have res_1_X6 := H_res.out.cell 1
  go_wp2
  exact bodyPost_ret (v := .agg #[.int .i64 (gi q1), .int .i64 (gi q2)]) (by simp [results, Try.results36, go_sem, res_0_X6, res_1_X6]) rfl ⟨y2, ⟨gi q1, gi q2⟩, rfl, HM.out.map _, HK.out, fun x' d e => by
    obtain ⟨z, e1, e2⟩ := map_val e
    rw [e2, gi_some e1]⟩
set_option maxHeartbeats 4000000 in
theorem mslot_any (h : Mkr w c y r) (ok : MOk c) (her : c.er ≠ 0) (hr : r = none ∨ c.er = 8) : Calls Try.prog 38 #[.pointer (some ⟨c.g, 0, none⟩)] w (OneP slv w c (Gn.run (Gn.slot c.list c.k c.p) r)) := by
  rw [slot_runP]
  obtain ⟨q1, hq1⟩ : ∃ q, Gn.run (Gn.tk c.list 2) r = q := ⟨_, rfl⟩
  rw [hq1]
  obtain ⟨q2, hq2⟩ : ∃ q, slotQ c.list c.p q1 = q := ⟨_, rfl⟩
  rw [hq2]
  obtain ⟨q3, hq3⟩ : ∃ q, Gn.run (Gn.tk c.list (c.k : Int)) q2 = q := ⟨_, rfl⟩
  rw [hq3]
  obtain ⟨b, hb⟩ : ∃ b, decide (gi q1 = 1) = b := ⟨_, rfl⟩
  rw [hb]
  have HR1 := Lib.hid (show q1 = none ∨ c.er = 8 from hq1 ▸ hr_run hr _)
  have HQ1 := Lib.hid hq1
  have HQ2 := Lib.hid hq2
  have HQ3 := Lib.hid hq3
  have HBB := Lib.hid hb
  have hbe : (gi q1 == 1) = b := by rw [← hb]; rfl
  clear hq1 hq2 hq3 hb
  have HM := Lib.hid h
  have HK := Lib.hid (Kpg.refl c.g w)
  have hgw := h.box.lt
  have HR := Lib.hid hr
  clear h hr
  obtain ⟨A1, eA1⟩ : ∃ U, w.alloc (.cells #[.bool false, .int .i64 0, .int .i64 0] 70) = U := ⟨_, rfl⟩
  have nA1 : Blk A1 (w.heap.size) 70 #[.bool false, .int .i64 0, .int .i64 0] := eA1 ▸ Blk.new _ _ _
  have NM := eA1 ▸ HM.out.alloc (.cells #[.bool false, .int .i64 0, .int .i64 0] 70)
  have NK : Kpg c.g w A1 := eA1 ▸ HK.out.alloc _
  have gA1 := HM.out.box.lt
  have kA1 := HK.out.size
  clear HM HK
  have HM := Lib.hid NM
  have HK := Lib.hid NK
  clear NM NK
  have H_res := Lib.hid nA1
  clear nA1
  obtain ⟨A2, eA2⟩ : ∃ U, A1.alloc (.cells #[.bool false, .int .i64 0, .int .i64 0] 70) = U := ⟨_, rfl⟩
  have N_res : Blk A2 (w.heap.size) 70 #[.bool false, .int .i64 0, .int .i64 0] := eA2 ▸ H_res.out.alloc _
  have lA2res := H_res.out.lt
  have nA2 : Blk A2 (A1.heap.size) 70 #[.bool false, .int .i64 0, .int .i64 0] := eA2 ▸ Blk.new _ _ _
  have NM := eA2 ▸ HM.out.alloc (.cells #[.bool false, .int .i64 0, .int .i64 0] 70)
  have NK : Kpg c.g w A2 := eA2 ▸ HK.out.alloc _
  have gA2 := HM.out.box.lt
  have kA2 := HK.out.size
  clear H_res HM HK
  have H_res := Lib.hid N_res
  clear N_res
  have HM := Lib.hid NM
  have HK := Lib.hid NK
  clear NM NK
  have H_x := Lib.hid nA2
  clear nA2
  have HC := Lib.hid (mbelow_any A2 2 HM.out ok her HR.out (by decide) (by decide))
  go_enter Try.func38, Try.ntmps38
  go_wp2_with (fail)
  refine HC.out.mono ?_
  rintro e v1 ⟨y1, rfl, hm, hk⟩
  rw [HQ1.out] at hm ⊢
  clear eA1 eA2
  have N_res : Blk v1 (w.heap.size) 70 #[.bool false, .int .i64 0, .int .i64 0] := H_res.out.kpg hk (by omega)
  have N_x : Blk v1 (A1.heap.size) 70 #[.bool false, .int .i64 0, .int .i64 0] := H_x.out.kpg hk (by omega)
  have NM := hm
  have NK := HK.out.trans hk
  clear hm hk
  clear H_res H_x HM HK
  have H_res := Lib.hid N_res
  clear N_res
  have H_x := Lib.hid N_x
  clear N_x
  have HM := Lib.hid NM
  have HK := Lib.hid NK
  clear NM NK
  clear HC
  obtain ⟨X3, eX3⟩ : ∃ U, v1.setCell ⟨A1.heap.size, 0, none⟩ (.bool b) = U := ⟨_, rfl⟩
  have fX3 := H_x.out.frozen 0
  have cX3 := H_x.out.cell 0
  have N_res : Blk X3 (w.heap.size) 70 #[.bool false, .int .i64 0, .int .i64 0] := eX3 ▸ H_res.out.other (show A1.heap.size ≠ w.heap.size by omega) _
  have N_x : Blk X3 (A1.heap.size) 70 #[.bool b, .int .i64 0, .int .i64 0] := eX3 ▸ H_x.out.set_ 0 _
  have NM := eX3 ▸ HM.out.set_ (p := ⟨A1.heap.size, 0, none⟩) H_x.out (by decide) (show c.g < A1.heap.size by omega) (.bool b)
  have NK : Kpg c.g w X3 := eX3 ▸ HK.out.setNew (p := ⟨A1.heap.size, 0, none⟩) (by show w.heap.size ≤ A1.heap.size; omega) _
  clear H_res H_x HM HK
  have H_res := Lib.hid N_res
  clear N_res
  have H_x := Lib.hid N_x
  clear N_x
  have HM := Lib.hid NM
  have HK := Lib.hid NK
  clear NM NK
  have x_0_X3 := H_x.out.cell 0
  have x_1_X3 := H_x.out.cell 1
  have x_2_X3 := H_x.out.cell 2
  cases b with
  | true =>
    have hg1 : gi q1 = 1 := of_decide_eq_true HBB.out
    have HE2 := Lib.hid (show Gn.run (Gn.tk c.list 13) q1 = q2 by rw [← HQ2.out]; unfold slotQ; rw [if_pos hg1])
    have HC := Lib.hid (mplace_any X3 HM.out ok her HR1.out)
    clear hg1
    go_wp2_with (fail)
    refine HC.out.mono ?_
    rintro e v2 ⟨y2, rfl, hm, hk⟩
    rw [HE2.out] at hm ⊢
    clear eX3 fX3 cX3 x_0_X3 x_1_X3 x_2_X3
    have N_res : Blk v2 (w.heap.size) 70 #[.bool false, .int .i64 0, .int .i64 0] := H_res.out.kpg hk (by omega)
    have N_x : Blk v2 (A1.heap.size) 70 #[.bool true, .int .i64 0, .int .i64 0] := H_x.out.kpg hk (by omega)
    have NM := hm
    have NK := HK.out.trans hk
    clear hm hk
    clear H_res H_x HM HK
    have H_res := Lib.hid N_res
    clear N_res
    have H_x := Lib.hid N_x
    clear N_x
    have HM := Lib.hid NM
    have HK := Lib.hid NK
    clear NM NK
    clear HC
    have HR2 := Lib.hid (show q2 = none ∨ c.er = 8 from HE2.out ▸ hr_run HR1.out _)
    obtain ⟨X4, eX4⟩ : ∃ U, v2.setCell ⟨A1.heap.size, 1, none⟩ (.int .i64 (gi q2)) = U := ⟨_, rfl⟩
    have fX4 := H_x.out.frozen 1
    have cX4 := H_x.out.cell 1
    have N_res : Blk X4 (w.heap.size) 70 #[.bool false, .int .i64 0, .int .i64 0] := eX4 ▸ H_res.out.other (show A1.heap.size ≠ w.heap.size by omega) _
    have N_x : Blk X4 (A1.heap.size) 70 #[.bool true, .int .i64 (gi q2), .int .i64 0] := eX4 ▸ H_x.out.set_ 1 _
    have NM := eX4 ▸ HM.out.set_ (p := ⟨A1.heap.size, 1, none⟩) H_x.out (by decide) (show c.g < A1.heap.size by omega) (.int .i64 (gi q2))
    have NK : Kpg c.g w X4 := eX4 ▸ HK.out.setNew (p := ⟨A1.heap.size, 1, none⟩) (by show w.heap.size ≤ A1.heap.size; omega) _
    clear H_res H_x HM HK
    have H_res := Lib.hid N_res
    clear N_res
    have H_x := Lib.hid N_x
    clear N_x
    have HM := Lib.hid NM
    have HK := Lib.hid NK
    clear NM NK
    have HC := Lib.hid (mlabel_any X4 HM.out ok her HR2.out)
    go_wp2_with (fail)
    refine HC.out.mono ?_
    rintro e v3 ⟨y3, rfl, hm, hk⟩
    rw [HQ3.out] at hm ⊢
    clear eX4 fX4 cX4
    have N_res : Blk v3 (w.heap.size) 70 #[.bool false, .int .i64 0, .int .i64 0] := H_res.out.kpg hk (by omega)
    have N_x : Blk v3 (A1.heap.size) 70 #[.bool true, .int .i64 (gi q2), .int .i64 0] := H_x.out.kpg hk (by omega)
    have NM := hm
    have NK := HK.out.trans hk
    clear hm hk
    clear H_res H_x HM HK
    have H_res := Lib.hid N_res
    clear N_res
    have H_x := Lib.hid N_x
    clear N_x
    have HM := Lib.hid NM
    have HK := Lib.hid NK
    clear NM NK
    clear HC
    obtain ⟨X5, eX5⟩ : ∃ U, v3.setCell ⟨A1.heap.size, 2, none⟩ (.int .i64 (gi q3)) = U := ⟨_, rfl⟩
    have fX5 := H_x.out.frozen 2
    have cX5 := H_x.out.cell 2
    have N_res : Blk X5 (w.heap.size) 70 #[.bool false, .int .i64 0, .int .i64 0] := eX5 ▸ H_res.out.other (show A1.heap.size ≠ w.heap.size by omega) _
    have N_x : Blk X5 (A1.heap.size) 70 #[.bool true, .int .i64 (gi q2), .int .i64 (gi q3)] := eX5 ▸ H_x.out.set_ 2 _
    have NM := eX5 ▸ HM.out.set_ (p := ⟨A1.heap.size, 2, none⟩) H_x.out (by decide) (show c.g < A1.heap.size by omega) (.int .i64 (gi q3))
    have NK : Kpg c.g w X5 := eX5 ▸ HK.out.setNew (p := ⟨A1.heap.size, 2, none⟩) (by show w.heap.size ≤ A1.heap.size; omega) _
    clear H_res H_x HM HK
    have H_res := Lib.hid N_res
    clear N_res
    have H_x := Lib.hid N_x
    clear N_x
    have HM := Lib.hid NM
    have HK := Lib.hid NK
    clear NM NK
    have x_0_X5 := H_x.out.cell 0
    have x_1_X5 := H_x.out.cell 1
    have x_2_X5 := H_x.out.cell 2
    obtain ⟨X6, eX6⟩ : ∃ U, X5.setCell ⟨w.heap.size, 0, none⟩ (.bool true) = U := ⟨_, rfl⟩
    have fX6 := H_res.out.frozen 0
    have cX6 := H_res.out.cell 0
    have N_res : Blk X6 (w.heap.size) 70 #[.bool true, .int .i64 0, .int .i64 0] := eX6 ▸ H_res.out.set_ 0 _
    have N_x : Blk X6 (A1.heap.size) 70 #[.bool true, .int .i64 (gi q2), .int .i64 (gi q3)] := eX6 ▸ H_x.out.other (show w.heap.size ≠ A1.heap.size by omega) _
    have NM := eX6 ▸ HM.out.set_ (p := ⟨w.heap.size, 0, none⟩) H_res.out (by decide) (show c.g < w.heap.size by omega) (.bool true)
    have NK : Kpg c.g w X6 := eX6 ▸ HK.out.setNew (p := ⟨w.heap.size, 0, none⟩) (by show w.heap.size ≤ w.heap.size; omega) _
    clear H_res H_x HM HK
    have H_res := Lib.hid N_res
    clear N_res
    have H_x := Lib.hid N_x
    clear N_x
    have HM := Lib.hid NM
    have HK := Lib.hid NK
    clear NM NK
    obtain ⟨X7, eX7⟩ : ∃ U, X6.setCell ⟨w.heap.size, 1, none⟩ (.int .i64 (gi q2)) = U := ⟨_, rfl⟩
    have fX7 := H_res.out.frozen 1
    have cX7 := H_res.out.cell 1
    have N_res : Blk X7 (w.heap.size) 70 #[.bool true, .int .i64 (gi q2), .int .i64 0] := eX7 ▸ H_res.out.set_ 1 _
    have N_x : Blk X7 (A1.heap.size) 70 #[.bool true, .int .i64 (gi q2), .int .i64 (gi q3)] := eX7 ▸ H_x.out.other (show w.heap.size ≠ A1.heap.size by omega) _
    have NM := eX7 ▸ HM.out.set_ (p := ⟨w.heap.size, 1, none⟩) H_res.out (by decide) (show c.g < w.heap.size by omega) (.int .i64 (gi q2))
    have NK : Kpg c.g w X7 := eX7 ▸ HK.out.setNew (p := ⟨w.heap.size, 1, none⟩) (by show w.heap.size ≤ w.heap.size; omega) _
    clear H_res H_x HM HK
    have H_res := Lib.hid N_res
    clear N_res
    have H_x := Lib.hid N_x
    clear N_x
    have HM := Lib.hid NM
    have HK := Lib.hid NK
    clear NM NK
    obtain ⟨X8, eX8⟩ : ∃ U, X7.setCell ⟨w.heap.size, 2, none⟩ (.int .i64 (gi q3)) = U := ⟨_, rfl⟩
    have fX8 := H_res.out.frozen 2
    have cX8 := H_res.out.cell 2
    have N_res : Blk X8 (w.heap.size) 70 #[.bool true, .int .i64 (gi q2), .int .i64 (gi q3)] := eX8 ▸ H_res.out.set_ 2 _
    have N_x : Blk X8 (A1.heap.size) 70 #[.bool true, .int .i64 (gi q2), .int .i64 (gi q3)] := eX8 ▸ H_x.out.other (show w.heap.size ≠ A1.heap.size by omega) _
    have NM := eX8 ▸ HM.out.set_ (p := ⟨w.heap.size, 2, none⟩) H_res.out (by decide) (show c.g < w.heap.size by omega) (.int .i64 (gi q3))
    have NK : Kpg c.g w X8 := eX8 ▸ HK.out.setNew (p := ⟨w.heap.size, 2, none⟩) (by show w.heap.size ≤ w.heap.size; omega) _
    clear H_res H_x HM HK
    have H_res := Lib.hid N_res
    clear N_res
    have H_x := Lib.hid N_x
    clear N_x
    have HM := Lib.hid NM
    have HK := Lib.hid NK
    clear NM NK
    have res_0_X8 := H_res.out.cell 0
    have res_1_X8 := H_res.out.cell 1
    have res_2_X8 := H_res.out.cell 2
    go_wp2
    exact bodyPost_ret (v := .agg #[.bool true, .int .i64 (gi q2), .int .i64 (gi q3)]) (by simp [results, Try.results38, go_sem, res_0_X8, res_1_X8, res_2_X8]) rfl ⟨y3, ⟨true, gi q2, gi q3⟩, rfl, HM.out.map _, HK.out, fun x' d e => by
      obtain ⟨z, e1, e2⟩ := map_val e
      rw [e2, gi_some e1]⟩
  | false =>
    have hg1 : ¬ gi q1 = 1 := of_decide_eq_false HBB.out
    have HE2 := Lib.hid (show Gn.run (Gn.num c.list c.p.val) q1 = q2 by rw [← HQ2.out]; unfold slotQ; rw [if_neg hg1])
    have HC := Lib.hid (mnumber_any X3 HM.out ok her HR1.out)
    clear hg1
    go_wp2_with (fail)
    refine HC.out.mono ?_
    rintro e v2 ⟨y2, rfl, hm, hk⟩
    rw [HE2.out] at hm ⊢
    clear eX3 fX3 cX3 x_0_X3 x_1_X3 x_2_X3
    have N_res : Blk v2 (w.heap.size) 70 #[.bool false, .int .i64 0, .int .i64 0] := H_res.out.kpg hk (by omega)
    have N_x : Blk v2 (A1.heap.size) 70 #[.bool false, .int .i64 0, .int .i64 0] := H_x.out.kpg hk (by omega)
    have NM := hm
    have NK := HK.out.trans hk
    clear hm hk
    clear H_res H_x HM HK
    have H_res := Lib.hid N_res
    clear N_res
    have H_x := Lib.hid N_x
    clear N_x
    have HM := Lib.hid NM
    have HK := Lib.hid NK
    clear NM NK
    clear HC
    have HR2 := Lib.hid (show q2 = none ∨ c.er = 8 from HE2.out ▸ hr_run HR1.out _)
    obtain ⟨X4, eX4⟩ : ∃ U, v2.setCell ⟨A1.heap.size, 1, none⟩ (.int .i64 (gi q2)) = U := ⟨_, rfl⟩
    have fX4 := H_x.out.frozen 1
    have cX4 := H_x.out.cell 1
    have N_res : Blk X4 (w.heap.size) 70 #[.bool false, .int .i64 0, .int .i64 0] := eX4 ▸ H_res.out.other (show A1.heap.size ≠ w.heap.size by omega) _
    have N_x : Blk X4 (A1.heap.size) 70 #[.bool false, .int .i64 (gi q2), .int .i64 0] := eX4 ▸ H_x.out.set_ 1 _
    have NM := eX4 ▸ HM.out.set_ (p := ⟨A1.heap.size, 1, none⟩) H_x.out (by decide) (show c.g < A1.heap.size by omega) (.int .i64 (gi q2))
    have NK : Kpg c.g w X4 := eX4 ▸ HK.out.setNew (p := ⟨A1.heap.size, 1, none⟩) (by show w.heap.size ≤ A1.heap.size; omega) _
    clear H_res H_x HM HK
    have H_res := Lib.hid N_res
    clear N_res
    have H_x := Lib.hid N_x
    clear N_x
    have HM := Lib.hid NM
    have HK := Lib.hid NK
    clear NM NK
    have HC := Lib.hid (mlabel_any X4 HM.out ok her HR2.out)
    go_wp2_with (fail)
    refine HC.out.mono ?_
    rintro e v3 ⟨y3, rfl, hm, hk⟩
    rw [HQ3.out] at hm ⊢
    clear eX4 fX4 cX4
    have N_res : Blk v3 (w.heap.size) 70 #[.bool false, .int .i64 0, .int .i64 0] := H_res.out.kpg hk (by omega)
    have N_x : Blk v3 (A1.heap.size) 70 #[.bool false, .int .i64 (gi q2), .int .i64 0] := H_x.out.kpg hk (by omega)
    have NM := hm
    have NK := HK.out.trans hk
    clear hm hk
    clear H_res H_x HM HK
    have H_res := Lib.hid N_res
    clear N_res
    have H_x := Lib.hid N_x
    clear N_x
    have HM := Lib.hid NM
    have HK := Lib.hid NK
    clear NM NK
    clear HC
    obtain ⟨X5, eX5⟩ : ∃ U, v3.setCell ⟨A1.heap.size, 2, none⟩ (.int .i64 (gi q3)) = U := ⟨_, rfl⟩
    have fX5 := H_x.out.frozen 2
    have cX5 := H_x.out.cell 2
    have N_res : Blk X5 (w.heap.size) 70 #[.bool false, .int .i64 0, .int .i64 0] := eX5 ▸ H_res.out.other (show A1.heap.size ≠ w.heap.size by omega) _
    have N_x : Blk X5 (A1.heap.size) 70 #[.bool false, .int .i64 (gi q2), .int .i64 (gi q3)] := eX5 ▸ H_x.out.set_ 2 _
    have NM := eX5 ▸ HM.out.set_ (p := ⟨A1.heap.size, 2, none⟩) H_x.out (by decide) (show c.g < A1.heap.size by omega) (.int .i64 (gi q3))
    have NK : Kpg c.g w X5 := eX5 ▸ HK.out.setNew (p := ⟨A1.heap.size, 2, none⟩) (by show w.heap.size ≤ A1.heap.size; omega) _
    clear H_res H_x HM HK
    have H_res := Lib.hid N_res
    clear N_res
    have H_x := Lib.hid N_x
    clear N_x
    have HM := Lib.hid NM
    have HK := Lib.hid NK
    clear NM NK
    have x_0_X5 := H_x.out.cell 0
    have x_1_X5 := H_x.out.cell 1
    have x_2_X5 := H_x.out.cell 2
    obtain ⟨X6, eX6⟩ : ∃ U, X5.setCell ⟨w.heap.size, 0, none⟩ (.bool false) = U := ⟨_, rfl⟩
    have fX6 := H_res.out.frozen 0
    have cX6 := H_res.out.cell 0
    have N_res : Blk X6 (w.heap.size) 70 #[.bool false, .int .i64 0, .int .i64 0] := eX6 ▸ H_res.out.set_ 0 _
    have N_x : Blk X6 (A1.heap.size) 70 #[.bool false, .int .i64 (gi q2), .int .i64 (gi q3)] := eX6 ▸ H_x.out.other (show w.heap.size ≠ A1.heap.size by omega) _
    have NM := eX6 ▸ HM.out.set_ (p := ⟨w.heap.size, 0, none⟩) H_res.out (by decide) (show c.g < w.heap.size by omega) (.bool false)
    have NK : Kpg c.g w X6 := eX6 ▸ HK.out.setNew (p := ⟨w.heap.size, 0, none⟩) (by show w.heap.size ≤ w.heap.size; omega) _
    clear H_res H_x HM HK
    have H_res := Lib.hid N_res
    clear N_res
    have H_x := Lib.hid N_x
    clear N_x
    have HM := Lib.hid NM
    have HK := Lib.hid NK
    clear NM NK
    obtain ⟨X7, eX7⟩ : ∃ U, X6.setCell ⟨w.heap.size, 1, none⟩ (.int .i64 (gi q2)) = U := ⟨_, rfl⟩
    have fX7 := H_res.out.frozen 1
    have cX7 := H_res.out.cell 1
    have N_res : Blk X7 (w.heap.size) 70 #[.bool false, .int .i64 (gi q2), .int .i64 0] := eX7 ▸ H_res.out.set_ 1 _
    have N_x : Blk X7 (A1.heap.size) 70 #[.bool false, .int .i64 (gi q2), .int .i64 (gi q3)] := eX7 ▸ H_x.out.other (show w.heap.size ≠ A1.heap.size by omega) _
    have NM := eX7 ▸ HM.out.set_ (p := ⟨w.heap.size, 1, none⟩) H_res.out (by decide) (show c.g < w.heap.size by omega) (.int .i64 (gi q2))
    have NK : Kpg c.g w X7 := eX7 ▸ HK.out.setNew (p := ⟨w.heap.size, 1, none⟩) (by show w.heap.size ≤ w.heap.size; omega) _
    clear H_res H_x HM HK
    have H_res := Lib.hid N_res
    clear N_res
    have H_x := Lib.hid N_x
    clear N_x
    have HM := Lib.hid NM
    have HK := Lib.hid NK
    clear NM NK
    obtain ⟨X8, eX8⟩ : ∃ U, X7.setCell ⟨w.heap.size, 2, none⟩ (.int .i64 (gi q3)) = U := ⟨_, rfl⟩
    have fX8 := H_res.out.frozen 2
    have cX8 := H_res.out.cell 2
    have N_res : Blk X8 (w.heap.size) 70 #[.bool false, .int .i64 (gi q2), .int .i64 (gi q3)] := eX8 ▸ H_res.out.set_ 2 _
    have N_x : Blk X8 (A1.heap.size) 70 #[.bool false, .int .i64 (gi q2), .int .i64 (gi q3)] := eX8 ▸ H_x.out.other (show w.heap.size ≠ A1.heap.size by omega) _
    have NM := eX8 ▸ HM.out.set_ (p := ⟨w.heap.size, 2, none⟩) H_res.out (by decide) (show c.g < w.heap.size by omega) (.int .i64 (gi q3))
    have NK : Kpg c.g w X8 := eX8 ▸ HK.out.setNew (p := ⟨w.heap.size, 2, none⟩) (by show w.heap.size ≤ w.heap.size; omega) _
    clear H_res H_x HM HK
    have H_res := Lib.hid N_res
    clear N_res
    have H_x := Lib.hid N_x
    clear N_x
    have HM := Lib.hid NM
    have HK := Lib.hid NK
    clear NM NK
    have res_0_X8 := H_res.out.cell 0
    have res_1_X8 := H_res.out.cell 1
    have res_2_X8 := H_res.out.cell 2
    go_wp2
    exact bodyPost_ret (v := .agg #[.bool false, .int .i64 (gi q2), .int .i64 (gi q3)]) (by simp [results, Try.results38, go_sem, res_0_X8, res_1_X8, res_2_X8]) rfl ⟨y3, ⟨false, gi q2, gi q3⟩, rfl, HM.out.map _, HK.out, fun x' d e => by
      obtain ⟨z, e1, e2⟩ := map_val e
      rw [e2, gi_some e1]⟩
end
end Go.Proofs.Ytmbgndcahlopdaa

/- Package gen's maker: the map of what is behind an Op; instructions (by gen_gmd.py). -/
namespace Go.Proofs.Ytmbgndcahlopdaa
set_option maxRecDepth 100000
open Go.RowKit Go.Shelf
attribute [local go_sem] Oper.semAt_some

def restsM (b : Nat) : Nat → Array MapEntry
  | 0 => #[]
  | 1 => #[{ key := .int .i64 1, val := .func (.func 101) #[] #[.pointer (some ⟨b, 0, none⟩)], born := 0 }]
  | 2 => #[{ key := .int .i64 1, val := .func (.func 101) #[] #[.pointer (some ⟨b, 0, none⟩)], born := 0 }, { key := .int .i64 8, val := .func (.func 102) #[] #[.pointer (some ⟨b, 0, none⟩)], born := 1 }]
  | 3 => #[{ key := .int .i64 1, val := .func (.func 101) #[] #[.pointer (some ⟨b, 0, none⟩)], born := 0 }, { key := .int .i64 8, val := .func (.func 102) #[] #[.pointer (some ⟨b, 0, none⟩)], born := 1 }, { key := .int .i64 9, val := .func (.func 103) #[] #[.pointer (some ⟨b, 0, none⟩)], born := 2 }]
  | _ => #[{ key := .int .i64 1, val := .func (.func 101) #[] #[.pointer (some ⟨b, 0, none⟩)], born := 0 }, { key := .int .i64 8, val := .func (.func 102) #[] #[.pointer (some ⟨b, 0, none⟩)], born := 1 }, { key := .int .i64 9, val := .func (.func 103) #[] #[.pointer (some ⟨b, 0, none⟩)], born := 2 }, { key := .int .i64 10, val := .func (.func 104) #[] #[.pointer (some ⟨b, 0, none⟩)], born := 3 }]
theorem rests_any (g : Nat) (w : World) : Calls Try.prog 70 #[.pointer (some ⟨g, 0, none⟩)] w fun e w' => e = .returned (.map (some (w.heap.size + 1))) ∧ (w.alloc (.cells #[.pointer (some ⟨g, 0, none⟩)] 57)).alloc (.map (restsM w.heap.size 4) 4) = w' := by
  have hmm := @run_makeMap Try.prog
  have hmf : ∀ (fn : Fn) (first cap : Array Value) (w : World), (Instr.makeFunc fn first cap).run Try.prog w = .ok (.func fn first cap) w := fun _ _ _ _ => rfl
  obtain ⟨W, hW⟩ : ∃ W, w.alloc (.cells #[.pointer (some ⟨g, 0, none⟩)] 57) = W := ⟨_, rfl⟩
  have hz : W.heap.size = w.heap.size + 1 := by rw [← hW]; simp
  have h0 : (Instr.mapUpdate 116 (.map (some W.heap.size)) (.int .i64 1) (.func (.func 101) #[] #[.pointer (some ⟨w.heap.size, 0, none⟩)])).run Try.prog (W.alloc (.map (restsM w.heap.size 0) 0)) = .ok () (W.alloc (.map (restsM w.heap.size 1) 1)) := (run_iput_new (W.alloc (.map (restsM w.heap.size 0) 0)) 116 3 118 W.heap.size 0 (restsM w.heap.size 0) 1 (.func (.func 101) #[] #[.pointer (some ⟨w.heap.size, 0, none⟩)]) Try.underlying116 Try.underlying3 (World.alloc_heap_new W _) rfl).trans (by rw [putObj_alloc]; rfl)
  have h1 : (Instr.mapUpdate 116 (.map (some W.heap.size)) (.int .i64 8) (.func (.func 102) #[] #[.pointer (some ⟨w.heap.size, 0, none⟩)])).run Try.prog (W.alloc (.map (restsM w.heap.size 1) 1)) = .ok () (W.alloc (.map (restsM w.heap.size 2) 2)) := (run_iput_new (W.alloc (.map (restsM w.heap.size 1) 1)) 116 3 118 W.heap.size 1 (restsM w.heap.size 1) 8 (.func (.func 102) #[] #[.pointer (some ⟨w.heap.size, 0, none⟩)]) Try.underlying116 Try.underlying3 (World.alloc_heap_new W _) rfl).trans (by rw [putObj_alloc]; rfl)
  have h2 : (Instr.mapUpdate 116 (.map (some W.heap.size)) (.int .i64 9) (.func (.func 103) #[] #[.pointer (some ⟨w.heap.size, 0, none⟩)])).run Try.prog (W.alloc (.map (restsM w.heap.size 2) 2)) = .ok () (W.alloc (.map (restsM w.heap.size 3) 3)) := (run_iput_new (W.alloc (.map (restsM w.heap.size 2) 2)) 116 3 118 W.heap.size 2 (restsM w.heap.size 2) 9 (.func (.func 103) #[] #[.pointer (some ⟨w.heap.size, 0, none⟩)]) Try.underlying116 Try.underlying3 (World.alloc_heap_new W _) rfl).trans (by rw [putObj_alloc]; rfl)
  have h3 : (Instr.mapUpdate 116 (.map (some W.heap.size)) (.int .i64 10) (.func (.func 104) #[] #[.pointer (some ⟨w.heap.size, 0, none⟩)])).run Try.prog (W.alloc (.map (restsM w.heap.size 3) 3)) = .ok () (W.alloc (.map (restsM w.heap.size 4) 4)) := (run_iput_new (W.alloc (.map (restsM w.heap.size 3) 3)) 116 3 118 W.heap.size 3 (restsM w.heap.size 3) 10 (.func (.func 104) #[] #[.pointer (some ⟨w.heap.size, 0, none⟩)]) Try.underlying116 Try.underlying3 (World.alloc_heap_new W _) rfl).trans (by rw [putObj_alloc]; rfl)
  rw [hz] at h0 h1 h2 h3
  have h0 : (Instr.mapUpdate 116 (.map (some (w.heap.size + 1))) (.int .i64 1) (.func (.func 101) #[] #[.pointer (some ⟨w.heap.size, 0, none⟩)])).run Try.prog (W.alloc (.map #[] 0)) = _ := h0
  have HZ := Lib.hid hz
  rw [hW]
  go_enter Try.func70, Try.ntmps70
  go_wp2
  go_ret
  exact ⟨rfl, rfl⟩
/-- What stands, but for the maker's block, and one more. -/
structure Kp2 (g x : Nat) (w w' : World) : Prop where
  os : w'.os = w.os
  tape : w'.tape = w.tape
  output : w'.output = w.output
  size : w.heap.size ≤ w'.heap.size
  block : ∀ k, k < w.heap.size → k ≠ g → k ≠ x → w'.heap[k]? = w.heap[k]?
section
variable {g x : Nat} {a w w' : World}
theorem Kp2.refl (g x : Nat) (w : World) : Kp2 g x w w := ⟨rfl, rfl, rfl, Nat.le_refl _, fun _ _ _ _ => rfl⟩
theorem Kp2.trans (h : Kp2 g x a w) (k : Kpg g w w') : Kp2 g x a w' :=
  ⟨k.os.trans h.os, k.tape.trans h.tape, k.output.trans h.output, Nat.le_trans h.size k.size, fun i hi hg hx => (k.block i (Nat.lt_of_lt_of_le hi h.size) hg).trans (h.block i hi hg hx)⟩
theorem Kp2.setX (h : Kp2 g x a w) {p : Addr} (hp : p.block = x) (u : Value) : Kp2 g x a (w.setCell p u) :=
  ⟨h.os, h.tape, h.output, by simpa [World.setCell] using h.size, fun k hk hg hx => (Below.heap_setCell w p u k (by rw [hp]; exact hx)).trans (h.block k hk hg hx)⟩
theorem Kpg.and2 (h : Kpg g a w) (k : Kp2 g x w w') (hx : a.heap.size ≤ x) : Kpg g a w' :=
  ⟨k.os.trans h.os, k.tape.trans h.tape, k.output.trans h.output, Nat.le_trans h.size k.size, fun i hi hg => (k.block i (Nat.lt_of_lt_of_le hi h.size) hg (by omega)).trans (h.block i hi hg)⟩
end
theorem Blk.kp2 {W W' : World} {g x b : Nat} {t : TypeId} {cs : Array Value} (h : Blk W b t cs) (hk : Kp2 g x W W') (hb : b ≠ g) (hx : b ≠ x) : Blk W' b t cs := (hk.block b h.lt hb hx).trans h
/-- What a rest answers: the instruction in the block x is filled. -/
def RestP (x : Nat) (cs : Array Value) (w : World) (c : MC) (r : Option (Int × Gn.D)) (e : Ending) (w' : World) : Prop := ∃ y, e = .returned (.tuple #[]) ∧ Mkr w' c y r ∧ Blk w' x 66 cs ∧ Kp2 c.g x w w'
section
variable {c : MC} {y : MM} {r : Option (Int × Gn.D)} {x b : Nat} (w : World)
set_option maxHeartbeats 4000000 in
theorem rest1_any (h : Mkr w c y r) (ok : MOk c) (her : c.er ≠ 0) (hr : r = none ∨ c.er = 8) (hx : Blk w x 66 #[.int .i64 1, .int .i64 0, .int .i64 0]) (hb : Blk w b 57 #[.pointer (some ⟨c.g, 0, none⟩)]) (hgx : c.g < x) :
    Calls Try.prog 101 #[.pointer (some ⟨x, 0, none⟩), .pointer (some ⟨b, 0, none⟩)] w (RestP x #[.int .i64 1, .int .i64 (gi (Gn.run (Gn.num c.list c.p.val) r)), .int .i64 (gi (Gn.run (Gn.tk c.list (c.k : Int)) (Gn.run (Gn.num c.list c.p.val) r)))] w c (Gn.run (Gn.tk c.list (c.k : Int)) (Gn.run (Gn.num c.list c.p.val) r))) := by
  obtain ⟨q1, hq1⟩ : ∃ q, Gn.run (Gn.num c.list c.p.val) r = q := ⟨_, rfl⟩
  rw [hq1]
  obtain ⟨q2, hq2⟩ : ∃ q, Gn.run (Gn.tk c.list (c.k : Int)) q1 = q := ⟨_, rfl⟩
  rw [hq2]
  have HQ2 := Lib.hid hq2
  have HR1 := Lib.hid (show q1 = none ∨ c.er = 8 from hq1 ▸ hr_run hr _)
  have HQ1 := Lib.hid hq1
  clear hq1 hq2
  have HC := Lib.hid (mnumber_any w h ok her hr)
  have HM := Lib.hid h
  have HK := Lib.hid (Kp2.refl c.g x w)
  have H_x := Lib.hid hx
  have H_b := Lib.hid hb
  have hbx := hb.ty_neD hx (by decide)
  have hbg := hb.ty_neD h.box (by decide)
  clear h hx hb
  clear hr
  have b_0_w := H_b.out.cell 0
  go_enter Try.func101, Try.ntmps101
  go_wp2_with (fail)
  refine HC.out.mono ?_
  rintro e v1 ⟨y1, rfl, hm, hk⟩
  rw [HQ1.out] at hm ⊢
  clear b_0_w
  have N_x : Blk v1 (x) 66 #[.int .i64 1, .int .i64 0, .int .i64 0] := H_x.out.kpg hk (by omega)
  have N_b : Blk v1 (b) 57 #[.pointer (some ⟨c.g, 0, none⟩)] := H_b.out.kpg hk (by omega)
  have NM := hm
  have NK := HK.out.trans hk
  clear hm hk
  clear H_x H_b HM HK
  have H_x := Lib.hid N_x
  clear N_x
  have H_b := Lib.hid N_b
  clear N_b
  have HM := Lib.hid NM
  have HK := Lib.hid NK
  clear NM NK
  clear HC
  obtain ⟨X1, eX1⟩ : ∃ U, v1.setCell ⟨x, 1, none⟩ (.int .i64 (gi q1)) = U := ⟨_, rfl⟩
  have fX1 := H_x.out.frozen 1
  have cX1 := H_x.out.cell 1
  have N_x : Blk X1 (x) 66 #[.int .i64 1, .int .i64 (gi q1), .int .i64 0] := eX1 ▸ H_x.out.set_ 1 _
  have N_b : Blk X1 (b) 57 #[.pointer (some ⟨c.g, 0, none⟩)] := eX1 ▸ H_b.out.other (show x ≠ b by omega) _
  have NM := eX1 ▸ HM.out.set_ (p := ⟨x, 1, none⟩) H_x.out (by decide) (show c.g < x by omega) (.int .i64 (gi q1))
  have NK : Kp2 c.g x w X1 := eX1 ▸ HK.out.setX rfl _
  clear H_x H_b HM HK
  have H_x := Lib.hid N_x
  clear N_x
  have H_b := Lib.hid N_b
  clear N_b
  have HM := Lib.hid NM
  have HK := Lib.hid NK
  clear NM NK
  have HC := Lib.hid (mlabel_any X1 HM.out ok her HR1.out)
  have b_0_X1 := H_b.out.cell 0
  go_wp2_with (fail)
  refine HC.out.mono ?_
  rintro e v2 ⟨y2, rfl, hm, hk⟩
  rw [HQ2.out] at hm ⊢
  clear eX1 fX1 cX1 b_0_X1
  have N_x : Blk v2 (x) 66 #[.int .i64 1, .int .i64 (gi q1), .int .i64 0] := H_x.out.kpg hk (by omega)
  have N_b : Blk v2 (b) 57 #[.pointer (some ⟨c.g, 0, none⟩)] := H_b.out.kpg hk (by omega)
  have NM := hm
  have NK := HK.out.trans hk
  clear hm hk
  clear H_x H_b HM HK
  have H_x := Lib.hid N_x
  clear N_x
  have H_b := Lib.hid N_b
  clear N_b
  have HM := Lib.hid NM
  have HK := Lib.hid NK
  clear NM NK
  clear HC
  obtain ⟨X2, eX2⟩ : ∃ U, v2.setCell ⟨x, 2, none⟩ (.int .i64 (gi q2)) = U := ⟨_, rfl⟩
  have fX2 := H_x.out.frozen 2
  have cX2 := H_x.out.cell 2
  have N_x : Blk X2 (x) 66 #[.int .i64 1, .int .i64 (gi q1), .int .i64 (gi q2)] := eX2 ▸ H_x.out.set_ 2 _
  have N_b : Blk X2 (b) 57 #[.pointer (some ⟨c.g, 0, none⟩)] := eX2 ▸ H_b.out.other (show x ≠ b by omega) _
  have NM := eX2 ▸ HM.out.set_ (p := ⟨x, 2, none⟩) H_x.out (by decide) (show c.g < x by omega) (.int .i64 (gi q2))
  have NK : Kp2 c.g x w X2 := eX2 ▸ HK.out.setX rfl _
  clear H_x H_b HM HK
  have H_x := Lib.hid N_x
  clear N_x
  have H_b := Lib.hid N_b
  clear N_b
  have HM := Lib.hid NM
  have HK := Lib.hid NK
  clear NM NK
  go_wp2
  go_end0
  exact ⟨_, rfl, HM.out, H_x.out, HK.out⟩
set_option maxHeartbeats 4000000 in
theorem rest2_any (h : Mkr w c y r) (ok : MOk c) (her : c.er ≠ 0) (hr : r = none ∨ c.er = 8) (hx : Blk w x 66 #[.int .i64 8, .int .i64 0, .int .i64 0]) (hb : Blk w b 57 #[.pointer (some ⟨c.g, 0, none⟩)]) (hgx : c.g < x) :
    Calls Try.prog 102 #[.pointer (some ⟨x, 0, none⟩), .pointer (some ⟨b, 0, none⟩)] w (RestP x #[.int .i64 8, .int .i64 (gi (Gn.run (Gn.tk c.list 13) r)), .int .i64 0] w c (Gn.run (Gn.tk c.list 13) r)) := by
  obtain ⟨q1, hq1⟩ : ∃ q, Gn.run (Gn.tk c.list 13) r = q := ⟨_, rfl⟩
  rw [hq1]
  have HR1 := Lib.hid (show q1 = none ∨ c.er = 8 from hq1 ▸ hr_run hr _)
  have HQ1 := Lib.hid hq1
  clear hq1
  have HC := Lib.hid (mplace_any w h ok her hr)
  have HM := Lib.hid h
  have HK := Lib.hid (Kp2.refl c.g x w)
  have H_x := Lib.hid hx
  have H_b := Lib.hid hb
  have hbx := hb.ty_neD hx (by decide)
  have hbg := hb.ty_neD h.box (by decide)
  clear h hx hb
  clear hr
  have b_0_w := H_b.out.cell 0
  go_enter Try.func102, Try.ntmps102
  go_wp2_with (fail)
  refine HC.out.mono ?_
  rintro e v1 ⟨y1, rfl, hm, hk⟩
  rw [HQ1.out] at hm ⊢
  clear b_0_w
  have N_x : Blk v1 (x) 66 #[.int .i64 8, .int .i64 0, .int .i64 0] := H_x.out.kpg hk (by omega)
  have N_b : Blk v1 (b) 57 #[.pointer (some ⟨c.g, 0, none⟩)] := H_b.out.kpg hk (by omega)
  have NM := hm
  have NK := HK.out.trans hk
  clear hm hk
  clear H_x H_b HM HK
  have H_x := Lib.hid N_x
  clear N_x
  have H_b := Lib.hid N_b
  clear N_b
  have HM := Lib.hid NM
  have HK := Lib.hid NK
  clear NM NK
  clear HC
  obtain ⟨X1, eX1⟩ : ∃ U, v1.setCell ⟨x, 1, none⟩ (.int .i64 (gi q1)) = U := ⟨_, rfl⟩
  have fX1 := H_x.out.frozen 1
  have cX1 := H_x.out.cell 1
  have N_x : Blk X1 (x) 66 #[.int .i64 8, .int .i64 (gi q1), .int .i64 0] := eX1 ▸ H_x.out.set_ 1 _
  have N_b : Blk X1 (b) 57 #[.pointer (some ⟨c.g, 0, none⟩)] := eX1 ▸ H_b.out.other (show x ≠ b by omega) _
  have NM := eX1 ▸ HM.out.set_ (p := ⟨x, 1, none⟩) H_x.out (by decide) (show c.g < x by omega) (.int .i64 (gi q1))
  have NK : Kp2 c.g x w X1 := eX1 ▸ HK.out.setX rfl _
  clear H_x H_b HM HK
  have H_x := Lib.hid N_x
  clear N_x
  have H_b := Lib.hid N_b
  clear N_b
  have HM := Lib.hid NM
  have HK := Lib.hid NK
  clear NM NK
  go_wp2
  go_end0
  exact ⟨_, rfl, HM.out, H_x.out, HK.out⟩
set_option maxHeartbeats 4000000 in
theorem rest3_any (h : Mkr w c y r) (ok : MOk c) (her : c.er ≠ 0) (hr : r = none ∨ c.er = 8) (hx : Blk w x 66 #[.int .i64 9, .int .i64 0, .int .i64 0]) (hb : Blk w b 57 #[.pointer (some ⟨c.g, 0, none⟩)]) (hgx : c.g < x) :
    Calls Try.prog 103 #[.pointer (some ⟨x, 0, none⟩), .pointer (some ⟨b, 0, none⟩)] w (RestP x #[.int .i64 9, .int .i64 (gi (Gn.run (Gn.tk c.list 4) r)), .int .i64 0] w c (Gn.run (Gn.tk c.list 4) r)) := by
  obtain ⟨q1, hq1⟩ : ∃ q, Gn.run (Gn.tk c.list 4) r = q := ⟨_, rfl⟩
  rw [hq1]
  have HR1 := Lib.hid (show q1 = none ∨ c.er = 8 from hq1 ▸ hr_run hr _)
  have HQ1 := Lib.hid hq1
  clear hq1
  have HC := Lib.hid (mbelow_any w 4 h ok her hr (by decide) (by decide))
  have HM := Lib.hid h
  have HK := Lib.hid (Kp2.refl c.g x w)
  have H_x := Lib.hid hx
  have H_b := Lib.hid hb
  have hbx := hb.ty_neD hx (by decide)
  have hbg := hb.ty_neD h.box (by decide)
  clear h hx hb
  clear hr
  have b_0_w := H_b.out.cell 0
  go_enter Try.func103, Try.ntmps103
  go_wp2_with (fail)
  refine HC.out.mono ?_
  rintro e v1 ⟨y1, rfl, hm, hk⟩
  rw [HQ1.out] at hm ⊢
  clear b_0_w
  have N_x : Blk v1 (x) 66 #[.int .i64 9, .int .i64 0, .int .i64 0] := H_x.out.kpg hk (by omega)
  have N_b : Blk v1 (b) 57 #[.pointer (some ⟨c.g, 0, none⟩)] := H_b.out.kpg hk (by omega)
  have NM := hm
  have NK := HK.out.trans hk
  clear hm hk
  clear H_x H_b HM HK
  have H_x := Lib.hid N_x
  clear N_x
  have H_b := Lib.hid N_b
  clear N_b
  have HM := Lib.hid NM
  have HK := Lib.hid NK
  clear NM NK
  clear HC
  obtain ⟨X1, eX1⟩ : ∃ U, v1.setCell ⟨x, 1, none⟩ (.int .i64 (gi q1)) = U := ⟨_, rfl⟩
  have fX1 := H_x.out.frozen 1
  have cX1 := H_x.out.cell 1
  have N_x : Blk X1 (x) 66 #[.int .i64 9, .int .i64 (gi q1), .int .i64 0] := eX1 ▸ H_x.out.set_ 1 _
  have N_b : Blk X1 (b) 57 #[.pointer (some ⟨c.g, 0, none⟩)] := eX1 ▸ H_b.out.other (show x ≠ b by omega) _
  have NM := eX1 ▸ HM.out.set_ (p := ⟨x, 1, none⟩) H_x.out (by decide) (show c.g < x by omega) (.int .i64 (gi q1))
  have NK : Kp2 c.g x w X1 := eX1 ▸ HK.out.setX rfl _
  clear H_x H_b HM HK
  have H_x := Lib.hid N_x
  clear N_x
  have H_b := Lib.hid N_b
  clear N_b
  have HM := Lib.hid NM
  have HK := Lib.hid NK
  clear NM NK
  go_wp2
  go_end0
  exact ⟨_, rfl, HM.out, H_x.out, HK.out⟩
set_option maxHeartbeats 4000000 in
theorem rest4_any (h : Mkr w c y r) (ok : MOk c) (her : c.er ≠ 0) (hr : r = none ∨ c.er = 8) (hx : Blk w x 66 #[.int .i64 10, .int .i64 0, .int .i64 0]) (hb : Blk w b 57 #[.pointer (some ⟨c.g, 0, none⟩)]) (hgx : c.g < x) :
    Calls Try.prog 104 #[.pointer (some ⟨x, 0, none⟩), .pointer (some ⟨b, 0, none⟩)] w (RestP x #[.int .i64 10, .int .i64 (gi (Gn.run (Gn.tk c.list 2) r)), .int .i64 0] w c (Gn.run (Gn.tk c.list 2) r)) := by
  obtain ⟨q1, hq1⟩ : ∃ q, Gn.run (Gn.tk c.list 2) r = q := ⟨_, rfl⟩
  rw [hq1]
  have HR1 := Lib.hid (show q1 = none ∨ c.er = 8 from hq1 ▸ hr_run hr _)
  have HQ1 := Lib.hid hq1
  clear hq1
  have HC := Lib.hid (mbelow_any w 2 h ok her hr (by decide) (by decide))
  have HM := Lib.hid h
  have HK := Lib.hid (Kp2.refl c.g x w)
  have H_x := Lib.hid hx
  have H_b := Lib.hid hb
  have hbx := hb.ty_neD hx (by decide)
  have hbg := hb.ty_neD h.box (by decide)
  clear h hx hb
  clear hr
  have b_0_w := H_b.out.cell 0
  go_enter Try.func104, Try.ntmps104
  go_wp2_with (fail)
  refine HC.out.mono ?_
  rintro e v1 ⟨y1, rfl, hm, hk⟩
  rw [HQ1.out] at hm ⊢
  clear b_0_w
  have N_x : Blk v1 (x) 66 #[.int .i64 10, .int .i64 0, .int .i64 0] := H_x.out.kpg hk (by omega)
  have N_b : Blk v1 (b) 57 #[.pointer (some ⟨c.g, 0, none⟩)] := H_b.out.kpg hk (by omega)
  have NM := hm
  have NK := HK.out.trans hk
  clear hm hk
  clear H_x H_b HM HK
  have H_x := Lib.hid N_x
  clear N_x
  have H_b := Lib.hid N_b
  clear N_b
  have HM := Lib.hid NM
  have HK := Lib.hid NK
  clear NM NK
  clear HC
  obtain ⟨X1, eX1⟩ : ∃ U, v1.setCell ⟨x, 1, none⟩ (.int .i64 (gi q1)) = U := ⟨_, rfl⟩
  have fX1 := H_x.out.frozen 1
  have cX1 := H_x.out.cell 1
  have N_x : Blk X1 (x) 66 #[.int .i64 10, .int .i64 (gi q1), .int .i64 0] := eX1 ▸ H_x.out.set_ 1 _
  have N_b : Blk X1 (b) 57 #[.pointer (some ⟨c.g, 0, none⟩)] := eX1 ▸ H_b.out.other (show x ≠ b by omega) _
  have NM := eX1 ▸ HM.out.set_ (p := ⟨x, 1, none⟩) H_x.out (by decide) (show c.g < x by omega) (.int .i64 (gi q1))
  have NK : Kp2 c.g x w X1 := eX1 ▸ HK.out.setX rfl _
  clear H_x H_b HM HK
  have H_x := Lib.hid N_x
  clear N_x
  have H_b := Lib.hid N_b
  clear N_b
  have HM := Lib.hid NM
  have HK := Lib.hid NK
  clear NM NK
  go_wp2
  go_end0
  exact ⟨_, rfl, HM.out, H_x.out, HK.out⟩
end
/-- The function that makes instructions, in memory. -/
structure InsC (W : World) (g b1 b3 : Nat) : Prop where
  one : Blk W b1 57 #[.pointer (some ⟨g, 0, none⟩)]
  three : ∃ M b, Blk W b3 116 #[.map (some M)] ∧ W.heap[M]? = some (.map (restsM b 4) 4) ∧ Blk W b 57 #[.pointer (some ⟨g, 0, none⟩)]
theorem InsC.kpg {W W' : World} {g b1 b3 k : Nat} {cs : Array Value} (h : InsC W g b1 b3) (hk : Kpg k W W') (hx : Blk W k 59 cs) : InsC W' g b1 b3 := by
  obtain ⟨M, b, h3, hm, hb⟩ := h.three
  have hM : M ≠ k := by
    rintro rfl
    have e := hm.symm.trans hx
    cases e
  exact ⟨h.one.kpg hk (h.one.ty_neD hx (by decide)), M, b, h3.kpg hk (h3.ty_neD hx (by decide)), (hk.block M (Array.getElem?_eq_some_iff.1 hm).1 hM).trans hm, hb.kpg hk (hb.ty_neD hx (by decide))⟩
def insV (b1 b3 : Nat) : Value := .func (.func 71) #[] #[.pointer (some ⟨b1, 0, none⟩), .pointer (some ⟨b3, 0, none⟩)]
theorem instructions_any (g : Nat) (w : World) : Calls Try.prog 34 #[.pointer (some ⟨g, 0, none⟩)] w fun e w' => ∃ b1 b3, e = .returned (insV b1 b3) ∧ InsC w' g b1 b3 ∧ Below w.heap.size w w' := by
  have hmf : ∀ (fn : Fn) (first cap : Array Value) (w : World), (Instr.makeFunc fn first cap).run Try.prog w = .ok (.func fn first cap) w := fun _ _ _ _ => rfl
  obtain ⟨W, hW⟩ : ∃ W, w.alloc (.cells #[.pointer (some ⟨g, 0, none⟩)] 57) = W := ⟨_, rfl⟩
  have hb1 : Blk W w.heap.size 57 #[.pointer (some ⟨g, 0, none⟩)] := hW ▸ Blk.new w _ _
  have hz : W.heap.size = w.heap.size + 1 := by rw [← hW]; simp
  have hbW : Below w.heap.size w W := hW ▸ (Below.refl _ w).alloc (Nat.le_refl _) _
  have q0 := hb1.cell 0
  have HC := Lib.hid (rests_any g W)
  have HB1 := Lib.hid hb1
  have HZ := Lib.hid hz
  have HBW := Lib.hid hbW
  clear hb1 hz hbW
  go_enter Try.func34, Try.ntmps34
  go_wp2_with (fail)
  refine HC.out.mono ?_
  rintro e w1 ⟨rfl, hw1⟩
  have hb : Blk w1 W.heap.size 57 #[.pointer (some ⟨g, 0, none⟩)] := hw1 ▸ (Blk.new W _ _).alloc _
  have hbw1 : Below W.heap.size W w1 := hw1 ▸ ((Below.refl _ W).alloc (Nat.le_refl _) _).alloc (by simp) _
  have hm1 : w1.heap[W.heap.size + 1]? = some (.map (restsM W.heap.size 4) 4) := by
    have h := World.alloc_heap_new (W.alloc (.cells #[.pointer (some ⟨g, 0, none⟩)] 57)) (.map (restsM W.heap.size 4) 4)
    rw [World.size_alloc] at h
    exact hw1 ▸ h
  have hz1 : W.heap.size + 1 < w1.heap.size := (Array.getElem?_eq_some_iff.1 hm1).1
  obtain ⟨Z, hZ⟩ : ∃ Z, (w1.alloc (.cells #[.map none] 116)).setCell ⟨w1.heap.size, 0, none⟩ (.map (some (W.heap.size + 1))) = Z := ⟨_, rfl⟩
  have hn := Blk.new w1 116 #[.map none]
  have f0 := hn.frozen 0
  have c0 := hn.cell 0
  have h3 : Blk Z w1.heap.size 116 #[.map (some (W.heap.size + 1))] := hZ ▸ hn.set_ 0 _
  have hbZ : Below w1.heap.size w1 Z := hZ ▸ ((Below.refl _ w1).alloc (Nat.le_refl _) _).setCell (p := ⟨w1.heap.size, 0, none⟩) (Nat.le_refl _) _
  have hI : InsC Z g w.heap.size w1.heap.size := ⟨((HB1.out.below hbw1 HB1.out.lt).below hbZ (Nat.lt_of_lt_of_le HB1.out.lt hbw1.size)), W.heap.size + 1, W.heap.size, h3, (hbZ.block _ hz1).trans hm1, hb.below hbZ hb.lt⟩
  have hF := (HBW.out.trans (hbw1.mono HBW.out.size)).trans (hbZ.mono (Nat.le_trans HBW.out.size hbw1.size))
  have HI := Lib.hid hI
  have HF := Lib.hid hF
  clear hb hm1 h3 hI hF hbw1 hbZ hw1 hn HC hz1
  go_wp2
  go_ret
  exact ⟨w.heap.size, w1.heap.size, rfl, HI.out, HF.out⟩
end Go.Proofs.Ytmbgndcahlopdaa

/- Package gen's maker: an instruction (by gen_gme.py). -/
namespace Go.Proofs.Ytmbgndcahlopdaa
set_option maxRecDepth 100000
open Go.RowKit Go.Shelf
attribute [local go_sem] Oper.semAt_some

section
variable (list : List Int) (k : Nat) (p : Gn.Sp)
def Gn.restP : Option (Int × Gn.D) → Option (Cd.In × Gn.D)
  | none => none
  | some (op, d) => Gn.behind list k p op d
theorem ins_restP (r : Option (Int × Gn.D)) : Gn.run (Gn.ins list k p) r = Gn.restP list k p (Gn.run (Gn.wtd list p.ws) r) := by
  cases r with
  | none => rfl
  | some q =>
    obtain ⟨z0, d0⟩ := q
    show Gn.bnd (Gn.wtd list p.ws) (Gn.behind list k p) d0 = Gn.restP list k p (Gn.wtd list p.ws d0)
    cases e : Gn.wtd list p.ws d0 with
    | none => rw [Gn.bnd_none e]; rfl
    | some q => rw [Gn.bnd_some e]; rfl
theorem restP_1 {q : Option (Int × Gn.D)} (h : gi q = 1) : Gn.restP list k p q = (Gn.run (Gn.tk list k) (Gn.run (Gn.num list p.val) q)).map fun x => (⟨1, gi (Gn.run (Gn.num list p.val) q), x.1⟩, x.2) := by
  cases q with
  | none => cases h
  | some q =>
    obtain ⟨op, d⟩ := q
    have h : op = 1 := h
    subst h
    show Gn.behind list k p 1 d = _
    unfold Gn.behind
    rw [if_pos rfl]
    show Gn.bnd (Gn.num list p.val) _ d = (Gn.run (Gn.tk list k) (Gn.num list p.val d)).map fun x => ((⟨1, gi (Gn.num list p.val d), x.1⟩ : Cd.In), x.2)
    cases e3 : Gn.num list p.val d with
    | none => rw [Gn.bnd_none e3]; rfl
    | some q3 => rw [Gn.bnd_some e3, run_ret2]; rfl
theorem restP_8 {q : Option (Int × Gn.D)} (h : gi q = 8) : Gn.restP list k p q = (Gn.run (Gn.tk list 13) q).map fun x => (⟨8, x.1, 0⟩, x.2) := by
  cases q with
  | none => cases h
  | some q =>
    obtain ⟨op, d⟩ := q
    have h : op = 8 := h
    subst h
    show Gn.behind list k p 8 d = (Gn.tk list 13 d).map fun x => ((⟨8, x.1, 0⟩ : Cd.In), x.2)
    unfold Gn.behind
    rw [if_neg (by decide)]
    first | rw [run_ret2] | (rw [if_pos rfl, run_ret2]) | (rw [if_neg (by decide), if_pos rfl, run_ret2]) | (rw [if_neg (by decide), if_neg (by decide), if_pos rfl, run_ret2])
theorem restP_9 {q : Option (Int × Gn.D)} (h : gi q = 9) : Gn.restP list k p q = (Gn.run (Gn.tk list 4) q).map fun x => (⟨9, x.1, 0⟩, x.2) := by
  cases q with
  | none => cases h
  | some q =>
    obtain ⟨op, d⟩ := q
    have h : op = 9 := h
    subst h
    show Gn.behind list k p 9 d = (Gn.tk list 4 d).map fun x => ((⟨9, x.1, 0⟩ : Cd.In), x.2)
    unfold Gn.behind
    rw [if_neg (by decide)]
    first | rw [run_ret2] | (rw [if_pos rfl, run_ret2]) | (rw [if_neg (by decide), if_pos rfl, run_ret2]) | (rw [if_neg (by decide), if_neg (by decide), if_pos rfl, run_ret2])
theorem restP_10 {q : Option (Int × Gn.D)} (h : gi q = 10) : Gn.restP list k p q = (Gn.run (Gn.tk list 2) q).map fun x => (⟨10, x.1, 0⟩, x.2) := by
  cases q with
  | none => cases h
  | some q =>
    obtain ⟨op, d⟩ := q
    have h : op = 10 := h
    subst h
    show Gn.behind list k p 10 d = (Gn.tk list 2 d).map fun x => ((⟨10, x.1, 0⟩ : Cd.In), x.2)
    unfold Gn.behind
    rw [if_neg (by decide)]
    first | rw [run_ret2] | (rw [if_pos rfl, run_ret2]) | (rw [if_neg (by decide), if_pos rfl, run_ret2]) | (rw [if_neg (by decide), if_neg (by decide), if_pos rfl, run_ret2])
theorem restP_0 {q : Option (Int × Gn.D)} (h1 : gi q ≠ 1) (h8 : gi q ≠ 8) (h9 : gi q ≠ 9) (h10 : gi q ≠ 10) : Gn.restP list k p q = q.map fun x => (⟨x.1, 0, 0⟩, x.2) := by
  cases q with
  | none => rfl
  | some q =>
    obtain ⟨op, d⟩ := q
    have h1 : op ≠ 1 := h1
    have h8 : op ≠ 8 := h8
    have h9 : op ≠ 9 := h9
    have h10 : op ≠ 10 := h10
    show Gn.behind list k p op d = _
    unfold Gn.behind
    rw [if_neg h1, if_neg h8, if_neg h9, if_neg h10]
    rfl
end
theorem restsM_no (b : Nat) (n : Int) (h1 : n ≠ 1) (h8 : n ≠ 8) (h9 : n ≠ 9) (h10 : n ≠ 10) : Instr.findNow (.int .i64) (.int .i64 n) (restsM b 4).toList 0 = some none := by
  have e1 : (n == (1 : Int)) = false := by rw [beq_eq_false_iff_ne]; exact h1
  have e8 : (n == (8 : Int)) = false := by rw [beq_eq_false_iff_ne]; exact h8
  have e9 : (n == (9 : Int)) = false := by rw [beq_eq_false_iff_ne]; exact h9
  have e10 : (n == (10 : Int)) = false := by rw [beq_eq_false_iff_ne]; exact h10
  simp only [restsM, Instr.findNow, Instr.sameNow, if_true, e1, e8, e9, e10]
set_option maxHeartbeats 8000000 in
theorem minstr_any {c : MC} {y : MM} {r : Option (Int × Gn.D)} {b1 b3 : Nat} (w : World) (h : Mkr w c y r) (ok : MOk c) (her : c.er ≠ 0) (hr : r = none ∨ c.er = 8) (hI : InsC w c.g b1 b3) :
    Calls Try.prog 71 #[.pointer (some ⟨b1, 0, none⟩), .pointer (some ⟨b3, 0, none⟩)] w (OneP inv w c (Gn.run (Gn.ins c.list c.k c.p) r)) := by
  rw [ins_restP]
  obtain ⟨q1, hq1⟩ : ∃ q, Gn.run (Gn.wtd c.list c.p.ws) r = q := ⟨_, rfl⟩
  rw [hq1]
  obtain ⟨ra, hra⟩ : ∃ q, Gn.restP c.list c.k c.p q1 = q := ⟨_, rfl⟩
  rw [hra]
  obtain ⟨op, hop⟩ : ∃ op, gi q1 = op := ⟨_, rfl⟩
  have HR1 := Lib.hid (show q1 = none ∨ c.er = 8 from hq1 ▸ hr_run hr _)
  have HQ1 := Lib.hid hq1
  have HRA := Lib.hid hra
  have HOP := Lib.hid hop
  clear hq1 hra hop
  obtain ⟨M, b, h3, hm3, hb⟩ := hI.three
  have hMg : M ≠ c.g := by
    rintro rfl
    have e := hm3.symm.trans h.box
    cases e
  have HI1 := Lib.hid hI.one
  have HI3 := Lib.hid h3
  have HIM := Lib.hid (And.intro hm3 hMg)
  have HIB := Lib.hid hb
  have HG := Lib.hid (And.intro (hI.one.ty_neD h.box (by decide)) (And.intro (h3.ty_neD h.box (by decide)) (hb.ty_neD h.box (by decide))))
  clear h3 hm3 hb hMg hI
  have HM := Lib.hid h
  have HK := Lib.hid (Kpg.refl c.g w)
  have hgw := h.box.lt
  have HR := Lib.hid hr
  clear h hr
  obtain ⟨A1, eA1⟩ : ∃ U, w.alloc (.cells #[.int .i64 0, .int .i64 0, .int .i64 0] 66) = U := ⟨_, rfl⟩
  have nA1 : Blk A1 (w.heap.size) 66 #[.int .i64 0, .int .i64 0, .int .i64 0] := eA1 ▸ Blk.new _ _ _
  have NM := eA1 ▸ HM.out.alloc (.cells #[.int .i64 0, .int .i64 0, .int .i64 0] 66)
  have NK : Kpg c.g w A1 := eA1 ▸ HK.out.alloc _
  have gA1 := HM.out.box.lt
  have kA1 := HK.out.size
  clear HM HK
  have HM := Lib.hid NM
  have HK := Lib.hid NK
  clear NM NK
  have H_res := Lib.hid nA1
  clear nA1
  have HC := Lib.hid (mop_any A1 HM.out ok her HR.out)
  have qb1 := (HI1.out.kpg HK.out HG.out.1).cell 0
  go_enter Try.func71, Try.ntmps71
  go_wp2_with (fail)
  refine HC.out.mono ?_
  rintro e v1 ⟨y1, rfl, hm, hk⟩
  rw [HQ1.out] at hm ⊢
  rw [HOP.out]
  clear eA1 qb1
  have N_res : Blk v1 (w.heap.size) 66 #[.int .i64 0, .int .i64 0, .int .i64 0] := H_res.out.kpg hk (by omega)
  have NM := hm
  have NK := HK.out.trans hk
  clear hm hk
  clear H_res HM HK
  have H_res := Lib.hid N_res
  clear N_res
  have HM := Lib.hid NM
  have HK := Lib.hid NK
  clear NM NK
  clear HC
  obtain ⟨A2, eA2⟩ : ∃ U, v1.alloc (.cells #[.int .i64 0, .int .i64 0, .int .i64 0] 66) = U := ⟨_, rfl⟩
  have N_res : Blk A2 (w.heap.size) 66 #[.int .i64 0, .int .i64 0, .int .i64 0] := eA2 ▸ H_res.out.alloc _
  have lA2res := H_res.out.lt
  have nA2 : Blk A2 (v1.heap.size) 66 #[.int .i64 0, .int .i64 0, .int .i64 0] := eA2 ▸ Blk.new _ _ _
  have NM := eA2 ▸ HM.out.alloc (.cells #[.int .i64 0, .int .i64 0, .int .i64 0] 66)
  have NK : Kpg c.g w A2 := eA2 ▸ HK.out.alloc _
  have gA2 := HM.out.box.lt
  have kA2 := HK.out.size
  clear H_res HM HK
  have H_res := Lib.hid N_res
  clear N_res
  have HM := Lib.hid NM
  have HK := Lib.hid NK
  clear NM NK
  have H_x := Lib.hid nA2
  clear nA2
  obtain ⟨X3, eX3⟩ : ∃ U, A2.setCell ⟨v1.heap.size, 0, none⟩ (.int .i64 op) = U := ⟨_, rfl⟩
  have fX3 := H_x.out.frozen 0
  have cX3 := H_x.out.cell 0
  have N_res : Blk X3 (w.heap.size) 66 #[.int .i64 0, .int .i64 0, .int .i64 0] := eX3 ▸ H_res.out.other (show v1.heap.size ≠ w.heap.size by omega) _
  have N_x : Blk X3 (v1.heap.size) 66 #[.int .i64 op, .int .i64 0, .int .i64 0] := eX3 ▸ H_x.out.set_ 0 _
  have NM := eX3 ▸ HM.out.set_ (p := ⟨v1.heap.size, 0, none⟩) H_x.out (by decide) (show c.g < v1.heap.size by omega) (.int .i64 op)
  have NK : Kpg c.g w X3 := eX3 ▸ HK.out.setNew (p := ⟨v1.heap.size, 0, none⟩) (by show w.heap.size ≤ v1.heap.size; omega) _
  clear H_res H_x HM HK
  have H_res := Lib.hid N_res
  clear N_res
  have H_x := Lib.hid N_x
  clear N_x
  have HM := Lib.hid NM
  have HK := Lib.hid NK
  clear NM NK
  obtain ⟨X4, eX4⟩ : ∃ U, X3.setCell ⟨v1.heap.size, 1, none⟩ (.int .i64 0) = U := ⟨_, rfl⟩
  have fX4 := H_x.out.frozen 1
  have cX4 := H_x.out.cell 1
  have N_res : Blk X4 (w.heap.size) 66 #[.int .i64 0, .int .i64 0, .int .i64 0] := eX4 ▸ H_res.out.other (show v1.heap.size ≠ w.heap.size by omega) _
  have N_x : Blk X4 (v1.heap.size) 66 #[.int .i64 op, .int .i64 0, .int .i64 0] := eX4 ▸ H_x.out.set_ 1 _
  have NM := eX4 ▸ HM.out.set_ (p := ⟨v1.heap.size, 1, none⟩) H_x.out (by decide) (show c.g < v1.heap.size by omega) (.int .i64 0)
  have NK : Kpg c.g w X4 := eX4 ▸ HK.out.setNew (p := ⟨v1.heap.size, 1, none⟩) (by show w.heap.size ≤ v1.heap.size; omega) _
  clear H_res H_x HM HK
  have H_res := Lib.hid N_res
  clear N_res
  have H_x := Lib.hid N_x
  clear N_x
  have HM := Lib.hid NM
  have HK := Lib.hid NK
  clear NM NK
  obtain ⟨X5, eX5⟩ : ∃ U, X4.setCell ⟨v1.heap.size, 2, none⟩ (.int .i64 0) = U := ⟨_, rfl⟩
  have fX5 := H_x.out.frozen 2
  have cX5 := H_x.out.cell 2
  have N_res : Blk X5 (w.heap.size) 66 #[.int .i64 0, .int .i64 0, .int .i64 0] := eX5 ▸ H_res.out.other (show v1.heap.size ≠ w.heap.size by omega) _
  have N_x : Blk X5 (v1.heap.size) 66 #[.int .i64 op, .int .i64 0, .int .i64 0] := eX5 ▸ H_x.out.set_ 2 _
  have NM := eX5 ▸ HM.out.set_ (p := ⟨v1.heap.size, 2, none⟩) H_x.out (by decide) (show c.g < v1.heap.size by omega) (.int .i64 0)
  have NK : Kpg c.g w X5 := eX5 ▸ HK.out.setNew (p := ⟨v1.heap.size, 2, none⟩) (by show w.heap.size ≤ v1.heap.size; omega) _
  clear H_res H_x HM HK
  have H_res := Lib.hid N_res
  clear N_res
  have H_x := Lib.hid N_x
  clear N_x
  have HM := Lib.hid NM
  have HK := Lib.hid NK
  clear NM NK
  have x_0_X5 := H_x.out.cell 0
  have x_1_X5 := H_x.out.cell 1
  have x_2_X5 := H_x.out.cell 2
  have qb3 := (HI3.out.kpg HK.out HG.out.2.1).cell 0
  have qM : X5.heap[M]? = some (.map (restsM b 4) 4) := (HK.out.block M (Array.getElem?_eq_some_iff.1 HIM.out.1).1 HIM.out.2).trans HIM.out.1
  have QM := Lib.hid qM
  clear qM
  by_cases h1 : op = 1
  · skip
    subst h1
    obtain ⟨q2, hq2⟩ : ∃ q, Gn.run (Gn.num c.list c.p.val) q1 = q := ⟨_, rfl⟩
    obtain ⟨q3, hq3⟩ : ∃ q, Gn.run (Gn.tk c.list (c.k : Int)) q2 = q := ⟨_, rfl⟩
    have he := restP_1 c.list c.k c.p HOP.out
    rw [HRA.out, hq2, hq3] at he
    have HE := Lib.hid he.symm
    have hcf := Try.call101
    have hlk := run_ilook_there X5 true 116 3 118 M 4 0 (restsM b 4) 1 (.func (.func 101) #[] #[.pointer (some ⟨b, 0, none⟩)]) Try.underlying116 Try.underlying3 QM.out rfl
    rw [if_pos rfl] at hlk
    have hc := rest1_any X5 HM.out ok her HR1.out H_x.out (HIB.out.kpg HK.out HG.out.2.2) (show c.g < v1.heap.size by omega)
    rw [hq2, hq3] at hc
    have HC := Lib.hid hc
    clear he hc hq2 hq3
    go_wp2_with (fail)
    refine HC.out.mono ?_
    rintro e v2 ⟨y2, rfl, hm, hx, hk2⟩
    clear eA2 eX3 fX3 cX3 eX4 fX4 cX4 eX5 fX5 cX5 x_0_X5 x_1_X5 x_2_X5 qb3 hlk hcf HC
    have N_res : Blk v2 (w.heap.size) 66 #[.int .i64 0, .int .i64 0, .int .i64 0] := H_res.out.kp2 hk2 (by omega) (by omega)
    have N_x := hx
    have NM := hm
    have NK := HK.out.and2 hk2 (show w.heap.size ≤ v1.heap.size by omega)
    clear hm hx hk2
    clear H_res H_x HM HK
    have H_res := Lib.hid N_res
    clear N_res
    have H_x := Lib.hid N_x
    clear N_x
    have HM := Lib.hid NM
    have HK := Lib.hid NK
    clear NM NK
    have x_0_v2 := H_x.out.cell 0
    have x_1_v2 := H_x.out.cell 1
    have x_2_v2 := H_x.out.cell 2
    obtain ⟨X6, eX6⟩ : ∃ U, v2.setCell ⟨w.heap.size, 0, none⟩ (.int .i64 1) = U := ⟨_, rfl⟩
    have fX6 := H_res.out.frozen 0
    have cX6 := H_res.out.cell 0
    have N_res : Blk X6 (w.heap.size) 66 #[.int .i64 1, .int .i64 0, .int .i64 0] := eX6 ▸ H_res.out.set_ 0 _
    have N_x : Blk X6 (v1.heap.size) 66 #[.int .i64 1, .int .i64 (gi q2), .int .i64 (gi q3)] := eX6 ▸ H_x.out.other (show w.heap.size ≠ v1.heap.size by omega) _
    have NM := eX6 ▸ HM.out.set_ (p := ⟨w.heap.size, 0, none⟩) H_res.out (by decide) (show c.g < w.heap.size by omega) (.int .i64 1)
    have NK : Kpg c.g w X6 := eX6 ▸ HK.out.setNew (p := ⟨w.heap.size, 0, none⟩) (by show w.heap.size ≤ w.heap.size; omega) _
    clear H_res H_x HM HK
    have H_res := Lib.hid N_res
    clear N_res
    have H_x := Lib.hid N_x
    clear N_x
    have HM := Lib.hid NM
    have HK := Lib.hid NK
    clear NM NK
    obtain ⟨X7, eX7⟩ : ∃ U, X6.setCell ⟨w.heap.size, 1, none⟩ (.int .i64 (gi q2)) = U := ⟨_, rfl⟩
    have fX7 := H_res.out.frozen 1
    have cX7 := H_res.out.cell 1
    have N_res : Blk X7 (w.heap.size) 66 #[.int .i64 1, .int .i64 (gi q2), .int .i64 0] := eX7 ▸ H_res.out.set_ 1 _
    have N_x : Blk X7 (v1.heap.size) 66 #[.int .i64 1, .int .i64 (gi q2), .int .i64 (gi q3)] := eX7 ▸ H_x.out.other (show w.heap.size ≠ v1.heap.size by omega) _
    have NM := eX7 ▸ HM.out.set_ (p := ⟨w.heap.size, 1, none⟩) H_res.out (by decide) (show c.g < w.heap.size by omega) (.int .i64 (gi q2))
    have NK : Kpg c.g w X7 := eX7 ▸ HK.out.setNew (p := ⟨w.heap.size, 1, none⟩) (by show w.heap.size ≤ w.heap.size; omega) _
    clear H_res H_x HM HK
    have H_res := Lib.hid N_res
    clear N_res
    have H_x := Lib.hid N_x
    clear N_x
    have HM := Lib.hid NM
    have HK := Lib.hid NK
    clear NM NK
    obtain ⟨X8, eX8⟩ : ∃ U, X7.setCell ⟨w.heap.size, 2, none⟩ (.int .i64 (gi q3)) = U := ⟨_, rfl⟩
    have fX8 := H_res.out.frozen 2
    have cX8 := H_res.out.cell 2
    have N_res : Blk X8 (w.heap.size) 66 #[.int .i64 1, .int .i64 (gi q2), .int .i64 (gi q3)] := eX8 ▸ H_res.out.set_ 2 _
    have N_x : Blk X8 (v1.heap.size) 66 #[.int .i64 1, .int .i64 (gi q2), .int .i64 (gi q3)] := eX8 ▸ H_x.out.other (show w.heap.size ≠ v1.heap.size by omega) _
    have NM := eX8 ▸ HM.out.set_ (p := ⟨w.heap.size, 2, none⟩) H_res.out (by decide) (show c.g < w.heap.size by omega) (.int .i64 (gi q3))
    have NK : Kpg c.g w X8 := eX8 ▸ HK.out.setNew (p := ⟨w.heap.size, 2, none⟩) (by show w.heap.size ≤ w.heap.size; omega) _
    clear H_res H_x HM HK
    have H_res := Lib.hid N_res
    clear N_res
    have H_x := Lib.hid N_x
    clear N_x
    have HM := Lib.hid NM
    have HK := Lib.hid NK
    clear NM NK
    have res_0_X8 := H_res.out.cell 0
    have res_1_X8 := H_res.out.cell 1
    have res_2_X8 := H_res.out.cell 2
    go_wp2
    exact bodyPost_ret (v := .agg #[.int .i64 1, .int .i64 (gi q2), .int .i64 (gi q3)]) (by simp [results, Try.results71, go_sem, res_0_X8, res_1_X8, res_2_X8]) rfl ⟨y2, ⟨1, gi q2, gi q3⟩, rfl, HE.out ▸ HM.out.map (fun z => (⟨1, gi q2, z⟩ : Cd.In)), HK.out, fun x' d e => by
      rw [← HE.out] at e
      obtain ⟨z, e1, e2⟩ := map_val (f := fun z => (⟨1, gi q2, z⟩ : Cd.In)) e
      rw [e2, gi_some e1]⟩
  by_cases h8 : op = 8
  · skip
    subst h8
    obtain ⟨q2, hq2⟩ : ∃ q, Gn.run (Gn.tk c.list 13) q1 = q := ⟨_, rfl⟩
    have he := restP_8 c.list c.k c.p HOP.out
    rw [HRA.out, hq2] at he
    have HE := Lib.hid he.symm
    have hcf := Try.call102
    have hlk := run_ilook_there X5 true 116 3 118 M 4 1 (restsM b 4) 8 (.func (.func 102) #[] #[.pointer (some ⟨b, 0, none⟩)]) Try.underlying116 Try.underlying3 QM.out rfl
    rw [if_pos rfl] at hlk
    have hc := rest2_any X5 HM.out ok her HR1.out H_x.out (HIB.out.kpg HK.out HG.out.2.2) (show c.g < v1.heap.size by omega)
    rw [hq2] at hc
    have HC := Lib.hid hc
    clear he hc hq2
    go_wp2_with (fail)
    refine HC.out.mono ?_
    rintro e v2 ⟨y2, rfl, hm, hx, hk2⟩
    clear eA2 eX3 fX3 cX3 eX4 fX4 cX4 eX5 fX5 cX5 x_0_X5 x_1_X5 x_2_X5 qb3 hlk hcf HC
    have N_res : Blk v2 (w.heap.size) 66 #[.int .i64 0, .int .i64 0, .int .i64 0] := H_res.out.kp2 hk2 (by omega) (by omega)
    have N_x := hx
    have NM := hm
    have NK := HK.out.and2 hk2 (show w.heap.size ≤ v1.heap.size by omega)
    clear hm hx hk2
    clear H_res H_x HM HK
    have H_res := Lib.hid N_res
    clear N_res
    have H_x := Lib.hid N_x
    clear N_x
    have HM := Lib.hid NM
    have HK := Lib.hid NK
    clear NM NK
    have x_0_v2 := H_x.out.cell 0
    have x_1_v2 := H_x.out.cell 1
    have x_2_v2 := H_x.out.cell 2
    obtain ⟨X6, eX6⟩ : ∃ U, v2.setCell ⟨w.heap.size, 0, none⟩ (.int .i64 8) = U := ⟨_, rfl⟩
    have fX6 := H_res.out.frozen 0
    have cX6 := H_res.out.cell 0
    have N_res : Blk X6 (w.heap.size) 66 #[.int .i64 8, .int .i64 0, .int .i64 0] := eX6 ▸ H_res.out.set_ 0 _
    have N_x : Blk X6 (v1.heap.size) 66 #[.int .i64 8, .int .i64 (gi q2), .int .i64 0] := eX6 ▸ H_x.out.other (show w.heap.size ≠ v1.heap.size by omega) _
    have NM := eX6 ▸ HM.out.set_ (p := ⟨w.heap.size, 0, none⟩) H_res.out (by decide) (show c.g < w.heap.size by omega) (.int .i64 8)
    have NK : Kpg c.g w X6 := eX6 ▸ HK.out.setNew (p := ⟨w.heap.size, 0, none⟩) (by show w.heap.size ≤ w.heap.size; omega) _
    clear H_res H_x HM HK
    have H_res := Lib.hid N_res
    clear N_res
    have H_x := Lib.hid N_x
    clear N_x
    have HM := Lib.hid NM
    have HK := Lib.hid NK
    clear NM NK
    obtain ⟨X7, eX7⟩ : ∃ U, X6.setCell ⟨w.heap.size, 1, none⟩ (.int .i64 (gi q2)) = U := ⟨_, rfl⟩
    have fX7 := H_res.out.frozen 1
    have cX7 := H_res.out.cell 1
    have N_res : Blk X7 (w.heap.size) 66 #[.int .i64 8, .int .i64 (gi q2), .int .i64 0] := eX7 ▸ H_res.out.set_ 1 _
    have N_x : Blk X7 (v1.heap.size) 66 #[.int .i64 8, .int .i64 (gi q2), .int .i64 0] := eX7 ▸ H_x.out.other (show w.heap.size ≠ v1.heap.size by omega) _
    have NM := eX7 ▸ HM.out.set_ (p := ⟨w.heap.size, 1, none⟩) H_res.out (by decide) (show c.g < w.heap.size by omega) (.int .i64 (gi q2))
    have NK : Kpg c.g w X7 := eX7 ▸ HK.out.setNew (p := ⟨w.heap.size, 1, none⟩) (by show w.heap.size ≤ w.heap.size; omega) _
    clear H_res H_x HM HK
    have H_res := Lib.hid N_res
    clear N_res
    have H_x := Lib.hid N_x
    clear N_x
    have HM := Lib.hid NM
    have HK := Lib.hid NK
    clear NM NK
    obtain ⟨X8, eX8⟩ : ∃ U, X7.setCell ⟨w.heap.size, 2, none⟩ (.int .i64 0) = U := ⟨_, rfl⟩
    have fX8 := H_res.out.frozen 2
    have cX8 := H_res.out.cell 2
    have N_res : Blk X8 (w.heap.size) 66 #[.int .i64 8, .int .i64 (gi q2), .int .i64 0] := eX8 ▸ H_res.out.set_ 2 _
    have N_x : Blk X8 (v1.heap.size) 66 #[.int .i64 8, .int .i64 (gi q2), .int .i64 0] := eX8 ▸ H_x.out.other (show w.heap.size ≠ v1.heap.size by omega) _
    have NM := eX8 ▸ HM.out.set_ (p := ⟨w.heap.size, 2, none⟩) H_res.out (by decide) (show c.g < w.heap.size by omega) (.int .i64 0)
    have NK : Kpg c.g w X8 := eX8 ▸ HK.out.setNew (p := ⟨w.heap.size, 2, none⟩) (by show w.heap.size ≤ w.heap.size; omega) _
    clear H_res H_x HM HK
    have H_res := Lib.hid N_res
    clear N_res
    have H_x := Lib.hid N_x
    clear N_x
    have HM := Lib.hid NM
    have HK := Lib.hid NK
    clear NM NK
    have res_0_X8 := H_res.out.cell 0
    have res_1_X8 := H_res.out.cell 1
    have res_2_X8 := H_res.out.cell 2
    go_wp2
    exact bodyPost_ret (v := .agg #[.int .i64 8, .int .i64 (gi q2), .int .i64 0]) (by simp [results, Try.results71, go_sem, res_0_X8, res_1_X8, res_2_X8]) rfl ⟨y2, ⟨8, gi q2, 0⟩, rfl, HE.out ▸ HM.out.map (fun z => (⟨8, z, 0⟩ : Cd.In)), HK.out, fun x' d e => by
      rw [← HE.out] at e
      obtain ⟨z, e1, e2⟩ := map_val (f := fun z => (⟨8, z, 0⟩ : Cd.In)) e
      rw [e2, gi_some e1]⟩
  by_cases h9 : op = 9
  · skip
    subst h9
    obtain ⟨q2, hq2⟩ : ∃ q, Gn.run (Gn.tk c.list 4) q1 = q := ⟨_, rfl⟩
    have he := restP_9 c.list c.k c.p HOP.out
    rw [HRA.out, hq2] at he
    have HE := Lib.hid he.symm
    have hcf := Try.call103
    have hlk := run_ilook_there X5 true 116 3 118 M 4 2 (restsM b 4) 9 (.func (.func 103) #[] #[.pointer (some ⟨b, 0, none⟩)]) Try.underlying116 Try.underlying3 QM.out rfl
    rw [if_pos rfl] at hlk
    have hc := rest3_any X5 HM.out ok her HR1.out H_x.out (HIB.out.kpg HK.out HG.out.2.2) (show c.g < v1.heap.size by omega)
    rw [hq2] at hc
    have HC := Lib.hid hc
    clear he hc hq2
    go_wp2_with (fail)
    refine HC.out.mono ?_
    rintro e v2 ⟨y2, rfl, hm, hx, hk2⟩
    clear eA2 eX3 fX3 cX3 eX4 fX4 cX4 eX5 fX5 cX5 x_0_X5 x_1_X5 x_2_X5 qb3 hlk hcf HC
    have N_res : Blk v2 (w.heap.size) 66 #[.int .i64 0, .int .i64 0, .int .i64 0] := H_res.out.kp2 hk2 (by omega) (by omega)
    have N_x := hx
    have NM := hm
    have NK := HK.out.and2 hk2 (show w.heap.size ≤ v1.heap.size by omega)
    clear hm hx hk2
    clear H_res H_x HM HK
    have H_res := Lib.hid N_res
    clear N_res
    have H_x := Lib.hid N_x
    clear N_x
    have HM := Lib.hid NM
    have HK := Lib.hid NK
    clear NM NK
    have x_0_v2 := H_x.out.cell 0
    have x_1_v2 := H_x.out.cell 1
    have x_2_v2 := H_x.out.cell 2
    obtain ⟨X6, eX6⟩ : ∃ U, v2.setCell ⟨w.heap.size, 0, none⟩ (.int .i64 9) = U := ⟨_, rfl⟩
    have fX6 := H_res.out.frozen 0
    have cX6 := H_res.out.cell 0
    have N_res : Blk X6 (w.heap.size) 66 #[.int .i64 9, .int .i64 0, .int .i64 0] := eX6 ▸ H_res.out.set_ 0 _
    have N_x : Blk X6 (v1.heap.size) 66 #[.int .i64 9, .int .i64 (gi q2), .int .i64 0] := eX6 ▸ H_x.out.other (show w.heap.size ≠ v1.heap.size by omega) _
    have NM := eX6 ▸ HM.out.set_ (p := ⟨w.heap.size, 0, none⟩) H_res.out (by decide) (show c.g < w.heap.size by omega) (.int .i64 9)
    have NK : Kpg c.g w X6 := eX6 ▸ HK.out.setNew (p := ⟨w.heap.size, 0, none⟩) (by show w.heap.size ≤ w.heap.size; omega) _
    clear H_res H_x HM HK
    have H_res := Lib.hid N_res
    clear N_res
    have H_x := Lib.hid N_x
    clear N_x
    have HM := Lib.hid NM
    have HK := Lib.hid NK
    clear NM NK
    obtain ⟨X7, eX7⟩ : ∃ U, X6.setCell ⟨w.heap.size, 1, none⟩ (.int .i64 (gi q2)) = U := ⟨_, rfl⟩
    have fX7 := H_res.out.frozen 1
    have cX7 := H_res.out.cell 1
    have N_res : Blk X7 (w.heap.size) 66 #[.int .i64 9, .int .i64 (gi q2), .int .i64 0] := eX7 ▸ H_res.out.set_ 1 _
    have N_x : Blk X7 (v1.heap.size) 66 #[.int .i64 9, .int .i64 (gi q2), .int .i64 0] := eX7 ▸ H_x.out.other (show w.heap.size ≠ v1.heap.size by omega) _
    have NM := eX7 ▸ HM.out.set_ (p := ⟨w.heap.size, 1, none⟩) H_res.out (by decide) (show c.g < w.heap.size by omega) (.int .i64 (gi q2))
    have NK : Kpg c.g w X7 := eX7 ▸ HK.out.setNew (p := ⟨w.heap.size, 1, none⟩) (by show w.heap.size ≤ w.heap.size; omega) _
    clear H_res H_x HM HK
    have H_res := Lib.hid N_res
    clear N_res
    have H_x := Lib.hid N_x
    clear N_x
    have HM := Lib.hid NM
    have HK := Lib.hid NK
    clear NM NK
    obtain ⟨X8, eX8⟩ : ∃ U, X7.setCell ⟨w.heap.size, 2, none⟩ (.int .i64 0) = U := ⟨_, rfl⟩
    have fX8 := H_res.out.frozen 2
    have cX8 := H_res.out.cell 2
    have N_res : Blk X8 (w.heap.size) 66 #[.int .i64 9, .int .i64 (gi q2), .int .i64 0] := eX8 ▸ H_res.out.set_ 2 _
    have N_x : Blk X8 (v1.heap.size) 66 #[.int .i64 9, .int .i64 (gi q2), .int .i64 0] := eX8 ▸ H_x.out.other (show w.heap.size ≠ v1.heap.size by omega) _
    have NM := eX8 ▸ HM.out.set_ (p := ⟨w.heap.size, 2, none⟩) H_res.out (by decide) (show c.g < w.heap.size by omega) (.int .i64 0)
    have NK : Kpg c.g w X8 := eX8 ▸ HK.out.setNew (p := ⟨w.heap.size, 2, none⟩) (by show w.heap.size ≤ w.heap.size; omega) _
    clear H_res H_x HM HK
    have H_res := Lib.hid N_res
    clear N_res
    have H_x := Lib.hid N_x
    clear N_x
    have HM := Lib.hid NM
    have HK := Lib.hid NK
    clear NM NK
    have res_0_X8 := H_res.out.cell 0
    have res_1_X8 := H_res.out.cell 1
    have res_2_X8 := H_res.out.cell 2
    go_wp2
    exact bodyPost_ret (v := .agg #[.int .i64 9, .int .i64 (gi q2), .int .i64 0]) (by simp [results, Try.results71, go_sem, res_0_X8, res_1_X8, res_2_X8]) rfl ⟨y2, ⟨9, gi q2, 0⟩, rfl, HE.out ▸ HM.out.map (fun z => (⟨9, z, 0⟩ : Cd.In)), HK.out, fun x' d e => by
      rw [← HE.out] at e
      obtain ⟨z, e1, e2⟩ := map_val (f := fun z => (⟨9, z, 0⟩ : Cd.In)) e
      rw [e2, gi_some e1]⟩
  by_cases h10 : op = 10
  · skip
    subst h10
    obtain ⟨q2, hq2⟩ : ∃ q, Gn.run (Gn.tk c.list 2) q1 = q := ⟨_, rfl⟩
    have he := restP_10 c.list c.k c.p HOP.out
    rw [HRA.out, hq2] at he
    have HE := Lib.hid he.symm
    have hcf := Try.call104
    have hlk := run_ilook_there X5 true 116 3 118 M 4 3 (restsM b 4) 10 (.func (.func 104) #[] #[.pointer (some ⟨b, 0, none⟩)]) Try.underlying116 Try.underlying3 QM.out rfl
    rw [if_pos rfl] at hlk
    have hc := rest4_any X5 HM.out ok her HR1.out H_x.out (HIB.out.kpg HK.out HG.out.2.2) (show c.g < v1.heap.size by omega)
    rw [hq2] at hc
    have HC := Lib.hid hc
    clear he hc hq2
    go_wp2_with (fail)
    refine HC.out.mono ?_
    rintro e v2 ⟨y2, rfl, hm, hx, hk2⟩
    clear eA2 eX3 fX3 cX3 eX4 fX4 cX4 eX5 fX5 cX5 x_0_X5 x_1_X5 x_2_X5 qb3 hlk hcf HC
    have N_res : Blk v2 (w.heap.size) 66 #[.int .i64 0, .int .i64 0, .int .i64 0] := H_res.out.kp2 hk2 (by omega) (by omega)
    have N_x := hx
    have NM := hm
    have NK := HK.out.and2 hk2 (show w.heap.size ≤ v1.heap.size by omega)
    clear hm hx hk2
    clear H_res H_x HM HK
    have H_res := Lib.hid N_res
    clear N_res
    have H_x := Lib.hid N_x
    clear N_x
    have HM := Lib.hid NM
    have HK := Lib.hid NK
    clear NM NK
    have x_0_v2 := H_x.out.cell 0
    have x_1_v2 := H_x.out.cell 1
    have x_2_v2 := H_x.out.cell 2
    obtain ⟨X6, eX6⟩ : ∃ U, v2.setCell ⟨w.heap.size, 0, none⟩ (.int .i64 10) = U := ⟨_, rfl⟩
    have fX6 := H_res.out.frozen 0
    have cX6 := H_res.out.cell 0
    have N_res : Blk X6 (w.heap.size) 66 #[.int .i64 10, .int .i64 0, .int .i64 0] := eX6 ▸ H_res.out.set_ 0 _
    have N_x : Blk X6 (v1.heap.size) 66 #[.int .i64 10, .int .i64 (gi q2), .int .i64 0] := eX6 ▸ H_x.out.other (show w.heap.size ≠ v1.heap.size by omega) _
    have NM := eX6 ▸ HM.out.set_ (p := ⟨w.heap.size, 0, none⟩) H_res.out (by decide) (show c.g < w.heap.size by omega) (.int .i64 10)
    have NK : Kpg c.g w X6 := eX6 ▸ HK.out.setNew (p := ⟨w.heap.size, 0, none⟩) (by show w.heap.size ≤ w.heap.size; omega) _
    clear H_res H_x HM HK
    have H_res := Lib.hid N_res
    clear N_res
    have H_x := Lib.hid N_x
    clear N_x
    have HM := Lib.hid NM
    have HK := Lib.hid NK
    clear NM NK
    obtain ⟨X7, eX7⟩ : ∃ U, X6.setCell ⟨w.heap.size, 1, none⟩ (.int .i64 (gi q2)) = U := ⟨_, rfl⟩
    have fX7 := H_res.out.frozen 1
    have cX7 := H_res.out.cell 1
    have N_res : Blk X7 (w.heap.size) 66 #[.int .i64 10, .int .i64 (gi q2), .int .i64 0] := eX7 ▸ H_res.out.set_ 1 _
    have N_x : Blk X7 (v1.heap.size) 66 #[.int .i64 10, .int .i64 (gi q2), .int .i64 0] := eX7 ▸ H_x.out.other (show w.heap.size ≠ v1.heap.size by omega) _
    have NM := eX7 ▸ HM.out.set_ (p := ⟨w.heap.size, 1, none⟩) H_res.out (by decide) (show c.g < w.heap.size by omega) (.int .i64 (gi q2))
    have NK : Kpg c.g w X7 := eX7 ▸ HK.out.setNew (p := ⟨w.heap.size, 1, none⟩) (by show w.heap.size ≤ w.heap.size; omega) _
    clear H_res H_x HM HK
    have H_res := Lib.hid N_res
    clear N_res
    have H_x := Lib.hid N_x
    clear N_x
    have HM := Lib.hid NM
    have HK := Lib.hid NK
    clear NM NK
    obtain ⟨X8, eX8⟩ : ∃ U, X7.setCell ⟨w.heap.size, 2, none⟩ (.int .i64 0) = U := ⟨_, rfl⟩
    have fX8 := H_res.out.frozen 2
    have cX8 := H_res.out.cell 2
    have N_res : Blk X8 (w.heap.size) 66 #[.int .i64 10, .int .i64 (gi q2), .int .i64 0] := eX8 ▸ H_res.out.set_ 2 _
    have N_x : Blk X8 (v1.heap.size) 66 #[.int .i64 10, .int .i64 (gi q2), .int .i64 0] := eX8 ▸ H_x.out.other (show w.heap.size ≠ v1.heap.size by omega) _
    have NM := eX8 ▸ HM.out.set_ (p := ⟨w.heap.size, 2, none⟩) H_res.out (by decide) (show c.g < w.heap.size by omega) (.int .i64 0)
    have NK : Kpg c.g w X8 := eX8 ▸ HK.out.setNew (p := ⟨w.heap.size, 2, none⟩) (by show w.heap.size ≤ w.heap.size; omega) _
    clear H_res H_x HM HK
    have H_res := Lib.hid N_res
    clear N_res
    have H_x := Lib.hid N_x
    clear N_x
    have HM := Lib.hid NM
    have HK := Lib.hid NK
    clear NM NK
    have res_0_X8 := H_res.out.cell 0
    have res_1_X8 := H_res.out.cell 1
    have res_2_X8 := H_res.out.cell 2
    go_wp2
    exact bodyPost_ret (v := .agg #[.int .i64 10, .int .i64 (gi q2), .int .i64 0]) (by simp [results, Try.results71, go_sem, res_0_X8, res_1_X8, res_2_X8]) rfl ⟨y2, ⟨10, gi q2, 0⟩, rfl, HE.out ▸ HM.out.map (fun z => (⟨10, z, 0⟩ : Cd.In)), HK.out, fun x' d e => by
      rw [← HE.out] at e
      obtain ⟨z, e1, e2⟩ := map_val (f := fun z => (⟨10, z, 0⟩ : Cd.In)) e
      rw [e2, gi_some e1]⟩
  have he := restP_0 c.list c.k c.p (by rw [HOP.out]; exact h1) (by rw [HOP.out]; exact h8) (by rw [HOP.out]; exact h9) (by rw [HOP.out]; exact h10)
  rw [HRA.out] at he
  have HE := Lib.hid he.symm
  have hlk := run_ilook_not X5 116 3 118 M 4 (restsM b 4) op .nilFunc Try.underlying116 Try.underlying3 QM.out (restsM_no b op h1 h8 h9 h10) (by kernel_rfl)
  clear he h1 h8 h9 h10
  have x_0_X5 := H_x.out.cell 0
  have x_1_X5 := H_x.out.cell 1
  have x_2_X5 := H_x.out.cell 2
  obtain ⟨X6, eX6⟩ : ∃ U, X5.setCell ⟨w.heap.size, 0, none⟩ (.int .i64 op) = U := ⟨_, rfl⟩
  have fX6 := H_res.out.frozen 0
  have cX6 := H_res.out.cell 0
  have N_res : Blk X6 (w.heap.size) 66 #[.int .i64 op, .int .i64 0, .int .i64 0] := eX6 ▸ H_res.out.set_ 0 _
  have N_x : Blk X6 (v1.heap.size) 66 #[.int .i64 op, .int .i64 0, .int .i64 0] := eX6 ▸ H_x.out.other (show w.heap.size ≠ v1.heap.size by omega) _
  have NM := eX6 ▸ HM.out.set_ (p := ⟨w.heap.size, 0, none⟩) H_res.out (by decide) (show c.g < w.heap.size by omega) (.int .i64 op)
  have NK : Kpg c.g w X6 := eX6 ▸ HK.out.setNew (p := ⟨w.heap.size, 0, none⟩) (by show w.heap.size ≤ w.heap.size; omega) _
  clear H_res H_x HM HK
  have H_res := Lib.hid N_res
  clear N_res
  have H_x := Lib.hid N_x
  clear N_x
  have HM := Lib.hid NM
  have HK := Lib.hid NK
  clear NM NK
  obtain ⟨X7, eX7⟩ : ∃ U, X6.setCell ⟨w.heap.size, 1, none⟩ (.int .i64 0) = U := ⟨_, rfl⟩
  have fX7 := H_res.out.frozen 1
  have cX7 := H_res.out.cell 1
  have N_res : Blk X7 (w.heap.size) 66 #[.int .i64 op, .int .i64 0, .int .i64 0] := eX7 ▸ H_res.out.set_ 1 _
  have N_x : Blk X7 (v1.heap.size) 66 #[.int .i64 op, .int .i64 0, .int .i64 0] := eX7 ▸ H_x.out.other (show w.heap.size ≠ v1.heap.size by omega) _
  have NM := eX7 ▸ HM.out.set_ (p := ⟨w.heap.size, 1, none⟩) H_res.out (by decide) (show c.g < w.heap.size by omega) (.int .i64 0)
  have NK : Kpg c.g w X7 := eX7 ▸ HK.out.setNew (p := ⟨w.heap.size, 1, none⟩) (by show w.heap.size ≤ w.heap.size; omega) _
  clear H_res H_x HM HK
  have H_res := Lib.hid N_res
  clear N_res
  have H_x := Lib.hid N_x
  clear N_x
  have HM := Lib.hid NM
  have HK := Lib.hid NK
  clear NM NK
  obtain ⟨X8, eX8⟩ : ∃ U, X7.setCell ⟨w.heap.size, 2, none⟩ (.int .i64 0) = U := ⟨_, rfl⟩
  have fX8 := H_res.out.frozen 2
  have cX8 := H_res.out.cell 2
  have N_res : Blk X8 (w.heap.size) 66 #[.int .i64 op, .int .i64 0, .int .i64 0] := eX8 ▸ H_res.out.set_ 2 _
  have N_x : Blk X8 (v1.heap.size) 66 #[.int .i64 op, .int .i64 0, .int .i64 0] := eX8 ▸ H_x.out.other (show w.heap.size ≠ v1.heap.size by omega) _
  have NM := eX8 ▸ HM.out.set_ (p := ⟨w.heap.size, 2, none⟩) H_res.out (by decide) (show c.g < w.heap.size by omega) (.int .i64 0)
  have NK : Kpg c.g w X8 := eX8 ▸ HK.out.setNew (p := ⟨w.heap.size, 2, none⟩) (by show w.heap.size ≤ w.heap.size; omega) _
  clear H_res H_x HM HK
  have H_res := Lib.hid N_res
  clear N_res
  have H_x := Lib.hid N_x
  clear N_x
  have HM := Lib.hid NM
  have HK := Lib.hid NK
  clear NM NK
  have res_0_X8 := H_res.out.cell 0
  have res_1_X8 := H_res.out.cell 1
  have res_2_X8 := H_res.out.cell 2
  go_wp2
  exact bodyPost_ret (v := .agg #[.int .i64 op, .int .i64 0, .int .i64 0]) (by simp [results, Try.results71, go_sem, res_0_X8, res_1_X8, res_2_X8]) rfl ⟨y1, ⟨op, 0, 0⟩, rfl, HE.out ▸ HM.out.map (fun z => (⟨z, 0, 0⟩ : Cd.In)), HK.out, fun x' d e => by
    rw [← HE.out] at e
    obtain ⟨z, e1, e2⟩ := map_val (f := fun z => (⟨z, 0, 0⟩ : Cd.In)) e
    rw [e2, ← HOP.out, gi_some e1]⟩
end Go.Proofs.Ytmbgndcahlopdaa

/- Readings of choices, one after the other: what one more round tells. -/
namespace Go.Proofs.Ytmbgndcahlopdaa
set_option maxRecDepth 100000
namespace Gn
variable {α β : Type}
theorem run_bnd {γ : Type} (f : G α) (g : α → G β) (r : Option (γ × D)) : run (bnd f g) r = match run f r with | none => none | some (x, d) => g x d := by
  cases r with
  | none => rfl
  | some q => rfl
theorem run_rep (f : G α) (q : Option (β × D)) : run (rep f 0) q = q.map fun p => ([], p.2) := by cases q <;> rfl
/-- A thing more. -/
def more (r : Option (List α × D)) (a : Option (α × D)) : Option (List α × D) := match r with
  | none => none
  | some (l, _) => match a with
    | none => none
    | some (x, d) => some (l ++ [x], d)
/-- One more: what stands behind j rounds, and the next thing. -/
theorem run_more (f : G α) (j : Nat) (q : Option (β × D)) (z : Int) : run (rep f (j + 1)) q = more (run (rep f j) q) (run f ((run (rep f j) q).map fun p => (z, p.2))) := by
  cases q with
  | none => rfl
  | some p =>
    obtain ⟨y, d⟩ := p
    show bnd (rep f j) _ d = more (rep f j d) (run f ((rep f j d).map fun p => (z, p.2)))
    cases e : rep f j d with
    | none => rw [bnd_none e]; rfl
    | some q =>
      obtain ⟨l, d1⟩ := q
      rw [bnd_some e]
      show bnd f _ d1 = more (some (l, d1)) (f d1)
      cases e2 : f d1 with
      | none => rw [bnd_none e2]; rfl
      | some q2 => rw [bnd_some e2]; rfl
def next (r : Option (α × D)) (g : α → G β) : Option (β × D) := match r with
  | none => none
  | some (x, d) => g x d
def count (r : Option (Int × D)) : Nat := match r with
  | none => 0
  | some (z, _) => z.toNat
theorem next_rep (f : G α) (g : List α → G β) (b : G Int) (d : D) : bnd b (fun k => bnd (rep f k.toNat) g) d = next (run (rep f (count (b d))) (b d)) g := by
  cases e : b d with
  | none => rw [bnd_none e]; rfl
  | some q =>
    obtain ⟨z, d1⟩ := q
    rw [bnd_some e]
    show bnd (rep f z.toNat) g d1 = next (rep f z.toNat d1) g
    cases e2 : rep f z.toNat d1 with
    | none => rw [bnd_none e2]; rfl
    | some q2 => rw [bnd_some e2]; rfl
end Gn
section
variable {α β : Type} {A : Option Addr} {n c : Nat} {y : MM} {B : Nat} {W : World} {z z' : Int} {f : Gn.G α} {j : Nat} {q : Option (β × Gn.D)}
theorem more_shape (h : MSh A n c y ((Gn.run f ((Gn.run (Gn.rep f j) q).map fun p => (z, p.2))).map fun p => (z', p.2))) : MSh A n c y ((Gn.run (Gn.rep f (j + 1)) q).map fun p => (z', p.2)) := by
  rw [Gn.run_more f j q z]
  cases e : Gn.run (Gn.rep f j) q with
  | none => rw [e] at h; exact h
  | some p =>
    obtain ⟨l, d⟩ := p
    rw [e] at h
    cases e2 : Gn.run f (some (z, d)) with
    | none =>
      have h : MSh A n c y ((Gn.run f (some (z, d))).map fun p => (z', p.2)) := h
      rw [e2] at h
      show MSh A n c y (Option.map _ (Gn.more (some (l, d)) (Gn.run f (some (z, d)))))
      rw [e2]
      exact h
    | some p2 =>
      have h : MSh A n c y ((Gn.run f (some (z, d))).map fun p => (z', p.2)) := h
      rw [e2] at h
      show MSh A n c y (Option.map _ (Gn.more (some (l, d)) (Gn.run f (some (z, d)))))
      rw [e2]
      exact h
theorem more_some {x : List α} {d : Gn.D} (e : Gn.run (Gn.rep f (j + 1)) q = some (x, d)) : ∃ l d0 a, Gn.run (Gn.rep f j) q = some (l, d0) ∧ Gn.run f ((Gn.run (Gn.rep f j) q).map fun p => (z, p.2)) = some (a, d) ∧ x = l ++ [a] := by
  rw [Gn.run_more f j q z] at e
  cases e1 : Gn.run (Gn.rep f j) q with
  | none => rw [e1] at e; cases e
  | some p =>
    obtain ⟨l, d0⟩ := p
    rw [e1] at e
    have e : Gn.more (some (l, d0)) (Gn.run f (some (z, d0))) = some (x, d) := e
    show ∃ l' d0' a, some (l, d0) = some (l', d0') ∧ Gn.run f (some (z, d0)) = some (a, d) ∧ x = l' ++ [a]
    cases e2 : Gn.run f (some (z, d0)) with
    | none => rw [e2] at e; cases e
    | some p2 =>
      obtain ⟨a, d2⟩ := p2
      rw [e2] at e
      injection e with e
      injection e with e3 e4
      subst e3 e4
      exact ⟨l, d0, a, rfl, rfl, rfl⟩
theorem more_log (h : LogNew B W y (Gn.run f ((Gn.run (Gn.rep f j) q).map fun p => (z, p.2)))) : LogNew B W y (Gn.run (Gn.rep f (j + 1)) q) := fun x d e => by
  obtain ⟨l, d0, a, -, e2, -⟩ := more_some (z := z) e
  exact h a d e2
end
end Go.Proofs.Ytmbgndcahlopdaa

/- Package gen's maker: rows (by gen_gmf.py). -/
namespace Go.Proofs.Ytmbgndcahlopdaa
set_option maxRecDepth 100000
open Go.RowKit Go.Shelf
attribute [local go_sem] Oper.semAt_some

theorem Mkr.grown {α : Type} {W W' : World} {c : MC} {y : MM} {r : Option (α × Gn.D)} (h : Mkr W c y r) {v : Value} {base sz n : Nat} {e : TypeId} {xs : List Value} (hg : W.grownBy W' v.ownBlock) (ho : W.ownsRow base e sz v n xs) (he : 3 ≠ e) (he2 : e ≠ 59) (hb : c.B ≤ base) : Mkr W' c y r :=
  h.move ⟨hg.size, fun k hk hl => hg.block k hl (fun e => by have := (ho.lt k e.symm).1; omega), fun k cs hi => (hg.block k hi.lt (fun e => by
    obtain ⟨cs', hb'⟩ := own_blkD ho e.symm
    exact hi.ty_neD hb' he rfl)).trans hi⟩ ((hg.block c.g h.box.lt (fun e => by
    obtain ⟨cs', hb'⟩ := own_blkD ho e.symm
    exact hb'.ty_neD h.box he2 rfl)).trans h.box)
/-- What row answers. -/
def RowP {β : Type} (f : β → List Value) (ty : TypeId) (sz : Nat) (w : World) (c : MC) (r : Option (List β × Gn.D)) (e : Ending) (w' : World) : Prop := ∃ y v cs, e = .returned v ∧ Mkr w' c y r ∧ Kpg c.g w w' ∧ w'.ownsRow w.heap.size ty sz v cs.length (fcells f cs) ∧ ∀ l d, r = some (l, d) → l = cs
theorem hr_rep {β : Type} {er : Nat} {q : Option (Int × Gn.D)} (h : q = none ∨ er = 8) (f : Gn.G β) (j : Nat) : ((Gn.run (Gn.rep f j) q).map fun p => ((0 : Int), p.2)) = none ∨ er = 8 := h.imp (fun h => by rw [h]; rfl) id
theorem more_mkr {β : Type} {W : World} {c : MC} {y : MM} {f : Gn.G β} {j : Nat} {q : Option (Int × Gn.D)} (h : Mkr W c y (Gn.run f ((Gn.run (Gn.rep f j) q).map fun p => ((0 : Int), p.2)))) : Mkr W c y ((Gn.run (Gn.rep f (j + 1)) q).map fun p => ((0 : Int), p.2)) := by
  rw [Gn.run_more f j q 0]
  have h2 := h.map (fun _ => (0 : Int))
  cases e : Gn.run (Gn.rep f j) q with
  | none => rw [e] at h2; exact h2
  | some p =>
    rw [e] at h2
    cases e2 : Gn.run f (some ((0 : Int), p.2)) with
    | none =>
      have h2 : Mkr W c y ((Gn.run f (some ((0 : Int), p.2))).map fun p => ((0 : Int), p.2)) := h2
      rw [e2] at h2
      show Mkr W c y ((Gn.more (some p) (Gn.run f (some ((0 : Int), p.2)))).map fun p => ((0 : Int), p.2))
      rw [e2]
      exact h2
    | some q2 =>
      have h2 : Mkr W c y ((Gn.run f (some ((0 : Int), p.2))).map fun p => ((0 : Int), p.2)) := h2
      rw [e2] at h2
      show Mkr W c y ((Gn.more (some p) (Gn.run f (some ((0 : Int), p.2)))).map fun p => ((0 : Int), p.2))
      rw [e2]
      exact h2
theorem mkr_unmap {β : Type} {W : World} {c : MC} {y : MM} {r : Option (β × Gn.D)} (h : Mkr W c y (r.map fun p => ((0 : Int), p.2))) : Mkr W c y r := by
  refine ⟨h.box, ?_, fun z d e => ?_, h.ws, h.low⟩
  · cases r with
    | none => exact h.sh
    | some p => exact h.sh
  · subst e
    exact h.rows 0 d rfl
theorem Try.infoGI : (Try.prog.info? 66).map (fun i => (i.zero, i.size, i.bytes)) = some (some (.agg #[.int .i64 0, .int .i64 0, .int .i64 0]), 3, 24) := by kernel_rfl
theorem apGI {w : World} {base k : Nat} {v : Value} {cs : List Cd.In} (a b l : Int) (hown : w.ownsRow base 66 3 v k (fcells ivs cs)) (hk : k ≤ 1000) (hbase : base ≤ w.heap.size) :
    ∃ v' W2, (Builtin.append_ #[35, 35] 35 #[v, .slice (some ⟨w.heap.size, 0, none⟩) 1 1]).run Try.prog (w.alloc (.cells #[.int .i64 a, .int .i64 b, .int .i64 l] 66)) = .ok v' W2 ∧ W2.ownsRow base 66 3 v' (k + 1) (fcells ivs (cs ++ [⟨a, b, l⟩])) ∧ (w.alloc (.cells #[.int .i64 a, .int .i64 b, .int .i64 l] 66)).grownBy W2 v.ownBlock := by
  obtain ⟨i0, hi, hz0, hz1, hz2⟩ := info_parts Try.infoGI
  have hcell := (Blk.new w 66 #[.int .i64 a, .int .i64 b, .int .i64 l]).row (cs := [.int .i64 a, .int .i64 b, .int .i64 l]) (t := 66)
  obtain ⟨v', W2, hrun, hown2, hg, -, -⟩ := run_append_own_at (P := Try.prog) (w.alloc (.cells #[.int .i64 a, .int .i64 b, .int .i64 l] 66)) base 35 35 66 i0 (.agg #[.int .i64 0, .int .i64 0, .int .i64 0]) 3 24 Try.underlying35 hi hz0 hz1 hz2 rfl (by decide) v k _ (hown.alloc _) ⟨w.heap.size, 0, none⟩ 1 1 [.int .i64 a, .int .i64 b, .int .i64 l] rfl
    (fun j u hu => by
      obtain ⟨ad', e, _, hc⟩ := hcell (by simp)
      injection e with e
      subst e
      exact hc j u hu) (by intro u hu; simp at hu; rcases hu with rfl | rfl | rfl <;> rfl) (by unfold maxLen; omega) (by omega) (by simp; omega)
  refine ⟨v', W2, hrun, ?_, hg⟩
  rw [fcells_snoc]
  exact hown2
set_option maxHeartbeats 8000000 in
theorem rowI_any {c : MC} {q0 : Option (Int × Gn.D)} {b1 b3 : Nat} (most : Int) (w : World) (hgw : c.g < w.heap.size) (hB : Calls Try.prog 69 #[.pointer (some ⟨c.g, 0, none⟩), .int .i64 (most + 1)] w (ChP w c q0)) (h0 : 0 ≤ most ∧ most ≤ 1000) (hq : 0 ≤ gi q0 ∧ gi q0 ≤ most) (hr : q0 = none ∨ c.er = 8)
    (hone : ∀ W (y : MM) (r : Option (Int × Gn.D)), Kpg c.g w W → Mkr W c y r → (r = none ∨ c.er = 8) → Calls Try.prog 71 #[.pointer (some ⟨b1, 0, none⟩), .pointer (some ⟨b3, 0, none⟩)] W (OneP inv W c (Gn.run (Gn.ins c.list c.k c.p) r))) :
    Calls Try.prog 33 #[.pointer (some ⟨c.g, 0, none⟩), .int .i64 most, insV b1 b3] w (RowP ivs 66 3 w c (Gn.run (Gn.rep (Gn.ins c.list c.k c.p) (Gn.count q0)) q0)) := by
  have hcf := Try.call71
  have ha : wrap64 (most + 1) = most + 1 := by unfold wrap64; omega
  obtain ⟨f, hf⟩ : ∃ f, Gn.ins c.list c.k c.p = f := ⟨_, rfl⟩
  rw [hf] at hone ⊢
  obtain ⟨K, hK⟩ : ∃ K, Gn.count q0 = K := ⟨_, rfl⟩
  have hgi : gi q0 = (K : Int) := by
    rw [← hK]
    cases q0 with
    | none => rfl
    | some p =>
      have h : 0 ≤ p.1 := hq.1
      show p.1 = ((p.1.toNat : Nat) : Int)
      omega
  rw [hK]
  have HK1 := Lib.hid (show K ≤ 1000 by omega)
  have HGI := Lib.hid hgi
  have HC := Lib.hid hB
  have HONE := Lib.hid hone
  have HR := Lib.hid hr
  clear hf hK hgi hB hone hr hq h0
  unfold insV
  go_enter Try.func33, Try.ntmps33
  go_wp2_with (fail)
  refine HC.out.mono ?_
  rintro e w1 ⟨y1, rfl, hm, hk⟩
  rw [HGI.out]
  have HM := Lib.hid (show Mkr w1 c y1 ((Gn.run (Gn.rep f 0) q0).map fun p => ((0 : Int), p.2)) from by
    rw [Gn.run_rep]
    have h := hm.map (fun _ => (0 : Int))
    cases q0 with
    | none => exact h
    | some p => exact h)
  have HKP := Lib.hid hk
  have HGW := Lib.hid (And.intro hgw (Nat.le_trans hm.low (Nat.le_of_lt hgw)))
  clear hm hk HC HGI hgw
  go_wp2
  go_loopw [7, 12] (fun lv iv wr => ∃ (j : Nat) (y : MM) (cs : List Cd.In), j ≤ K ∧ iv = .int .i64 (j : Int) ∧ Hid (cs.length = j) ∧ Hid (Mkr wr c y ((Gn.run (Gn.rep f j) q0).map fun p => ((0 : Int), p.2))) ∧ Hid (wr.ownsRow w.heap.size 66 3 lv j (fcells ivs cs)) ∧ Hid (∀ l d, Gn.run (Gn.rep f j) q0 = some (l, d) → l = cs) ∧ Hid (Kpg c.g w wr)) (fun _ iv _ => K - (intOf iv).toNat)
  case atStart => exact ⟨0, y1, [], Nat.zero_le _, rfl, Lib.hid rfl, HM, Lib.hid (World.ownsRow_nil _ _ _ _), Lib.hid (fun l d e => by
    rw [Gn.run_rep] at e
    cases q0 with
    | none => cases e
    | some p => (injection e with e; injection e with e _; exact e.symm)), HKP⟩
  case round =>
    clear HM HKP
    obtain ⟨j, y, cs, hj, rfl, HLEN, HM, HO, HCS, HK⟩ := hrel
    obtain ⟨vA, vc, rfl⟩ := ownT_slice HO.out
    by_cases hlt : j < K
    · have HC := Lib.hid (HONE.out wr y _ HK.out HM.out (hr_rep HR.out f j))
      have hj9 := HK1.out
      have hw9 : wrap64 ((j : Int) + 1) = (j : Int) + 1 := by unfold wrap64; omega
      go_wp2_with (fail)
      refine HC.out.mono ?_
      rintro e v1 ⟨y2, ⟨a, b, l⟩, rfl, hm, hk, hx⟩
      rw [show inv ⟨a, b, l⟩ = .agg #[.int .i64 a, .int .i64 b, .int .i64 l] from rfl]
      have ho2 : v1.ownsRow w.heap.size 66 3 (.slice vA j vc) j (fcells ivs cs) := own_kpg HO.out hk HM.out.box (by decide)
      have hk2 := HK.out.trans hk
      obtain ⟨v9, W9, hrun, hown, hgr⟩ := apGI a b l ho2 (by omega) hk2.size
      have hoa := ho2.alloc (.cells #[.int .i64 a, .int .i64 b, .int .i64 l] 66)
      have HM2 := Lib.hid ((more_mkr hm).alloc (.cells #[.int .i64 a, .int .i64 b, .int .i64 l] 66) |>.grown hgr hoa (by decide) (by decide) HGW.out.2)
      have HK2 := Lib.hid ((hk2.alloc (.cells #[.int .i64 a, .int .i64 b, .int .i64 l] 66)).grown hgr fun k e => (hoa.lt k e).1)
      have HX := Lib.hid hx
      have HRUN := Lib.hid hrun
      have HO2 := Lib.hid hown
      clear hm hk hx ho2 hk2 hrun hown hgr hoa HC
      go_wp2_with (at_builtin; refine wpList_appD rfl _ _ 35 35 rfl _ _ rfl rfl _ _ HRUN.out ?_)
      go_roundw
      case rel => exact ⟨j + 1, y2, cs ++ [⟨a, b, l⟩], hlt, by go_num, Lib.hid (by rw [List.length_append, HLEN.out]; rfl), HM2, HO2, Lib.hid (fun l d e => by
        obtain ⟨l0, d0, a, e1, e2, e3⟩ := more_some (z := (0 : Int)) e
        rw [e3, HCS.out l0 d0 e1, HX.out a d e2]), HK2⟩
      case measure => simp [intOf]; omega
    · obtain rfl : j = K := by omega
      go_wp2
      go_ret
      exact ⟨y, _, cs, rfl, mkr_unmap HM.out, HK.out, by rw [HLEN.out]; exact HO.out, HCS.out⟩
theorem Try.infoGA : (Try.prog.info? 34).map (fun i => (i.zero, i.size, i.bytes)) = some (some (.agg #[.int .i64 0, .int .i64 0]), 2, 16) := by kernel_rfl
theorem apGA {w : World} {base k : Nat} {v : Value} {cs : List St.Atom} (a l : Int) (hown : w.ownsRow base 34 2 v k (fcells avs cs)) (hk : k ≤ 1000) (hbase : base ≤ w.heap.size) :
    ∃ v' W2, (Builtin.append_ #[36, 36] 36 #[v, .slice (some ⟨w.heap.size, 0, none⟩) 1 1]).run Try.prog (w.alloc (.cells #[.int .i64 a, .int .i64 l] 34)) = .ok v' W2 ∧ W2.ownsRow base 34 2 v' (k + 1) (fcells avs (cs ++ [⟨a, l⟩])) ∧ (w.alloc (.cells #[.int .i64 a, .int .i64 l] 34)).grownBy W2 v.ownBlock := by
  obtain ⟨i0, hi, hz0, hz1, hz2⟩ := info_parts Try.infoGA
  have hcell := (Blk.new w 34 #[.int .i64 a, .int .i64 l]).row (cs := [.int .i64 a, .int .i64 l]) (t := 34)
  obtain ⟨v', W2, hrun, hown2, hg, -, -⟩ := run_append_own_at (P := Try.prog) (w.alloc (.cells #[.int .i64 a, .int .i64 l] 34)) base 36 36 34 i0 (.agg #[.int .i64 0, .int .i64 0]) 2 16 Try.underlying36 hi hz0 hz1 hz2 rfl (by decide) v k _ (hown.alloc _) ⟨w.heap.size, 0, none⟩ 1 1 [.int .i64 a, .int .i64 l] rfl
    (fun j u hu => by
      obtain ⟨ad', e, _, hc⟩ := hcell (by simp)
      injection e with e
      subst e
      exact hc j u hu) (by intro u hu; simp at hu; rcases hu with rfl | rfl <;> rfl) (by unfold maxLen; omega) (by omega) (by simp; omega)
  refine ⟨v', W2, hrun, ?_, hg⟩
  rw [fcells_snoc]
  exact hown2
set_option maxHeartbeats 8000000 in
theorem rowA_any {c : MC} {q0 : Option (Int × Gn.D)}  (most : Int) (w : World) (hgw : c.g < w.heap.size) (hB : Calls Try.prog 69 #[.pointer (some ⟨c.g, 0, none⟩), .int .i64 (most + 1)] w (ChP w c q0)) (h0 : 0 ≤ most ∧ most ≤ 1000) (hq : 0 ≤ gi q0 ∧ gi q0 ≤ most) (hr : q0 = none ∨ c.er = 8)
    (hone : ∀ W (y : MM) (r : Option (Int × Gn.D)), Kpg c.g w W → Mkr W c y r → (r = none ∨ c.er = 8) → Calls Try.prog 36 #[.pointer (some ⟨c.g, 0, none⟩)] W (OneP atv W c (Gn.run (Gn.atom c.list c.k c.p) r))) :
    Calls Try.prog 35 #[.pointer (some ⟨c.g, 0, none⟩), .int .i64 most, .func (.func 36) #[.pointer (some ⟨c.g, 0, none⟩)] #[]] w (RowP avs 34 2 w c (Gn.run (Gn.rep (Gn.atom c.list c.k c.p) (Gn.count q0)) q0)) := by
  have hcf := Try.call36
  have ha : wrap64 (most + 1) = most + 1 := by unfold wrap64; omega
  obtain ⟨f, hf⟩ : ∃ f, Gn.atom c.list c.k c.p = f := ⟨_, rfl⟩
  rw [hf] at hone ⊢
  obtain ⟨K, hK⟩ : ∃ K, Gn.count q0 = K := ⟨_, rfl⟩
  have hgi : gi q0 = (K : Int) := by
    rw [← hK]
    cases q0 with
    | none => rfl
    | some p =>
      have h : 0 ≤ p.1 := hq.1
      show p.1 = ((p.1.toNat : Nat) : Int)
      omega
  rw [hK]
  have HK1 := Lib.hid (show K ≤ 1000 by omega)
  have HGI := Lib.hid hgi
  have HC := Lib.hid hB
  have HONE := Lib.hid hone
  have HR := Lib.hid hr
  clear hf hK hgi hB hone hr hq h0
  go_enter Try.func35, Try.ntmps35
  go_wp2_with (fail)
  refine HC.out.mono ?_
  rintro e w1 ⟨y1, rfl, hm, hk⟩
  rw [HGI.out]
  have HM := Lib.hid (show Mkr w1 c y1 ((Gn.run (Gn.rep f 0) q0).map fun p => ((0 : Int), p.2)) from by
    rw [Gn.run_rep]
    have h := hm.map (fun _ => (0 : Int))
    cases q0 with
    | none => exact h
    | some p => exact h)
  have HKP := Lib.hid hk
  have HGW := Lib.hid (And.intro hgw (Nat.le_trans hm.low (Nat.le_of_lt hgw)))
  clear hm hk HC HGI hgw
  go_wp2
  go_loopw [7, 12] (fun lv iv wr => ∃ (j : Nat) (y : MM) (cs : List St.Atom), j ≤ K ∧ iv = .int .i64 (j : Int) ∧ Hid (cs.length = j) ∧ Hid (Mkr wr c y ((Gn.run (Gn.rep f j) q0).map fun p => ((0 : Int), p.2))) ∧ Hid (wr.ownsRow w.heap.size 34 2 lv j (fcells avs cs)) ∧ Hid (∀ l d, Gn.run (Gn.rep f j) q0 = some (l, d) → l = cs) ∧ Hid (Kpg c.g w wr)) (fun _ iv _ => K - (intOf iv).toNat)
  case atStart => exact ⟨0, y1, [], Nat.zero_le _, rfl, Lib.hid rfl, HM, Lib.hid (World.ownsRow_nil _ _ _ _), Lib.hid (fun l d e => by
    rw [Gn.run_rep] at e
    cases q0 with
    | none => cases e
    | some p => (injection e with e; injection e with e _; exact e.symm)), HKP⟩
  case round =>
    clear HM HKP
    obtain ⟨j, y, cs, hj, rfl, HLEN, HM, HO, HCS, HK⟩ := hrel
    obtain ⟨vA, vc, rfl⟩ := ownT_slice HO.out
    by_cases hlt : j < K
    · have HC := Lib.hid (HONE.out wr y _ HK.out HM.out (hr_rep HR.out f j))
      have hj9 := HK1.out
      have hw9 : wrap64 ((j : Int) + 1) = (j : Int) + 1 := by unfold wrap64; omega
      go_wp2_with (fail)
      refine HC.out.mono ?_
      rintro e v1 ⟨y2, ⟨a, l⟩, rfl, hm, hk, hx⟩
      rw [show atv ⟨a, l⟩ = .agg #[.int .i64 a, .int .i64 l] from rfl]
      have ho2 : v1.ownsRow w.heap.size 34 2 (.slice vA j vc) j (fcells avs cs) := own_kpg HO.out hk HM.out.box (by decide)
      have hk2 := HK.out.trans hk
      obtain ⟨v9, W9, hrun, hown, hgr⟩ := apGA a l ho2 (by omega) hk2.size
      have hoa := ho2.alloc (.cells #[.int .i64 a, .int .i64 l] 34)
      have HM2 := Lib.hid ((more_mkr hm).alloc (.cells #[.int .i64 a, .int .i64 l] 34) |>.grown hgr hoa (by decide) (by decide) HGW.out.2)
      have HK2 := Lib.hid ((hk2.alloc (.cells #[.int .i64 a, .int .i64 l] 34)).grown hgr fun k e => (hoa.lt k e).1)
      have HX := Lib.hid hx
      have HRUN := Lib.hid hrun
      have HO2 := Lib.hid hown
      clear hm hk hx ho2 hk2 hrun hown hgr hoa HC
      go_wp2_with (at_builtin; refine wpList_appD rfl _ _ 36 36 rfl _ _ rfl rfl _ _ HRUN.out ?_)
      go_roundw
      case rel => exact ⟨j + 1, y2, cs ++ [⟨a, l⟩], hlt, by go_num, Lib.hid (by rw [List.length_append, HLEN.out]; rfl), HM2, HO2, Lib.hid (fun l d e => by
        obtain ⟨l0, d0, a, e1, e2, e3⟩ := more_some (z := (0 : Int)) e
        rw [e3, HCS.out l0 d0 e1, HX.out a d e2]), HK2⟩
      case measure => simp [intOf]; omega
    · obtain rfl : j = K := by omega
      go_wp2
      go_ret
      exact ⟨y, _, cs, rfl, mkr_unmap HM.out, HK.out, by rw [HLEN.out]; exact HO.out, HCS.out⟩
theorem Try.infoGS : (Try.prog.info? 70).map (fun i => (i.zero, i.size, i.bytes)) = some (some (.agg #[.bool false, .int .i64 0, .int .i64 0]), 3, 24) := by kernel_rfl
theorem apGS {w : World} {base k : Nat} {v : Value} {cs : List St.Slot} (b : Bool) (a l : Int) (hown : w.ownsRow base 70 3 v k (fcells svs cs)) (hk : k ≤ 1000) (hbase : base ≤ w.heap.size) :
    ∃ v' W2, (Builtin.append_ #[37, 37] 37 #[v, .slice (some ⟨w.heap.size, 0, none⟩) 1 1]).run Try.prog (w.alloc (.cells #[.bool b, .int .i64 a, .int .i64 l] 70)) = .ok v' W2 ∧ W2.ownsRow base 70 3 v' (k + 1) (fcells svs (cs ++ [⟨b, a, l⟩])) ∧ (w.alloc (.cells #[.bool b, .int .i64 a, .int .i64 l] 70)).grownBy W2 v.ownBlock := by
  obtain ⟨i0, hi, hz0, hz1, hz2⟩ := info_parts Try.infoGS
  have hcell := (Blk.new w 70 #[.bool b, .int .i64 a, .int .i64 l]).row (cs := [.bool b, .int .i64 a, .int .i64 l]) (t := 70)
  obtain ⟨v', W2, hrun, hown2, hg, -, -⟩ := run_append_own_at (P := Try.prog) (w.alloc (.cells #[.bool b, .int .i64 a, .int .i64 l] 70)) base 37 37 70 i0 (.agg #[.bool false, .int .i64 0, .int .i64 0]) 3 24 Try.underlying37 hi hz0 hz1 hz2 rfl (by decide) v k _ (hown.alloc _) ⟨w.heap.size, 0, none⟩ 1 1 [.bool b, .int .i64 a, .int .i64 l] rfl
    (fun j u hu => by
      obtain ⟨ad', e, _, hc⟩ := hcell (by simp)
      injection e with e
      subst e
      exact hc j u hu) (by intro u hu; simp at hu; rcases hu with rfl | rfl | rfl <;> rfl) (by unfold maxLen; omega) (by omega) (by simp; omega)
  refine ⟨v', W2, hrun, ?_, hg⟩
  rw [fcells_snoc]
  exact hown2
set_option maxHeartbeats 8000000 in
theorem rowS_any {c : MC} {q0 : Option (Int × Gn.D)}  (most : Int) (w : World) (hgw : c.g < w.heap.size) (hB : Calls Try.prog 69 #[.pointer (some ⟨c.g, 0, none⟩), .int .i64 (most + 1)] w (ChP w c q0)) (h0 : 0 ≤ most ∧ most ≤ 1000) (hq : 0 ≤ gi q0 ∧ gi q0 ≤ most) (hr : q0 = none ∨ c.er = 8)
    (hone : ∀ W (y : MM) (r : Option (Int × Gn.D)), Kpg c.g w W → Mkr W c y r → (r = none ∨ c.er = 8) → Calls Try.prog 38 #[.pointer (some ⟨c.g, 0, none⟩)] W (OneP slv W c (Gn.run (Gn.slot c.list c.k c.p) r))) :
    Calls Try.prog 37 #[.pointer (some ⟨c.g, 0, none⟩), .int .i64 most, .func (.func 38) #[.pointer (some ⟨c.g, 0, none⟩)] #[]] w (RowP svs 70 3 w c (Gn.run (Gn.rep (Gn.slot c.list c.k c.p) (Gn.count q0)) q0)) := by
  have hcf := Try.call38
  have ha : wrap64 (most + 1) = most + 1 := by unfold wrap64; omega
  obtain ⟨f, hf⟩ : ∃ f, Gn.slot c.list c.k c.p = f := ⟨_, rfl⟩
  rw [hf] at hone ⊢
  obtain ⟨K, hK⟩ : ∃ K, Gn.count q0 = K := ⟨_, rfl⟩
  have hgi : gi q0 = (K : Int) := by
    rw [← hK]
    cases q0 with
    | none => rfl
    | some p =>
      have h : 0 ≤ p.1 := hq.1
      show p.1 = ((p.1.toNat : Nat) : Int)
      omega
  rw [hK]
  have HK1 := Lib.hid (show K ≤ 1000 by omega)
  have HGI := Lib.hid hgi
  have HC := Lib.hid hB
  have HONE := Lib.hid hone
  have HR := Lib.hid hr
  clear hf hK hgi hB hone hr hq h0
  go_enter Try.func37, Try.ntmps37
  go_wp2_with (fail)
  refine HC.out.mono ?_
  rintro e w1 ⟨y1, rfl, hm, hk⟩
  rw [HGI.out]
  have HM := Lib.hid (show Mkr w1 c y1 ((Gn.run (Gn.rep f 0) q0).map fun p => ((0 : Int), p.2)) from by
    rw [Gn.run_rep]
    have h := hm.map (fun _ => (0 : Int))
    cases q0 with
    | none => exact h
    | some p => exact h)
  have HKP := Lib.hid hk
  have HGW := Lib.hid (And.intro hgw (Nat.le_trans hm.low (Nat.le_of_lt hgw)))
  clear hm hk HC HGI hgw
  go_wp2
  go_loopw [7, 12] (fun lv iv wr => ∃ (j : Nat) (y : MM) (cs : List St.Slot), j ≤ K ∧ iv = .int .i64 (j : Int) ∧ Hid (cs.length = j) ∧ Hid (Mkr wr c y ((Gn.run (Gn.rep f j) q0).map fun p => ((0 : Int), p.2))) ∧ Hid (wr.ownsRow w.heap.size 70 3 lv j (fcells svs cs)) ∧ Hid (∀ l d, Gn.run (Gn.rep f j) q0 = some (l, d) → l = cs) ∧ Hid (Kpg c.g w wr)) (fun _ iv _ => K - (intOf iv).toNat)
  case atStart => exact ⟨0, y1, [], Nat.zero_le _, rfl, Lib.hid rfl, HM, Lib.hid (World.ownsRow_nil _ _ _ _), Lib.hid (fun l d e => by
    rw [Gn.run_rep] at e
    cases q0 with
    | none => cases e
    | some p => (injection e with e; injection e with e _; exact e.symm)), HKP⟩
  case round =>
    clear HM HKP
    obtain ⟨j, y, cs, hj, rfl, HLEN, HM, HO, HCS, HK⟩ := hrel
    obtain ⟨vA, vc, rfl⟩ := ownT_slice HO.out
    by_cases hlt : j < K
    · have HC := Lib.hid (HONE.out wr y _ HK.out HM.out (hr_rep HR.out f j))
      have hj9 := HK1.out
      have hw9 : wrap64 ((j : Int) + 1) = (j : Int) + 1 := by unfold wrap64; omega
      go_wp2_with (fail)
      refine HC.out.mono ?_
      rintro e v1 ⟨y2, ⟨b, a, l⟩, rfl, hm, hk, hx⟩
      rw [show slv ⟨b, a, l⟩ = .agg #[.bool b, .int .i64 a, .int .i64 l] from rfl]
      have ho2 : v1.ownsRow w.heap.size 70 3 (.slice vA j vc) j (fcells svs cs) := own_kpg HO.out hk HM.out.box (by decide)
      have hk2 := HK.out.trans hk
      obtain ⟨v9, W9, hrun, hown, hgr⟩ := apGS b a l ho2 (by omega) hk2.size
      have hoa := ho2.alloc (.cells #[.bool b, .int .i64 a, .int .i64 l] 70)
      have HM2 := Lib.hid ((more_mkr hm).alloc (.cells #[.bool b, .int .i64 a, .int .i64 l] 70) |>.grown hgr hoa (by decide) (by decide) HGW.out.2)
      have HK2 := Lib.hid ((hk2.alloc (.cells #[.bool b, .int .i64 a, .int .i64 l] 70)).grown hgr fun k e => (hoa.lt k e).1)
      have HX := Lib.hid hx
      have HRUN := Lib.hid hrun
      have HO2 := Lib.hid hown
      clear hm hk hx ho2 hk2 hrun hown hgr hoa HC
      go_wp2_with (at_builtin; refine wpList_appD rfl _ _ 37 37 rfl _ _ rfl rfl _ _ HRUN.out ?_)
      go_roundw
      case rel => exact ⟨j + 1, y2, cs ++ [⟨b, a, l⟩], hlt, by go_num, Lib.hid (by rw [List.length_append, HLEN.out]; rfl), HM2, HO2, Lib.hid (fun l d e => by
        obtain ⟨l0, d0, a, e1, e2, e3⟩ := more_some (z := (0 : Int)) e
        rw [e3, HCS.out l0 d0 e1, HX.out a d e2]), HK2⟩
      case measure => simp [intOf]; omega
    · obtain rfl : j = K := by omega
      go_wp2
      go_ret
      exact ⟨y, _, cs, rfl, mkr_unmap HM.out, HK.out, by rw [HLEN.out]; exact HO.out, HCS.out⟩
end Go.Proofs.Ytmbgndcahlopdaa

/- Package gen's maker: state (by gen_gmg.py). -/
namespace Go.Proofs.Ytmbgndcahlopdaa
set_option maxRecDepth 100000
open Go.RowKit Go.Shelf
attribute [local go_sem] Oper.semAt_some

theorem tk_gi (list : List Int) {b : Int} (hb : 1 ≤ b) (r : Option (Int × Gn.D)) : 0 ≤ gi (Gn.run (Gn.tk list b) r) ∧ gi (Gn.run (Gn.tk list b) r) ≤ b - 1 := by
  cases e : Gn.run (Gn.tk list b) r with
  | none => exact ⟨Int.le_refl 0, by show (0 : Int) ≤ b - 1; omega⟩
  | some q =>
    cases r with
    | none => cases e
    | some p =>
      have h : 0 ≤ q.1 ∧ q.1 < b := Gn.Out.tk list hb p.2 q.1 q.2 e
      exact ⟨h.1, by show q.1 ≤ b - 1; omega⟩
def z0 {β : Type} (r : Option (β × Gn.D)) : Option (Int × Gn.D) := r.map fun p => ((0 : Int), p.2)
theorem state_q {list : List Int} {k : Nat} {p : Gn.Sp} {q0 q1 q2 q3 q4 : Option (Int × Gn.D)} {r1 : Option (List Cd.In × Gn.D)} {r2 : Option (List St.Atom × Gn.D)} {r3 : Option (List St.Slot × Gn.D)} {cs : List Cd.In} {ms : List St.Atom} {ss : List St.Slot}
    (_ : Gn.run (Gn.rep (Gn.ins list k p) (Gn.count q0)) q0 = r1) (h1 : Gn.run (Gn.tk list (p.mem + 1)) (z0 r1) = q1) (h2 : Gn.run (Gn.rep (Gn.atom list k p) (Gn.count q1)) q1 = r2) (h3 : Gn.run (Gn.tk list (p.stack + 1)) (z0 r2) = q2) (h4 : Gn.run (Gn.rep (Gn.slot list k p) (Gn.count q2)) q2 = r3) (h5 : Gn.run (Gn.tk list 13) (z0 r3) = q3) (h6 : Gn.run (Gn.tk list (k : Int)) q3 = q4)
    (hc : ∀ l d, r1 = some (l, d) → l = cs) (hm : ∀ l d, r2 = some (l, d) → l = ms) (hs : ∀ l d, r3 = some (l, d) → l = ss) :
    Gn.next r1 (Gn.mem list k p) = q4.map fun x => ((⟨⟨gi q3, x.1⟩, cs, ms, ss, []⟩ : St.State), x.2) := by
  cases r1 with
  | none =>
    have e1 : none = q1 := h1
    subst e1
    have e2 : none = r2 := h2
    subst e2
    have e3 : none = q2 := h3
    subst e3
    have e4 : none = r3 := h4
    subst e4
    have e5 : none = q3 := h5
    subst e5
    have e6 : none = q4 := h6
    subst e6
    rfl
  | some x1 =>
    obtain ⟨l1, d1⟩ := x1
    obtain rfl := hc l1 d1 rfl
    have e1 : Gn.tk list (p.mem + 1) d1 = q1 := h1
    show Gn.mem list k p l1 d1 = _
    unfold Gn.mem
    rw [Gn.next_rep, e1, h2]
    cases r2 with
    | none =>
      have e3 : none = q2 := h3
      subst e3
      have e4 : none = r3 := h4
      subst e4
      have e5 : none = q3 := h5
      subst e5
      have e6 : none = q4 := h6
      subst e6
      rfl
    | some x2 =>
      obtain ⟨l2, d2⟩ := x2
      obtain rfl := hm l2 d2 rfl
      have e3 : Gn.tk list (p.stack + 1) d2 = q2 := h3
      show Gn.stack list k p l1 l2 d2 = _
      unfold Gn.stack
      rw [Gn.next_rep, e3, h4]
      cases r3 with
      | none =>
        have e5 : none = q3 := h5
        subst e5
        have e6 : none = q4 := h6
        subst e6
        rfl
      | some x3 =>
        obtain ⟨l3, d3⟩ := x3
        obtain rfl := hs l3 d3 rfl
        have e5 : Gn.tk list 13 d3 = q3 := h5
        show Gn.pc list k l1 l2 l3 d3 = _
        unfold Gn.pc
        cases q3 with
        | none =>
          have e6 : none = q4 := h6
          subst e6
          rw [Gn.bnd_none e5]
          rfl
        | some x4 =>
          obtain ⟨v, d4⟩ := x4
          have e6 : Gn.tk list (k : Int) d4 = q4 := h6
          rw [Gn.bnd_some e5, run_ret2, e6]
          rfl
/-- What the maker's state answers. -/
def StP (w : World) (c : MC) (r : Option (St.State × Gn.D)) (e : Ending) (w' : World) : Prop := ∃ (y : MM) (cv mv sv : Value) (s : St.State), e = .returned (.agg #[.int .i64 s.pc.v, .int .i64 s.pc.l, cv, mv, sv, .slice none 0 0]) ∧ Mkr w' c y r ∧ Kpg c.g w w' ∧
  w'.ownsRow w.heap.size 66 3 cv s.code.length (fcells ivs s.code) ∧ w'.ownsRow w.heap.size 34 2 mv s.mem.length (fcells avs s.mem) ∧ w'.ownsRow w.heap.size 70 3 sv s.stack.length (fcells svs s.stack) ∧ ∀ s' d, r = some (s', d) → s' = s
set_option maxHeartbeats 16000000 in
theorem mstate_any {c : MC} {y : MM} {q0 : Option (Int × Gn.D)} (w : World) (hbox : Blk w c.g 59 (c.cells y)) (ok : MOk c) (her : c.er ≠ 0) (hr : q0 = none ∨ c.er = 8) (hB : ∀ W, Below w.heap.size w W → Calls Try.prog 69 #[.pointer (some ⟨c.g, 0, none⟩), .int .i64 (c.p.code + 1)] W (ChP W c q0))
    (hq : 0 ≤ gi q0 ∧ gi q0 ≤ c.p.code) :
    Calls Try.prog 18 #[.pointer (some ⟨c.g, 0, none⟩)] w (StP w c (Gn.next (Gn.run (Gn.rep (Gn.ins c.list c.k c.p) (Gn.count q0)) q0) (Gn.mem c.list c.k c.p))) := by
  have hmf : ∀ (fn : Fn) (first cap : Array Value) (w : World), (Instr.makeFunc fn first cap).run Try.prog w = .ok (.func fn first cap) w := fun _ _ _ _ => rfl
  obtain ⟨r1, hr1⟩ : ∃ r, Gn.run (Gn.rep (Gn.ins c.list c.k c.p) (Gn.count q0)) q0 = r := ⟨_, rfl⟩
  obtain ⟨q1, hq1⟩ : ∃ q, Gn.run (Gn.tk c.list (c.p.mem + 1)) (z0 r1) = q := ⟨_, rfl⟩
  obtain ⟨r2, hr2⟩ : ∃ r, Gn.run (Gn.rep (Gn.atom c.list c.k c.p) (Gn.count q1)) q1 = r := ⟨_, rfl⟩
  obtain ⟨q2, hq2⟩ : ∃ q, Gn.run (Gn.tk c.list (c.p.stack + 1)) (z0 r2) = q := ⟨_, rfl⟩
  obtain ⟨r3, hr3⟩ : ∃ r, Gn.run (Gn.rep (Gn.slot c.list c.k c.p) (Gn.count q2)) q2 = r := ⟨_, rfl⟩
  obtain ⟨q3, hq3⟩ : ∃ q, Gn.run (Gn.tk c.list 13) (z0 r3) = q := ⟨_, rfl⟩
  obtain ⟨q4, hq4⟩ : ∃ q, Gn.run (Gn.tk c.list (c.k : Int)) q3 = q := ⟨_, rfl⟩
  have hfin := fun cs ms ss => state_q (cs := cs) (ms := ms) (ss := ss) hr1 hq1 hr2 hq2 hr3 hq3 hq4
  have ht1 := tk_gi c.list (b := c.p.mem + 1) (by have := ok.fits.m0; omega) (z0 r1)
  have ht2 := tk_gi c.list (b := c.p.stack + 1) (by have := ok.fits.s0; omega) (z0 r2)
  rw [hq1] at ht1
  rw [hq2] at ht2
  rw [hr1]
  obtain ⟨ans, hans⟩ : ∃ a, Gn.next r1 (Gn.mem c.list c.k c.p) = a := ⟨_, rfl⟩
  rw [hans] at hfin ⊢
  have HR0 := Lib.hid hr
  have HZ1 := Lib.hid (show z0 r1 = none ∨ c.er = 8 from hr.imp (fun h => by rw [← hr1, h]; rfl) id)
  have HR1 := Lib.hid (show q1 = none ∨ c.er = 8 from hq1 ▸ hr_run HZ1.out _)
  have HZ2 := Lib.hid (show z0 r2 = none ∨ c.er = 8 from HR1.out.imp (fun h => by rw [← hr2, h]; rfl) id)
  have HR2 := Lib.hid (show q2 = none ∨ c.er = 8 from hq2 ▸ hr_run HZ2.out _)
  have HZ3 := Lib.hid (show z0 r3 = none ∨ c.er = 8 from HR2.out.imp (fun h => by rw [← hr3, h]; rfl) id)
  have HR3 := Lib.hid (show q3 = none ∨ c.er = 8 from hq3 ▸ hr_run HZ3.out _)
  have HQ1 := Lib.hid hq1
  have HQ2 := Lib.hid hq2
  have HQ3 := Lib.hid hq3
  have HQ4 := Lib.hid hq4
  have HT1 := Lib.hid ht1
  have HT2 := Lib.hid ht2
  have HFIN := Lib.hid hfin
  have HE1 := Lib.hid hr1
  have HE2 := Lib.hid hr2
  have HE3 := Lib.hid hr3
  clear hr1 hq1 hr2 hq2 hr3 hq3 hq4 ht1 ht2 hfin hans hr
  have hgw := hbox.lt
  obtain ⟨A1, eA1⟩ : ∃ U, w.alloc (.cells #[.int .i64 0, .int .i64 0, .slice none 0 0, .slice none 0 0, .slice none 0 0, .slice none 0 0] 39) = U := ⟨_, rfl⟩
  have k1 : w.heap.size ≤ A1.heap.size := by rw [← eA1]; simp
  have k0 : w.heap.size < A1.heap.size := by rw [← eA1]; simp
  obtain ⟨A2, eA2⟩ : ∃ U, A1.alloc (.cells #[.int .i64 0, .int .i64 0, .slice none 0 0, .slice none 0 0, .slice none 0 0, .slice none 0 0] 39) = U := ⟨_, rfl⟩
  have n_res : Blk A2 w.heap.size 39 #[.int .i64 0, .int .i64 0, .slice none 0 0, .slice none 0 0, .slice none 0 0, .slice none 0 0] := eA2 ▸ (show Blk A1 w.heap.size 39 #[.int .i64 0, .int .i64 0, .slice none 0 0, .slice none 0 0, .slice none 0 0, .slice none 0 0] from eA1 ▸ Blk.new _ _ _).alloc _
  have n_s : Blk A2 A1.heap.size 39 #[.int .i64 0, .int .i64 0, .slice none 0 0, .slice none 0 0, .slice none 0 0, .slice none 0 0] := eA2 ▸ Blk.new _ _ _
  have hA2 : Below w.heap.size w A2 := eA2 ▸ (show Below w.heap.size w A1 from eA1 ▸ (Below.refl _ w).alloc (Nat.le_refl _) _).alloc k1 _
  have hbA : Blk A2 c.g 59 (c.cells y) := hbox.below hA2 hgw
  have gq1 : A2.cell? ⟨c.g, 1, none⟩ = some (.int .i64 c.p.code) := hbA.cell 1
  have HA2 := Lib.hid hA2
  have HBA := Lib.hid hbA
  have N_RES := Lib.hid n_res
  have N_S := Lib.hid n_s
  have HIC := Lib.hid (instructions_any c.g A2.drew)
  have HB := Lib.hid hB
  have HQ := Lib.hid hq
  clear n_res n_s hA2 hbA hB hq hbox
  go_enter Try.func18, Try.ntmps18
  go_wp2_with (fail)
  refine Free.region_seq [7, 8, 10] [5] 8 (fun W' => W'.cell? ⟨c.g, 1, none⟩ = some (.int .i64 c.p.code)) (by kernel_rfl) (by kernel_rfl) (by kernel_rfl) (by kernel_rfl) (gq1) (fun ops hops => ?_)
  clear hops
  iterate 7
    refine Free.Seq.quiet (v := ?_) (a' := ?_) rfl rfl (fun W' hW' => ?_) ?_ ?_
    rotate_left 2
    · first | obtain s0 := hW' rfl | skip
      go_simp
      try with_reducible rfl
    · simp only [Act.put, List.setIfInBounds_toArray, List.set_cons_zero, List.set_cons_succ]
      try with_reducible rfl
  refine Free.Seq.loud_ rfl (.inl rfl) (fun K hK => ?_)
  go_simp
  refine HIC.out.mono ?_
  rintro e w2 ⟨b1, b3, rfl, hI, hb2⟩
  have hb2 : Below A2.heap.size A2 w2 := (Below.refl _ A2).drew.trans hb2
  have HB2 := Lib.hid hb2
  have hbg := HBA.out.below hb2 HBA.out.lt
  have HBG := Lib.hid hbg
  have HIS := Lib.hid hI
  have hW2 := HA2.out.trans (hb2.mono HA2.out.size)
  have HW2 := Lib.hid hW2
  have HRC := Lib.hid (rowI_any (q0 := q0) (b1 := b1) (b3 := b3) c.p.code w2 hbg.lt (HB.out w2 hW2) ⟨ok.fits.c0, by have := ok.fits.c1; omega⟩ HQ.out HR0.out fun W y r hk hm hr => minstr_any W hm ok her hr (HIS.out.kpg hk hbg))
  have gq2 : w2.cell? ⟨c.g, 1, none⟩ = some (.int .i64 c.p.code) := hbg.cell 1
  clear hI hb2 hbg hW2
  refine hK.out _ _ rfl (fun _ => gq2) ?_
  clear hK K gq1
  refine Free.Seq.loud_ rfl (.inl rfl) (fun K hK => ?_)
  go_simp
  refine HRC.out.mono ?_
  rintro e v1 ⟨y1, cv, cs, rfl, hm, hk, ho, hcs⟩
  rw [HE1.out] at hm hcs
  have hKA : Kpg c.g w w2 := Kpg.below _ HW2.out
  have H_res := Lib.hid ((N_RES.out.below HB2.out N_RES.out.lt).kpg hk (by omega))
  have H_s := Lib.hid ((N_S.out.below HB2.out N_S.out.lt).kpg hk (by omega))
  have HM := Lib.hid hm
  have HK := Lib.hid (hKA.trans hk)
  have HO_c := Lib.hid (ownT_mono ho HW2.out.size)
  have HCS := Lib.hid hcs
  clear hm hk ho hcs hKA N_RES N_S HRC HIC gq2
  obtain ⟨cA, cc, rfl⟩ := ownT_slice HO_c.out
  refine hK.out _ _ rfl (fun h => absurd h (by decide)) ?_
  clear hK K
  iterate 1
    refine Free.Seq.quiet (v := ?_) (a' := ?_) rfl rfl (fun W' hW' => ?_) ?_ ?_
    rotate_left 2
    · skip
      go_simp
      try with_reducible rfl
    · simp only [Act.put, List.setIfInBounds_toArray, List.set_cons_zero, List.set_cons_succ]
      try with_reducible rfl
  obtain ⟨X11, eX11⟩ : ∃ U, v1.setCell ⟨A1.heap.size, 2, none⟩ (.slice cA cs.length cc) = U := ⟨_, rfl⟩
  have fX11 := H_s.out.frozen 2
  have cX11 := H_s.out.cell 2
  have N_res : Blk X11 (w.heap.size) 39 #[.int .i64 0, .int .i64 0, .slice none 0 0, .slice none 0 0, .slice none 0 0, .slice none 0 0] := eX11 ▸ H_res.out.other (show A1.heap.size ≠ w.heap.size by omega) _
  have N_s : Blk X11 (A1.heap.size) 39 #[.int .i64 0, .int .i64 0, .slice cA cs.length cc, .slice none 0 0, .slice none 0 0, .slice none 0 0] := eX11 ▸ H_s.out.set_ 2 _
  have NO_c : X11.ownsRow w.heap.size 66 3 (.slice cA cs.length cc) (cs.length) (fcells ivs cs) := eX11 ▸ own_ofD HO_c.out fun g9 hg9 => Below.heap_setCell v1 _ _ g9 (by
    obtain ⟨cs9, hb9⟩ := own_blkD HO_c.out hg9
    exact hb9.ty_neD H_s.out (by decide))
  have NM := eX11 ▸ HM.out.set_ (p := ⟨A1.heap.size, 2, none⟩) H_s.out (by decide) (show c.g < A1.heap.size by omega) (.slice cA cs.length cc)
  have NK : Kpg c.g w X11 := eX11 ▸ HK.out.setNew (p := ⟨A1.heap.size, 2, none⟩) (by show w.heap.size ≤ A1.heap.size; omega) _
  clear H_res H_s HO_c HM HK
  have H_res := Lib.hid N_res
  clear N_res
  have H_s := Lib.hid N_s
  clear N_s
  have HO_c := Lib.hid NO_c
  clear NO_c
  have HM := Lib.hid NM
  have HK := Lib.hid NK
  clear NM NK
  refine Free.Seq.loud_ rfl (.inl rfl) (fun K hK => ?_)
  go_simp
  refine hK.out _ _ rfl (fun h => absurd h (by decide)) ?_
  clear hK K
  refine Free.Seq.nil_ ?_
  have hx0 := mbelow_any X11 (c.p.mem + 1) (HM.out.map (fun _ => (0 : Int))) ok her HZ1.out (by have := ok.fits.m0; omega) (by have := ok.fits.m1; omega)
  have hx0 : Calls Try.prog 69 #[.pointer (some ⟨c.g, 0, none⟩), .int .i64 (c.p.mem + 1)] X11 (ChP X11 c q1) := HQ1.out ▸ hx0
  have HC := Lib.hid (rowA_any (q0 := q1) c.p.mem X11 HM.out.box.lt hx0 ⟨ok.fits.m0, by have := ok.fits.m1; omega⟩ (by have h := HT1.out; omega) HR1.out fun W y r hk hm hr => matom_any W hm ok her hr)
  clear hx0
  have g_2_X11 : X11.cell? ⟨c.g, 2, none⟩ = some (.int .i64 c.p.mem) := HM.out.box.cell 2
  go_wp2_with (fail)
  refine HC.out.mono ?_
  rintro e v2 ⟨yA, mv, ms, rfl, hm, hk, ho, hcs⟩
  rw [HE2.out] at hm hcs
  have ho := ownT_mono ho HK.out.size
  have HMS := Lib.hid hcs
  clear hcs HC
  clear eX11 fX11 cX11 g_2_X11
  have N_res : Blk v2 (w.heap.size) 39 #[.int .i64 0, .int .i64 0, .slice none 0 0, .slice none 0 0, .slice none 0 0, .slice none 0 0] := H_res.out.kpg hk (by omega)
  have N_s : Blk v2 (A1.heap.size) 39 #[.int .i64 0, .int .i64 0, .slice cA cs.length cc, .slice none 0 0, .slice none 0 0, .slice none 0 0] := H_s.out.kpg hk (by omega)
  have NO_c : v2.ownsRow w.heap.size 66 3 (.slice cA cs.length cc) (cs.length) (fcells ivs cs) := own_kpg HO_c.out hk HM.out.box (by decide)
  have NM := hm
  have NK := HK.out.trans hk
  clear hm hk
  clear H_res H_s HO_c HM HK
  have H_res := Lib.hid N_res
  clear N_res
  have H_s := Lib.hid N_s
  clear N_s
  have HO_c := Lib.hid NO_c
  clear NO_c
  have HM := Lib.hid NM
  have HK := Lib.hid NK
  clear NM NK
  obtain ⟨mA, mc, rfl⟩ := ownT_slice ho
  have HO_m := Lib.hid ho
  clear ho
  obtain ⟨X12, eX12⟩ : ∃ U, v2.setCell ⟨A1.heap.size, 3, none⟩ (.slice mA ms.length mc) = U := ⟨_, rfl⟩
  have fX12 := H_s.out.frozen 3
  have cX12 := H_s.out.cell 3
  have N_res : Blk X12 (w.heap.size) 39 #[.int .i64 0, .int .i64 0, .slice none 0 0, .slice none 0 0, .slice none 0 0, .slice none 0 0] := eX12 ▸ H_res.out.other (show A1.heap.size ≠ w.heap.size by omega) _
  have N_s : Blk X12 (A1.heap.size) 39 #[.int .i64 0, .int .i64 0, .slice cA cs.length cc, .slice mA ms.length mc, .slice none 0 0, .slice none 0 0] := eX12 ▸ H_s.out.set_ 3 _
  have NO_c : X12.ownsRow w.heap.size 66 3 (.slice cA cs.length cc) (cs.length) (fcells ivs cs) := eX12 ▸ own_ofD HO_c.out fun g9 hg9 => Below.heap_setCell v2 _ _ g9 (by
    obtain ⟨cs9, hb9⟩ := own_blkD HO_c.out hg9
    exact hb9.ty_neD H_s.out (by decide))
  have NO_m : X12.ownsRow w.heap.size 34 2 (.slice mA ms.length mc) (ms.length) (fcells avs ms) := eX12 ▸ own_ofD HO_m.out fun g9 hg9 => Below.heap_setCell v2 _ _ g9 (by
    obtain ⟨cs9, hb9⟩ := own_blkD HO_m.out hg9
    exact hb9.ty_neD H_s.out (by decide))
  have NM := eX12 ▸ HM.out.set_ (p := ⟨A1.heap.size, 3, none⟩) H_s.out (by decide) (show c.g < A1.heap.size by omega) (.slice mA ms.length mc)
  have NK : Kpg c.g w X12 := eX12 ▸ HK.out.setNew (p := ⟨A1.heap.size, 3, none⟩) (by show w.heap.size ≤ A1.heap.size; omega) _
  clear H_res H_s HO_c HO_m HM HK
  have H_res := Lib.hid N_res
  clear N_res
  have H_s := Lib.hid N_s
  clear N_s
  have HO_c := Lib.hid NO_c
  clear NO_c
  have HO_m := Lib.hid NO_m
  clear NO_m
  have HM := Lib.hid NM
  have HK := Lib.hid NK
  clear NM NK
  have hx0 := mbelow_any X12 (c.p.stack + 1) (HM.out.map (fun _ => (0 : Int))) ok her HZ2.out (by have := ok.fits.s0; omega) (by have := ok.fits.s1; omega)
  have hx0 : Calls Try.prog 69 #[.pointer (some ⟨c.g, 0, none⟩), .int .i64 (c.p.stack + 1)] X12 (ChP X12 c q2) := HQ2.out ▸ hx0
  have HC := Lib.hid (rowS_any (q0 := q2) c.p.stack X12 HM.out.box.lt hx0 ⟨ok.fits.s0, by have := ok.fits.s1; omega⟩ (by have h := HT2.out; omega) HR2.out fun W y r hk hm hr => mslot_any W hm ok her hr)
  clear hx0
  have g_3_X12 : X12.cell? ⟨c.g, 3, none⟩ = some (.int .i64 c.p.stack) := HM.out.box.cell 3
  go_wp2_with (fail)
  refine HC.out.mono ?_
  rintro e v3 ⟨yS, tv, ts, rfl, hm, hk, ho, hcs⟩
  rw [HE3.out] at hm hcs
  have ho := ownT_mono ho HK.out.size
  have HTS := Lib.hid hcs
  clear hcs HC
  clear eX12 fX12 cX12 g_3_X12
  have N_res : Blk v3 (w.heap.size) 39 #[.int .i64 0, .int .i64 0, .slice none 0 0, .slice none 0 0, .slice none 0 0, .slice none 0 0] := H_res.out.kpg hk (by omega)
  have N_s : Blk v3 (A1.heap.size) 39 #[.int .i64 0, .int .i64 0, .slice cA cs.length cc, .slice mA ms.length mc, .slice none 0 0, .slice none 0 0] := H_s.out.kpg hk (by omega)
  have NO_c : v3.ownsRow w.heap.size 66 3 (.slice cA cs.length cc) (cs.length) (fcells ivs cs) := own_kpg HO_c.out hk HM.out.box (by decide)
  have NO_m : v3.ownsRow w.heap.size 34 2 (.slice mA ms.length mc) (ms.length) (fcells avs ms) := own_kpg HO_m.out hk HM.out.box (by decide)
  have NM := hm
  have NK := HK.out.trans hk
  clear hm hk
  clear H_res H_s HO_c HO_m HM HK
  have H_res := Lib.hid N_res
  clear N_res
  have H_s := Lib.hid N_s
  clear N_s
  have HO_c := Lib.hid NO_c
  clear NO_c
  have HO_m := Lib.hid NO_m
  clear NO_m
  have HM := Lib.hid NM
  have HK := Lib.hid NK
  clear NM NK
  obtain ⟨tA, tc, rfl⟩ := ownT_slice ho
  have HO_t := Lib.hid ho
  clear ho
  obtain ⟨X13, eX13⟩ : ∃ U, v3.setCell ⟨A1.heap.size, 4, none⟩ (.slice tA ts.length tc) = U := ⟨_, rfl⟩
  have fX13 := H_s.out.frozen 4
  have cX13 := H_s.out.cell 4
  have N_res : Blk X13 (w.heap.size) 39 #[.int .i64 0, .int .i64 0, .slice none 0 0, .slice none 0 0, .slice none 0 0, .slice none 0 0] := eX13 ▸ H_res.out.other (show A1.heap.size ≠ w.heap.size by omega) _
  have N_s : Blk X13 (A1.heap.size) 39 #[.int .i64 0, .int .i64 0, .slice cA cs.length cc, .slice mA ms.length mc, .slice tA ts.length tc, .slice none 0 0] := eX13 ▸ H_s.out.set_ 4 _
  have NO_c : X13.ownsRow w.heap.size 66 3 (.slice cA cs.length cc) (cs.length) (fcells ivs cs) := eX13 ▸ own_ofD HO_c.out fun g9 hg9 => Below.heap_setCell v3 _ _ g9 (by
    obtain ⟨cs9, hb9⟩ := own_blkD HO_c.out hg9
    exact hb9.ty_neD H_s.out (by decide))
  have NO_m : X13.ownsRow w.heap.size 34 2 (.slice mA ms.length mc) (ms.length) (fcells avs ms) := eX13 ▸ own_ofD HO_m.out fun g9 hg9 => Below.heap_setCell v3 _ _ g9 (by
    obtain ⟨cs9, hb9⟩ := own_blkD HO_m.out hg9
    exact hb9.ty_neD H_s.out (by decide))
  have NO_t : X13.ownsRow w.heap.size 70 3 (.slice tA ts.length tc) (ts.length) (fcells svs ts) := eX13 ▸ own_ofD HO_t.out fun g9 hg9 => Below.heap_setCell v3 _ _ g9 (by
    obtain ⟨cs9, hb9⟩ := own_blkD HO_t.out hg9
    exact hb9.ty_neD H_s.out (by decide))
  have NM := eX13 ▸ HM.out.set_ (p := ⟨A1.heap.size, 4, none⟩) H_s.out (by decide) (show c.g < A1.heap.size by omega) (.slice tA ts.length tc)
  have NK : Kpg c.g w X13 := eX13 ▸ HK.out.setNew (p := ⟨A1.heap.size, 4, none⟩) (by show w.heap.size ≤ A1.heap.size; omega) _
  clear H_res H_s HO_c HO_m HO_t HM HK
  have H_res := Lib.hid N_res
  clear N_res
  have H_s := Lib.hid N_s
  clear N_s
  have HO_c := Lib.hid NO_c
  clear NO_c
  have HO_m := Lib.hid NO_m
  clear NO_m
  have HO_t := Lib.hid NO_t
  clear NO_t
  have HM := Lib.hid NM
  have HK := Lib.hid NK
  clear NM NK
  have hx0 := mplace_any X13 (HM.out.map (fun _ => (0 : Int))) ok her HZ3.out
  have hx0 : Calls Try.prog 39 #[.pointer (some ⟨c.g, 0, none⟩)] X13 (ChP X13 c q3) := HQ3.out ▸ hx0
  have HC := Lib.hid hx0
  clear hx0
  go_wp2_with (fail)
  refine HC.out.mono ?_
  rintro e v4 ⟨y4, rfl, hm, hk⟩
  clear eX13 fX13 cX13
  have N_res : Blk v4 (w.heap.size) 39 #[.int .i64 0, .int .i64 0, .slice none 0 0, .slice none 0 0, .slice none 0 0, .slice none 0 0] := H_res.out.kpg hk (by omega)
  have N_s : Blk v4 (A1.heap.size) 39 #[.int .i64 0, .int .i64 0, .slice cA cs.length cc, .slice mA ms.length mc, .slice tA ts.length tc, .slice none 0 0] := H_s.out.kpg hk (by omega)
  have NO_c : v4.ownsRow w.heap.size 66 3 (.slice cA cs.length cc) (cs.length) (fcells ivs cs) := own_kpg HO_c.out hk HM.out.box (by decide)
  have NO_m : v4.ownsRow w.heap.size 34 2 (.slice mA ms.length mc) (ms.length) (fcells avs ms) := own_kpg HO_m.out hk HM.out.box (by decide)
  have NO_t : v4.ownsRow w.heap.size 70 3 (.slice tA ts.length tc) (ts.length) (fcells svs ts) := own_kpg HO_t.out hk HM.out.box (by decide)
  have NM := hm
  have NK := HK.out.trans hk
  clear hm hk
  clear H_res H_s HO_c HO_m HO_t HM HK
  have H_res := Lib.hid N_res
  clear N_res
  have H_s := Lib.hid N_s
  clear N_s
  have HO_c := Lib.hid NO_c
  clear NO_c
  have HO_m := Lib.hid NO_m
  clear NO_m
  have HO_t := Lib.hid NO_t
  clear NO_t
  have HM := Lib.hid NM
  have HK := Lib.hid NK
  clear NM NK
  clear HC
  obtain ⟨X14, eX14⟩ : ∃ U, v4.setCell ⟨A1.heap.size, 0, none⟩ (.int .i64 (gi q3)) = U := ⟨_, rfl⟩
  have fX14 := H_s.out.frozen 0
  have cX14 := H_s.out.cell 0
  have N_res : Blk X14 (w.heap.size) 39 #[.int .i64 0, .int .i64 0, .slice none 0 0, .slice none 0 0, .slice none 0 0, .slice none 0 0] := eX14 ▸ H_res.out.other (show A1.heap.size ≠ w.heap.size by omega) _
  have N_s : Blk X14 (A1.heap.size) 39 #[.int .i64 (gi q3), .int .i64 0, .slice cA cs.length cc, .slice mA ms.length mc, .slice tA ts.length tc, .slice none 0 0] := eX14 ▸ H_s.out.set_ 0 _
  have NO_c : X14.ownsRow w.heap.size 66 3 (.slice cA cs.length cc) (cs.length) (fcells ivs cs) := eX14 ▸ own_ofD HO_c.out fun g9 hg9 => Below.heap_setCell v4 _ _ g9 (by
    obtain ⟨cs9, hb9⟩ := own_blkD HO_c.out hg9
    exact hb9.ty_neD H_s.out (by decide))
  have NO_m : X14.ownsRow w.heap.size 34 2 (.slice mA ms.length mc) (ms.length) (fcells avs ms) := eX14 ▸ own_ofD HO_m.out fun g9 hg9 => Below.heap_setCell v4 _ _ g9 (by
    obtain ⟨cs9, hb9⟩ := own_blkD HO_m.out hg9
    exact hb9.ty_neD H_s.out (by decide))
  have NO_t : X14.ownsRow w.heap.size 70 3 (.slice tA ts.length tc) (ts.length) (fcells svs ts) := eX14 ▸ own_ofD HO_t.out fun g9 hg9 => Below.heap_setCell v4 _ _ g9 (by
    obtain ⟨cs9, hb9⟩ := own_blkD HO_t.out hg9
    exact hb9.ty_neD H_s.out (by decide))
  have NM := eX14 ▸ HM.out.set_ (p := ⟨A1.heap.size, 0, none⟩) H_s.out (by decide) (show c.g < A1.heap.size by omega) (.int .i64 (gi q3))
  have NK : Kpg c.g w X14 := eX14 ▸ HK.out.setNew (p := ⟨A1.heap.size, 0, none⟩) (by show w.heap.size ≤ A1.heap.size; omega) _
  clear H_res H_s HO_c HO_m HO_t HM HK
  have H_res := Lib.hid N_res
  clear N_res
  have H_s := Lib.hid N_s
  clear N_s
  have HO_c := Lib.hid NO_c
  clear NO_c
  have HO_m := Lib.hid NO_m
  clear NO_m
  have HO_t := Lib.hid NO_t
  clear NO_t
  have HM := Lib.hid NM
  have HK := Lib.hid NK
  clear NM NK
  have hx0 := mlabel_any X14 HM.out ok her HR3.out
  have hx0 : Calls Try.prog 40 #[.pointer (some ⟨c.g, 0, none⟩)] X14 (ChP X14 c q4) := HQ4.out ▸ hx0
  have HC := Lib.hid hx0
  clear hx0
  go_wp2_with (fail)
  refine HC.out.mono ?_
  rintro e v5 ⟨y5, rfl, hm, hk⟩
  clear eX14 fX14 cX14
  have N_res : Blk v5 (w.heap.size) 39 #[.int .i64 0, .int .i64 0, .slice none 0 0, .slice none 0 0, .slice none 0 0, .slice none 0 0] := H_res.out.kpg hk (by omega)
  have N_s : Blk v5 (A1.heap.size) 39 #[.int .i64 (gi q3), .int .i64 0, .slice cA cs.length cc, .slice mA ms.length mc, .slice tA ts.length tc, .slice none 0 0] := H_s.out.kpg hk (by omega)
  have NO_c : v5.ownsRow w.heap.size 66 3 (.slice cA cs.length cc) (cs.length) (fcells ivs cs) := own_kpg HO_c.out hk HM.out.box (by decide)
  have NO_m : v5.ownsRow w.heap.size 34 2 (.slice mA ms.length mc) (ms.length) (fcells avs ms) := own_kpg HO_m.out hk HM.out.box (by decide)
  have NO_t : v5.ownsRow w.heap.size 70 3 (.slice tA ts.length tc) (ts.length) (fcells svs ts) := own_kpg HO_t.out hk HM.out.box (by decide)
  have NM := hm
  have NK := HK.out.trans hk
  clear hm hk
  clear H_res H_s HO_c HO_m HO_t HM HK
  have H_res := Lib.hid N_res
  clear N_res
  have H_s := Lib.hid N_s
  clear N_s
  have HO_c := Lib.hid NO_c
  clear NO_c
  have HO_m := Lib.hid NO_m
  clear NO_m
  have HO_t := Lib.hid NO_t
  clear NO_t
  have HM := Lib.hid NM
  have HK := Lib.hid NK
  clear NM NK
  clear HC
  obtain ⟨X15, eX15⟩ : ∃ U, v5.setCell ⟨A1.heap.size, 1, none⟩ (.int .i64 (gi q4)) = U := ⟨_, rfl⟩
  have fX15 := H_s.out.frozen 1
  have cX15 := H_s.out.cell 1
  have N_res : Blk X15 (w.heap.size) 39 #[.int .i64 0, .int .i64 0, .slice none 0 0, .slice none 0 0, .slice none 0 0, .slice none 0 0] := eX15 ▸ H_res.out.other (show A1.heap.size ≠ w.heap.size by omega) _
  have N_s : Blk X15 (A1.heap.size) 39 #[.int .i64 (gi q3), .int .i64 (gi q4), .slice cA cs.length cc, .slice mA ms.length mc, .slice tA ts.length tc, .slice none 0 0] := eX15 ▸ H_s.out.set_ 1 _
  have NO_c : X15.ownsRow w.heap.size 66 3 (.slice cA cs.length cc) (cs.length) (fcells ivs cs) := eX15 ▸ own_ofD HO_c.out fun g9 hg9 => Below.heap_setCell v5 _ _ g9 (by
    obtain ⟨cs9, hb9⟩ := own_blkD HO_c.out hg9
    exact hb9.ty_neD H_s.out (by decide))
  have NO_m : X15.ownsRow w.heap.size 34 2 (.slice mA ms.length mc) (ms.length) (fcells avs ms) := eX15 ▸ own_ofD HO_m.out fun g9 hg9 => Below.heap_setCell v5 _ _ g9 (by
    obtain ⟨cs9, hb9⟩ := own_blkD HO_m.out hg9
    exact hb9.ty_neD H_s.out (by decide))
  have NO_t : X15.ownsRow w.heap.size 70 3 (.slice tA ts.length tc) (ts.length) (fcells svs ts) := eX15 ▸ own_ofD HO_t.out fun g9 hg9 => Below.heap_setCell v5 _ _ g9 (by
    obtain ⟨cs9, hb9⟩ := own_blkD HO_t.out hg9
    exact hb9.ty_neD H_s.out (by decide))
  have NM := eX15 ▸ HM.out.set_ (p := ⟨A1.heap.size, 1, none⟩) H_s.out (by decide) (show c.g < A1.heap.size by omega) (.int .i64 (gi q4))
  have NK : Kpg c.g w X15 := eX15 ▸ HK.out.setNew (p := ⟨A1.heap.size, 1, none⟩) (by show w.heap.size ≤ A1.heap.size; omega) _
  clear H_res H_s HO_c HO_m HO_t HM HK
  have H_res := Lib.hid N_res
  clear N_res
  have H_s := Lib.hid N_s
  clear N_s
  have HO_c := Lib.hid NO_c
  clear NO_c
  have HO_m := Lib.hid NO_m
  clear NO_m
  have HO_t := Lib.hid NO_t
  clear NO_t
  have HM := Lib.hid NM
  have HK := Lib.hid NK
  clear NM NK
  have s_0_X15 := H_s.out.cell 0
  have s_1_X15 := H_s.out.cell 1
  have s_2_X15 := H_s.out.cell 2
  have s_3_X15 := H_s.out.cell 3
  have s_4_X15 := H_s.out.cell 4
  have s_5_X15 := H_s.out.cell 5
  obtain ⟨X16, eX16⟩ : ∃ U, X15.setCell ⟨w.heap.size, 0, none⟩ (.int .i64 (gi q3)) = U := ⟨_, rfl⟩
  have fX16 := H_res.out.frozen 0
  have cX16 := H_res.out.cell 0
  have N_res : Blk X16 (w.heap.size) 39 #[.int .i64 (gi q3), .int .i64 0, .slice none 0 0, .slice none 0 0, .slice none 0 0, .slice none 0 0] := eX16 ▸ H_res.out.set_ 0 _
  have N_s : Blk X16 (A1.heap.size) 39 #[.int .i64 (gi q3), .int .i64 (gi q4), .slice cA cs.length cc, .slice mA ms.length mc, .slice tA ts.length tc, .slice none 0 0] := eX16 ▸ H_s.out.other (show w.heap.size ≠ A1.heap.size by omega) _
  have NO_c : X16.ownsRow w.heap.size 66 3 (.slice cA cs.length cc) (cs.length) (fcells ivs cs) := eX16 ▸ own_ofD HO_c.out fun g9 hg9 => Below.heap_setCell X15 _ _ g9 (by
    obtain ⟨cs9, hb9⟩ := own_blkD HO_c.out hg9
    exact hb9.ty_neD H_res.out (by decide))
  have NO_m : X16.ownsRow w.heap.size 34 2 (.slice mA ms.length mc) (ms.length) (fcells avs ms) := eX16 ▸ own_ofD HO_m.out fun g9 hg9 => Below.heap_setCell X15 _ _ g9 (by
    obtain ⟨cs9, hb9⟩ := own_blkD HO_m.out hg9
    exact hb9.ty_neD H_res.out (by decide))
  have NO_t : X16.ownsRow w.heap.size 70 3 (.slice tA ts.length tc) (ts.length) (fcells svs ts) := eX16 ▸ own_ofD HO_t.out fun g9 hg9 => Below.heap_setCell X15 _ _ g9 (by
    obtain ⟨cs9, hb9⟩ := own_blkD HO_t.out hg9
    exact hb9.ty_neD H_res.out (by decide))
  have NM := eX16 ▸ HM.out.set_ (p := ⟨w.heap.size, 0, none⟩) H_res.out (by decide) (show c.g < w.heap.size by omega) (.int .i64 (gi q3))
  have NK : Kpg c.g w X16 := eX16 ▸ HK.out.setNew (p := ⟨w.heap.size, 0, none⟩) (by show w.heap.size ≤ w.heap.size; omega) _
  clear H_res H_s HO_c HO_m HO_t HM HK
  have H_res := Lib.hid N_res
  clear N_res
  have H_s := Lib.hid N_s
  clear N_s
  have HO_c := Lib.hid NO_c
  clear NO_c
  have HO_m := Lib.hid NO_m
  clear NO_m
  have HO_t := Lib.hid NO_t
  clear NO_t
  have HM := Lib.hid NM
  have HK := Lib.hid NK
  clear NM NK
  obtain ⟨X17, eX17⟩ : ∃ U, X16.setCell ⟨w.heap.size, 1, none⟩ (.int .i64 (gi q4)) = U := ⟨_, rfl⟩
  have fX17 := H_res.out.frozen 1
  have cX17 := H_res.out.cell 1
  have N_res : Blk X17 (w.heap.size) 39 #[.int .i64 (gi q3), .int .i64 (gi q4), .slice none 0 0, .slice none 0 0, .slice none 0 0, .slice none 0 0] := eX17 ▸ H_res.out.set_ 1 _
  have N_s : Blk X17 (A1.heap.size) 39 #[.int .i64 (gi q3), .int .i64 (gi q4), .slice cA cs.length cc, .slice mA ms.length mc, .slice tA ts.length tc, .slice none 0 0] := eX17 ▸ H_s.out.other (show w.heap.size ≠ A1.heap.size by omega) _
  have NO_c : X17.ownsRow w.heap.size 66 3 (.slice cA cs.length cc) (cs.length) (fcells ivs cs) := eX17 ▸ own_ofD HO_c.out fun g9 hg9 => Below.heap_setCell X16 _ _ g9 (by
    obtain ⟨cs9, hb9⟩ := own_blkD HO_c.out hg9
    exact hb9.ty_neD H_res.out (by decide))
  have NO_m : X17.ownsRow w.heap.size 34 2 (.slice mA ms.length mc) (ms.length) (fcells avs ms) := eX17 ▸ own_ofD HO_m.out fun g9 hg9 => Below.heap_setCell X16 _ _ g9 (by
    obtain ⟨cs9, hb9⟩ := own_blkD HO_m.out hg9
    exact hb9.ty_neD H_res.out (by decide))
  have NO_t : X17.ownsRow w.heap.size 70 3 (.slice tA ts.length tc) (ts.length) (fcells svs ts) := eX17 ▸ own_ofD HO_t.out fun g9 hg9 => Below.heap_setCell X16 _ _ g9 (by
    obtain ⟨cs9, hb9⟩ := own_blkD HO_t.out hg9
    exact hb9.ty_neD H_res.out (by decide))
  have NM := eX17 ▸ HM.out.set_ (p := ⟨w.heap.size, 1, none⟩) H_res.out (by decide) (show c.g < w.heap.size by omega) (.int .i64 (gi q4))
  have NK : Kpg c.g w X17 := eX17 ▸ HK.out.setNew (p := ⟨w.heap.size, 1, none⟩) (by show w.heap.size ≤ w.heap.size; omega) _
  clear H_res H_s HO_c HO_m HO_t HM HK
  have H_res := Lib.hid N_res
  clear N_res
  have H_s := Lib.hid N_s
  clear N_s
  have HO_c := Lib.hid NO_c
  clear NO_c
  have HO_m := Lib.hid NO_m
  clear NO_m
  have HO_t := Lib.hid NO_t
  clear NO_t
  have HM := Lib.hid NM
  have HK := Lib.hid NK
  clear NM NK
  obtain ⟨X18, eX18⟩ : ∃ U, X17.setCell ⟨w.heap.size, 2, none⟩ (.slice cA cs.length cc) = U := ⟨_, rfl⟩
  have fX18 := H_res.out.frozen 2
  have cX18 := H_res.out.cell 2
  have N_res : Blk X18 (w.heap.size) 39 #[.int .i64 (gi q3), .int .i64 (gi q4), .slice cA cs.length cc, .slice none 0 0, .slice none 0 0, .slice none 0 0] := eX18 ▸ H_res.out.set_ 2 _
  have N_s : Blk X18 (A1.heap.size) 39 #[.int .i64 (gi q3), .int .i64 (gi q4), .slice cA cs.length cc, .slice mA ms.length mc, .slice tA ts.length tc, .slice none 0 0] := eX18 ▸ H_s.out.other (show w.heap.size ≠ A1.heap.size by omega) _
  have NO_c : X18.ownsRow w.heap.size 66 3 (.slice cA cs.length cc) (cs.length) (fcells ivs cs) := eX18 ▸ own_ofD HO_c.out fun g9 hg9 => Below.heap_setCell X17 _ _ g9 (by
    obtain ⟨cs9, hb9⟩ := own_blkD HO_c.out hg9
    exact hb9.ty_neD H_res.out (by decide))
  have NO_m : X18.ownsRow w.heap.size 34 2 (.slice mA ms.length mc) (ms.length) (fcells avs ms) := eX18 ▸ own_ofD HO_m.out fun g9 hg9 => Below.heap_setCell X17 _ _ g9 (by
    obtain ⟨cs9, hb9⟩ := own_blkD HO_m.out hg9
    exact hb9.ty_neD H_res.out (by decide))
  have NO_t : X18.ownsRow w.heap.size 70 3 (.slice tA ts.length tc) (ts.length) (fcells svs ts) := eX18 ▸ own_ofD HO_t.out fun g9 hg9 => Below.heap_setCell X17 _ _ g9 (by
    obtain ⟨cs9, hb9⟩ := own_blkD HO_t.out hg9
    exact hb9.ty_neD H_res.out (by decide))
  have NM := eX18 ▸ HM.out.set_ (p := ⟨w.heap.size, 2, none⟩) H_res.out (by decide) (show c.g < w.heap.size by omega) (.slice cA cs.length cc)
  have NK : Kpg c.g w X18 := eX18 ▸ HK.out.setNew (p := ⟨w.heap.size, 2, none⟩) (by show w.heap.size ≤ w.heap.size; omega) _
  clear H_res H_s HO_c HO_m HO_t HM HK
  have H_res := Lib.hid N_res
  clear N_res
  have H_s := Lib.hid N_s
  clear N_s
  have HO_c := Lib.hid NO_c
  clear NO_c
  have HO_m := Lib.hid NO_m
  clear NO_m
  have HO_t := Lib.hid NO_t
  clear NO_t
  have HM := Lib.hid NM
  have HK := Lib.hid NK
  clear NM NK
  obtain ⟨X19, eX19⟩ : ∃ U, X18.setCell ⟨w.heap.size, 3, none⟩ (.slice mA ms.length mc) = U := ⟨_, rfl⟩
  have fX19 := H_res.out.frozen 3
  have cX19 := H_res.out.cell 3
  have N_res : Blk X19 (w.heap.size) 39 #[.int .i64 (gi q3), .int .i64 (gi q4), .slice cA cs.length cc, .slice mA ms.length mc, .slice none 0 0, .slice none 0 0] := eX19 ▸ H_res.out.set_ 3 _
  have N_s : Blk X19 (A1.heap.size) 39 #[.int .i64 (gi q3), .int .i64 (gi q4), .slice cA cs.length cc, .slice mA ms.length mc, .slice tA ts.length tc, .slice none 0 0] := eX19 ▸ H_s.out.other (show w.heap.size ≠ A1.heap.size by omega) _
  have NO_c : X19.ownsRow w.heap.size 66 3 (.slice cA cs.length cc) (cs.length) (fcells ivs cs) := eX19 ▸ own_ofD HO_c.out fun g9 hg9 => Below.heap_setCell X18 _ _ g9 (by
    obtain ⟨cs9, hb9⟩ := own_blkD HO_c.out hg9
    exact hb9.ty_neD H_res.out (by decide))
  have NO_m : X19.ownsRow w.heap.size 34 2 (.slice mA ms.length mc) (ms.length) (fcells avs ms) := eX19 ▸ own_ofD HO_m.out fun g9 hg9 => Below.heap_setCell X18 _ _ g9 (by
    obtain ⟨cs9, hb9⟩ := own_blkD HO_m.out hg9
    exact hb9.ty_neD H_res.out (by decide))
  have NO_t : X19.ownsRow w.heap.size 70 3 (.slice tA ts.length tc) (ts.length) (fcells svs ts) := eX19 ▸ own_ofD HO_t.out fun g9 hg9 => Below.heap_setCell X18 _ _ g9 (by
    obtain ⟨cs9, hb9⟩ := own_blkD HO_t.out hg9
    exact hb9.ty_neD H_res.out (by decide))
  have NM := eX19 ▸ HM.out.set_ (p := ⟨w.heap.size, 3, none⟩) H_res.out (by decide) (show c.g < w.heap.size by omega) (.slice mA ms.length mc)
  have NK : Kpg c.g w X19 := eX19 ▸ HK.out.setNew (p := ⟨w.heap.size, 3, none⟩) (by show w.heap.size ≤ w.heap.size; omega) _
  clear H_res H_s HO_c HO_m HO_t HM HK
  have H_res := Lib.hid N_res
  clear N_res
  have H_s := Lib.hid N_s
  clear N_s
  have HO_c := Lib.hid NO_c
  clear NO_c
  have HO_m := Lib.hid NO_m
  clear NO_m
  have HO_t := Lib.hid NO_t
  clear NO_t
  have HM := Lib.hid NM
  have HK := Lib.hid NK
  clear NM NK
  obtain ⟨X20, eX20⟩ : ∃ U, X19.setCell ⟨w.heap.size, 4, none⟩ (.slice tA ts.length tc) = U := ⟨_, rfl⟩
  have fX20 := H_res.out.frozen 4
  have cX20 := H_res.out.cell 4
  have N_res : Blk X20 (w.heap.size) 39 #[.int .i64 (gi q3), .int .i64 (gi q4), .slice cA cs.length cc, .slice mA ms.length mc, .slice tA ts.length tc, .slice none 0 0] := eX20 ▸ H_res.out.set_ 4 _
  have N_s : Blk X20 (A1.heap.size) 39 #[.int .i64 (gi q3), .int .i64 (gi q4), .slice cA cs.length cc, .slice mA ms.length mc, .slice tA ts.length tc, .slice none 0 0] := eX20 ▸ H_s.out.other (show w.heap.size ≠ A1.heap.size by omega) _
  have NO_c : X20.ownsRow w.heap.size 66 3 (.slice cA cs.length cc) (cs.length) (fcells ivs cs) := eX20 ▸ own_ofD HO_c.out fun g9 hg9 => Below.heap_setCell X19 _ _ g9 (by
    obtain ⟨cs9, hb9⟩ := own_blkD HO_c.out hg9
    exact hb9.ty_neD H_res.out (by decide))
  have NO_m : X20.ownsRow w.heap.size 34 2 (.slice mA ms.length mc) (ms.length) (fcells avs ms) := eX20 ▸ own_ofD HO_m.out fun g9 hg9 => Below.heap_setCell X19 _ _ g9 (by
    obtain ⟨cs9, hb9⟩ := own_blkD HO_m.out hg9
    exact hb9.ty_neD H_res.out (by decide))
  have NO_t : X20.ownsRow w.heap.size 70 3 (.slice tA ts.length tc) (ts.length) (fcells svs ts) := eX20 ▸ own_ofD HO_t.out fun g9 hg9 => Below.heap_setCell X19 _ _ g9 (by
    obtain ⟨cs9, hb9⟩ := own_blkD HO_t.out hg9
    exact hb9.ty_neD H_res.out (by decide))
  have NM := eX20 ▸ HM.out.set_ (p := ⟨w.heap.size, 4, none⟩) H_res.out (by decide) (show c.g < w.heap.size by omega) (.slice tA ts.length tc)
  have NK : Kpg c.g w X20 := eX20 ▸ HK.out.setNew (p := ⟨w.heap.size, 4, none⟩) (by show w.heap.size ≤ w.heap.size; omega) _
  clear H_res H_s HO_c HO_m HO_t HM HK
  have H_res := Lib.hid N_res
  clear N_res
  have H_s := Lib.hid N_s
  clear N_s
  have HO_c := Lib.hid NO_c
  clear NO_c
  have HO_m := Lib.hid NO_m
  clear NO_m
  have HO_t := Lib.hid NO_t
  clear NO_t
  have HM := Lib.hid NM
  have HK := Lib.hid NK
  clear NM NK
  obtain ⟨X21, eX21⟩ : ∃ U, X20.setCell ⟨w.heap.size, 5, none⟩ (.slice none 0 0) = U := ⟨_, rfl⟩
  have fX21 := H_res.out.frozen 5
  have cX21 := H_res.out.cell 5
  have N_res : Blk X21 (w.heap.size) 39 #[.int .i64 (gi q3), .int .i64 (gi q4), .slice cA cs.length cc, .slice mA ms.length mc, .slice tA ts.length tc, .slice none 0 0] := eX21 ▸ H_res.out.set_ 5 _
  have N_s : Blk X21 (A1.heap.size) 39 #[.int .i64 (gi q3), .int .i64 (gi q4), .slice cA cs.length cc, .slice mA ms.length mc, .slice tA ts.length tc, .slice none 0 0] := eX21 ▸ H_s.out.other (show w.heap.size ≠ A1.heap.size by omega) _
  have NO_c : X21.ownsRow w.heap.size 66 3 (.slice cA cs.length cc) (cs.length) (fcells ivs cs) := eX21 ▸ own_ofD HO_c.out fun g9 hg9 => Below.heap_setCell X20 _ _ g9 (by
    obtain ⟨cs9, hb9⟩ := own_blkD HO_c.out hg9
    exact hb9.ty_neD H_res.out (by decide))
  have NO_m : X21.ownsRow w.heap.size 34 2 (.slice mA ms.length mc) (ms.length) (fcells avs ms) := eX21 ▸ own_ofD HO_m.out fun g9 hg9 => Below.heap_setCell X20 _ _ g9 (by
    obtain ⟨cs9, hb9⟩ := own_blkD HO_m.out hg9
    exact hb9.ty_neD H_res.out (by decide))
  have NO_t : X21.ownsRow w.heap.size 70 3 (.slice tA ts.length tc) (ts.length) (fcells svs ts) := eX21 ▸ own_ofD HO_t.out fun g9 hg9 => Below.heap_setCell X20 _ _ g9 (by
    obtain ⟨cs9, hb9⟩ := own_blkD HO_t.out hg9
    exact hb9.ty_neD H_res.out (by decide))
  have NM := eX21 ▸ HM.out.set_ (p := ⟨w.heap.size, 5, none⟩) H_res.out (by decide) (show c.g < w.heap.size by omega) (.slice none 0 0)
  have NK : Kpg c.g w X21 := eX21 ▸ HK.out.setNew (p := ⟨w.heap.size, 5, none⟩) (by show w.heap.size ≤ w.heap.size; omega) _
  clear H_res H_s HO_c HO_m HO_t HM HK
  have H_res := Lib.hid N_res
  clear N_res
  have H_s := Lib.hid N_s
  clear N_s
  have HO_c := Lib.hid NO_c
  clear NO_c
  have HO_m := Lib.hid NO_m
  clear NO_m
  have HO_t := Lib.hid NO_t
  clear NO_t
  have HM := Lib.hid NM
  have HK := Lib.hid NK
  clear NM NK
  have res_0_X21 := H_res.out.cell 0
  have res_1_X21 := H_res.out.cell 1
  have res_2_X21 := H_res.out.cell 2
  have res_3_X21 := H_res.out.cell 3
  have res_4_X21 := H_res.out.cell 4
  have res_5_X21 := H_res.out.cell 5
  have HANS := Lib.hid (HFIN.out cs ms ts HCS.out HMS.out HTS.out)
  go_wp2
  exact bodyPost_ret (v := .agg #[.int .i64 (gi q3), .int .i64 (gi q4), .slice cA cs.length cc, .slice mA ms.length mc, .slice tA ts.length tc, .slice none 0 0]) (by simp [results, Try.results18, go_sem, res_0_X21, res_1_X21, res_2_X21, res_3_X21, res_4_X21, res_5_X21]) rfl ⟨y5, _, _, _, ⟨⟨gi q3, gi q4⟩, cs, ms, ts, []⟩, rfl, HANS.out ▸ HM.out.map (fun z => (⟨⟨gi q3, z⟩, cs, ms, ts, []⟩ : St.State)), HK.out, HO_c.out, HO_m.out, HO_t.out, fun s' d e => by
    rw [HANS.out] at e
    obtain ⟨z, e1, e2⟩ := map_val (f := fun z => (⟨⟨gi q3, z⟩, cs, ms, ts, []⟩ : St.State)) e
    rw [e2, gi_some e1]⟩
end Go.Proofs.Ytmbgndcahlopdaa

/- Package gen: upTo, mayBe, Right, check (by gen_gmh.py). -/
namespace Go.Proofs.Ytmbgndcahlopdaa
set_option maxRecDepth 100000
open Go.RowKit Go.Shelf
attribute [local go_sem] Oper.semAt_some

theorem gUpTo15_any (n most : Int) (w : World) : Calls Try.prog 67 #[.int .i64 n, .int .i64 most] w fun e w' => e = .returned (.bool (decide (0 ≤ n ∧ n ≤ most))) ∧ w = w' := by
  by_cases h0 : n ≥ 0
  · have e0 : decide (n ≥ 0) = true := decide_eq_true h0
    by_cases h1 : n ≤ most
    · have e1 : decide (n ≤ most) = true := decide_eq_true h1
      rw [decide_eq_true (show 0 ≤ n ∧ n ≤ most from ⟨h0, h1⟩)]
      clear h0 h1
      go_enter Try.func67, Try.ntmps67
      go_wp2
      go_ret
      exact ⟨rfl, rfl⟩
    · have e1 : decide (n ≤ most) = false := decide_eq_false h1
      rw [decide_eq_false (fun h => h1 h.2)]
      clear h0 h1
      go_enter Try.func67, Try.ntmps67
      go_wp2
      go_ret
      exact ⟨rfl, rfl⟩
  · have e0 : decide (n ≥ 0) = false := decide_eq_false h0
    rw [decide_eq_false (fun h => h0 h.1)]
    clear h0
    go_enter Try.func67, Try.ntmps67
    go_wp2
    go_ret
    exact ⟨rfl, rfl⟩
theorem least_err (l : List Int) : ((Pk.least l 0).2 : Int) != 1 ↔ Pk.right l = true := by
  unfold Pk.least
  cases h : Pk.right l with
  | false => simp
  | true =>
    rw [if_pos rfl]
    by_cases h2 : (0 : Int) ≤ 0 ∧ (0 : Int) < l.length ∧ 0 < l.getD (0 : Int).toNat 0
    · rw [if_pos h2]; simp
    · rw [if_neg h2]; simp
theorem gMayBe15_any {A : Option Addr} {l : List Int} (n c : Nat) (w : World) (h : Row w w.heap.size A (ints l)) (hn : l.length = n) (hn9 : n ≤ 1000000) (hc : n ≤ c) :
    Calls Try.prog 68 #[.slice A n c] w fun e w' => e = .returned (.bool (Pk.right l)) ∧ Below w.heap.size w w' := by
  have HL := Lib.hid (pLeast14_any (A := A) n c 0 w h hn hn9 hc)
  have he := least_err l
  generalize Pk.least l 0 = r at *
  obtain ⟨x, er⟩ := r
  have hr : Pk.right l = ((er : Int) != 1) := by
    rw [Bool.eq_iff_iff]
    exact he.symm
  rw [hr]
  clear he hr h hn
  go_enter Try.func68, Try.ntmps68
  go_wp2_with (fail)
  refine HL.out.mono ?_
  rintro e w1 ⟨rfl, hb⟩
  have HB := Lib.hid hb
  clear hb
  go_wp2
  go_ret
  exact ⟨rfl, HB.out⟩
set_option maxHeartbeats 4000000 in
theorem gRight15_any {A : Option Addr} (p : Gn.Sp) (c : Nat) (w : World) (h : Row w w.heap.size A (ints p.ws)) (hl : p.ws.length ≤ 1000000) (hc : p.ws.length ≤ c) : Calls Try.prog 32 #[spv p A c] w (Tells w (Gn.spB p)) := by
  rw [Gn.spB_six]
  unfold spv
  obtain ⟨code, mem, stack, val, ws⟩ := p
  dsimp only at h hl hc ⊢
  have hb := (Below.refl _ w).alloc (Nat.le_refl _) (.cells #[.int .i64 code, .int .i64 mem, .int .i64 stack, .int .i64 val, .slice A ws.length c] 28)
  have hk := Blk.new w 28 #[.int .i64 code, .int .i64 mem, .int .i64 stack, .int .i64 val, .slice A ws.length c]
  have q0 := hk.cell 0
  have q1 := hk.cell 1
  have q2 := hk.cell 2
  have q3 := hk.cell 3
  have q4 := hk.cell 4
  have HB := Lib.hid hb
  have HW := Lib.hid (fun W (hW : Below w.heap.size w W) => gMayBe15_any (A := A) ws.length c W ((h.below hW).more hW.size) rfl hl hc)
  have HI1 := Lib.hid (gUpTo15_any code 12)
  have HI2 := Lib.hid (gUpTo15_any mem 6)
  have HI3 := Lib.hid (gUpTo15_any stack 12)
  have HI4 := Lib.hid (gUpTo15_any val 20)
  have e5 : ((ws.length : Int) == 13) = decide (ws.length = 13) := by rw [Bool.eq_iff_iff, beq_iff_eq, decide_eq_true_iff]; omega
  generalize decide (0 ≤ code ∧ code ≤ 12) = b1 at *
  generalize decide (0 ≤ mem ∧ mem ≤ 6) = b2 at *
  generalize decide (0 ≤ stack ∧ stack ≤ 12) = b3 at *
  generalize decide (0 ≤ val ∧ val ≤ 20) = b4 at *
  generalize decide (ws.length = 13) = b5 at *
  generalize Pk.right ws = b6 at *
  generalize ws.length = n at *
  clear hk hb h hl hc
  cases b1 with
  | false =>
    simp only [Bool.false_and]
    go_enter Try.func32, Try.ntmps32
    go_wp2_with (fail)
    refine (HI1.out _).mono ?_
    rintro e w1 ⟨rfl, rfl⟩
    go_wp2
    go_ret
    exact ⟨rfl, HB.out⟩
  | true =>
    cases b2 with
    | false =>
      simp only [Bool.false_and, Bool.true_and]
      go_enter Try.func32, Try.ntmps32
      go_wp2_with (fail)
      refine (HI1.out _).mono ?_
      rintro e w1 ⟨rfl, rfl⟩
      go_wp2_with (fail)
      refine (HI2.out _).mono ?_
      rintro e w2 ⟨rfl, rfl⟩
      go_wp2
      go_ret
      exact ⟨rfl, HB.out⟩
    | true =>
      cases b3 with
      | false =>
        simp only [Bool.false_and, Bool.true_and]
        go_enter Try.func32, Try.ntmps32
        go_wp2_with (fail)
        refine (HI1.out _).mono ?_
        rintro e w1 ⟨rfl, rfl⟩
        go_wp2_with (fail)
        refine (HI2.out _).mono ?_
        rintro e w2 ⟨rfl, rfl⟩
        go_wp2_with (fail)
        refine (HI3.out _).mono ?_
        rintro e w3 ⟨rfl, rfl⟩
        go_wp2
        go_ret
        exact ⟨rfl, HB.out⟩
      | true =>
        cases b4 with
        | false =>
          simp only [Bool.false_and, Bool.true_and]
          go_enter Try.func32, Try.ntmps32
          go_wp2_with (fail)
          refine (HI1.out _).mono ?_
          rintro e w1 ⟨rfl, rfl⟩
          go_wp2_with (fail)
          refine (HI2.out _).mono ?_
          rintro e w2 ⟨rfl, rfl⟩
          go_wp2_with (fail)
          refine (HI3.out _).mono ?_
          rintro e w3 ⟨rfl, rfl⟩
          go_wp2_with (fail)
          refine (HI4.out _).mono ?_
          rintro e w4 ⟨rfl, rfl⟩
          go_wp2
          go_ret
          exact ⟨rfl, HB.out⟩
        | true =>
          cases b5 with
          | false =>
            simp only [Bool.false_and, Bool.true_and]
            go_enter Try.func32, Try.ntmps32
            go_wp2_with (fail)
            refine (HI1.out _).mono ?_
            rintro e w1 ⟨rfl, rfl⟩
            go_wp2_with (fail)
            refine (HI2.out _).mono ?_
            rintro e w2 ⟨rfl, rfl⟩
            go_wp2_with (fail)
            refine (HI3.out _).mono ?_
            rintro e w3 ⟨rfl, rfl⟩
            go_wp2_with (fail)
            refine (HI4.out _).mono ?_
            rintro e w4 ⟨rfl, rfl⟩
            go_wp2
            go_ret
            exact ⟨rfl, HB.out⟩
          | true =>
            simp only [Bool.true_and]
            go_enter Try.func32, Try.ntmps32
            go_wp2_with (fail)
            refine (HI1.out _).mono ?_
            rintro e w1 ⟨rfl, rfl⟩
            go_wp2_with (fail)
            refine (HI2.out _).mono ?_
            rintro e w2 ⟨rfl, rfl⟩
            go_wp2_with (fail)
            refine (HI3.out _).mono ?_
            rintro e w3 ⟨rfl, rfl⟩
            go_wp2_with (fail)
            refine (HI4.out _).mono ?_
            rintro e w4 ⟨rfl, rfl⟩
            go_wp2_with (fail)
            refine (HW.out _ HB.out).mono ?_
            rintro e w5 ⟨rfl, hb5⟩
            have HB5 := Lib.hid (HB.out.trans (hb5.mono HB.out.size))
            clear hb5
            go_wp2
            go_ret
            exact ⟨rfl, HB5.out⟩
def Gn.chkN (names : List ByteArray) (up : List Nat) (p : Gn.Sp) : Nat := if checkN names up = 0 then (if Gn.spB p = true then 0 else 1) else checkN names up
theorem Gn.chk_may (names : List ByteArray) (up : List Nat) (p : Gn.Sp) : Gn.chkN names up p = Gn.mayN names up p := by
  unfold Gn.chkN Gn.mayN
  rw [check_same]
theorem Gn.chk_zero {names : List ByteArray} {up : List Nat} {p : Gn.Sp} (h : Gn.chkN names up p = 0) : checkN names up = 0 ∧ Gn.spB p = true := by
  unfold Gn.chkN at h
  split at h
  · rename_i h1
    refine ⟨h1, ?_⟩
    by_cases h2 : Gn.spB p = true
    · exact h2
    · rw [if_neg h2] at h; cases h
  · rename_i h1; exact absurd h h1
set_option maxHeartbeats 4000000 in
theorem gCheck15_any {v : Value} {names : List ByteArray} {up : List Nat} {A : Option Addr} (p : Gn.Sp) (c : Nat) (w : World) (h : IsLat w w.heap.size v names up) (hr : Row w w.heap.size A (ints p.ws)) (hl : p.ws.length ≤ 1000000) (hcc : p.ws.length ≤ c) : Calls Try.prog 17 #[v, spv p A c] w (TellsN w (Gn.chkN names up p)) := by
  unfold Gn.chkN
  have hck := fun W (hW : Below w.heap.size w W) => check_any W ((h.below hW).more hW.size)
  have hrt := fun W (hW : Below w.heap.size w W) => gRight15_any p c W ((hr.below hW).more hW.size) hl hcc
  obtain ⟨⟨N, U, c1, c2, rfl, -, -⟩, -, -, -⟩ := h
  unfold spv at hrt ⊢
  generalize Gn.spB p = bp at *
  obtain ⟨code, mem, stack, val, ws⟩ := p
  dsimp only at hrt ⊢
  have hb := ((Below.refl _ w).alloc (Nat.le_refl _) (.cells #[.slice N names.length c1, .slice U up.length c2] 25)).alloc (by simp) (.cells #[.int .i64 code, .int .i64 mem, .int .i64 stack, .int .i64 val, .slice A ws.length c] 28)
  have hp0 := (Blk.new w 25 #[.slice N names.length c1, .slice U up.length c2]).alloc (.cells #[.int .i64 code, .int .i64 mem, .int .i64 stack, .int .i64 val, .slice A ws.length c] 28)
  have hp1 := Blk.new (w.alloc (.cells #[.slice N names.length c1, .slice U up.length c2] 25)) 28 #[.int .i64 code, .int .i64 mem, .int .i64 stack, .int .i64 val, .slice A ws.length c]
  rw [World.size_alloc] at hp1
  have a0 := hp0.cell 0
  have a1 := hp0.cell 1
  have HB := Lib.hid hb
  have HP := Lib.hid hp1
  have HCK := Lib.hid hck
  have HRT := Lib.hid hrt
  generalize checkN names up = r at *
  generalize ws.length = n at *
  generalize names.length = n1 at *
  generalize up.length = n2 at *
  clear hb hp0 hp1 hck hrt hr hl hcc
  by_cases hr0 : r = 0
  · subst hr0
    rw [if_pos rfl]
    obtain ⟨ans, hans⟩ : ∃ a : Nat, (if bp = true then 0 else 1) = a := ⟨_, rfl⟩
    rw [hans]
    have HANS := Lib.hid hans
    clear hans
    go_enter Try.func17, Try.ntmps17
    go_wp2_with (fail)
    refine (HCK.out _ HB.out).mono ?_
    rintro e w1 ⟨rfl, hb1⟩
    have hb2 := HB.out.trans (hb1.mono HB.out.size)
    have hp2 := HP.out.below hb1 HP.out.lt
    have HC := Lib.hid (HRT.out _ hb2)
    have HB2 := Lib.hid hb2
    have s0 := hp2.cell 0
    have s1 := hp2.cell 1
    have s2 := hp2.cell 2
    have s3 := hp2.cell 3
    have s4 := hp2.cell 4
    clear hb1 hb2 hp2 HRT HCK HP a0 a1
    cases bp with
    | true =>
      obtain rfl : 0 = ans := HANS.out
      go_wp2_with (fail)
      refine HC.out.mono ?_
      rintro e w2 ⟨rfl, hb2⟩
      have HB3 := Lib.hid (HB2.out.trans (hb2.mono HB2.out.size))
      clear hb2
      go_wp2
      go_ret
      exact ⟨rfl, HB3.out⟩
    | false =>
      obtain rfl : 1 = ans := HANS.out
      go_wp2_with (fail)
      refine HC.out.mono ?_
      rintro e w2 ⟨rfl, hb2⟩
      have HB3 := Lib.hid (HB2.out.trans (hb2.mono HB2.out.size))
      clear hb2
      go_wp2
      go_ret
      exact ⟨rfl, HB3.out⟩
  · have hz : ((r : Int) != 0) = true := by rw [bne_iff_ne]; omega
    have hz2 : ¬ r = 0 := hr0
    rw [if_neg hr0]
    go_enter Try.func17, Try.ntmps17
    go_wp2_with (fail)
    refine (HCK.out _ HB.out).mono ?_
    rintro e w1 ⟨rfl, hb1⟩
    have HB2 := Lib.hid (HB.out.trans (hb1.mono HB.out.size))
    clear hb1
    go_wp2
    go_ret
    exact ⟨rfl, HB2.out⟩
end Go.Proofs.Ytmbgndcahlopdaa

/- The law's weights. -/
namespace Go.Proofs.Ytmbgndcahlopdaa
set_option maxRecDepth 100000
open Go.RowKit Go.Shelf
attribute [local go_sem] Oper.semAt_some

def ones15 : List Int := [1, 1, 1, 1, 1, 1, 1, 1, 1, 1, 1, 1, 1]
theorem weights15_any (w : World) : Calls Try.prog 21 #[] w fun e w' => e = .returned (.slice (some ⟨w.heap.size, 0, none⟩) 13 13) ∧ Blk w' w.heap.size 3 (ints ones15).toArray ∧ Below w.heap.size w w' := by
  have hk := Blk.new w 3 (ints ones15).toArray
  have hb := (Below.refl _ w).alloc (Nat.le_refl _) (.cells (ints ones15).toArray 3)
  have HK := Lib.hid hk
  have HB := Lib.hid hb
  clear hk hb
  go_enter Try.func21, Try.ntmps21
  go_wp2
  go_ret
  exact ⟨rfl, HK.out, HB.out⟩
end Go.Proofs.Ytmbgndcahlopdaa

/- A region that draws its order, in which three boxes are stored into: what is known where some operations are done. -/
namespace Go.Proofs.Ytmbgndcahlopdaa
set_option maxRecDepth 100000
open Go.RowKit Go.Shelf
attribute [local go_sem] Oper.semAt_some

/-- The three boxes, what they hold, and who stores into them: into the first one what v1 is, into the others what is known. -/
structure P3 where
  B : Nat
  b1 : Nat
  b2 : Nat
  b3 : Nat
  t1 : TypeId
  t2 : TypeId
  t3 : TypeId
  c1 : Array Value
  c2 : Array Value
  c3 : Array Value
  n2 : Array Value
  n3 : Array Value
  s1 : Nat
  s2 : Nat
  s3 : Nat
  v1 : Nat
/-- All stands but the three boxes. -/
structure K3 (q : P3) (W W' : World) : Prop where
  size : W.heap.size ≤ W'.heap.size
  block : ∀ k, k < W.heap.size → k ≠ q.b1 → k ≠ q.b2 → k ≠ q.b3 → W'.heap[k]? = W.heap[k]?
theorem K3.refl (q : P3) (W : World) : K3 q W W := ⟨Nat.le_refl _, fun _ _ _ _ _ => rfl⟩
theorem K3.trans {q : P3} {W W' W2 : World} (h : K3 q W W') (h2 : K3 q W' W2) : K3 q W W2 := ⟨Nat.le_trans h.size h2.size, fun k hk a b c => (h2.block k (Nat.lt_of_lt_of_le hk h.size) a b c).trans (h.block k hk a b c)⟩
theorem K3.below {q : P3} {W W' : World} (h : Below W.heap.size W W') : K3 q W W' := ⟨h.size, fun k hk _ _ _ => h.block k hk⟩
structure F3 (af : Nat → Value → World → Prop) (w0 : World) (q : P3) (done : Nat → Bool) (r : Nat → Value) (W : World) : Prop where
  below : Below q.B w0 W
  size : w0.heap.size ≤ W.heap.size
  f : ∀ k, done k = true → af k (r k) W
  x1 : (done q.s1 = false → Blk W q.b1 q.t1 q.c1) ∧ (done q.s1 = true → ∃ cs, r q.v1 = .agg cs ∧ Blk W q.b1 q.t1 cs)
  x2 : (done q.s2 = false → Blk W q.b2 q.t2 q.c2) ∧ (done q.s2 = true → Blk W q.b2 q.t2 q.n2)
  x3 : (done q.s3 = false → Blk W q.b3 q.t3 q.c3) ∧ (done q.s3 = true → Blk W q.b3 q.t3 q.n3)
section
variable {af : Nat → Value → World → Prop} {w0 : World} {q : P3} {done : Nat → Bool} {r : Nat → Value} {W W' : World}
theorem upd_ne3 {done : Nat → Bool} {j k : Nat} (h : j ≠ k) : Free.upd done k j = done j := by unfold Free.upd; rw [if_neg h]
theorem updR_ne3 {r : Nat → Value} {j k : Nat} {v : Value} (h : j ≠ k) : Free.updR r k v j = r j := by unfold Free.updR; rw [if_neg h]
theorem upd_eq3 {done : Nat → Bool} {k : Nat} : Free.upd done k k = true := by unfold Free.upd; rw [if_pos rfl]
theorem updR_eq3 {r : Nat → Value} {k : Nat} {v : Value} : Free.updR r k v k = v := by unfold Free.updR; rw [if_pos rfl]
theorem F3.start (r : Nat → Value) (h1 : Blk w0 q.b1 q.t1 q.c1) (h2 : Blk w0 q.b2 q.t2 q.c2) (h3 : Blk w0 q.b3 q.t3 q.c3) : F3 af w0 q (fun _ => false) r w0.drew :=
  ⟨(Below.refl _ _).drew, Nat.le_refl _, fun _ h => (by cases h), ⟨fun _ => h1, fun h => (by cases h)⟩, ⟨fun _ => h2, fun h => (by cases h)⟩, ⟨fun _ => h3, fun h => (by cases h)⟩⟩
theorem F3.facts (h : F3 af w0 q done r W) (haf : ∀ k v W W', af k v W → K3 q W W' → af k v W') {k : Nat} {v : Value} (hk : K3 q W W') (ha : af k v W') : ∀ j, Free.upd done k j = true → af j (Free.updR r k v j) W' := fun j hj => by
  by_cases e : j = k
  · subst e; rw [updR_eq3]; exact ha
  · rw [upd_ne3 e] at hj; rw [updR_ne3 e]; exact haf _ _ _ _ (h.f j hj) hk
theorem F3.made (haf : ∀ k v W W', af k v W → K3 q W W' → af k v W') (h : F3 af w0 q done r W) {k : Nat} {v : Value} (n1 : q.s1 ≠ k) (n2 : q.s2 ≠ k) (n3 : q.s3 ≠ k) (hv : k = q.v1 → done q.s1 = false) (hB : q.B ≤ w0.heap.size) (hb : Below W.heap.size W W') (ha : af k v W') :
    F3 af w0 q (Free.upd done k) (Free.updR r k v) W' := by
  refine ⟨h.below.trans (hb.mono (Nat.le_trans hB h.size)), Nat.le_trans h.size hb.size, h.facts haf (K3.below hb) ha, ⟨fun hs => ?_, fun hs => ?_⟩, ⟨fun hs => ?_, fun hs => ?_⟩, ⟨fun hs => ?_, fun hs => ?_⟩⟩
  · rw [upd_ne3 n1] at hs; have := h.x1.1 hs; exact this.below hb this.lt
  · rw [upd_ne3 n1] at hs
    obtain ⟨cs, e, hc⟩ := h.x1.2 hs
    have hk : q.v1 ≠ k := fun e => by rw [hv e.symm] at hs; cases hs
    exact ⟨cs, by rw [updR_ne3 hk]; exact e, hc.below hb hc.lt⟩
  · rw [upd_ne3 n2] at hs; have := h.x2.1 hs; exact this.below hb this.lt
  · rw [upd_ne3 n2] at hs; have := h.x2.2 hs; exact this.below hb this.lt
  · rw [upd_ne3 n3] at hs; have := h.x3.1 hs; exact this.below hb this.lt
  · rw [upd_ne3 n3] at hs; have := h.x3.2 hs; exact this.below hb this.lt
/-- The numbers apart. -/
structure Ap3 (q : P3) : Prop where
  b12 : q.b1 ≠ q.b2
  b13 : q.b1 ≠ q.b3
  b23 : q.b2 ≠ q.b3
  s12 : q.s1 ≠ q.s2
  s13 : q.s1 ≠ q.s3
  s23 : q.s2 ≠ q.s3
  v1 : q.v1 ≠ q.s1
  v2 : q.v1 ≠ q.s2
  v3 : q.v1 ≠ q.s3
  l1 : q.B ≤ q.b1
  l2 : q.B ≤ q.b2
  l3 : q.B ≤ q.b3
theorem F3.set1 (haf : ∀ k v W W', af k v W → K3 q W W' → af k v W') (h : F3 af w0 q done r W) (a : Ap3 q) (hd : done q.s1 = false) (ha : ∀ v W, af q.s1 v W) {cs : Array Value} (ev : r q.v1 = .agg cs) :
    Blk W q.b1 q.t1 q.c1 ∧ ∀ W', Blk W' q.b1 q.t1 cs → (∀ k, k ≠ q.b1 → W'.heap[k]? = W.heap[k]?) → (∀ B V, B ≤ q.b1 → Below B V W → Below B V W') → F3 af w0 q (Free.upd done q.s1) (Free.updR r q.s1 undef) W' := by
  refine ⟨h.x1.1 hd, fun W' hc hk hbl => ?_⟩
  have hsz := (hbl 0 W (Nat.zero_le _) (Below.refl 0 W)).size
  refine ⟨hbl _ _ a.l1 h.below, Nat.le_trans h.size hsz, h.facts haf ⟨hsz, fun k _ h1 _ _ => hk k h1⟩ (ha _ _), ⟨fun hs => ?_, fun _ => ⟨cs, by rw [updR_ne3 a.v1]; exact ev, hc⟩⟩, ⟨fun hs => ?_, fun hs => ?_⟩, ⟨fun hs => ?_, fun hs => ?_⟩⟩
  · rw [upd_eq3] at hs; cases hs
  · rw [upd_ne3 a.s12.symm] at hs; exact (hk _ a.b12.symm).trans (h.x2.1 hs)
  · rw [upd_ne3 a.s12.symm] at hs; exact (hk _ a.b12.symm).trans (h.x2.2 hs)
  · rw [upd_ne3 a.s13.symm] at hs; exact (hk _ a.b13.symm).trans (h.x3.1 hs)
  · rw [upd_ne3 a.s13.symm] at hs; exact (hk _ a.b13.symm).trans (h.x3.2 hs)
theorem F3.set2 (haf : ∀ k v W W', af k v W → K3 q W W' → af k v W') (h : F3 af w0 q done r W) (a : Ap3 q) (hd : done q.s2 = false) (ha : ∀ v W, af q.s2 v W) :
    Blk W q.b2 q.t2 q.c2 ∧ ∀ W', Blk W' q.b2 q.t2 q.n2 → (∀ k, k ≠ q.b2 → W'.heap[k]? = W.heap[k]?) → (∀ B V, B ≤ q.b2 → Below B V W → Below B V W') → F3 af w0 q (Free.upd done q.s2) (Free.updR r q.s2 undef) W' := by
  refine ⟨h.x2.1 hd, fun W' hc hk hbl => ?_⟩
  have hsz := (hbl 0 W (Nat.zero_le _) (Below.refl 0 W)).size
  refine ⟨hbl _ _ a.l2 h.below, Nat.le_trans h.size hsz, h.facts haf ⟨hsz, fun k _ _ h1 _ => hk k h1⟩ (ha _ _), ⟨fun hs => ?_, fun hs => ?_⟩, ⟨fun hs => ?_, fun _ => hc⟩, ⟨fun hs => ?_, fun hs => ?_⟩⟩
  · rw [upd_ne3 a.s12] at hs; exact (hk _ a.b12).trans (h.x1.1 hs)
  · rw [upd_ne3 a.s12] at hs
    obtain ⟨cs, e, hc1⟩ := h.x1.2 hs
    exact ⟨cs, by rw [updR_ne3 a.v2]; exact e, (hk _ a.b12).trans hc1⟩
  · rw [upd_eq3] at hs; cases hs
  · rw [upd_ne3 a.s23.symm] at hs; exact (hk _ a.b23.symm).trans (h.x3.1 hs)
  · rw [upd_ne3 a.s23.symm] at hs; exact (hk _ a.b23.symm).trans (h.x3.2 hs)
theorem F3.set3 (haf : ∀ k v W W', af k v W → K3 q W W' → af k v W') (h : F3 af w0 q done r W) (a : Ap3 q) (hd : done q.s3 = false) (ha : ∀ v W, af q.s3 v W) :
    Blk W q.b3 q.t3 q.c3 ∧ ∀ W', Blk W' q.b3 q.t3 q.n3 → (∀ k, k ≠ q.b3 → W'.heap[k]? = W.heap[k]?) → (∀ B V, B ≤ q.b3 → Below B V W → Below B V W') → F3 af w0 q (Free.upd done q.s3) (Free.updR r q.s3 undef) W' := by
  refine ⟨h.x3.1 hd, fun W' hc hk hbl => ?_⟩
  have hsz := (hbl 0 W (Nat.zero_le _) (Below.refl 0 W)).size
  refine ⟨hbl _ _ a.l3 h.below, Nat.le_trans h.size hsz, h.facts haf ⟨hsz, fun k _ _ _ h1 => hk k h1⟩ (ha _ _), ⟨fun hs => ?_, fun hs => ?_⟩, ⟨fun hs => ?_, fun hs => ?_⟩, ⟨fun hs => ?_, fun _ => hc⟩⟩
  · rw [upd_ne3 a.s13] at hs; exact (hk _ a.b13).trans (h.x1.1 hs)
  · rw [upd_ne3 a.s13] at hs
    obtain ⟨cs, e, hc1⟩ := h.x1.2 hs
    exact ⟨cs, by rw [updR_ne3 a.v3]; exact e, (hk _ a.b13).trans hc1⟩
  · rw [upd_ne3 a.s23] at hs; exact (hk _ a.b23).trans (h.x2.1 hs)
  · rw [upd_ne3 a.s23] at hs; exact (hk _ a.b23).trans (h.x2.2 hs)
  · rw [upd_eq3] at hs; cases hs
end
/-- A lattice, cut, wherever nothing but the boxes is turned. -/
def LatAt (q : P3) (v : Value) (W : World) : Prop := ∃ nm u, ∀ W2, K3 q W W2 → IsLat W2 W2.heap.size v nm u
theorem LatAt.k3 {q : P3} {v : Value} {W W' : World} (h : LatAt q v W) (hk : K3 q W W') : LatAt q v W' := by
  obtain ⟨nm, u, h⟩ := h
  exact ⟨nm, u, fun W2 h2 => h W2 (hk.trans h2)⟩
theorem LatAt.two {q : P3} {v : Value} {W : World} (h : LatAt q v W) : ∃ (A : Option Addr) (n c : Nat) (U : Option Addr) (m e : Nat), v = .agg #[.slice A n c, .slice U m e] := by
  obtain ⟨nm, u, h⟩ := h
  obtain ⟨⟨A, A', c, c', e, -, -⟩, -, -, -⟩ := h W (K3.refl q W)
  exact ⟨_, _, _, _, _, _, e⟩
theorem LatAt.of_few {q : P3} {v : Value} {nm : List ByteArray} {u : List Nat} {W w' : World} {B0 : Nat} (h : ∀ W2, Keeps B0 W.heap.size w' W2 → IsLat W2 W2.heap.size v nm u) (h1 : B0 ≤ q.b1 ∧ q.b1 < W.heap.size) (h2 : B0 ≤ q.b2 ∧ q.b2 < W.heap.size) (h3 : B0 ≤ q.b3 ∧ q.b3 < W.heap.size) : LatAt q v w' :=
  ⟨nm, u, fun W2 hk => h W2 ⟨hk.size, fun p hp hq => World.cell?_of_block (hk.block p.block hp (by omega) (by omega) (by omega))⟩⟩
end Go.Proofs.Ytmbgndcahlopdaa
