/- The reference's Parse: what it holds in memory; a text that is no row of tokens. -/
import Derived.Test.YtggcmkpafpjnoaaGreatDoorGRefQ
import Derived.Test.YtggcmkpafpjnoaaGreatDoorGRefO
import Derived.Test.YtggcmkpafpjnoaaGreatDoorGTabZ
import Derived.Test.YtggcmkpafpjnoaaGreatDoorGTabU
import Derived.Test.YtggcmkpafpjnoaaGreatDoorGRulB
namespace Go.Proofs.YtggcmkpafpjnoaaGreatDoor
set_option maxRecDepth 100000
open Go.RowKit Go.Shelf
attribute [local go_sem] Oper.semAt_some

/-- What the reference's Parse answers. -/
def RParseRes (w : World) (r : List Tb.PR × Int × Nat) (e : Ending) (w' : World) : Prop :=
  ∃ v, e = .returned (.agg #[v, .int .i64 r.2.1, .int .i64 (r.2.2 : Int)]) ∧ IsTab w' w'.heap.size v r.1 ∧ Below w.heap.size w w'
theorem blk3_facts {W : World} {g : Nat} {t : TypeId} {v0 v1 v2 : Value} (h : Blk W g t #[v0, v1, v2]) : (W.cell? ⟨g, 0, none⟩ = some v0 ∧ W.cell? ⟨g, 1, none⟩ = some v1 ∧ W.cell? ⟨g, 2, none⟩ = some v2) ∧
    (W.frozen? ⟨g, 0, none⟩ = false ∧ W.frozen? ⟨g, 1, none⟩ = false ∧ W.frozen? ⟨g, 2, none⟩ = false) :=
  ⟨⟨by rw [h.cell]; rfl, by rw [h.cell]; rfl, by rw [h.cell]; rfl⟩, h.frozen _, h.frozen _, h.frozen _⟩
theorem blk3_set {W : World} {g : Nat} {t : TypeId} {v0 v1 v2 : Value} (h : Blk W g t #[v0, v1, v2]) (u0 u1 u2 : Value) : Blk (((W.setCell ⟨g, 0, none⟩ u0).setCell ⟨g, 1, none⟩ u1).setCell ⟨g, 2, none⟩ u2) g t #[u0, u1, u2] := ((h.set_ 0 _).set_ 1 _).set_ 2 _
/-- A result's block, written. -/
theorem res3 {w W : World} (hb : Below w.heap.size w W) {t : TypeId} {g : Nat} {v0 v1 v2 : Value} (hk : Blk W g t #[v0, v1, v2]) (hg : w.heap.size ≤ g) (u0 u1 u2 : Value) :
    let W' := (((W.setCell ⟨g, 0, none⟩ u0).setCell ⟨g, 1, none⟩ u1).setCell ⟨g, 2, none⟩ u2)
    (W'.cell? ⟨g, 0, none⟩ = some u0 ∧ W'.cell? ⟨g, 1, none⟩ = some u1 ∧ W'.cell? ⟨g, 2, none⟩ = some u2) ∧ Below w.heap.size w W' :=
  ⟨(blk3_facts (blk3_set hk u0 u1 u2)).1, ((hb.setCell (p := ⟨g, 0, none⟩) hg _).setCell (p := ⟨g, 1, none⟩) hg _).setCell (p := ⟨g, 2, none⟩) hg _⟩
/-- A text that Lex refuses. -/
theorem rparse_lex (s : ByteArray) (w : World) (hm : s.size ≤ maxLen) (he : (Lx.lex s.data.toList).2.2 ≠ 0) : Calls Tryz.prog 9 #[.string s] w (RParseRes w (Tb.parse s.data.toList)) := by
  have hal : Below w.heap.size w (w.alloc (.cells #[.slice none 0 0, .int .i64 0, .int .i64 0] 34)) := (Below.refl _ w).alloc (Nat.le_refl _) _
  have hlx := rLex_any s (w.alloc (.cells #[.slice none 0 0, .int .i64 0, .int .i64 0] 34)) hm
  have hres : Tb.parse s.data.toList = ([], ((Lx.lex s.data.toList).2.1 : Int), (Lx.lex s.data.toList).2.2) := by unfold Tb.parse Tb.parseL; rw [if_neg he]
  rw [hres]
  generalize Lx.lex s.data.toList = x at *
  obtain ⟨l, a, n⟩ := x
  dsimp only at he ⊢
  have he1 : ((n : Int) != 0) = true := by rw [bne_iff_ne]; omega
  have HL := Lib.hid hlx
  have HA := Lib.hid hal
  have HK := Lib.hid (Blk.new w 34 #[.slice none 0 0, .int .i64 0, .int .i64 0])
  clear hlx hal hres he hm
  go_enter Tryz.func9, Tryz.ntmps9
  go_wp2_with (fail)
  refine HL.out.mono ?_
  rintro e w1 ⟨v, rfl, hv, hb1⟩
  obtain ⟨A, c, rfl, -, -⟩ := hv
  have hk1 := (HK.out.below hb1 HK.out.lt).alloc (.cells #[.slice A l.length c, .int .i64 (a : Int), .int .i64 (n : Int)] 53)
  obtain ⟨⟨z0, z1, z2⟩, y0, y1, y2⟩ := blk3_facts hk1
  have hb2 : Below w.heap.size w (w1.alloc (.cells #[.slice A l.length c, .int .i64 (a : Int), .int .i64 (n : Int)] 53)) := (HA.out.trans (hb1.mono HA.out.size)).alloc (Nat.le_trans HA.out.size hb1.size) _
  obtain ⟨⟨q0, q1, q2⟩, rB⟩ := res3 hb2 hk1 (Nat.le_refl _) (.slice none 0 0) (.int .i64 (a : Int)) (.int .i64 (n : Int))
  have Q := Lib.hid (And.intro q0 (And.intro q1 (And.intro q2 rB)))
  clear q0 q1 q2 rB hb2 hk1 hb1 HL HA HK
  go_wp2
  obtain ⟨q0, q1, q2, rB⟩ := Q.out
  exact bodyPost_ret (v := .agg #[.slice none 0 0, .int .i64 (a : Int), .int .i64 (n : Int)]) (by simp [results, Tryz.results9, go_sem, q0, q1, q2]) rfl ⟨_, rfl, IsTab.nil _ _, rB⟩
end Go.Proofs.YtggcmkpafpjnoaaGreatDoor
