/- The walk of rowText. -/
import Derived.Lib.QuietBelow
import Derived.Test.YtggcmkpafpjnoaaGreatDoorGTabC
import Derived.Test.YtggcmkpafpjnoaaGreatDoorGLexD
import Derived.Test.YtggcmkpafpjnoaaGreatDoorGShoG
import Derived.Test.YtggcmkpafpjnoaaGreatDoorGRulD
namespace Go.Proofs.YtggcmkpafpjnoaaGreatDoor
set_option maxRecDepth 100000
open Go.RowKit Go.Shelf Go.Sort
attribute [local go_sem] Oper.semAt_some

namespace Tb
/-- A rule's tree. -/
def treeOf (l : List Int) : Sh.Tree := (Sh.tmach [] l).headD (.leaf 1)
theorem treeOf_ok {l : List Int} {b : Bool} (h : Rl.right l b = true) : Sh.Ok b (treeOf l) ∧ Sh.post (treeOf l) = l := by
  obtain ⟨t, h1, h2, h3⟩ := Sh.right_tree h
  have e : treeOf l = t := by unfold treeOf; rw [h3]; rfl
  rw [e]
  exact ⟨h1, h2⟩
def textOf (l : List Int) : ByteArray × Nat := Sh.tells (Sh.thOf (treeOf l))
theorem textOf_ok {l : List Int} (h : Sh.deep (treeOf l) ≤ 12) : textOf l = (Lx.pack (Sh.txt (treeOf l)), 0) := by
  unfold textOf Sh.tells
  rw [if_neg (show ¬ 12 < (Sh.thOf (treeOf l)).d from Nat.not_lt.2 h)]
  rfl
theorem textOf_deep {l : List Int} (h : ¬ Sh.deep (treeOf l) ≤ 12) : textOf l = (ByteArray.empty, 5) := by
  unfold textOf Sh.tells
  rw [if_pos (show 12 < (Sh.thOf (treeOf l)).d from Nat.lt_of_not_le h)]
def PR.flat (x : PR) : Bool := decide (Sh.deep (treeOf x.m) ≤ 12) && (decide (Sh.deep (treeOf x.r) ≤ 12) && decide (Sh.deep (treeOf x.p) ≤ 12))
theorem flat_iff {x : PR} : x.flat = true ↔ ∀ k, k < 3 → Sh.deep (treeOf (x.nth k)) ≤ 12 := by
  unfold PR.flat
  simp only [Bool.and_eq_true, decide_eq_true_eq]
  constructor
  · intro h k hk
    rcases (by omega : k = 0 ∨ k = 1 ∨ k = 2) with rfl | rfl | rfl
    · exact h.1
    · exact h.2.1
    · exact h.2.2
  · exact fun h => ⟨h 0 (by decide), h 1 (by decide), h 2 (by decide)⟩
/-- A row, out of its rules. -/
def rowOf (op : Nat) (x : PR) : Row := ⟨op, treeOf x.m, treeOf x.r, treeOf x.p⟩
def rowText (op : Nat) (x : PR) : ByteArray × Nat := if x.flat = true then (Lx.pack (rowTxt (rowOf op x)), 0) else (ByteArray.empty, 5)
theorem okRules_all {x : PR} (h : okRules x = true) : ∀ k, k < 3 → Rl.right (x.nth k) (decide (k ≠ 0)) = true := fun k hk => by
  unfold okRules at h
  simp only [Bool.and_eq_true] at h
  rcases (by omega : k = 0 ∨ k = 1 ∨ k = 2) with rfl | rfl | rfl
  · exact h.1
  · exact h.2.1
  · exact h.2.2
theorem right_len {l : List Int} {b : Bool} (h : Rl.right l b = true) : l.length ≤ 40 := (of_decide_eq_true h).1
theorem textOf_size {l : List Int} {b : Bool} (h : Rl.right l b = true) : (textOf l).1.size ≤ 320 := by
  obtain ⟨h1, h2⟩ := treeOf_ok h
  have h3 := Sh.txt_len (treeOf l) b h1
  have h4 := right_len h
  rw [h2] at h3
  by_cases hd : Sh.deep (treeOf l) ≤ 12
  · rw [textOf_ok hd, Lx.pack_size]
    omega
  · rw [textOf_deep hd]
    decide
/-- The words joined. -/
theorem row_joined (op : Nat) (x : PR) (hf : x.flat = true) :
    word op ++ { data := #[32, 58, 32] } ++ Lx.pack (Lib.join ([(textOf (x.nth 0)).1, (textOf (x.nth 1)).1, (textOf (x.nth 2)).1].map (·.data.toList)) [32, 59, 32]) ++ { data := #[32, 59, 10] } = Lx.pack (rowTxt (rowOf op x)) := by
  have hd := flat_iff.1 hf
  rw [textOf_ok (hd 0 (by decide)), textOf_ok (hd 1 (by decide)), textOf_ok (hd 2 (by decide))]
  have e : rowTxt (rowOf op x) = wordL op ++ [32, 58, 32] ++ (Sh.txt (treeOf (x.nth 0)) ++ ([32, 59, 32] ++ (Sh.txt (treeOf (x.nth 1)) ++ ([32, 59, 32] ++ Sh.txt (treeOf (x.nth 2)))))) ++ [32, 59, 10] := by
    simp [rowTxt, rowBody, rowOf, PR.nth]
  rw [e, Sh.pack_append, Sh.pack_append, Sh.pack_append]
  congr 3
  simp [Lib.join_cons, Lib.joinTail, Lx.pack]
theorem join_len (a b c s : List UInt8) : (Lib.join [a, b, c] s).length = a.length + (s.length + (b.length + (s.length + c.length))) := by
  simp [Lib.join_cons, Lib.joinTail]
end Tb
theorem flat_no {x : Tb.PR} {k : Nat} (hk : k < 3) (h : ¬ Sh.deep (Tb.treeOf (x.nth k)) ≤ 12) (op : Nat) : Tb.rowText op x = (ByteArray.empty, 5) := by
  unfold Tb.rowText
  rw [if_neg]
  intro hf
  exact h (Tb.flat_iff.1 hf k hk)
theorem flat_yes {x : Tb.PR} (h : ∀ k, k < 3 → Sh.deep (Tb.treeOf (x.nth k)) ≤ 12) : x.flat = true := Tb.flat_iff.2 h
theorem JoinIn.keep {w : World} {v : Value} {l : List ByteArray} {wr w' : World} (h : JoinIn w v l wr) (hb : Below wr.heap.size wr w') : JoinIn w v l w' :=
  ⟨ownT_below h.1 hb, h.2.trans (hb.mono h.2.size)⟩
theorem JoinIn.step1 {w : World} {v v' : Value} {l : List ByteArray} {x : ByteArray} {wr w' : World} {o : Obj} (h : JoinIn w v l wr) (hown : w'.ownsRow w.heap.size 9 1 v' (l.length + 1) (strs l ++ [.string x]))
    (hg : (wr.alloc o).grownBy w' v.ownBlock) : JoinIn w v' (l ++ [x]) w' := by
  obtain ⟨h1, h2⟩ := h
  refine ⟨?_, ?_⟩
  · rw [List.length_append, show strs (l ++ [x]) = strs l ++ [.string x] by simp [strs]]; exact hown
  · have := h2.size
    exact (h2.alloc h2.size o).grown hg (by simp; omega) (fun k he => (h1.lt k he).1)
/-- The texts of a row's first rules. -/
def textsTo (x : Tb.PR) (k : Nat) : List ByteArray := (List.range k).map fun j => (Tb.textOf (x.nth j)).1
theorem textsTo_next (x : Tb.PR) (k : Nat) : textsTo x (k + 1) = textsTo x k ++ [(Tb.textOf (x.nth k)).1] := by simp [textsTo, List.range_succ]
theorem textsTo_length (x : Tb.PR) (k : Nat) : (textsTo x k).length = k := by simp [textsTo]
theorem join3_any {v : Value} {w1 wr : World} {a b c sep : ByteArray} (h : JoinIn w1 v [a, b, c] wr) (ha : a.size ≤ 1000) (hb : b.size ≤ 1000) (hc : c.size ≤ 1000) (hs : sep.size ≤ 10) :
    ∀ W, Below wr.heap.size wr W → Calls Tryz.prog 57 #[v, .string sep] W fun e w' => e = .returned (.string (Lx.pack (Lib.join ([a, b, c].map (·.data.toList)) sep.data.toList))) ∧ Below W.heap.size W w' := fun W hB => by
  have h2 := h.keep hB
  have hown := h2.1
  obtain ⟨A2, c2, rfl⟩ := ownT_slice hown
  obtain ⟨hr, hcap⟩ := ownT_row hown
  obtain ⟨ad, rfl, hadb, hcs⟩ := hr (by simp [strs])
  rcases hown.2 with ⟨he, _⟩ | ⟨g, cap, cur, he, _, hh, _⟩
  · cases he
  · injection he with e1 e2 e3
    injection e1 with e1
    subst e1 e3
    refine strings_Join g 0 c2 [a, b, c] sep W (fun j x hx => ?_) (Array.getElem?_eq_some_iff.1 hh).1 (by simp) hcap ?_
    · have h1 := hcs j (.string x) (by unfold strs; rw [List.getElem?_map, hx]; rfl)
      have e : (⟨g, 0, none⟩ : Addr).add j = ⟨g, 0 + j, none⟩ := by unfold Addr.add; split <;> simp_all
      rw [e] at h1
      exact h1
    · rw [List.map_cons, List.map_cons, List.map_cons, List.map_nil, Tb.join_len, ← Lib.size_eq, ← Lib.size_eq, ← Lib.size_eq, ← Lib.size_eq]
      omega
set_option maxHeartbeats 8000000 in
theorem rowText_any {P b0 b1 b2 op : Nat} {a0 a1 a2 : Value} {x : Tb.PR} (hop : op < 13) (w : World) (hi : Ins w) (hwd : Wds w) (hp : Parts P b0 b1 b2 w) (h0 : IsInts w w.heap.size a0 x.m) (h1 : IsInts w w.heap.size a1 x.r) (h2 : IsInts w w.heap.size a2 x.p) (ho : Tb.okRules x = true) :
    Calls Tryz.prog 38 #[.slice (some ⟨P, 0, none⟩) 3 3, .int .i64 (op : Int), .agg #[a0, a1, a2]] w (Wrote w (Tb.rowText op x)) := by
  have hal0 : Below w.heap.size w (w.alloc (.cells #[a0, a1, a2] 43)) := (Below.refl _ w).alloc (Nat.le_refl _) _
  have hst : PartsAt w P b0 b1 b2 w.heap.size a0 a1 a2 x (w.alloc (.cells #[a0, a1, a2] 43)) :=
    ⟨hal0, hp.keep hal0, Blk.new _ _ _, (h0.below hal0).more hal0.size, (h1.below hal0).more hal0.size, (h2.below hal0).more hal0.size⟩
  have hrt : ∀ k, k < 3 → Rl.right (x.nth k) (decide (k ≠ 0)) = true := fun k hk => by
    unfold Tb.okRules at ho
    simp only [Bool.and_eq_true] at ho
    rcases (by omega : k = 0 ∨ k = 1 ∨ k = 2) with rfl | rfl | rfl
    · exact ho.1
    · exact ho.2.1
    · exact ho.2.2
  have HST := Lib.hid hst
  have HI := Lib.hid hi
  have HW := Lib.hid hwd
  have HRT := Lib.hid hrt
  have hg0 := hi.lt
  have hg1 := hwd.lt
  obtain ⟨i0, hi0, hz0, hz1, hz2⟩ := info_parts Tryz.infoStrT
  clear hp h0 h1 h2 hst hi hwd ho hrt
  have hJ0 : JoinIn (w.alloc (.cells #[a0, a1, a2] 43)) (.slice none 0 0) (textsTo x 0) (w.alloc (.cells #[a0, a1, a2] 43)) := ⟨World.ownsRow_nil _ _ _ _, Below.refl _ _⟩
  have HJ0 := Lib.hid hJ0
  clear hJ0
  go_enter Tryz.func38, Tryz.ntmps38
  go_wp2
  go_loopw [8, 15] (fun v i wr => ∃ (k : Nat), k ≤ 3 ∧ i = .int .i64 k ∧ Hid (JoinIn (w.alloc (.cells #[a0, a1, a2] 43)) v (textsTo x k) wr) ∧ Hid (∀ j, j < k → Sh.deep (Tb.treeOf (x.nth j)) ≤ 12)) (fun _ i _ => 3 - (intOf i).toNat)
  case atStart => exact ⟨0, by decide, rfl, HJ0, Lib.hid fun j hj => absurd hj (by omega)⟩
  case round =>
    obtain ⟨k, hk, rfl, HJ, HO⟩ := hrel
    have hPA := HST.out.step HJ.out.2
    by_cases hlt : k < 3
    · obtain ⟨g, bk, hpa⟩ := hPA.parts.at_ hlt
      obtain ⟨A, c, hsl, hrow⟩ := hPA.row.at_ hlt
      obtain ⟨c0, c1, c2, -, -, hen, hof, -⟩ := hpa
      have hBw := hPA.below
      obtain ⟨ht1, ht2⟩ := Tb.treeOf_ok (HRT.out k hlt)
      have hl40 := Tb.right_len (HRT.out k hlt)
      have hus : ∀ W, Below wr.heap.size wr W → Calls Tryz.prog 56 #[.slice A (x.nth k).length c] W (Wrote W (Tb.textOf (x.nth k))) := fun W hb => by
        have := text_tree (A := A) (Tb.treeOf (x.nth k)) _ ht1 c W (by rw [ht2]; exact (hrow.below hb).more hb.size) (by rw [ht2]; exact hl40) ((HW.out.below hBw hg1).below hb (Nat.lt_of_lt_of_le hg1 hBw.size))
        rw [ht2] at this
        exact this
      have hal := (Below.refl wr.heap.size wr).alloc (Nat.le_refl _) (.cells #[.func (.func 62) #[] #[.pointer (some ⟨bk, 0, none⟩)], .func (.func 64) #[] #[.pointer (some ⟨bk, 0, none⟩)], .func (.func g) #[] #[]] 100)
      have hblk := hPA.row.blk.lt
      have hnx := textsTo_next x k
      have hsz := Tb.textOf_size (HRT.out k hlt)
      have HUS := Lib.hid hus
      have HAL := Lib.hid hal
      have HNX := Lib.hid hnx
      have HBW := Lib.hid hBw
      have hlen := textsTo_length x k
      clear hus hal hrow ht1 ht2 hl40 hPA hnx hBw
      by_cases hd : Sh.deep (Tb.treeOf (x.nth k)) ≤ 12
      · have htx := Tb.textOf_ok hd
        have HO2 : Hid (∀ j, j < k + 1 → Sh.deep (Tb.treeOf (x.nth j)) ≤ 12) := Lib.hid fun j hj => by
          by_cases e : j = k
          · subst e; exact hd
          · exact HO.out j (by omega)
        rw [htx] at HUS HNX
        clear htx hd hsz
        generalize Lx.pack (Sh.txt (Tb.treeOf (x.nth k))) = t at *
        generalize (x.nth k).length = n at *
        go_wp2_with (fail)
        refine (hof _ _).mono ?_
        rintro e w1 ⟨rfl, rfl⟩
        go_wp2_with (fail)
        refine (HUS.out _ HAL.out).mono ?_
        rintro e w2 ⟨rfl, hb2⟩
        have HJ2 := Lib.hid (HJ.out.keep (HAL.out.trans (hb2.mono HAL.out.size)))
        have hown := HJ2.out.1
        have hz3 : w.heap.size + 1 ≤ w2.heap.size := by have := HJ2.out.2.size; simpa using this
        clear hb2 c0 c1 c2 hsl hof hen
        rw [hlen] at hown
        go_wp2_with (at_builtin; refine wpList_append_own _ rfl _ _ 66 rfl (w.alloc (.cells #[a0, a1, a2] 43)).heap.size 9 i0 (.string ByteArray.empty) 1 16 Tryz.underlying66 hi0 hz0 hz1 hz2 rfl (by decide) _ _ _ rfl (hown.alloc _) ⟨w2.heap.size, 0, none⟩ 1 1 [.string t] rfl rfl ?c1 ?c2 ?c3 ?c4 ?c5 ?_)
        case c1 => exact cells_new w2 [.string t] 9
        case c2 => simp [Value.oneCell']
        case c3 => unfold maxLen; omega
        case c4 => omega
        case c5 => first | omega | (simp; omega)
        intro v' w' hown' hgrow _
        have hst := HJ2.out.step1 (x := t) (by rw [hlen, World.size_alloc]; exact hown') hgrow
        have HST2 := Lib.hid hst
        clear hst hown' hgrow hown
        go_wp2
        go_roundw
        case rel => exact ⟨k + 1, by omega, by go_num, by rw [HNX.out]; exact HST2, HO2⟩
        case measure => simp [intOf]; omega
      · have htx := Tb.textOf_deep hd
        have HL := Lib.hid (flat_no hlt hd op)
        rw [htx] at HUS HNX
        clear htx hd
        generalize (x.nth k).length = n at *
        go_wp2_with (fail)
        refine (hof _ _).mono ?_
        rintro e w1 ⟨rfl, rfl⟩
        go_wp2_with (fail)
        refine (HUS.out _ HAL.out).mono ?_
        rintro e w2 ⟨rfl, hb2⟩
        have HB2 := Lib.hid (HBW.out.trans ((HAL.out.trans (hb2.mono HAL.out.size)).mono HBW.out.size))
        clear hb2 c0 c1 c2 hsl hof hen
        go_wp2
        go_ret2
        rw [HL.out]
        exact ⟨rfl, HB2.out⟩
    · obtain rfl : k = 3 := by omega
      have hBw := hPA.below
      have hfl := flat_yes HO.out
      have hres : Tb.rowText op x = (Lx.pack (Tb.rowTxt (Tb.rowOf op x)), 0) := by unfold Tb.rowText; rw [if_pos hfl]
      have hjo := Tb.row_joined op x hfl
      have s0 := Tb.textOf_size (HRT.out 0 (by decide))
      have s1 := Tb.textOf_size (HRT.out 1 (by decide))
      have s2 := Tb.textOf_size (HRT.out 2 (by decide))
      have hj3 := join3_any (sep := { data := #[32, 59, 32] }) (a := (Tb.textOf (x.nth 0)).1) (b := (Tb.textOf (x.nth 1)).1) (c := (Tb.textOf (x.nth 2)).1) HJ.out (by omega) (by omega) (by omega) (by decide)
      have hjl : (Lx.pack (Lib.join ([(Tb.textOf (x.nth 0)).1, (Tb.textOf (x.nth 1)).1, (Tb.textOf (x.nth 2)).1].map (·.data.toList)) [32, 59, 32])).size ≤ 1000 := by
        rw [Lx.pack_size, List.map_cons, List.map_cons, List.map_cons, List.map_nil, Tb.join_len, ← Lib.size_eq, ← Lib.size_eq, ← Lib.size_eq]
        simp
        omega
      have hws : (Tb.word op).size ≤ 6 := by rw [show Tb.word op = Lx.pack (Tb.wordL op) from rfl, Lx.pack_size]; exact (Tb.word_letters hop).2.2
      have hic := (HI.out.below hBw hg0 op hop).1
      have hj4 : ∀ W, Below wr.heap.size wr W → Calls Tryz.prog 57 #[u8, .string { data := #[32, 59, 32] }] W fun e w' => e = .returned (.string (Lx.pack (Lib.join ([(Tb.textOf (x.nth 0)).1, (Tb.textOf (x.nth 1)).1, (Tb.textOf (x.nth 2)).1].map (·.data.toList)) [32, 59, 32]))) ∧ Below W.heap.size W w' := hj3
      generalize Lx.pack (Lib.join ([(Tb.textOf (x.nth 0)).1, (Tb.textOf (x.nth 1)).1, (Tb.textOf (x.nth 2)).1].map (·.data.toList)) [32, 59, 32]) = J at *
      generalize Tb.word op = wd at *
      have HJO := Lib.hid hjo
      have HJ4 := Lib.hid hj4
      have HRES := Lib.hid hres
      have HBW := Lib.hid hBw
      have hg := fun d os => cell_regrown hic d os
      have hop2 : (op : Int) < 13 := by omega
      have hno : ¬ 9223372036854775807 < wd.size + 3 := by omega
      have hno2 : ¬ 9223372036854775807 < wd.size + 3 + J.size := by omega
      have hno3 : ¬ 9223372036854775807 < wd.size + 3 + J.size + 3 := by omega
      clear hjo hj3 hj4 hres hBw hPA hfl s0 s1 s2
      go_wp2
      refine wp_region_quiet_below (by kernel_rfl) (by kernel_rfl) ?_
      repeat (quiet_step ((go_at_call 57; exact Calls.regrown_of (HJ4.out _ (below_regrown _ _ _)))))
      refine wpQuiet_nil ?_
      rintro _ ⟨⟨d, os⟩, rfl⟩
      go_wp2
      go_ret2
      rw [HRES.out, HJO.out]
      exact ⟨rfl, HBW.out.trans ((below_regrown _ _ _).mono HBW.out.size)⟩
end Go.Proofs.YtggcmkpafpjnoaaGreatDoor

/- The reader of a table in memory; walks of next, mark. -/
namespace Go.Proofs.YtggcmkpafpjnoaaGreatDoor
set_option maxRecDepth 100000
open Go.RowKit Go.Shelf
attribute [local go_sem] Oper.semAt_some

/-- What a reading keeps: all blocks but the reader and its rows. -/
structure Kept (R Q : Nat) (w w' : World) : Prop where
  os : w'.os = w.os
  tape : w'.tape = w.tape
  output : w'.output = w.output
  size : w.heap.size ≤ w'.heap.size
  block : ∀ k, k < w.heap.size → k ≠ R → k ≠ Q → w'.heap[k]? = w.heap[k]?
section
variable {R Q : Nat} {a w w' w2 : World}
theorem Kept.refl (R Q : Nat) (w : World) : Kept R Q w w := ⟨rfl, rfl, rfl, Nat.le_refl _, fun _ _ _ _ => rfl⟩
theorem Kept.trans (h : Kept R Q a w) (h2 : Kept R Q w w2) : Kept R Q a w2 :=
  ⟨h2.os.trans h.os, h2.tape.trans h.tape, h2.output.trans h.output, Nat.le_trans h.size h2.size, fun k hk hR hQ => (h2.block k (Nat.lt_of_lt_of_le hk h.size) hR hQ).trans (h.block k hk hR hQ)⟩
theorem Kept.of (h : Below w.heap.size w w') : Kept R Q w w' := ⟨h.os, h.tape, h.output, h.size, fun k hk _ _ => h.block k hk⟩
theorem Kept.set_ (h : Kept R Q a w) {p : Addr} (hp : p.block = R ∨ p.block = Q) (u : Value) : Kept R Q a (w.setCell p u) :=
  h.trans ⟨rfl, rfl, rfl, by simp [World.setCell], fun k _ hR hQ => Below.heap_setCell _ _ _ _ (by rcases hp with e | e <;> rw [e] <;> assumption)⟩
theorem Kept.below (h : Kept R Q w w') {B : Nat} (hB : B ≤ w.heap.size) (hR : B ≤ R) (hQ : B ≤ Q) : Below B w w' :=
  ⟨h.os, h.tape, h.output, h.size, fun k hk => h.block k (by omega) (by omega) (by omega)⟩
theorem Kept.cell (h : Kept R Q w w') {p : Addr} (hp : p.block < w.heap.size) (hR : p.block ≠ R) (hQ : p.block ≠ Q) : w'.cell? p = w.cell? p := World.cell?_of_block (w := w) (h.block _ hp hR hQ)
end
/-- A row that a reading keeps. -/
def ARow (R Q : Nat) (W : World) (A : Option Addr) (xs : List Value) : Prop := xs ≠ [] → ∃ ad, A = some ad ∧ (ad.block < W.heap.size ∧ ad.block ≠ R ∧ ad.block ≠ Q) ∧ ∀ j u, xs[j]? = some u → W.cell? (ad.add j) = some u
section
variable {R Q : Nat} {w w' : World} {A : Option Addr} {xs : List Value}
theorem ARow.kept (h : ARow R Q w A xs) (hk : Kept R Q w w') : ARow R Q w' A xs := fun hn => by
  obtain ⟨ad, e, ⟨h1, h2, h3⟩, hc⟩ := h hn
  exact ⟨ad, e, ⟨Nat.lt_of_lt_of_le h1 hk.size, h2, h3⟩, fun j u hu => (hk.cell (by rw [add_block]; exact h1) (by rw [add_block]; exact h2) (by rw [add_block]; exact h3)).trans (hc j u hu)⟩
theorem ARow.row (h : ARow R Q w A xs) : Row w w.heap.size A xs := fun hn => by
  obtain ⟨ad, e, hb, hc⟩ := h hn
  exact ⟨ad, e, hb.1, hc⟩
end
/-- Numbers in a row that a reading keeps. -/
def AInts (R Q : Nat) (W : World) (v : Value) (l : List Int) : Prop := ∃ A c, v = .slice A l.length c ∧ ARow R Q W A (ints l) ∧ l.length ≤ c
theorem AInts.kept {R Q : Nat} {w w' : World} {v : Value} {l : List Int} (h : AInts R Q w v l) (hk : Kept R Q w w') : AInts R Q w' v l := by
  obtain ⟨A, c, e, hr, hc⟩ := h
  exact ⟨A, c, e, hr.kept hk, hc⟩
theorem AInts.ints {R Q : Nat} {w : World} {v : Value} {l : List Int} (h : AInts R Q w v l) : IsInts w w.heap.size v l := by
  obtain ⟨A, c, e, hr, hc⟩ := h
  exact ⟨A, c, e, hr.row, hc⟩
/-- The rows read so far. -/
def RowsQ (R Q : Nat) (W : World) (l : List Tb.PR) : Prop :=
  ∃ vs : List Value, Blk W Q 43 vs.toArray ∧ vs.length = 39 ∧ ∀ k x, l[k]? = some x → ∃ a0 a1 a2, vs[k * 3]? = some a0 ∧ vs[k * 3 + 1]? = some a1 ∧ vs[k * 3 + 2]? = some a2 ∧ AInts R Q W a0 x.m ∧ AInts R Q W a1 x.r ∧ AInts R Q W a2 x.p
theorem RowsQ.kept {R Q : Nat} {w w' : World} {l : List Tb.PR} (h : RowsQ R Q w l) (hk : Kept R Q w w') (hb : w'.heap[Q]? = w.heap[Q]?) : RowsQ R Q w' l := by
  obtain ⟨vs, h1, h2, h3⟩ := h
  refine ⟨vs, hb.trans h1, h2, fun k x hx => ?_⟩
  obtain ⟨a0, a1, a2, e0, e1, e2, i0, i1, i2⟩ := h3 k x hx
  exact ⟨a0, a1, a2, e0, e1, e2, i0.kept hk, i1.kept hk, i2.kept hk⟩
/-- The reader's cells. -/
def rcells (A : Option Addr) (n c P Q : Nat) (s : Tb.St) : List Value := [.slice A n c, .int .i64 (s.pos : Int), .slice (some ⟨P, 0, none⟩) 3 3, .slice (some ⟨Q, 0, none⟩) 13 13] ++ s.had.map Value.bool
/-- What stands fast while a table is read. -/
structure Fast (R Q P b0 b1 b2 : Nat) : Prop where
  rq : R ≠ Q
  p : P ≠ R ∧ P ≠ Q
  v0 : b0 ≠ R ∧ b0 ≠ Q
  v1 : b1 ≠ R ∧ b1 ≠ Q
  v2 : b2 ≠ R ∧ b2 ≠ Q
  g : 0 ≠ R ∧ 0 ≠ Q
/-- The reader at R. -/
structure TRd (R Q P b0 b1 b2 : Nat) (A : Option Addr) (c : Nat) (l : List Lx.Tk) (s : Tb.St) (W : World) : Prop where
  blk : Blk W R 74 (rcells A l.length c P Q s).toArray
  toks : ARow R Q W A (tcells l)
  rows : RowsQ R Q W s.rows
  parts : Parts P b0 b1 b2 W
  ins : Ins W
  st : Tb.Stand l s
theorem Parts.kept {R Q P b0 b1 b2 : Nat} {w w' : World} (h : Parts P b0 b1 b2 w) (hf : Fast R Q P b0 b1 b2) (hk : Kept R Q w w') : Parts P b0 b1 b2 w' :=
  ⟨(hk.block _ h.blk.lt hf.p.1 hf.p.2).trans h.blk, (hk.block _ h.v0.lt hf.v0.1 hf.v0.2).trans h.v0, (hk.block _ h.v1.lt hf.v1.1 hf.v1.2).trans h.v1, (hk.block _ h.v2.lt hf.v2.1 hf.v2.2).trans h.v2⟩
theorem Ins.kept {R Q P b0 b1 b2 : Nat} {w w' : World} (h : Ins w) (hf : Fast R Q P b0 b1 b2) (hk : Kept R Q w w') : Ins w' := fun k hk' =>
  ⟨(hk.cell (p := ⟨0, k * 2, none⟩) h.lt hf.g.1 hf.g.2).trans (h k hk').1, (hk.cell (p := ⟨0, k * 2 + 1, none⟩) h.lt hf.g.1 hf.g.2).trans (h k hk').2⟩
section
variable {R Q P b0 b1 b2 c : Nat} {A : Option Addr} {l : List Lx.Tk} {s : Tb.St} {w w' : World}
/-- A step that turns neither the reader nor its rows. -/
theorem TRd.keep (h : TRd R Q P b0 b1 b2 A c l s w) (hf : Fast R Q P b0 b1 b2) (hb : Below w.heap.size w w') : TRd R Q P b0 b1 b2 A c l s w' := by
  obtain ⟨vs, hq, _, _⟩ := h.rows
  exact ⟨h.blk.below hb h.blk.lt, h.toks.kept (.of hb), h.rows.kept (.of hb) (hb.block _ hq.lt), h.parts.kept hf (.of hb), h.ins.kept hf (.of hb), h.st⟩
/-- A store into the reader. -/
theorem TRd.set_ (h : TRd R Q P b0 b1 b2 A c l s w) (hf : Fast R Q P b0 b1 b2) {i : Nat} {u : Value} {s' : Tb.St} (hc : (rcells A l.length c P Q s).set i u = rcells A l.length c P Q s') (hr : s'.rows = s.rows) (hs : Tb.Stand l s') :
    TRd R Q P b0 b1 b2 A c l s' (w.setCell ⟨R, i, none⟩ u) := by
  have hk : Kept R Q w (w.setCell ⟨R, i, none⟩ u) := (Kept.refl R Q w).set_ (.inl rfl) u
  refine ⟨?_, h.toks.kept hk, ?_, h.parts.kept hf hk, h.ins.kept hf hk, hs⟩
  · have := h.blk.set_ i u
    rw [List.setIfInBounds_toArray, hc] at this
    exact this
  · rw [hr]
    exact h.rows.kept hk (Below.heap_setCell _ _ _ _ (fun e => hf.rq e.symm))
theorem rcells_pos (s : Tb.St) (n : Nat) : (rcells A l.length c P Q s).set 1 (.int .i64 (n : Int)) = rcells A l.length c P Q { s with pos := n } := rfl
theorem TRd.c0 (h : TRd R Q P b0 b1 b2 A c l s w) : w.cell? ⟨R, 0, none⟩ = some (.slice A l.length c) := h.blk.cell 0
theorem TRd.c1 (h : TRd R Q P b0 b1 b2 A c l s w) : w.cell? ⟨R, 1, none⟩ = some (.int .i64 (s.pos : Int)) := h.blk.cell 1
theorem TRd.c2 (h : TRd R Q P b0 b1 b2 A c l s w) : w.cell? ⟨R, 2, none⟩ = some (.slice (some ⟨P, 0, none⟩) 3 3) := h.blk.cell 2
theorem TRd.c3 (h : TRd R Q P b0 b1 b2 A c l s w) : w.cell? ⟨R, 3, none⟩ = some (.slice (some ⟨Q, 0, none⟩) 13 13) := h.blk.cell 3
theorem TRd.had (h : TRd R Q P b0 b1 b2 A c l s w) {k : Nat} (hk : k < 13) : w.cell? ⟨R, 4 + k, none⟩ = some (.bool (s.had.getD k false)) := by
  rw [h.blk.cell, List.getElem?_toArray]
  show ([_, _, _, _] ++ s.had.map Value.bool)[4 + k]? = _
  rw [List.getElem?_append_right (by simp), List.getElem?_map]
  have : [Value.slice A l.length c, .int .i64 (s.pos : Int), .slice (some ⟨P, 0, none⟩) 3 3, .slice (some ⟨Q, 0, none⟩) 13 13].length = 4 := rfl
  rw [this, show 4 + k - 4 = k by omega, List.getElem?_eq_getElem (by rw [h.st.had]; exact hk), List.getD_eq_getElem?_getD, List.getElem?_eq_getElem (by rw [h.st.had]; exact hk)]
  rfl
theorem TRd.lt (h : TRd R Q P b0 b1 b2 A c l s w) : R < w.heap.size := h.blk.lt
theorem TRd.tok (h : TRd R Q P b0 b1 b2 A c l s w) : ∃ ad, A = some ad ∧ ad.block < w.heap.size ∧ w.cell? (ad.add (s.pos * 3)) = some (.int .i64 (Tb.tok l s.pos).kind) ∧
    w.cell? ⟨(ad.add (s.pos * 3)).block, (ad.add (s.pos * 3)).off + 1, none⟩ = some (.string (Tb.tok l s.pos).text) ∧ w.cell? ⟨(ad.add (s.pos * 3)).block, (ad.add (s.pos * 3)).off + 2, none⟩ = some (.int .i64 (Tb.tok l s.pos).pos) := by
  obtain ⟨ad, t, e, hb, ht, c0, c1, c2⟩ := trow_at h.toks.row h.st.pos
  have e2 := Tb.tok_some h.st.pos
  rw [ht] at e2
  injection e2 with e2
  subst e2
  exact ⟨ad, e, hb, c0, c1, c2⟩
end
def tkv (t : Lx.Tk) : Value := .agg #[.int .i64 t.kind, .string t.text, .int .i64 t.pos]
theorem tok_kind (a b : Int) (t : ByteArray) (w : World) : (Instr.field 57 (.agg #[.int .i64 a, .string t, .int .i64 b]) 0).run Tryz.prog w = .ok (.int .i64 a) w := by kernel_rfl
theorem tok_text (a b : Int) (t : ByteArray) (w : World) : (Instr.field 57 (.agg #[.int .i64 a, .string t, .int .i64 b]) 1).run Tryz.prog w = .ok (.string t) w := by kernel_rfl
theorem tok_pos (a b : Int) (t : ByteArray) (w : World) : (Instr.field 57 (.agg #[.int .i64 a, .string t, .int .i64 b]) 2).run Tryz.prog w = .ok (.int .i64 b) w := by kernel_rfl
/-- What a part answers, and what it leaves. -/
def ToldT (R Q P b0 b1 b2 : Nat) (A : Option Addr) (c : Nat) (l : List Lx.Tk) (w : World) (r : Tb.St × Nat) (e : Ending) (w' : World) : Prop :=
  e = .returned (.int .i64 (r.2 : Nat)) ∧ TRd R Q P b0 b1 b2 A c l r.1 w' ∧ Kept R Q w w'
section
variable {R Q P b0 b1 b2 c : Nat} {A : Option Addr} {l : List Lx.Tk} {s : Tb.St}
set_option maxHeartbeats 2000000 in
theorem next_any (w : World) (h : TRd R Q P b0 b1 b2 A c l s w) : Calls Tryz.prog 30 #[.pointer (some ⟨R, 0, none⟩)] w fun e w' => e = .returned (tkv (Tb.tok l s.pos)) ∧ Below w.heap.size w w' := by
  have c0 := h.c0
  have c1 := h.c1
  have hpos := h.st.pos
  have hR := h.lt
  obtain ⟨ad, rfl, hb, t0, t1, t2⟩ := h.tok
  have hb2 : (ad.add (s.pos * 3)).block < w.heap.size := by rw [add_block]; exact hb
  unfold tkv
  generalize Tb.tok l s.pos = t at *
  obtain ⟨kd, tx, ps⟩ := t
  dsimp only at t0 t1 t2 ⊢
  generalize s.pos = p at *
  generalize l.length = n at *
  clear h
  go_enter Tryz.func30, Tryz.ntmps30
  go_wp2
  go_region
  all_goals go_wp2
  all_goals
    go_returns
    exact ⟨rfl, ((Below.refl _ w).alloc (Nat.le_refl _) _).drew⟩
set_option maxHeartbeats 2000000 in
theorem tmark_any (hf : Fast R Q P b0 b1 b2) (hfi : Tb.Fine l) (m : ByteArray) (hm : m ≠ ByteArray.empty) (w : World) (h : TRd R Q P b0 b1 b2 A c l s w) (hl : l.length ≤ 200) :
    Calls Tryz.prog 67 #[.pointer (some ⟨R, 0, none⟩), .string m] w (ToldT R Q P b0 b1 b2 A c l w (Tb.markP l m s)) := by
  have hn := next_any w h
  have hstand := Tb.markP_stand hfi hm h.st
  have hpos := h.st.pos
  unfold Tb.markP at hstand ⊢
  unfold tkv at hn
  generalize Tb.tok l s.pos = t at *
  obtain ⟨kd, tx, ps⟩ := t
  dsimp only at hn hstand ⊢
  have H := Lib.hid h
  have HN := Lib.hid hn
  have hfd := fun w => tok_text kd ps tx w
  by_cases ht : tx = m
  · subst ht
    rw [if_pos rfl] at hstand ⊢
    have HS := Lib.hid hstand
    clear h hn hstand
    have hbe : (tx.toList == tx.toList) = true := by rw [str_beq]; exact decide_eq_true rfl
    go_enter Tryz.func67, Tryz.ntmps67
    go_wp2_with (fail)
    refine HN.out.mono ?_
    rintro e w1 ⟨rfl, hb1⟩
    have h1 := H.out.keep hf hb1
    have c1 := h1.c1
    have hR := h1.lt
    have hfz : w1.frozen? ⟨R, 1, none⟩ = false := h1.blk.frozen 1
    have hnx := (h1.set_ hf (rcells_pos s (s.pos + 1)) rfl HS.out)
    rw [show ((s.pos + 1 : Nat) : Int) = (s.pos : Int) + 1 by omega] at hnx
    have HNX := Lib.hid hnx
    have HK := Lib.hid ((Kept.of (R := R) (Q := Q) hb1).set_ (p := ⟨R, 1, none⟩) (.inl rfl) (.int .i64 ((s.pos : Int) + 1)))
    clear hb1 h1 hnx hm
    go_wp2
    go_ret
    exact ⟨rfl, HNX.out, HK.out⟩
  · rw [if_neg ht] at hstand ⊢
    have hbe : (tx.toList == m.toList) = false := by rw [str_beq]; exact decide_eq_false ht
    clear h hn hstand hm
    go_enter Tryz.func67, Tryz.ntmps67
    go_wp2_with (fail)
    refine HN.out.mono ?_
    rintro e w1 ⟨rfl, hb1⟩
    have H1 := Lib.hid (H.out.keep hf hb1)
    have HK := Lib.hid (Kept.of (R := R) (Q := Q) hb1)
    clear hb1
    go_wp2
    go_ret
    exact ⟨rfl, H1.out, HK.out⟩
end
end Go.Proofs.YtggcmkpafpjnoaaGreatDoor
