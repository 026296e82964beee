/- The walk of package draw's Many. -/
import Derived.Test.YtmgaaejghfgbnaaDrwC
namespace Go.Proofs.Ytmgaaejghfgbnaa
set_option maxRecDepth 100000
open Go.RowKit Go.Shelf
attribute [local go_sem] Oper.semAt_some

section
variable {W : World} {g : Nat} {t : TypeId} {u0 u1 u2 : Value}
theorem n3_steps (h : Blk W g t #[u0, u1, u2]) (v0 v1 v2 : Value) : ∃ X1 X2 X3, W.setCell ⟨g, 0, none⟩ v0 = X1 ∧ X1.setCell ⟨g, 1, none⟩ v1 = X2 ∧ X2.setCell ⟨g, 2, none⟩ v2 = X3 ∧
    W.frozen? ⟨g, 0, none⟩ = false ∧ X1.frozen? ⟨g, 1, none⟩ = false ∧ X2.frozen? ⟨g, 2, none⟩ = false ∧ W.cell? ⟨g, 0, none⟩ = some u0 ∧ X1.cell? ⟨g, 1, none⟩ = some u1 ∧ X2.cell? ⟨g, 2, none⟩ = some u2 ∧
    X3.cell? ⟨g, 0, none⟩ = some v0 ∧ X3.cell? ⟨g, 1, none⟩ = some v1 ∧ X3.cell? ⟨g, 2, none⟩ = some v2 ∧
    Hid (Blk X3 g t #[v0, v1, v2]) ∧ Hid (∀ k, k ≠ g → X3.heap[k]? = W.heap[k]?) ∧ Hid (∀ B V, B ≤ g → Below B V W → Below B V X3) := by
  obtain ⟨X1, e0⟩ : ∃ X, W.setCell ⟨g, 0, none⟩ v0 = X := ⟨_, rfl⟩
  have h1 : Blk X1 g t #[v0, u1, u2] := e0 ▸ h.set_ 0 v0
  obtain ⟨X2, e1⟩ : ∃ X, X1.setCell ⟨g, 1, none⟩ v1 = X := ⟨_, rfl⟩
  have h2 : Blk X2 g t #[v0, v1, u2] := e1 ▸ h1.set_ 1 v1
  obtain ⟨X3, e2⟩ : ∃ X, X2.setCell ⟨g, 2, none⟩ v2 = X := ⟨_, rfl⟩
  have h3 : Blk X3 g t #[v0, v1, v2] := e2 ▸ h2.set_ 2 v2
  refine ⟨X1, X2, X3, e0, e1, e2, h.frozen 0, h1.frozen 1, h2.frozen 2, h.cell 0, h1.cell 1, h2.cell 2, h3.cell 0, h3.cell 1, h3.cell 2, Lib.hid h3, Lib.hid fun k hk => ?_, Lib.hid fun B V hB hb => ?_⟩
  · rw [← e2, ← e1, ← e0]
    exact ((Below.heap_setCell _ _ _ k hk).trans (Below.heap_setCell _ _ _ k hk)).trans (Below.heap_setCell _ _ _ k hk)
  · rw [← e2, ← e1, ← e0]
    exact ((hb.setCell (p := ⟨g, 0, none⟩) hB _).setCell (p := ⟨g, 1, none⟩) hB _).setCell (p := ⟨g, 2, none⟩) hB _
end
theorem drws_mk {wa WB X : World} {B B1 B2 g n m : Nat} {list log : List Int} {i : Nat} {A L : Option Addr} {c d : Nat} {zs : Array Value} (ha : wa.ownsRow B1 3 1 (.slice A n c) n (ints list)) (hwa : Below wa.heap.size wa WB) (hb : WB.ownsRow B2 3 1 (.slice L m d) m (ints log))
    (h1 : B ≤ B1) (h2 : wa.heap.size ≤ B2) (hwB : B ≤ wa.heap.size) (hg : B ≤ g) (hG : Blk WB g 24 zs) (hk : Hid (Blk X g 24 #[.slice A n c, .int .i64 (i : Int), .slice L m d])) (hh : Hid (∀ k, k ≠ g → X.heap[k]? = WB.heap[k]?)) : Drws X B g n m list log i A c L d := by
  have ha2 := ownT_below ha hwa
  have hap : ∀ g', (Value.slice A n c).ownBlock = some g' ∨ (Value.slice L m d).ownBlock = some g' → g' ≠ g := by
    rintro g' (hg' | hg')
    · obtain ⟨cs, hb'⟩ := own_blkD ha2 hg'
      exact hb'.ty_neD hG (by decide)
    · obtain ⟨cs, hb'⟩ := own_blkD hb hg'
      exact hb'.ty_neD hG (by decide)
  refine ⟨hk.out, ownT_mono (own_ofD ha2 fun g' hg' => hh.out g' (hap g' (.inl hg'))) h1, ownT_mono (own_ofD hb fun g' hg' => hh.out g' (hap g' (.inr hg'))) (Nat.le_trans hwB h2), fun g' hg' he => ?_, hg⟩
  have g1 := (ha.lt g' hg').2
  have g2 := (hb.lt g' he).1
  omega
theorem slice_from13 {L2 : Option Addr} (m q d2 : Nat) (W : World) : (Instr.slice 22 (.slice L2 (m + q) d2) (some (.int .i64 (m : Int))) none none).run Try.prog W = .ok (.slice (if d2 = m then L2 else L2.map (·.add m)) q (d2 - m)) W := by
  obtain ⟨i0, hi, hz0, hz1, hz2⟩ := info_parts Try.infoInt
  have he : Try.prog.elem 22 = 3 := by kernel_rfl
  rw [run_slice_l (P := Try.prog) W 22 L2 (m + q) d2 Try.underlying22 .i64 (m : Int) (by omega) (by omega)]
  simp [sizeOf, typeInfo, hi, hz1, sliced, he]
theorem add_add13 (a : Addr) (i j : Nat) : (a.add i).add j = a.add (i + j) := by
  unfold Addr.add
  by_cases hi : i = 0
  · subst hi; simp
  · by_cases hj : j = 0
    · subst hj; simp
    · rw [if_neg hi, if_neg hj, if_neg (by omega), Nat.add_assoc]
theorem row_from13 {W : World} {B m q d2 : Nat} {L2 : Option Addr} {log ch : List Int} (h : Row W B L2 (ints (log ++ ch))) (hm : log.length = m) (hq : ch.length = q) (hd : m + q ≤ d2) : Row W B (if d2 = m then L2 else L2.map (·.add m)) (ints ch) := fun hne => by
  have hq0 : 0 < q := by
    rw [← hq]
    cases ch with
    | nil => exact absurd rfl hne
    | cons x r => simp
  rw [if_neg (by omega)]
  obtain ⟨ad, rfl, hb, hc⟩ := h (by intro e; have := congrArg List.length e; rw [ints_length, List.length_append] at this; have h0 : ([] : List Value).length = 0 := rfl; omega)
  refine ⟨ad.add m, rfl, by rw [add_block]; exact hb, fun j u hu => ?_⟩
  rw [add_add13]
  refine hc _ _ ?_
  unfold ints at hu ⊢
  rw [List.map_append, List.getElem?_append_right (by rw [List.length_map]; omega), List.length_map, hm, Nat.add_sub_cancel_left]
  exact hu
theorem ends_le13 (list : List Int) : ∀ (k i : Nat), Dr.ends list k i ≤ max i list.length
  | 0, i => by unfold Dr.ends; omega
  | k + 1, i => by
    unfold Dr.ends
    have := ends_le13 list k (Dr.next list i)
    have h : Dr.next list i ≤ max i list.length := by unfold Dr.next; split <;> omega
    omega
/-- What Many answers, where it chooses. -/
def Many13 (w : World) (n m q : Nat) (list log ch : List Int) (i : Nat) (e : Ending) (w' : World) : Prop :=
  ∃ A c L d M f, e = .returned (.tuple #[.agg #[.slice A n c, .int .i64 (i : Int), .slice L (m + q) d], .slice M q f, .int .i64 0]) ∧ w'.ownsRow w.heap.size 3 1 (.slice A n c) n (ints list) ∧
    w'.ownsRow w.heap.size 3 1 (.slice L (m + q) d) (m + q) (ints (log ++ ch)) ∧ w'.ownsRow w.heap.size 3 1 (.slice M q f) q (ints ch) ∧ Below w.heap.size w w'
/-- What it answers, where it does not. -/
def None13 (w : World) (er : Nat) (e : Ending) (w' : World) : Prop := e = .returned (.tuple #[.agg #[.slice none 0 0, .int .i64 0, .slice none 0 0], .slice none 0 0, .int .i64 (er : Int)]) ∧ Below w.heap.size w w'
theorem many13_no {A L Q : Option Addr} (n c m d q f : Nat) (i : Int) (w : World) (hr : Dr.right n i m = false) :
    Calls Try.prog 32 #[.agg #[.slice A n c, .int .i64 i, .slice L m d], .slice Q q f] w (None13 w 1) := by
  have hk0 := (Blk.new w 24 #[.slice A n c, .int .i64 i, .slice L m d]).alloc (.cells #[.slice none 0 0, .int .i64 0, .slice none 0 0] 24)
  have hk1 := Blk.new (w.alloc (.cells #[.slice A n c, .int .i64 i, .slice L m d] 24)) 24 #[.slice none 0 0, .int .i64 0, .slice none 0 0]
  rw [World.size_alloc] at hk1
  have hb := ((Below.refl _ w).alloc (Nat.le_refl _) (.cells #[.slice A n c, .int .i64 i, .slice L m d] 24)).alloc (by simp) (.cells #[.slice none 0 0, .int .i64 0, .slice none 0 0] 24)
  have hrt := fun W => right13_any (A := A) (L := L) n c m d i W
  rw [hr] at hrt
  have q0 := hk0.cell 0
  have q1 := hk0.cell 1
  have q2 := hk0.cell 2
  have HR := Lib.hid hrt
  have HK1 := Lib.hid hk1
  have HB := Lib.hid hb
  clear hk0 hk1 hb hrt hr
  go_enter Try.func32, Try.ntmps32
  go_wp2_with (fail)
  refine (HR.out _).mono ?_
  rintro e w1 ⟨rfl, hb1⟩
  have hk2 := HK1.out.below hb1 HK1.out.lt
  obtain ⟨Y1, Y2, Y3, e0, e1, e2, f0, f1, f2, g0, g1, g2, r0, r1, r2, -, -, HYB⟩ := n3_steps hk2 (.slice none 0 0) (.int .i64 0) (.slice none 0 0)
  have HB3 := Lib.hid (HYB.out _ _ (Nat.le_succ _) (HB.out.trans (hb1.mono HB.out.size)))
  clear hk2 hb1 HYB
  go_wp2
  exact bodyPost_ret (v := .tuple #[.agg #[.slice none 0 0, .int .i64 0, .slice none 0 0], .slice none 0 0, .int .i64 1]) (by simp [results, Try.results32, go_sem, r0, r1, r2]) rfl ⟨rfl, HB3.out⟩
set_option maxHeartbeats 4000000 in
theorem many13_yes {A L Q : Option Addr} {list log bounds : List Int} (n c m d q f i : Nat) (w : World) (hA : Row w w.heap.size A (ints list)) (hL : Row w w.heap.size L (ints log)) (hQ : Row w w.heap.size Q (ints bounds)) (hn : list.length = n) (hm : log.length = m) (hq : bounds.length = q)
    (hr : Dr.right n (i : Int) m = true) (hq9 : q ≤ 1000000) (hi : i ≤ 9223372036854775807) (hbd : ∀ b ∈ bounds, b < 9223372036854775808) :
    Calls Try.prog 32 #[.agg #[.slice A n c, .int .i64 (i : Int), .slice L m d], .slice Q q f] w (fun e w' => if Dr.err bounds m = 0 then Many13 w n m q list log (Dr.chs list bounds i) (Dr.ends list q i) e w' else None13 w (Dr.err bounds m) e w') := by
  obtain ⟨er, her⟩ : ∃ er, Dr.err bounds m = er := ⟨_, rfl⟩
  rw [her]
  obtain ⟨ch, hch⟩ : ∃ ch, Dr.chs list bounds i = ch := ⟨_, rfl⟩
  obtain ⟨en, hen⟩ : ∃ en, Dr.ends list q i = en := ⟨_, rfl⟩
  rw [hch, hen]
  have HCH := Lib.hid hch
  have HEN := Lib.hid hen
  clear hch hen
  have hn9 : n ≤ 500 ∧ m ≤ 2000 ∧ 0 ≤ (i : Int) := of_decide_eq_true hr
  obtain ⟨hn9, hm9, -⟩ := hn9
  have hk0 := (Blk.new w 24 #[.slice A n c, .int .i64 (i : Int), .slice L m d]).alloc (.cells #[.slice none 0 0, .int .i64 0, .slice none 0 0] 24)
  have hk1 := Blk.new (w.alloc (.cells #[.slice A n c, .int .i64 (i : Int), .slice L m d] 24)) 24 #[.slice none 0 0, .int .i64 0, .slice none 0 0]
  rw [World.size_alloc] at hk1
  have hb := ((Below.refl _ w).alloc (Nat.le_refl _) (.cells #[.slice A n c, .int .i64 (i : Int), .slice L m d] 24)).alloc (by simp) (.cells #[.slice none 0 0, .int .i64 0, .slice none 0 0] 24)
  have hrt := fun W => right13_any (A := A) (L := L) n c m d (i : Int) W
  rw [hr] at hrt
  have hca : ∀ W, Below w.heap.size w W → Calls Try.prog 31 #[.slice A n c] W (fun e w' => ∃ A' c', e = .returned (.slice A' n c') ∧ w'.ownsRow W.heap.size 3 1 (.slice A' n c') n (ints list) ∧ Below W.heap.size W w') := fun W hW => by
    have h := cloneI_any A c list W ((hA.below hW).more hW.size) (by omega)
    rw [hn] at h
    refine h.mono ?_
    rintro e w' ⟨v, rfl, ho, hb⟩
    rw [hn] at ho
    obtain ⟨A', c', rfl⟩ := ownT_slice ho
    exact ⟨A', c', rfl, ho, hb⟩
  have hcb : ∀ W, Below w.heap.size w W → Calls Try.prog 31 #[.slice L m d] W (fun e w' => ∃ A' c', e = .returned (.slice A' m c') ∧ w'.ownsRow W.heap.size 3 1 (.slice A' m c') m (ints log) ∧ Below W.heap.size W w') := fun W hW => by
    have h := cloneI_any L d log W ((hL.below hW).more hW.size) (by omega)
    rw [hm] at h
    refine h.mono ?_
    rintro e w' ⟨v, rfl, ho, hb⟩
    rw [hm] at ho
    obtain ⟨A', c', rfl⟩ := ownT_slice ho
    exact ⟨A', c', rfl, ho, hb⟩
  have q0 := hk0.cell 0
  have q1 := hk0.cell 1
  have q2 := hk0.cell 2
  have HR := Lib.hid hrt
  have HK0 := Lib.hid hk0
  have HK1 := Lib.hid hk1
  have HB := Lib.hid hb
  have HCA := Lib.hid hca
  have HCB := Lib.hid hcb
  have HQ := Lib.hid hQ
  have HQL := Lib.hid hq
  have HBD := Lib.hid hbd
  have HER := Lib.hid her
  have HI := Lib.hid hi
  clear hk0 hk1 hb hrt hr hca hcb hA hL hQ hbd her hi hn hm hq
  go_enter Try.func32, Try.ntmps32
  go_wp2_with (fail)
  refine (HR.out _).mono ?_
  rintro e w1 ⟨rfl, hb1⟩
  have HK2 := Lib.hid (HK0.out.below hb1 HK0.out.lt)
  have HK3 := Lib.hid (HK1.out.below hb1 HK1.out.lt)
  have HBW := Lib.hid (HB.out.trans (hb1.mono HB.out.size))
  clear hb1 HK0 HK1 HB HR q0 q1 q2
  have HSK : Hid (∀ W, Below w1.heap.size w1 W → W.cell? ⟨w.heap.size, 0, none⟩ = some (.slice A n c) ∧ W.cell? ⟨w.heap.size, 1, none⟩ = some (.int .i64 (i : Int)) ∧ W.cell? ⟨w.heap.size, 2, none⟩ = some (.slice L m d)) := Lib.hid fun W hb =>
    have h1 := HK2.out.below hb HK2.out.lt
    ⟨h1.cell 0, h1.cell 1, h1.cell 2⟩
  have BR := Lib.hid (Below.refl w1.heap.size w1)
  have BD := Lib.hid ((Below.refl w1.heap.size w1).drew)
  have BDA := Lib.hid (((Below.refl w1.heap.size w1).alloc (Nat.le_refl _) (.cells #[.slice none 0 0, .int .i64 0, .slice none 0 0] 24)).drew)
  have HWB : Hid (∀ W, Below w1.heap.size w1 W → Below w.heap.size w W) := Lib.hid fun W hb => HBW.out.trans (hb.mono HBW.out.size)
  go_wp2_with (fail)
  go_cut [7] from 15 to 23 (fun bx wx => ∃ (g : Nat) (A1 L1 : Option Addr) (c1 d1 : Nat), bx = .pointer (some ⟨g, 0, none⟩) ∧ Hid (Below w1.heap.size w1 wx) ∧ Hid (Drws wx w1.heap.size g n m list log i A1 c1 L1 d1))
  case first =>
    go_region_held3 (fun W => W.cell? ⟨w.heap.size, 0, none⟩ = some (.slice A n c) ∧ W.cell? ⟨w.heap.size, 1, none⟩ = some (.int .i64 (i : Int)) ∧ W.cell? ⟨w.heap.size, 2, none⟩ = some (.slice L m d))
      (first | (refine HSK.out _ ?_; first | with_reducible exact BR.out | with_reducible exact BD.out | with_reducible exact BDA.out | with_reducible exact hA | with_reducible exact hA.alloc hA.size _ | with_reducible exact hB | with_reducible exact hAA | with_reducible exact hYY))
      (first
        | (go_at_call 31; refine (HCA.out _ (HWB.out _ ?_)).mono ?_; (first | with_reducible exact BD.out | with_reducible exact BDA.out); rintro e wa ⟨A1, c1, rfl, hoa, hba⟩; have hA : Below w1.heap.size w1 wa := (by first | with_reducible exact BD.out.trans (hba.mono BD.out.size) | with_reducible exact BDA.out.trans (hba.mono BDA.out.size)); have HOA := Lib.hid hoa; clear hoa)
        | (go_at_call 31; refine (HCB.out _ (HWB.out _ ?_)).mono ?_; (first | with_reducible exact hA | with_reducible exact hA.alloc hA.size _); rintro e wb ⟨L1, d1, rfl, hob, hbb⟩; have hB : Below w1.heap.size w1 wb := (by first | with_reducible exact hA.trans (hbb.mono hA.size) | with_reducible exact (hA.alloc hA.size _).trans (hbb.mono (hA.alloc hA.size _).size)); (first
            | (have hG := ((Blk.new w1 24 #[.slice none 0 0, .int .i64 0, .slice none 0 0]).drew.below hba (Blk.new w1 24 #[.slice none 0 0, .int .i64 0, .slice none 0 0]).drew.lt).below hbb ((Blk.new w1 24 #[.slice none 0 0, .int .i64 0, .slice none 0 0]).drew.below hba (Blk.new w1 24 #[.slice none 0 0, .int .i64 0, .slice none 0 0]).drew.lt).lt; have hAA := hB; have hsz := Nat.le_refl w1.heap.size; have hgw := hbb; have hgo := hob; have hg1 : w1.heap.size ≤ (w1.alloc (.cells #[.slice none 0 0, .int .i64 0, .slice none 0 0] 24)).drew.heap.size := BDA.out.size; have hgl := Nat.le_refl wa.heap.size; obtain ⟨Y1, Y2, Y3, e0, e1, e2, f0, f1, f2, g0, g1, g2, -, -, -, hk9, hh9, hb9⟩ := n3_steps hG (.slice A1 n c1) (.int .i64 (i : Int)) (.slice L1 m d1); have hYY : Below w1.heap.size w1 Y3 := hb9.out _ _ hsz hAA; have HD := Lib.hid (drws_mk HOA.out hgw hgo hg1 hgl hA.size hsz hG hk9 hh9); clear hk9 hh9 hb9 hgw hgo hg1 hgl hG)
            | (have hG := (Blk.new wa 24 #[.slice none 0 0, .int .i64 0, .slice none 0 0]).below hbb (Blk.new wa 24 #[.slice none 0 0, .int .i64 0, .slice none 0 0]).lt; have hAA := hB; have hsz := hA.size; have hgw : Below wa.heap.size wa wb := ((Below.refl _ wa).alloc (Nat.le_refl _) (.cells #[.slice none 0 0, .int .i64 0, .slice none 0 0] 24)).trans (hbb.mono (by simp)); have hgo := hob; have hg1 : w1.heap.size ≤ w1.drew.heap.size := BD.out.size; have hgl : wa.heap.size ≤ (wa.alloc (.cells #[.slice none 0 0, .int .i64 0, .slice none 0 0] 24)).heap.size := (by simp); obtain ⟨Y1, Y2, Y3, e0, e1, e2, f0, f1, f2, g0, g1, g2, -, -, -, hk9, hh9, hb9⟩ := n3_steps hG (.slice A1 n c1) (.int .i64 (i : Int)) (.slice L1 m d1); have hYY : Below w1.heap.size w1 Y3 := hb9.out _ _ hsz hAA; have HD := Lib.hid (drws_mk HOA.out hgw hgo hg1 hgl hA.size hsz hG hk9 hh9); clear hk9 hh9 hb9 hgw hgo hg1 hgl hG)
            | (obtain ⟨WB, hWB⟩ : ∃ WB, wb.alloc (.cells #[.slice none 0 0, .int .i64 0, .slice none 0 0] 24) = WB := ⟨_, rfl⟩; have hG : Blk WB wb.heap.size 24 #[.slice none 0 0, .int .i64 0, .slice none 0 0] := hWB ▸ Blk.new _ _ _; have hAA : Below w1.heap.size w1 WB := hWB ▸ hB.alloc hB.size _; have hsz := hB.size; have hgw : Below wa.heap.size wa WB := hWB ▸ hbb.alloc hbb.size _; have hgo := hWB ▸ hob.alloc (.cells #[.slice none 0 0, .int .i64 0, .slice none 0 0] 24); have hg1 : w1.heap.size ≤ w1.drew.heap.size := BD.out.size; have hgl := Nat.le_refl wa.heap.size; obtain ⟨Y1, Y2, Y3, e0, e1, e2, f0, f1, f2, g0, g1, g2, -, -, -, hk9, hh9, hb9⟩ := n3_steps hG (.slice A1 n c1) (.int .i64 (i : Int)) (.slice L1 m d1); have hYY : Below w1.heap.size w1 Y3 := hb9.out _ _ hsz hAA; have HD := Lib.hid (drws_mk HOA.out hgw hgo hg1 hgl hA.size hsz hG hk9 hh9); clear hk9 hh9 hb9 hgw hgo hg1 hgl hG))))
    all_goals go_wp2_with fail
    all_goals go_meet
    all_goals exact ⟨_, _, _, _, _, rfl, Lib.hid hYY, HD⟩
  case rest =>
    obtain ⟨g, A1, L1, c1, d1, rfl, HBC, HD⟩ := hcut
    have HBG := Lib.hid HD.out.bg
    have HLL := Lib.hid HD.out.len
    have HZ := Lib.hid (show w.heap.size + 2 ≤ w1.heap.size from HK3.out.lt)
    have HD0 : Hid (∃ L2 d2, Drws wc w1.heap.size g n (m + 0) list (log ++ Dr.chs list (bounds.take 0) i) (Dr.ends list 0 i) A1 c1 L2 d2) := Lib.hid ⟨L1, d1, by rw [show Dr.chs list (bounds.take 0) i = [] from rfl, List.append_nil]; exact HD.out⟩
    clear BR BD BDA HSK HD HCA HCB
    go_wp2
    go_loopw [26] (fun iv wr => ∃ k : Nat, k ≤ q ∧ m + k ≤ 2000 ∧ iv = .int .i64 k ∧ Hid (∃ L2 d2, Drws wr w1.heap.size g n (m + k) list (log ++ Dr.chs list (bounds.take k) i) (Dr.ends list k i) A1 c1 L2 d2) ∧ Hid (Below w1.heap.size w1 wr) ∧ Hid (Dr.err (bounds.drop k) (m + k) = er)) (fun iv _ => q - (intOf iv).toNat)
    case atStart => exact ⟨0, Nat.zero_le _, hm9, rfl, HD0, HBC, Lib.hid HER.out⟩
    case round =>
      obtain ⟨k, hk, hmk, rfl, HDk, HBk, HEk⟩ := hrel
      obtain ⟨L2, d2, hD⟩ := HDk.out
      clear HD0 HBC HDk
      have hk3 := HK3.out.below HBk.out HK3.out.lt
      by_cases hlt : k < q
      · obtain ⟨ad, hQA, hbq, c0⟩ := irow_at (HQ.out.below (HWB.out _ HBk.out)) (show k < bounds.length by rw [HQL.out]; exact hlt)
        have hx : bounds[k]? = some (bounds[k]'(by rw [HQL.out]; exact hlt)) := List.getElem?_eq_getElem _
        subst hQA
        generalize bounds[k]'(by rw [HQL.out]; exact hlt) = b at *
        have hst := Dr.err_step (n := m + k) hx
        rw [HEk.out] at hst
        have hcs := Dr.chs_take (list := list) (i := i) hx
        have hel := ends_le13 list k i
        rw [HLL.out] at hel
        have htk := take13_any b hD (by omega) (by have := HI.out; omega) hmk (HBD.out b (List.mem_of_getElem? hx))
        unfold Took13 at htk
        by_cases hb1 : b < 1
        · simp only [if_pos hb1] at htk
          rw [if_pos hb1] at hst
          subst hst
          obtain ⟨Y1, Y2, Y3, e0, e1, e2, f0, f1, f2, g0, g1, g2, r0, r1, r2, -, -, HYB⟩ := n3_steps hk3 (.slice none 0 0) (.int .i64 0) (.slice none 0 0)
          have HB3 := Lib.hid (HYB.out _ _ (Nat.le_succ _) (HWB.out _ HBk.out))
          have HT := Lib.hid htk
          clear htk hD hk3 hx hcs hel HYB HK2 HK3
          go_wp2_with (fail)
          refine HT.out.mono ?_
          rintro e w2 ⟨rfl, rfl⟩
          go_wp2
          exact bodyPost_ret (v := .tuple #[.agg #[.slice none 0 0, .int .i64 0, .slice none 0 0], .slice none 0 0, .int .i64 1]) (by simp [results, Try.results32, go_sem, r0, r1, r2]) rfl ⟨rfl, HB3.out⟩
        · simp only [if_neg hb1] at htk
          rw [if_neg hb1] at hst
          by_cases hm2 : m + k = 2000
          · simp only [if_pos hm2] at htk
            rw [if_pos hm2] at hst
            subst hst
            obtain ⟨Y1, Y2, Y3, e0, e1, e2, f0, f1, f2, g0, g1, g2, r0, r1, r2, -, -, HYB⟩ := n3_steps hk3 (.slice none 0 0) (.int .i64 0) (.slice none 0 0)
            have HB3 := Lib.hid (HYB.out _ _ (Nat.le_succ _) (HWB.out _ HBk.out))
            have HT := Lib.hid htk
            clear htk hD hk3 hx hcs hel HYB HK2 HK3
            go_wp2_with (fail)
            refine HT.out.mono ?_
            rintro e w2 ⟨rfl, rfl⟩
            go_wp2
            exact bodyPost_ret (v := .tuple #[.agg #[.slice none 0 0, .int .i64 0, .slice none 0 0], .slice none 0 0, .int .i64 8]) (by simp [results, Try.results32, go_sem, r0, r1, r2]) rfl ⟨rfl, HB3.out⟩
          · simp only [if_neg hm2] at htk
            rw [if_neg hm2] at hst
            have HE2 : Hid (Dr.err (bounds.drop (k + 1)) (m + (k + 1)) = er) := Lib.hid hst.symm
            have hres : ∀ w', Drws w' w1.heap.size g n (m + k + 1) list (log ++ Dr.chs list (bounds.take k) i ++ [Dr.choice list (Dr.ends list k i) b]) (Dr.next list (Dr.ends list k i)) A1 c1 = Drws w' w1.heap.size g n (m + (k + 1)) list (log ++ Dr.chs list (bounds.take (k + 1)) i) (Dr.ends list (k + 1) i) A1 c1 := fun w' => by
              rw [hcs, Dr.ends_succ, List.append_assoc, Nat.add_assoc]
            have HRS := Lib.hid hres
            have HT := Lib.hid htk
            clear htk hD hk3 hx hcs hel hst hres HK2 HK3 HER
            go_wp2_with (fail)
            refine HT.out.mono ?_
            rintro e w2 ⟨rfl, L3, d3, hD3, hb3⟩
            have HD3 : Hid (∃ L2 d2, Drws w2 w1.heap.size g n (m + (k + 1)) list (log ++ Dr.chs list (bounds.take (k + 1)) i) (Dr.ends list (k + 1) i) A1 c1 L2 d2) := Lib.hid ⟨L3, d3, by rw [← HRS.out]; exact hD3⟩
            have HB3 := Lib.hid (HBk.out.trans hb3)
            clear hD3 hb3 HRS HT HBk
            go_wp2
            go_roundw
            case rel => exact ⟨k + 1, by omega, by omega, by go_num, HD3, HB3, HE2⟩
            case measure => simp [intOf]; omega
      · obtain rfl : k = q := by omega
        have hall : bounds.take k = bounds := List.take_of_length_le (by rw [HQL.out]; exact Nat.le_refl _)
        have hez := HEk.out
        rw [List.drop_of_length_le (by rw [HQL.out]; exact Nat.le_refl _)] at hez
        obtain rfl : er = 0 := hez.symm
        rw [hall] at hD
        have hcl : (Dr.chs list bounds i).length = k := by rw [Dr.chs_length]; exact HQL.out
        have hml : log.length = m := by have h := hD.len2; rw [List.length_append, hcl] at h; omega
        rw [HCH.out] at hD hcl
        rw [HEN.out] at hD
        have hrl := ownT_row hD.lo
        have hrow := row_from13 hrl.1 hml hcl hrl.2
        have hsl := fun W => slice_from13 (L2 := L2) m k d2 W
        obtain ⟨A6, hA6⟩ : ∃ A6, (if d2 = m then L2 else L2.map (·.add m)) = A6 := ⟨_, rfl⟩
        rw [hA6] at hrow hsl
        have hcc : ∀ W, Below wr.heap.size wr W → Calls Try.prog 31 #[.slice A6 k (d2 - m)] W (fun e w' => ∃ A' c', e = .returned (.slice A' k c') ∧ w'.ownsRow W.heap.size 3 1 (.slice A' k c') k (ints ch) ∧ Below W.heap.size W w') := fun W hW => by
          have h := cloneI_any A6 (d2 - m) ch W ((hrow.below hW).more hW.size) (by omega)
          rw [hcl] at h
          refine h.mono ?_
          rintro e w' ⟨v, rfl, ho, hb⟩
          rw [hcl] at ho
          obtain ⟨A', c', rfl⟩ := ownT_slice ho
          exact ⟨A', c', rfl, ho, hb⟩
        have HCC := Lib.hid hcc
        have HS : Hid (∀ W, Below wr.heap.size wr W → W.cell? ⟨g, 0, none⟩ = some (.slice A1 n c1) ∧ W.cell? ⟨g, 1, none⟩ = some (.int .i64 (en : Int)) ∧ W.cell? ⟨g, 2, none⟩ = some (.slice L2 (m + k) d2) ∧ W.cell? ⟨w.heap.size, 2, none⟩ = some (.slice L m d)) := Lib.hid fun W hb =>
          have h1 := hD.box.below hb hD.box.lt
          have h2 := (HK2.out.below HBk.out HK2.out.lt).below hb (HK2.out.below HBk.out HK2.out.lt).lt
          ⟨h1.cell 0, h1.cell 1, h1.cell 2, h2.cell 2⟩
        have HD := Lib.hid hD
        have HK3k := Lib.hid hk3
        have HWR := Lib.hid (HWB.out _ HBk.out)
        have hs0 := HS.out wr.drew (Below.refl _ wr).drew
        have HS0 := Lib.hid hs0
        clear hall hez hcl hml hrl hrow hA6 hcc hD hk3 hs0 HK2 HK3
        go_wp2_with (fail)
        refine Free.region_seq [7, 8] [0, 2, 4] 8 (fun W' => W'.cell? ⟨g, 0, none⟩ = some (.slice A1 n c1) ∧ W'.cell? ⟨g, 1, none⟩ = some (.int .i64 (en : Int)) ∧ W'.cell? ⟨g, 2, none⟩ = some (.slice L2 (m + k) d2) ∧ W'.cell? ⟨w.heap.size, 2, none⟩ = some (.slice L m d)) (by kernel_rfl) (by kernel_rfl) (by kernel_rfl) (by kernel_rfl) (HS0.out) (fun ops hops => ?_)
        clear hops
        iterate 7
          refine Free.Seq.quiet (v := ?_) (a' := ?_) rfl rfl (fun W' hW' => ?_) ?_ ?_
          rotate_left 2
          · first | obtain ⟨s0, s1, s2, s3⟩ := hW' rfl | skip
            go_simp
            try with_reducible rfl
          · simp only [Act.put, List.setIfInBounds_toArray, List.set_cons_zero, List.set_cons_succ]
            try with_reducible rfl
        refine Free.Seq.loud_ rfl (.inl rfl) (fun K hK => ?_)
        go_simp
        refine (HCC.out wr.drew (Below.refl _ wr).drew).mono ?_
        rintro e w3 ⟨M, f3, rfl, hown3, hb3⟩
        have hb4 : Below wr.heap.size wr w3 := (Below.refl _ wr).drew.trans hb3
        have hk4 := HK3k.out.below hb4 HK3k.out.lt
        obtain ⟨Y1, Y2, Y3, e0, e1, e2, f0, f1, f2, g0, g1, g2, r0, r1, r2, -, hh9, hb9⟩ := n3_steps hk4 (.slice A1 n c1) (.int .i64 (en : Int)) (.slice L2 (m + k) d2)
        have hla := own_ofD (ownT_below HD.out.la hb4) fun g' hg' => hh9.out g' (by have := (HD.out.la.lt g' hg').1; have := HZ.out; omega)
        have hlo := own_ofD (ownT_below HD.out.lo hb4) fun g' hg' => hh9.out g' (by have := (HD.out.lo.lt g' hg').1; have := HZ.out; omega)
        have hlm := own_ofD hown3 fun g' hg' => hh9.out g' (by have h5 := (hown3.lt g' hg').1; have h6 : wr.heap.size ≤ g' := h5; have := HK3k.out.lt; omega)
        have HLA := Lib.hid (ownT_mono hla (HBW.out.size))
        have HLO := Lib.hid (ownT_mono hlo (HBW.out.size))
        have HLM := Lib.hid (ownT_mono hlm (show w.heap.size ≤ wr.drew.heap.size from HWR.out.size))
        have HBF := Lib.hid (hb9.out _ _ (Nat.le_succ _) (HWR.out.trans (hb4.mono HWR.out.size)))
        have HS3 := Lib.hid (HS.out _ hb4)
        refine hK.out _ _ rfl (fun _ => HS3.out) ?_
        clear hK K hla hlo hlm hown3 hb3 hb4 hk4 hh9 hb9
        refine Free.Seq.loud_ rfl (.inl rfl) (fun K hK => ?_)
        go_simp
        refine hK.out _ _ rfl (fun h => absurd h (by decide)) ?_
        clear hK K
        iterate 2
          refine Free.Seq.quiet (v := ?_) (a' := ?_) rfl rfl (fun W' hW' => ?_) ?_ ?_
          rotate_left 2
          · skip
            go_simp
            try with_reducible rfl
          · simp only [Act.put, List.setIfInBounds_toArray, List.set_cons_zero, List.set_cons_succ]
            try with_reducible rfl
        refine Free.Seq.nil_ ?_
        go_wp2
        exact bodyPost_ret (v := .tuple #[.agg #[.slice A1 n c1, .int .i64 (en : Int), .slice L2 (m + k) d2], .slice M k f3, .int .i64 0]) (by simp [results, Try.results32, go_sem, r0, r1, r2]) rfl ⟨A1, c1, L2, d2, M, f3, rfl, HLA.out, HLO.out, HLM.out, HBF.out⟩
end Go.Proofs.Ytmgaaejghfgbnaa
