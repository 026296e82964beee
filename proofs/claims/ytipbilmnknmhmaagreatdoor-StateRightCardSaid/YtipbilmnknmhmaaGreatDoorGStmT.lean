/- How atoms, slots and rows are written (by gen_stmt.py): walks of behind, atomText, slotText, rowText. -/
import Derived.Test.YtipbilmnknmhmaaGreatDoorGCodE
import Derived.Test.YtipbilmnknmhmaaGreatDoorGCodP
import Derived.Test.YtipbilmnknmhmaaGreatDoorGNotT
import Derived.Test.YtipbilmnknmhmaaGreatDoorGLexD
import Derived.Test.YtipbilmnknmhmaaGreatDoorGFree
namespace Go.Proofs.YtipbilmnknmhmaaGreatDoor
set_option maxRecDepth 100000
open Go.RowKit Go.Shelf Go.Sort
attribute [local go_sem] Oper.semAt_some
/-! Plain. -/
def behB (a b : ByteArray) : ByteArray := if b = ByteArray.empty then a else a ++ ({ data := #[32] } : ByteArray) ++ b
theorem slotL_ne (names : List ByteArray) (x : St.Slot) : St.slotL names x ≠ [] := by
  unfold St.slotL St.atomL
  simp
theorem pack_empty {l : List UInt8} (h : Lx.pack l = ByteArray.empty) : l = [] := by
  have := congrArg (fun b => b.data.toList) h
  simpa [Lx.pack_list] using this
theorem beh_row (names : List ByteArray) (word : List UInt8) (xs : List St.Slot) : behB (Lx.pack word) (Lx.pack (Lib.join (xs.map (St.slotL names)) [32, 44, 32])) = Lx.pack (word ++ St.rowL names xs) := by
  cases xs with
  | nil =>
    unfold behB
    rw [if_pos (by rfl)]
    simp [St.rowL]
  | cons x xs =>
    have hne : Lx.pack (Lib.join ((x :: xs).map (St.slotL names)) [32, 44, 32]) ≠ ByteArray.empty := fun h => by
      have := pack_empty h
      rw [List.map_cons, Lib.join_cons] at this
      exact slotL_ne names x (List.append_eq_nil_iff.1 this).1
    unfold behB
    rw [if_neg hne, show ({ data := #[32] } : ByteArray) = Lx.pack [32] from rfl, pack_app, pack_app]
    congr 1
    rw [List.map_cons, Lib.join_cons]
    unfold Lib.joinTail
    simp [St.rowL, List.flatMap_def, Function.comp_def]
theorem atomL_len {names : List ByteArray} {k : Nat} (hN : Cd.Names names k) {v a : Int} (hv : St.valB v = true) (ha : St.labB k a = true) : (St.atomL names v a).length ≤ 19 := by
  have h1 := sgn_size (of_decide_eq_true hv)
  have h2 := lab_size hN (of_decide_eq_true ha)
  rw [Lx.pack_size] at h1 h2
  unfold St.atomL
  unfold labL at h2
  simp only [List.length_append, List.length_cons, List.length_nil] at h1 h2 ⊢
  omega
theorem slotL_len {names : List ByteArray} {k : Nat} (hN : Cd.Names names k) {x : St.Slot} (hx : St.slotB k x = true) : (St.slotL names x).length ≤ 23 := by
  unfold St.slotB at hx
  simp only [Bool.and_eq_true] at hx
  have := atomL_len hN hx.1.1 hx.1.2
  unfold St.slotL
  rw [List.length_append]
  split <;> simp <;> omega
theorem joinS_len {names : List ByteArray} {k : Nat} (hN : Cd.Names names k) : ∀ (xs : List St.Slot), (∀ x ∈ xs, St.slotB k x = true) → (Lib.join (xs.map (St.slotL names)) [32, 44, 32]).length ≤ 26 * xs.length
  | [], _ => by simp [Lib.join_nil]
  | x :: xs, h => by
    have h1 := slotL_len hN (h x (by simp))
    have h2 : ∀ ys : List St.Slot, (∀ x ∈ ys, St.slotB k x = true) → (Lib.joinTail [32, 44, 32] (ys.map (St.slotL names))).length ≤ 26 * ys.length := fun ys => by
      induction ys with
      | nil => intro _; simp [Lib.joinTail]
      | cons y ys ih =>
        intro h
        have h3 := slotL_len hN (h y (by simp))
        have h4 := ih fun z hz => h z (by simp [hz])
        unfold Lib.joinTail at h4 ⊢
        rw [List.map_cons, List.map_cons, List.flatten_cons, List.length_append, List.length_append]
        simp only [List.length_cons, List.length_nil] at h4 ⊢
        omega
    have h5 := h2 xs fun z hz => h z (by simp [hz])
    rw [List.map_cons, Lib.join_cons, List.length_append, List.length_cons]
    omega
def targ {α : Type} (f : α → List UInt8) (l : List α) (k : Nat) : List Value := (l.take k).map (fun x => Value.string (Lx.pack (f x))) ++ List.replicate (l.length - k) (.string ByteArray.empty)
section
variable {α : Type} (f : α → List UInt8)
theorem targ_length (l : List α) {k : Nat} (h : k ≤ l.length) : (targ f l k).length = l.length := by
  unfold targ
  simp
  omega
theorem targ_set {l : List α} {k : Nat} {x : α} (h : l[k]? = some x) : (targ f l k).set k (.string (Lx.pack (f x))) = targ f l (k + 1) := by
  have hk := (List.getElem?_eq_some_iff.1 h).1
  unfold targ
  rw [List.take_add_one, h, show l.length - k = (l.length - (k + 1)) + 1 by omega, List.replicate_succ]
  rw [List.set_append_right _ _ (by simp; omega), show k - ((l.take k).map (fun x => Value.string (Lx.pack (f x)))).length = 0 by simp; omega]
  simp
theorem targ_full (l : List α) : targ f l l.length = strs (l.map fun x => Lx.pack (f x)) := by
  unfold targ strs
  simp
theorem targ_start (l : List α) : targ f l 0 = List.replicate l.length (.string ByteArray.empty) := by
  unfold targ
  simp
end
structure TyAt {α : Type} (f : α → List UInt8) (w1 : World) (l : List α) (k : Nat) (W : World) : Prop where
  below : Below w1.heap.size w1 W
  blk : Blk W w1.heap.size 9 (targ f l k).toArray
set_option maxHeartbeats 2000000 in
theorem sbehind_any (a b : ByteArray) (ha : a.size ≤ 100000) (hb : b.size ≤ 100000) (w : World) : Calls Tryz.prog 43 #[.string a, .string b] w fun e w' => e = .returned (.string (behB a b)) ∧ w = w' := by
  unfold behB
  by_cases h : b = ByteArray.empty
  · rw [if_pos h]
    subst h
    go_enter Tryz.func43, Tryz.ntmps43
    go_wp2
    go_ret
    exact ⟨rfl, rfl⟩
  · rw [if_neg h]
    have hbe : b.toList.isEmpty = false := empty_not fun e => h (by rw [← Lx.pack_data b, e]; rfl)
    have q1 : (9223372036854775807 < a.size + 1) = False := eq_false (by omega)
    have q2 : (9223372036854775807 < a.size + 1 + b.size) = False := eq_false (by omega)
    go_enter Tryz.func43, Tryz.ntmps43
    go_wp2
    go_ret
    exact ⟨rfl, rfl⟩
section
variable {v : Value} {names : List ByteArray} {up : List Nat}
set_option maxHeartbeats 4000000 in
theorem satomT_any (hz : checkN names up = 0) (x : St.Atom) (hv : St.valB x.v = true) (hl : St.labB up.length x.l = true) (w : World) (h : IsLat w w.heap.size v names up) : Calls Tryz.prog 42 #[v, .agg #[.int .i64 x.v, .int .i64 x.l]] w (TellsT8 w (Lx.pack (St.atomL names x.v x.l))) := by
  obtain ⟨⟨N, U, c1, c2, rfl, hN, hU⟩, hsh, hfew, hcaps⟩ := id h
  have hsz := sgn_size (of_decide_eq_true hv)
  have hlz := lab_size (Cd.names_of hz) (of_decide_eq_true hl)
  have HNT := Lib.hid (fun W => numText_any x.v (of_decide_eq_true hv) W)
  have HLT := Lib.hid (fun W (h : IsLat W W.heap.size (.agg #[.slice N names.length c1, .slice U up.length c2]) names up) => nlabT_any hz x.l (of_decide_eq_true hl) W h)
  have HEQ := Lib.hid (show Lx.pack (Cd.sgn x.v) ++ ({ data := #[32] } : ByteArray) ++ Lx.pack (labL names x.l) = Lx.pack (St.atomL names x.v x.l) by
    rw [show ({ data := #[32] } : ByteArray) = Lx.pack [32] from rfl, pack_app, pack_app]
    unfold St.atomL labL
    simp)
  obtain ⟨a, l⟩ := x
  dsimp only at hsz hlz HNT HLT HEQ ⊢
  have hb0 := (((Below.refl _ w).alloc (Nat.le_refl _) (.cells #[.slice N names.length c1, .slice U up.length c2] 25)).alloc (by simp) (.cells #[.int .i64 a, .int .i64 l] 38))
  obtain ⟨W0, hW0⟩ : ∃ W0, (w.alloc (.cells #[.slice N names.length c1, .slice U up.length c2] 25)).alloc (.cells #[.int .i64 a, .int .i64 l] 38) = W0 := ⟨_, rfl⟩
  have hp0 : Blk W0 w.heap.size 25 #[.slice N names.length c1, .slice U up.length c2] := hW0 ▸ (Blk.new _ _ _).alloc _
  have hp1 : Blk W0 (w.heap.size + 1) 38 #[.int .i64 a, .int .i64 l] := by
    have h1 := Blk.new (w.alloc (.cells #[.slice N names.length c1, .slice U up.length c2] 25)) 38 #[.int .i64 a, .int .i64 l]
    rw [show (w.alloc (.cells #[.slice N names.length c1, .slice U up.length c2] 25)).heap.size = w.heap.size + 1 by simp] at h1
    rw [← hW0]; exact h1
  rw [hW0] at hb0
  have HB0 := Lib.hid hb0
  have H := Lib.hid ((h.below hb0).more hb0.size)
  have a0 : W0.cell? ⟨w.heap.size, 0, none⟩ = some (.slice N names.length c1) := hp0.cell 0
  have a1 : W0.cell? ⟨w.heap.size, 1, none⟩ = some (.slice U up.length c2) := hp0.cell 1
  have s0 : W0.cell? ⟨w.heap.size + 1, 0, none⟩ = some (.int .i64 a) := hp1.cell 0
  have s1 : W0.cell? ⟨w.heap.size + 1, 1, none⟩ = some (.int .i64 l) := hp1.cell 1
  have g0 := fun d os => cell_regrown a0 d os
  have g1 := fun d os => cell_regrown a1 d os
  have g2 := fun d os => cell_regrown s0 d os
  have g3 := fun d os => cell_regrown s1 d os
  generalize Lx.pack (Cd.sgn a) = sg at *
  generalize Lx.pack (labL names l) = lt at *
  have q1 : (9223372036854775807 < sg.size + 1) = False := eq_false (by omega)
  have q2 : (9223372036854775807 < sg.size + 1 + lt.size) = False := eq_false (by omega)
  clear h hN hU hb0 hp0 hp1 hv hl
  go_enter Tryz.func42, Tryz.ntmps42
  go_wp2
  refine wp_region_quiet_below (by kernel_rfl) (by kernel_rfl) ?_
  repeat (quiet_step (first | (go_at_call 69; exact Calls.regrown_of ((HNT.out _).mono fun _ _ h => ⟨h.1, h.2 ▸ Below.refl _ _⟩)) | (go_at_call 71; exact Calls.regrown_of (HLT.out _ ((H.out.below (below_regrown _ _ _)).more (below_regrown _ _ _).size)))))
  refine wpQuiet_nil ?_
  rintro _ ⟨⟨d, os⟩, rfl⟩
  have HB5 := Lib.hid (HB0.out.trans ((below_regrown W0 d os).mono HB0.out.size))
  clear g0 g1 g2 g3
  generalize grow (redrawn W0 d) os = w5 at *
  go_wp2
  go_ret
  exact ⟨congrArg (fun s => Ending.returned (.string s)) HEQ.out, HB5.out⟩
set_option maxHeartbeats 4000000 in
theorem sslotT_any (hz : checkN names up = 0) (x : St.Slot) (hx : St.slotB up.length x = true) (w : World) (h : IsLat w w.heap.size v names up) : Calls Tryz.prog 45 #[v, .agg #[.bool x.ret, .int .i64 x.v, .int .i64 x.l]] w (TellsT8 w (Lx.pack (St.slotL names x))) := by
  obtain ⟨⟨N, U, c1, c2, rfl, hN, hU⟩, hsh, hfew, hcaps⟩ := id h
  have hx2 := hx
  unfold St.slotB at hx2
  simp only [Bool.and_eq_true] at hx2
  have hal := atomL_len (Cd.names_of hz) hx2.1.1 hx2.1.2
  have HAT := Lib.hid (fun W (h : IsLat W W.heap.size (.agg #[.slice N names.length c1, .slice U up.length c2]) names up) => satomT_any hz ⟨x.v, x.l⟩ hx2.1.1 hx2.1.2 W h)
  have HOF := Lib.hid (fun W => satomOf_any x W)
  have HEQ := Lib.hid (show ({ data := #[114, 101, 116, 32] } : ByteArray) ++ Lx.pack (St.atomL names x.v x.l) = Lx.pack ([114, 101, 116, 32] ++ St.atomL names x.v x.l) from pack_app [114, 101, 116, 32] _)
  unfold St.slotL
  obtain ⟨r, a, l⟩ := x
  dsimp only at HAT HOF HEQ hal ⊢
  have hb0 := (((Below.refl _ w).alloc (Nat.le_refl _) (.cells #[.slice N names.length c1, .slice U up.length c2] 25)).alloc (by simp) (.cells #[.bool r, .int .i64 a, .int .i64 l] 73))
  obtain ⟨W0, hW0⟩ : ∃ W0, (w.alloc (.cells #[.slice N names.length c1, .slice U up.length c2] 25)).alloc (.cells #[.bool r, .int .i64 a, .int .i64 l] 73) = W0 := ⟨_, rfl⟩
  have hp0 : Blk W0 w.heap.size 25 #[.slice N names.length c1, .slice U up.length c2] := hW0 ▸ (Blk.new _ _ _).alloc _
  have hp1 : Blk W0 (w.heap.size + 1) 73 #[.bool r, .int .i64 a, .int .i64 l] := by
    have h1 := Blk.new (w.alloc (.cells #[.slice N names.length c1, .slice U up.length c2] 25)) 73 #[.bool r, .int .i64 a, .int .i64 l]
    rw [show (w.alloc (.cells #[.slice N names.length c1, .slice U up.length c2] 25)).heap.size = w.heap.size + 1 by simp] at h1
    rw [← hW0]; exact h1
  rw [hW0] at hb0
  have HB0 := Lib.hid hb0
  have H := Lib.hid ((h.below hb0).more hb0.size)
  have a0 : W0.cell? ⟨w.heap.size, 0, none⟩ = some (.slice N names.length c1) := hp0.cell 0
  have a1 : W0.cell? ⟨w.heap.size, 1, none⟩ = some (.slice U up.length c2) := hp0.cell 1
  have s0 : W0.cell? ⟨w.heap.size + 1, 0, none⟩ = some (.bool r) := hp1.cell 0
  have s1 : W0.cell? ⟨w.heap.size + 1, 1, none⟩ = some (.int .i64 a) := hp1.cell 1
  have s2 : W0.cell? ⟨w.heap.size + 1, 2, none⟩ = some (.int .i64 l) := hp1.cell 2
  have g0 := fun d os => cell_regrown a0 d os
  have g1 := fun d os => cell_regrown a1 d os
  have g2 := fun d os => cell_regrown s0 d os
  have g3 := fun d os => cell_regrown s1 d os
  have g4 := fun d os => cell_regrown s2 d os
  have q1 : (9223372036854775807 < 4 + (Lx.pack (St.atomL names a l)).size) = False := eq_false (by rw [Lx.pack_size]; omega)
  clear h hN hU hb0 hp0 hp1 hx hx2 hal
  cases r with
  | true =>
    rw [if_pos rfl, ← HEQ.out]
    generalize Lx.pack (St.atomL names a l) = t at *
    clear HEQ
    go_enter Tryz.func45, Tryz.ntmps45
    go_wp2
    refine wp_region_quiet_below (by kernel_rfl) (by kernel_rfl) ?_
    repeat (quiet_step (first | (go_at_call 81; exact Calls.regrown_of (HOF.out _)) | (go_at_call 42; exact Calls.regrown_of (HAT.out _ ((H.out.below (below_regrown _ _ _)).more (below_regrown _ _ _).size)))))
    refine wpQuiet_nil ?_
    rintro _ ⟨⟨d, os⟩, rfl⟩
    have HB5 := Lib.hid (HB0.out.trans ((below_regrown W0 d os).mono HB0.out.size))
    clear g0 g1 g2 g3 g4
    generalize grow (redrawn W0 d) os = w5 at *
    go_wp2
    go_ret
    exact ⟨rfl, HB5.out⟩
  | false =>
    simp only [Bool.false_eq_true, if_false, List.nil_append]
    generalize Lx.pack (St.atomL names a l) = t at *
    clear HEQ
    go_enter Tryz.func45, Tryz.ntmps45
    go_wp2
    refine wp_region_quiet_below (by kernel_rfl) (by kernel_rfl) ?_
    repeat (quiet_step (first | (go_at_call 81; exact Calls.regrown_of (HOF.out _)) | (go_at_call 42; exact Calls.regrown_of (HAT.out _ ((H.out.below (below_regrown _ _ _)).more (below_regrown _ _ _).size)))))
    refine wpQuiet_nil ?_
    rintro _ ⟨⟨d, os⟩, rfl⟩
    have HB5 := Lib.hid (HB0.out.trans ((below_regrown W0 d os).mono HB0.out.size))
    clear g0 g1 g2 g3 g4
    generalize grow (redrawn W0 d) os = w5 at *
    go_wp2
    go_ret
    exact ⟨rfl, HB5.out⟩
theorem slotB_atom {k : Nat} {x : St.Atom} (h : St.slotB k (St.toSlot x) = true) : St.valB x.v = true ∧ St.labB k x.l = true := by
  unfold St.slotB St.toSlot at h
  simp only [Bool.and_eq_true] at h
  exact h.1
theorem slotL_atom (names : List ByteArray) (x : St.Atom) : St.slotL names (St.toSlot x) = St.atomL names x.v x.l := rfl
set_option maxHeartbeats 8000000 in
theorem arowT_any (hz : checkN names up = 0) {A : Option Addr} {l : List St.Atom} (c : Nat) (word : ByteArray) (hw : word.size ≤ 100) (w : World) (h : IsLat w w.heap.size v names up) (hr : Row w w.heap.size A (fcells avs l)) (hl : l.length ≤ 12) (hall : ∀ x ∈ l, St.slotB up.length (St.toSlot x) = true) :
    Calls Tryz.prog 41 #[v, .string word, .slice A l.length c, .func (.func 42) #[] #[]] w (TellsT8 w (Lx.pack (St.lineW names word.data.toList (l.map St.toSlot)))) := by
  obtain ⟨⟨N, U, c1, c2, rfl, hN, hU⟩, hsh, hfew, hcaps⟩ := id h
  have hb0 : Below w.heap.size w (w.alloc (.cells #[.slice N names.length c1, .slice U up.length c2] 25)) := (Below.refl _ w).alloc (Nat.le_refl _) _
  have p0 := Blk.new w 25 #[.slice N names.length c1, .slice U up.length c2]
  have hNm := Cd.names_of hz
  have hjl := joinS_len hNm (l.map St.toSlot) (by intro x hx; obtain ⟨y, hy, rfl⟩ := List.mem_map.1 hx; exact hall y hy)
  have hln : (l.map St.toSlot).length = l.length := by rw [List.length_map]
  rw [hln] at hjl
  have hjm : (l.map St.toSlot).map (St.slotL names) = l.map (fun x : St.Atom => St.atomL names x.v x.l) := by rw [List.map_map]; rfl
  have hbr := beh_row names word.data.toList (l.map St.toSlot)
  rw [hjm] at hjl hbr
  rw [Lx.pack_data] at hbr
  have HONE := Lib.hid (fun (x : St.Atom) (hx : St.slotB up.length (St.toSlot x) = true) W (hb : Below w.heap.size w W) => satomT_any (v := .agg #[.slice N names.length c1, .slice U up.length c2]) hz x (slotB_atom hx).1 (slotB_atom hx).2 W ((h.below hb).more hb.size))
  have HAL := Lib.hid hall
  have HB0 := Lib.hid hb0
  have P0 := Lib.hid p0
  have HR := Lib.hid hr
  have HBH := Lib.hid (fun W => sbehind_any word (Lx.pack (Lib.join (l.map (fun x : St.Atom => St.atomL names x.v x.l)) [32, 44, 32])) (by omega) (by rw [Lx.pack_size]; omega) W)
  rw [hbr] at HBH
  have hrl : (St.rowL names (l.map St.toSlot)).length ≤ 26 * l.length + 1 := by
    have := congrArg ByteArray.size hbr
    unfold behB at this
    split at this
    · rename_i he
      rw [Lx.pack_size, List.length_append, show word.data.toList.length = word.size from by rw [Lib.size_eq]] at this
      omega
    · rw [ByteArray.size_append, ByteArray.size_append, Lx.pack_size, Lx.pack_size, List.length_append, show word.data.toList.length = word.size from by rw [Lib.size_eq]] at this
      have h1 : ({ data := #[32] } : ByteArray).size = 1 := rfl
      omega
  have hq : (9223372036854775807 < (Lx.pack (word.data.toList ++ St.rowL names (l.map St.toSlot))).size + 3) = False := eq_false (by rw [Lx.pack_size, List.length_append, show word.data.toList.length = word.size from by rw [Lib.size_eq]]; omega)
  have HEQ := Lib.hid (show Lx.pack (word.data.toList ++ St.rowL names (l.map St.toSlot)) ++ ({ data := #[32, 59, 10] } : ByteArray) = Lx.pack (St.lineW names word.data.toList (l.map St.toSlot)) from pack_app _ [32, 59, 10])
  have HJL := Lib.hid hjl
  obtain ⟨i0, hi0, hz0, hz1, hz2⟩ := info_parts Tryz.infoStrU
  have hmk := fun W => run_make_n 22 9 i0 (.string ByteArray.empty) Tryz.underlying22 hi0 hz0 hz1 rfl l.length (by rw [hz2]; omega) (by omega) W
  have hcf := Tryz.call42
  rw [← HEQ.out]
  generalize hLW : Lx.pack (word.data.toList ++ St.rowL names (l.map St.toSlot)) = lw at *
  clear hi0 hz0 hz1 hz2 h hN hU hr hall hb0 p0 hNm hjm hbr hln HEQ hjl hrl hLW
  have hst : TyAt (fun x : St.Atom => St.atomL names x.v x.l) (w.alloc (.cells #[.slice N names.length c1, .slice U up.length c2] 25)) l 0 ((w.alloc (.cells #[.slice N names.length c1, .slice U up.length c2] 25)).alloc (.cells (List.replicate l.length (.string ByteArray.empty)).toArray 9)) := ⟨(Below.refl _ _).alloc (Nat.le_refl _) _, by rw [targ_start]; exact Blk.new _ _ _⟩
  obtain ⟨w2, hw2⟩ : ∃ w2, w.alloc (.cells #[.slice N names.length c1, .slice U up.length c2] 25) = w2 := ⟨_, rfl⟩
  rw [hw2] at hst HB0 P0
  have HST := Lib.hid hst
  clear hst
  go_enter Tryz.func41, Tryz.ntmps41
  go_wp2
  go_loopw [17] (fun i wr => ∃ k : Nat, k ≤ l.length ∧ i = .int .i64 k ∧ Hid (TyAt (fun x : St.Atom => St.atomL names x.v x.l) w2 l k wr)) (fun i _ => l.length - (intOf i).toNat)
  case atStart => exact ⟨0, Nat.zero_le _, rfl, HST⟩
  case round =>
    clear HST
    obtain ⟨k, hk, rfl, HST⟩ := hrel
    have hbwr := HB0.out.trans (HST.out.below.mono HB0.out.size)
    by_cases hlt : k < l.length
    · obtain ⟨ad, x, rfl, hxb, hx, x0, x1⟩ := arow_at (HR.out.below hbwr) hlt
      have hxin := HAL.out x (List.mem_of_getElem? hx)
      have hxb2 : (ad.add (k * 2)).block < wr.heap.size := by rw [add_block]; exact Nat.lt_of_lt_of_le hxb hbwr.size
      have hal := (Below.refl wr.heap.size wr).alloc (Nat.le_refl _) (.cells #[.int .i64 x.v, .int .i64 x.l] 38)
      have hp2 := (P0.out.below HST.out.below P0.out.lt).below hal (P0.out.below HST.out.below P0.out.lt).lt
      have hbx := Blk.new wr 38 #[.int .i64 x.v, .int .i64 x.l]
      have hc := HONE.out x hxin _ (hbwr.trans (hal.mono hbwr.size))
      obtain ⟨W1, hW1⟩ : ∃ W1, wr.alloc (.cells #[.int .i64 x.v, .int .i64 x.l] 38) = W1 := ⟨_, rfl⟩
      rw [hW1] at hal hp2 hbx hc
      have d0 : W1.cell? ⟨w.heap.size, 0, none⟩ = some (.slice N names.length c1) := hp2.cell 0
      have d1 : W1.cell? ⟨w.heap.size, 1, none⟩ = some (.slice U up.length c2) := hp2.cell 1
      have e0 := hbx.cell 0
      have e1 := hbx.cell 1
      skip
      have HC := Lib.hid hc
      have HX := Lib.hid hx
      have HALL := Lib.hid hal
      have HTX : Hid (∀ t, t = Lx.pack ((fun x : St.Atom => St.atomL names x.v x.l) x) → Value.string t = Value.string (Lx.pack ((fun x : St.Atom => St.atomL names x.v x.l) x))) := Lib.hid fun t h => by rw [h]
      clear hx hxin hal hp2 hbx hc HONE
      go_wp2_with (fail)
      refine HC.out.mono ?_
      rintro e w4 ⟨rfl, hb4⟩
      have hb5 := HALL.out.trans (hb4.mono HALL.out.size)
      have hbk5 := HST.out.blk.below hb5 HST.out.blk.lt
      have hT : w2.heap.size < w4.heap.size := Nat.lt_of_lt_of_le HST.out.blk.lt hb5.size
      have hcz : w4.cell? ⟨w2.heap.size, k, none⟩ = some ((targ (fun x : St.Atom => St.atomL names x.v x.l) l k).getD k (.int .i64 0)) := by
        rw [hbk5.cell, List.getElem?_toArray, List.getElem?_eq_getElem (by rw [targ_length _ _ (Nat.le_of_lt hlt)]; exact hlt), List.getD_eq_getElem?_getD, List.getElem?_eq_getElem (by rw [targ_length _ _ (Nat.le_of_lt hlt)]; exact hlt)]
        rfl
      have hfz := hbk5.frozen k
      have hnew : TyAt (fun x : St.Atom => St.atomL names x.v x.l) w2 l (k + 1) (w4.setCell ⟨w2.heap.size, k, none⟩ (.string (Lx.pack ((fun x : St.Atom => St.atomL names x.v x.l) x)))) := by
        refine ⟨(HST.out.below.trans (hb5.mono HST.out.below.size)).setCell (p := ⟨w2.heap.size, k, none⟩) (Nat.le_refl _) _, ?_⟩
        have := hbk5.set_ k (.string (Lx.pack ((fun x : St.Atom => St.atomL names x.v x.l) x)))
        rw [List.setIfInBounds_toArray, targ_set _ HX.out] at this
        exact this
      have HN := Lib.hid hnew
      generalize (targ (fun x : St.Atom => St.atomL names x.v x.l) l k).getD k (.int .i64 0) = old at *
      clear hb4 hb5 hbk5 hnew d0 d1 x0 x1 e0 e1  HTX
      go_wp2
      go_roundw
      case rel => exact ⟨k + 1, by omega, by go_num, HN⟩
      case measure => simp [intOf]; omega
    · obtain rfl : k = l.length := by omega
      have hbk := HST.out.blk
      rw [targ_full] at hbk
      have hj := strings_Join w2.heap.size 0 l.length (l.map fun x => Lx.pack ((fun x : St.Atom => St.atomL names x.v x.l) x)) { data := #[32, 44, 32] } wr (fun j x hx => by
        rw [Nat.zero_add, hbk.cell, List.getElem?_toArray]
        unfold strs
        rw [List.getElem?_map, hx]
        rfl) hbk.lt (by rw [List.length_map]; omega) (by rw [List.length_map]; exact Nat.le_refl _) (by
          rw [List.map_map]
          exact Nat.le_trans HJL.out (by omega))
      rw [List.length_map, List.map_map] at hj
      have hj2 : Calls Tryz.prog 30 #[.slice (some ⟨w2.heap.size, 0, none⟩) l.length l.length, .string { data := #[32, 44, 32] }] wr fun e w' => e = .returned (.string (Lx.pack (Lib.join (l.map (fun x : St.Atom => St.atomL names x.v x.l)) [32, 44, 32]))) ∧ Below wr.heap.size wr w' := hj
      have HJ := Lib.hid hj2
      have HBW2 := Lib.hid hbwr
      clear hj hj2 hbk hbwr HONE
      generalize Lx.pack (Lib.join (l.map (fun x : St.Atom => St.atomL names x.v x.l)) [32, 44, 32]) = tx at *
      go_wp2_with (fail)
      refine HJ.out.mono ?_
      rintro e w5 ⟨rfl, hb5⟩
      have HB5 := Lib.hid (HBW2.out.trans (hb5.mono HBW2.out.size))
      clear hb5
      go_wp2_with (fail)
      refine (HBH.out _).mono ?_
      rintro e w6 ⟨rfl, rfl⟩
      go_wp2
      go_ret
      exact ⟨rfl, HB5.out⟩
set_option maxHeartbeats 8000000 in
theorem srowT_any (hz : checkN names up = 0) {A : Option Addr} {l : List St.Slot} (c : Nat) (word : ByteArray) (hw : word.size ≤ 100) (w : World) (h : IsLat w w.heap.size v names up) (hr : Row w w.heap.size A (fcells svs l)) (hl : l.length ≤ 12) (hall : ∀ x ∈ l, St.slotB up.length x = true) :
    Calls Tryz.prog 44 #[v, .string word, .slice A l.length c, .func (.func 45) #[] #[]] w (TellsT8 w (Lx.pack (St.lineW names word.data.toList (l)))) := by
  obtain ⟨⟨N, U, c1, c2, rfl, hN, hU⟩, hsh, hfew, hcaps⟩ := id h
  have hb0 : Below w.heap.size w (w.alloc (.cells #[.slice N names.length c1, .slice U up.length c2] 25)) := (Below.refl _ w).alloc (Nat.le_refl _) _
  have p0 := Blk.new w 25 #[.slice N names.length c1, .slice U up.length c2]
  have hNm := Cd.names_of hz
  have hjl := joinS_len hNm (l) (by exact hall)
  have hln : (l).length = l.length := by rfl
  rw [hln] at hjl
  have hjm : (l).map (St.slotL names) = l.map (St.slotL names) := by rfl
  have hbr := beh_row names word.data.toList (l)
  rw [hjm] at hjl hbr
  rw [Lx.pack_data] at hbr
  have HONE := Lib.hid (fun (x : St.Slot) (hx : St.slotB up.length x = true) W (hb : Below w.heap.size w W) => sslotT_any (v := .agg #[.slice N names.length c1, .slice U up.length c2]) hz x hx W ((h.below hb).more hb.size))
  have HAL := Lib.hid hall
  have HB0 := Lib.hid hb0
  have P0 := Lib.hid p0
  have HR := Lib.hid hr
  have HBH := Lib.hid (fun W => sbehind_any word (Lx.pack (Lib.join (l.map (St.slotL names)) [32, 44, 32])) (by omega) (by rw [Lx.pack_size]; omega) W)
  rw [hbr] at HBH
  have hrl : (St.rowL names (l)).length ≤ 26 * l.length + 1 := by
    have := congrArg ByteArray.size hbr
    unfold behB at this
    split at this
    · rename_i he
      rw [Lx.pack_size, List.length_append, show word.data.toList.length = word.size from by rw [Lib.size_eq]] at this
      omega
    · rw [ByteArray.size_append, ByteArray.size_append, Lx.pack_size, Lx.pack_size, List.length_append, show word.data.toList.length = word.size from by rw [Lib.size_eq]] at this
      have h1 : ({ data := #[32] } : ByteArray).size = 1 := rfl
      omega
  have hq : (9223372036854775807 < (Lx.pack (word.data.toList ++ St.rowL names (l))).size + 3) = False := eq_false (by rw [Lx.pack_size, List.length_append, show word.data.toList.length = word.size from by rw [Lib.size_eq]]; omega)
  have HEQ := Lib.hid (show Lx.pack (word.data.toList ++ St.rowL names (l)) ++ ({ data := #[32, 59, 10] } : ByteArray) = Lx.pack (St.lineW names word.data.toList (l)) from pack_app _ [32, 59, 10])
  have HJL := Lib.hid hjl
  obtain ⟨i0, hi0, hz0, hz1, hz2⟩ := info_parts Tryz.infoStrU
  have hmk := fun W => run_make_n 22 9 i0 (.string ByteArray.empty) Tryz.underlying22 hi0 hz0 hz1 rfl l.length (by rw [hz2]; omega) (by omega) W
  have hcf := Tryz.call45
  rw [← HEQ.out]
  generalize hLW : Lx.pack (word.data.toList ++ St.rowL names (l)) = lw at *
  clear hi0 hz0 hz1 hz2 h hN hU hr hall hb0 p0 hNm hjm hbr hln HEQ hjl hrl hLW
  have hst : TyAt (St.slotL names) (w.alloc (.cells #[.slice N names.length c1, .slice U up.length c2] 25)) l 0 ((w.alloc (.cells #[.slice N names.length c1, .slice U up.length c2] 25)).alloc (.cells (List.replicate l.length (.string ByteArray.empty)).toArray 9)) := ⟨(Below.refl _ _).alloc (Nat.le_refl _) _, by rw [targ_start]; exact Blk.new _ _ _⟩
  obtain ⟨w2, hw2⟩ : ∃ w2, w.alloc (.cells #[.slice N names.length c1, .slice U up.length c2] 25) = w2 := ⟨_, rfl⟩
  rw [hw2] at hst HB0 P0
  have HST := Lib.hid hst
  clear hst
  go_enter Tryz.func44, Tryz.ntmps44
  go_wp2
  go_loopw [17] (fun i wr => ∃ k : Nat, k ≤ l.length ∧ i = .int .i64 k ∧ Hid (TyAt (St.slotL names) w2 l k wr)) (fun i _ => l.length - (intOf i).toNat)
  case atStart => exact ⟨0, Nat.zero_le _, rfl, HST⟩
  case round =>
    clear HST
    obtain ⟨k, hk, rfl, HST⟩ := hrel
    have hbwr := HB0.out.trans (HST.out.below.mono HB0.out.size)
    by_cases hlt : k < l.length
    · obtain ⟨ad, x, rfl, hxb, hx, x0, x1, x2⟩ := srow_at (HR.out.below hbwr) hlt
      have hxin := HAL.out x (List.mem_of_getElem? hx)
      have hxb2 : (ad.add (k * 3)).block < wr.heap.size := by rw [add_block]; exact Nat.lt_of_lt_of_le hxb hbwr.size
      have hal := (Below.refl wr.heap.size wr).alloc (Nat.le_refl _) (.cells #[.bool x.ret, .int .i64 x.v, .int .i64 x.l] 73)
      have hp2 := (P0.out.below HST.out.below P0.out.lt).below hal (P0.out.below HST.out.below P0.out.lt).lt
      have hbx := Blk.new wr 73 #[.bool x.ret, .int .i64 x.v, .int .i64 x.l]
      have hc := HONE.out x hxin _ (hbwr.trans (hal.mono hbwr.size))
      obtain ⟨W1, hW1⟩ : ∃ W1, wr.alloc (.cells #[.bool x.ret, .int .i64 x.v, .int .i64 x.l] 73) = W1 := ⟨_, rfl⟩
      rw [hW1] at hal hp2 hbx hc
      have d0 : W1.cell? ⟨w.heap.size, 0, none⟩ = some (.slice N names.length c1) := hp2.cell 0
      have d1 : W1.cell? ⟨w.heap.size, 1, none⟩ = some (.slice U up.length c2) := hp2.cell 1
      have e0 := hbx.cell 0
      have e1 := hbx.cell 1
      have e2 := hbx.cell 2
      have HC := Lib.hid hc
      have HX := Lib.hid hx
      have HALL := Lib.hid hal
      have HTX : Hid (∀ t, t = Lx.pack ((St.slotL names) x) → Value.string t = Value.string (Lx.pack ((St.slotL names) x))) := Lib.hid fun t h => by rw [h]
      clear hx hxin hal hp2 hbx hc HONE
      go_wp2_with (fail)
      refine HC.out.mono ?_
      rintro e w4 ⟨rfl, hb4⟩
      have hb5 := HALL.out.trans (hb4.mono HALL.out.size)
      have hbk5 := HST.out.blk.below hb5 HST.out.blk.lt
      have hT : w2.heap.size < w4.heap.size := Nat.lt_of_lt_of_le HST.out.blk.lt hb5.size
      have hcz : w4.cell? ⟨w2.heap.size, k, none⟩ = some ((targ (St.slotL names) l k).getD k (.int .i64 0)) := by
        rw [hbk5.cell, List.getElem?_toArray, List.getElem?_eq_getElem (by rw [targ_length _ _ (Nat.le_of_lt hlt)]; exact hlt), List.getD_eq_getElem?_getD, List.getElem?_eq_getElem (by rw [targ_length _ _ (Nat.le_of_lt hlt)]; exact hlt)]
        rfl
      have hfz := hbk5.frozen k
      have hnew : TyAt (St.slotL names) w2 l (k + 1) (w4.setCell ⟨w2.heap.size, k, none⟩ (.string (Lx.pack ((St.slotL names) x)))) := by
        refine ⟨(HST.out.below.trans (hb5.mono HST.out.below.size)).setCell (p := ⟨w2.heap.size, k, none⟩) (Nat.le_refl _) _, ?_⟩
        have := hbk5.set_ k (.string (Lx.pack ((St.slotL names) x)))
        rw [List.setIfInBounds_toArray, targ_set _ HX.out] at this
        exact this
      have HN := Lib.hid hnew
      generalize (targ (St.slotL names) l k).getD k (.int .i64 0) = old at *
      clear hb4 hb5 hbk5 hnew d0 d1 x0 x1 x2 e0 e1 e2 HTX
      go_wp2
      go_roundw
      case rel => exact ⟨k + 1, by omega, by go_num, HN⟩
      case measure => simp [intOf]; omega
    · obtain rfl : k = l.length := by omega
      have hbk := HST.out.blk
      rw [targ_full] at hbk
      have hj := strings_Join w2.heap.size 0 l.length (l.map fun x => Lx.pack ((St.slotL names) x)) { data := #[32, 44, 32] } wr (fun j x hx => by
        rw [Nat.zero_add, hbk.cell, List.getElem?_toArray]
        unfold strs
        rw [List.getElem?_map, hx]
        rfl) hbk.lt (by rw [List.length_map]; omega) (by rw [List.length_map]; exact Nat.le_refl _) (by
          rw [List.map_map]
          exact Nat.le_trans HJL.out (by omega))
      rw [List.length_map, List.map_map] at hj
      have hj2 : Calls Tryz.prog 30 #[.slice (some ⟨w2.heap.size, 0, none⟩) l.length l.length, .string { data := #[32, 44, 32] }] wr fun e w' => e = .returned (.string (Lx.pack (Lib.join (l.map (St.slotL names)) [32, 44, 32]))) ∧ Below wr.heap.size wr w' := hj
      have HJ := Lib.hid hj2
      have HBW2 := Lib.hid hbwr
      clear hj hj2 hbk hbwr HONE
      generalize Lx.pack (Lib.join (l.map (St.slotL names)) [32, 44, 32]) = tx at *
      go_wp2_with (fail)
      refine HJ.out.mono ?_
      rintro e w5 ⟨rfl, hb5⟩
      have HB5 := Lib.hid (HBW2.out.trans (hb5.mono HBW2.out.size))
      clear hb5
      go_wp2_with (fail)
      refine (HBH.out _).mono ?_
      rintro e w6 ⟨rfl, rfl⟩
      go_wp2
      go_ret
      exact ⟨rfl, HB5.out⟩
end
end Go.Proofs.YtipbilmnknmhmaaGreatDoor

/- Walk of state.Text (by gen_stmu.py). -/
namespace Go.Proofs.YtipbilmnknmhmaaGreatDoor
set_option maxRecDepth 100000
open Go.RowKit Go.Shelf Go.Sort
attribute [local go_sem] Oper.semAt_some
theorem rowL_len {names : List ByteArray} {k : Nat} (hN : Cd.Names names k) (xs : List St.Slot) (h : ∀ x ∈ xs, St.slotB k x = true) : (St.rowL names xs).length ≤ 26 * xs.length := by
  have h2 : ∀ ys : List St.Slot, (∀ x ∈ ys, St.slotB k x = true) → (ys.flatMap fun y => [32, 44, 32] ++ St.slotL names y).length ≤ 26 * ys.length := fun ys => by
    induction ys with
    | nil => intro _; simp
    | cons y ys ih =>
      intro h
      have h3 := slotL_len hN (h y (by simp))
      have h4 := ih fun z hz => h z (by simp [hz])
      rw [List.flatMap_cons, List.length_append, List.length_append]
      simp only [List.length_cons, List.length_nil] at h4 ⊢
      omega
  cases xs with
  | nil => exact Nat.zero_le _
  | cons x xs =>
    have h1 := slotL_len hN (h x (by simp))
    have h5 := h2 xs fun z hz => h z (by simp [hz])
    unfold St.rowL
    simp only [List.length_append, List.length_cons]
    omega
theorem lineW_len {names : List ByteArray} {k : Nat} (hN : Cd.Names names k) (word : List UInt8) (xs : List St.Slot) (h : ∀ x ∈ xs, St.slotB k x = true) : (Lx.pack (St.lineW names word xs)).size ≤ word.length + 26 * xs.length + 3 := by
  have := rowL_len hN xs h
  rw [Lx.pack_size]
  unfold St.lineW
  simp only [List.length_append, List.length_cons, List.length_nil]
  omega
theorem textL_nil {names : List ByteArray} {l : List Cd.In} (h : Cd.textL names l = []) : l = [] := by
  cases l with
  | nil => rfl
  | cons x l =>
    unfold Cd.textL at h
    rw [List.map_cons, Lib.join_cons] at h
    have := (List.append_eq_nil_iff.1 h).1
    unfold Cd.insL at this
    simp at this
theorem beh_code (names : List ByteArray) (l : List Cd.In) : behB ({ data := #[99, 111, 100, 101] } : ByteArray) (Lx.pack (Cd.textL names l)) = Lx.pack ([99, 111, 100, 101] ++ if l = [] then [] else 32 :: Cd.textL names l) := by
  unfold behB
  by_cases h : l = []
  · subst h
    rw [if_pos (by unfold Cd.textL; simp [Lib.join_nil, Lx.pack]; rfl), if_pos rfl]
    rfl
  · rw [if_neg (fun e => h (textL_nil (pack_empty e))), if_neg h, show ({ data := #[99, 111, 100, 101] } : ByteArray) = Lx.pack [99, 111, 100, 101] from rfl, show ({ data := #[32] } : ByteArray) = Lx.pack [32] from rfl, pack_app, pack_app]
    congr 1
theorem slotB_toSlot (k : Nat) (x : St.Atom) : St.slotB k (St.toSlot x) = St.atomB k x := by
  unfold St.slotB St.toSlot St.atomB
  simp
theorem five_parts (names : List ByteArray) (s : St.State) : Lx.pack (St.lineW names [112, 99] [St.toSlot s.pc]) ++ Lx.pack ([99, 111, 100, 101] ++ if s.code = [] then [] else 32 :: Cd.textL names s.code) ++ ({ data := #[10] } : ByteArray) ++ Lx.pack (St.lineW names [109, 101, 109] (s.mem.map St.toSlot)) ++ Lx.pack (St.lineW names [115, 116, 97, 99, 107] s.stack) ++ Lx.pack (St.lineW names [111, 117, 116] (s.out.map St.toSlot)) = Lx.pack (St.textL names s) := by
  rw [St.text_byte, show ({ data := #[10] } : ByteArray) = Lx.pack [10] from rfl, pack_app, pack_app, pack_app, pack_app, pack_app]
  congr 1
  unfold St.textB
  rw [show St.lineW names [112, 99] [St.toSlot s.pc] = [112, 99, 32] ++ St.atomL names s.pc.v s.pc.l ++ [32, 59, 10] by simp [St.lineW, St.rowL, St.slotL, St.toSlot]]
  simp only [List.append_assoc]
set_option maxHeartbeats 16000000 in
theorem stext_any {v sv : Value} {names : List ByteArray} {up : List Nat} {s : St.State} (w : World) (h : IsLat w w.heap.size v names up) (hs : IsSt w w.heap.size sv s) (hsm : SmallS s) (hi : Ins w) :
    Calls Tryz.prog 18 #[v, sv] w (Wrote w (St.text names up s)) := by
  obtain ⟨⟨N, U, c1, c2, rfl, hN, hU⟩, hsh, hfew, hcaps⟩ := id h
  have hpub : pubS names up s = (decide (checkN names up = 0) && St.rightB up.length s) := rfl
  have hfive := five_parts names s
  have HRT := Lib.hid (fun W (hb : Below w.heap.size w W) => sright_any (v := .agg #[.slice N names.length c1, .slice U up.length c2]) W ((h.below hb).more hb.size) ((hs.below hb).more hb.size) hsm)
  have htext : St.text names up s = if checkN names up = 0 then (if St.rightB up.length s = true then (Lx.pack (St.textL names s), 0) else (ByteArray.empty, 1)) else (ByteArray.empty, checkN names up) := rfl
  rw [htext]
  rw [hpub] at HRT
  obtain ⟨⟨pv, pl⟩, code, mem, stack, out⟩ := s
  obtain ⟨cv, mv, stv_, ov, rfl, ⟨cA, cc, rfl, hcr, hcc⟩, ⟨mA, mc, rfl, hmr, hmc⟩, ⟨sA, sc, rfl, hsr, hsc⟩, ⟨oA, oc, rfl, hor, hoc⟩⟩ := hs
  obtain ⟨hs1, hs2, hs3, hs4⟩ := hsm
  unfold stv at HRT ⊢
  dsimp only at hcr hcc hmr hmc hsr hsc hor hoc hs1 hs2 hs3 hs4 hfive HRT ⊢
  have hb0 := (((Below.refl _ w).alloc (Nat.le_refl _) (.cells #[.slice N names.length c1, .slice U up.length c2] 25)).alloc (by simp) (.cells #[.int .i64 pv, .int .i64 pl, .slice cA code.length cc, .slice mA mem.length mc, .slice sA stack.length sc, .slice oA out.length oc] 42))
  obtain ⟨W0, hW0⟩ : ∃ W0, (w.alloc (.cells #[.slice N names.length c1, .slice U up.length c2] 25)).alloc (.cells #[.int .i64 pv, .int .i64 pl, .slice cA code.length cc, .slice mA mem.length mc, .slice sA stack.length sc, .slice oA out.length oc] 42) = W0 := ⟨_, rfl⟩
  have hp0 : Blk W0 w.heap.size 25 #[.slice N names.length c1, .slice U up.length c2] := hW0 ▸ (Blk.new _ _ _).alloc _
  have hq0 : Blk W0 (w.heap.size + 1) 42 #[.int .i64 pv, .int .i64 pl, .slice cA code.length cc, .slice mA mem.length mc, .slice sA stack.length sc, .slice oA out.length oc] := by
    have h1 := Blk.new (w.alloc (.cells #[.slice N names.length c1, .slice U up.length c2] 25)) 42 #[.int .i64 pv, .int .i64 pl, .slice cA code.length cc, .slice mA mem.length mc, .slice sA stack.length sc, .slice oA out.length oc]
    rw [show (w.alloc (.cells #[.slice N names.length c1, .slice U up.length c2] 25)).heap.size = w.heap.size + 1 by simp] at h1
    rw [← hW0]; exact h1
  rw [hW0] at hb0
  have a0 : W0.cell? ⟨w.heap.size, 0, none⟩ = some (.slice N names.length c1) := hp0.cell 0
  have a1 : W0.cell? ⟨w.heap.size, 1, none⟩ = some (.slice U up.length c2) := hp0.cell 1
  have hch := check_any _ ((h.below hb0).more hb0.size)
  have HP0 := Lib.hid hp0
  have HQ0 := Lib.hid hq0
  have HB0 := Lib.hid hb0
  obtain ⟨n, hn⟩ : ∃ n, checkN names up = n := ⟨_, rfl⟩
  rw [hn] at hch HRT ⊢
  have HCH := Lib.hid hch
  by_cases hz : n = 0
  · subst hz
    rw [if_pos rfl]
    rw [decide_eq_true rfl, Bool.true_and] at HRT
    cases hrb : St.rightB up.length ⟨⟨pv, pl⟩, code, mem, stack, out⟩ with
    | false =>
      rw [if_neg (by decide)]
      rw [hrb] at HRT
      clear h hi hN hU hb0 hp0 hq0 hch hn hcr hmr hsr hor hpub hfive htext hrb
      go_enter Tryz.func18, Tryz.ntmps18
      go_wp2_with (go_at_call 27; refine HCH.out.mono ?_)
      rintro e w1 ⟨rfl, hb1⟩
      have HP1 := Lib.hid (HP0.out.below hb1 HP0.out.lt)
      have HQ1 := Lib.hid (HQ0.out.below hb1 HQ0.out.lt)
      have HB1 := Lib.hid (HB0.out.trans (hb1.mono HB0.out.size))
      clear hb1
      have s0 : w1.cell? ⟨w.heap.size, 0, none⟩ = some (.slice N names.length c1) := HP1.out.cell 0
      have s1 : w1.cell? ⟨w.heap.size, 1, none⟩ = some (.slice U up.length c2) := HP1.out.cell 1
      have s2 : w1.cell? ⟨w.heap.size + 1, 0, none⟩ = some (.int .i64 pv) := HQ1.out.cell 0
      have s3 : w1.cell? ⟨w.heap.size + 1, 1, none⟩ = some (.int .i64 pl) := HQ1.out.cell 1
      have s4 : w1.cell? ⟨w.heap.size + 1, 2, none⟩ = some (.slice cA code.length cc) := HQ1.out.cell 2
      have s5 : w1.cell? ⟨w.heap.size + 1, 3, none⟩ = some (.slice mA mem.length mc) := HQ1.out.cell 3
      have s6 : w1.cell? ⟨w.heap.size + 1, 4, none⟩ = some (.slice sA stack.length sc) := HQ1.out.cell 4
      have s7 : w1.cell? ⟨w.heap.size + 1, 5, none⟩ = some (.slice oA out.length oc) := HQ1.out.cell 5
      have HR1 := Lib.hid (HRT.out w1 HB1.out)
      clear HRT
      go_wp2_with (fail)
      refine HR1.out.mono ?_
      rintro e w2 ⟨rfl, hb2⟩
      have HB2 := Lib.hid (HB1.out.trans (hb2.mono HB1.out.size))
      clear hb2 s0 s1 s2 s3 s4 s5 s6 s7
      go_wp2
      go_ret2
      exact ⟨rfl, HB2.out⟩
    | true =>
      rw [if_pos rfl]
      rw [hrb] at HRT
      have hNm := Cd.names_of hn
      have hrb2 := hrb
      unfold St.rightB at hrb2
      simp only [Bool.and_eq_true] at hrb2
      obtain ⟨⟨⟨⟨r1, ⟨r2a, r2b⟩⟩, ⟨r3a, r3b⟩⟩, ⟨r4a, r4b⟩⟩, ⟨r5a, r5b⟩⟩ := hrb2
      have m6 := of_decide_eq_true r3a
      have m12 := of_decide_eq_true r4a
      have m8 := of_decide_eq_true r5a
      have hmem : ∀ x ∈ mem, St.slotB up.length (St.toSlot x) = true := fun x hx => by rw [slotB_toSlot]; exact List.all_eq_true.1 r3b x hx
      have hstk : ∀ x ∈ stack, St.slotB up.length x = true := fun x hx => List.all_eq_true.1 r4b x hx
      have hout : ∀ x ∈ out, St.slotB up.length (St.toSlot x) = true := fun x hx => by rw [slotB_toSlot]; exact List.all_eq_true.1 r5b x hx
      have hpc : ∀ x ∈ [(⟨pv, pl⟩ : St.Atom)], St.slotB up.length (St.toSlot x) = true := fun x hx => by
        rw [List.mem_singleton.1 hx, slotB_toSlot]
        unfold St.atomB
        rw [show St.valB pv = true from by unfold St.pcB at r2a; unfold St.valB; have := of_decide_eq_true r2a; exact decide_eq_true (by omega), r2b]
        rfl
      have HT1 := Lib.hid (fun W (hb : Below w.heap.size w W) => ctext_any (v := .agg #[.slice N names.length c1, .slice U up.length c2]) cc W ((h.below hb).more hb.size) ((hcr.below hb).more hb.size) hs1 (hi.below hb hi.lt))
      have htc : Cd.text names up code = (Lx.pack (Cd.textL names code), 0) := by unfold Cd.text; rw [if_pos hn, r1, if_pos rfl]
      rw [htc] at HT1
      have HL1 := Lib.hid (fun W (hb : Below w.heap.size w W) {A : Option Addr} (hr : Row W W.heap.size A (fcells avs [⟨pv, pl⟩])) => arowT_any (v := .agg #[.slice N names.length c1, .slice U up.length c2]) hn (l := [⟨pv, pl⟩]) 1 { data := #[112, 99] } (by decide) W ((h.below hb).more hb.size) hr (by simp) hpc)
      have HL2 := Lib.hid (fun W (hb : Below w.heap.size w W) => arowT_any (v := .agg #[.slice N names.length c1, .slice U up.length c2]) hn mc { data := #[109, 101, 109] } (by decide) W ((h.below hb).more hb.size) ((hmr.below hb).more hb.size) (by omega) hmem)
      have HL3 := Lib.hid (fun W (hb : Below w.heap.size w W) => srowT_any (v := .agg #[.slice N names.length c1, .slice U up.length c2]) hn sc { data := #[115, 116, 97, 99, 107] } (by decide) W ((h.below hb).more hb.size) ((hsr.below hb).more hb.size) m12 hstk)
      have HL4 := Lib.hid (fun W (hb : Below w.heap.size w W) => arowT_any (v := .agg #[.slice N names.length c1, .slice U up.length c2]) hn oc { data := #[111, 117, 116] } (by decide) W ((h.below hb).more hb.size) ((hor.below hb).more hb.size) (by omega) hout)
      have hcl := Cd.textL_len hNm r1
      have HBH := Lib.hid (fun W => sbehind_any ({ data := #[99, 111, 100, 101] } : ByteArray) (Lx.pack (Cd.textL names code)) (by decide) (by rw [Lx.pack_size]; omega) W)
      rw [beh_code] at HBH
      have z1 := lineW_len hNm [112, 99] [St.toSlot ⟨pv, pl⟩] (fun x hx => by rw [List.mem_singleton.1 hx]; exact hpc _ (by simp))
      have z2 := lineW_len hNm [109, 101, 109] (mem.map St.toSlot) (fun x hx => by obtain ⟨y, hy, rfl⟩ := List.mem_map.1 hx; exact hmem y hy)
      have z3 := lineW_len hNm [115, 116, 97, 99, 107] stack hstk
      have z4 := lineW_len hNm [111, 117, 116] (out.map St.toSlot) (fun x hx => by obtain ⟨y, hy, rfl⟩ := List.mem_map.1 hx; exact hout y hy)
      have z5 : (Lx.pack ([99, 111, 100, 101] ++ if code = [] then [] else 32 :: Cd.textL names code)).size ≤ 400 := by
        rw [Lx.pack_size, List.length_append]
        split
        · decide
        · simp only [List.length_cons, List.length_nil]; omega
      rw [List.length_map] at z2 z4
      simp only [List.length_cons, List.length_nil] at z1 z2 z3 z4
      have HEQ := Lib.hid hfive
      change Hid (∀ W (hb : Below w.heap.size w W) {A : Option Addr} (hr : Row W W.heap.size A (fcells avs [⟨pv, pl⟩])), Calls Tryz.prog 41 #[.agg #[.slice N names.length c1, .slice U up.length c2], .string { data := #[112, 99] }, .slice A 1 1, .func (.func 42) #[] #[]] W (TellsT8 W (Lx.pack (St.lineW names [112, 99] [St.toSlot ⟨pv, pl⟩])))) at HL1
      change Hid (∀ W (hb : Below w.heap.size w W), Calls Tryz.prog 41 #[.agg #[.slice N names.length c1, .slice U up.length c2], .string { data := #[109, 101, 109] }, .slice mA mem.length mc, .func (.func 42) #[] #[]] W (TellsT8 W (Lx.pack (St.lineW names [109, 101, 109] (mem.map St.toSlot))))) at HL2
      change Hid (∀ W (hb : Below w.heap.size w W), Calls Tryz.prog 44 #[.agg #[.slice N names.length c1, .slice U up.length c2], .string { data := #[115, 116, 97, 99, 107] }, .slice sA stack.length sc, .func (.func 45) #[] #[]] W (TellsT8 W (Lx.pack (St.lineW names [115, 116, 97, 99, 107] stack)))) at HL3
      change Hid (∀ W (hb : Below w.heap.size w W), Calls Tryz.prog 41 #[.agg #[.slice N names.length c1, .slice U up.length c2], .string { data := #[111, 117, 116] }, .slice oA out.length oc, .func (.func 42) #[] #[]] W (TellsT8 W (Lx.pack (St.lineW names [111, 117, 116] (out.map St.toSlot))))) at HL4
      generalize Lx.pack (St.lineW names [112, 99] [St.toSlot ⟨pv, pl⟩]) = t1 at *
      generalize Lx.pack (St.lineW names [109, 101, 109] (mem.map St.toSlot)) = t2 at *
      generalize Lx.pack (St.lineW names [115, 116, 97, 99, 107] stack) = t3 at *
      generalize Lx.pack (St.lineW names [111, 117, 116] (out.map St.toSlot)) = t4 at *
      generalize Lx.pack ([99, 111, 100, 101] ++ if code = [] then [] else 32 :: Cd.textL names code) = t5 at *
      generalize Lx.pack (Cd.textL names code) = t6 at *
      have q1 : (9223372036854775807 < t1.size + t5.size) = False := eq_false (by omega)
      have q2 : (9223372036854775807 < t1.size + t5.size + 1) = False := eq_false (by omega)
      have q3 : (9223372036854775807 < t1.size + t5.size + 1 + t2.size) = False := eq_false (by omega)
      have q4 : (9223372036854775807 < t1.size + t5.size + 1 + t2.size + t3.size) = False := eq_false (by omega)
      have q5 : (9223372036854775807 < t1.size + t5.size + 1 + t2.size + t3.size + t4.size) = False := eq_false (by omega)
      clear h hi hN hU hb0 hp0 hq0 hch hn hcr hmr hsr hor hpub hfive htext hrb hNm r1 r2a r2b r3a r3b r4a r4b r5a r5b m6 m12 m8 hmem hstk hout hpc htc hcl z1 z2 z3 z4 z5 hs1 hs2 hs3 hs4 hcc hmc hsc hoc
      go_enter Tryz.func18, Tryz.ntmps18
      go_wp2_with (go_at_call 27; refine HCH.out.mono ?_)
      rintro e w1 ⟨rfl, hb1⟩
      have HP1 := Lib.hid (HP0.out.below hb1 HP0.out.lt)
      have HQ1 := Lib.hid (HQ0.out.below hb1 HQ0.out.lt)
      have HB1 := Lib.hid (HB0.out.trans (hb1.mono HB0.out.size))
      clear hb1
      have s0 : w1.cell? ⟨w.heap.size, 0, none⟩ = some (.slice N names.length c1) := HP1.out.cell 0
      have s1 : w1.cell? ⟨w.heap.size, 1, none⟩ = some (.slice U up.length c2) := HP1.out.cell 1
      have s2 : w1.cell? ⟨w.heap.size + 1, 0, none⟩ = some (.int .i64 pv) := HQ1.out.cell 0
      have s3 : w1.cell? ⟨w.heap.size + 1, 1, none⟩ = some (.int .i64 pl) := HQ1.out.cell 1
      have s4 : w1.cell? ⟨w.heap.size + 1, 2, none⟩ = some (.slice cA code.length cc) := HQ1.out.cell 2
      have s5 : w1.cell? ⟨w.heap.size + 1, 3, none⟩ = some (.slice mA mem.length mc) := HQ1.out.cell 3
      have s6 : w1.cell? ⟨w.heap.size + 1, 4, none⟩ = some (.slice sA stack.length sc) := HQ1.out.cell 4
      have s7 : w1.cell? ⟨w.heap.size + 1, 5, none⟩ = some (.slice oA out.length oc) := HQ1.out.cell 5
      have HR1 := Lib.hid (HRT.out w1 HB1.out)
      clear HRT
      go_wp2_with (fail)
      refine HR1.out.mono ?_
      rintro e w2 ⟨rfl, hb2⟩
      have HP2 := Lib.hid (HP1.out.below hb2 HP1.out.lt)
      have HQ2 := Lib.hid (HQ1.out.below hb2 HQ1.out.lt)
      have HB2 := Lib.hid (HB1.out.trans (hb2.mono HB1.out.size))
      clear hb2 s0 s1 s2 s3 s4 s5 s6 s7 HR1
      have s0 : w2.cell? ⟨w.heap.size, 0, none⟩ = some (.slice N names.length c1) := HP2.out.cell 0
      have s1 : w2.cell? ⟨w.heap.size, 1, none⟩ = some (.slice U up.length c2) := HP2.out.cell 1
      have s2 : w2.cell? ⟨w.heap.size + 1, 0, none⟩ = some (.int .i64 pv) := HQ2.out.cell 0
      have s3 : w2.cell? ⟨w.heap.size + 1, 1, none⟩ = some (.int .i64 pl) := HQ2.out.cell 1
      have s4 : w2.cell? ⟨w.heap.size + 1, 2, none⟩ = some (.slice cA code.length cc) := HQ2.out.cell 2
      have s5 : w2.cell? ⟨w.heap.size + 1, 3, none⟩ = some (.slice mA mem.length mc) := HQ2.out.cell 3
      have s6 : w2.cell? ⟨w.heap.size + 1, 4, none⟩ = some (.slice sA stack.length sc) := HQ2.out.cell 4
      have s7 : w2.cell? ⟨w.heap.size + 1, 5, none⟩ = some (.slice oA out.length oc) := HQ2.out.cell 5
      have HC2 := Lib.hid (HT1.out w2 HB2.out)
      clear HT1
      go_wp2_with (fail)
      refine HC2.out.mono ?_
      rintro e w3 ⟨rfl, hb3⟩
      have HPw3 := Lib.hid (HP2.out.below hb3 HP2.out.lt)
      have HQw3 := Lib.hid (HQ2.out.below hb3 HQ2.out.lt)
      have HBw3 := Lib.hid (HB2.out.trans (hb3.mono HB2.out.size))
      clear hb3 s0 s1 s2 s3 s4 s5 s6 s7 HC2
      have s0 : w3.cell? ⟨w.heap.size, 0, none⟩ = some (.slice N names.length c1) := HPw3.out.cell 0
      have s1 : w3.cell? ⟨w.heap.size, 1, none⟩ = some (.slice U up.length c2) := HPw3.out.cell 1
      have s2 : w3.cell? ⟨w.heap.size + 1, 0, none⟩ = some (.int .i64 pv) := HQw3.out.cell 0
      have s3 : w3.cell? ⟨w.heap.size + 1, 1, none⟩ = some (.int .i64 pl) := HQw3.out.cell 1
      have s4 : w3.cell? ⟨w.heap.size + 1, 2, none⟩ = some (.slice cA code.length cc) := HQw3.out.cell 2
      have s5 : w3.cell? ⟨w.heap.size + 1, 3, none⟩ = some (.slice mA mem.length mc) := HQw3.out.cell 3
      have s6 : w3.cell? ⟨w.heap.size + 1, 4, none⟩ = some (.slice sA stack.length sc) := HQw3.out.cell 4
      have s7 : w3.cell? ⟨w.heap.size + 1, 5, none⟩ = some (.slice oA out.length oc) := HQw3.out.cell 5
      go_wp2_with (fail)
      refine Free.region_seq [3, 4, 6, 12, 17, 22] [0, 2, 9, 11, 14, 16, 19, 21] 22 (fun W' => W'.cell? ⟨w.heap.size, 0, none⟩ = some (.slice N names.length c1) ∧ W'.cell? ⟨w.heap.size, 1, none⟩ = some (.slice U up.length c2) ∧ W'.cell? ⟨w.heap.size + 1, 0, none⟩ = some (.int .i64 pv) ∧ W'.cell? ⟨w.heap.size + 1, 1, none⟩ = some (.int .i64 pl) ∧ W'.cell? ⟨w.heap.size + 1, 2, none⟩ = some (.slice cA code.length cc) ∧ W'.cell? ⟨w.heap.size + 1, 3, none⟩ = some (.slice mA mem.length mc) ∧ W'.cell? ⟨w.heap.size + 1, 4, none⟩ = some (.slice sA stack.length sc) ∧ W'.cell? ⟨w.heap.size + 1, 5, none⟩ = some (.slice oA out.length oc)) (by kernel_rfl) (by kernel_rfl) (by kernel_rfl) (by kernel_rfl) (⟨s0, s1, s2, s3, s4, s5, s6, s7⟩) (fun ops hops => ?_)
      clear hops
      iterate 3
        refine Free.Seq.quiet (v := ?_) (a' := ?_) rfl rfl (fun W' hW' => ?_) ?_ ?_
        rotate_left 2
        · first | obtain ⟨u0, u1, u2, u3, u4, u5, u6, u7⟩ := hW' rfl | skip
          go_simp
          try with_reducible rfl
        · simp only [Act.put, List.setIfInBounds_toArray, List.set_cons_zero, List.set_cons_succ]
          try with_reducible rfl
      refine Free.Seq.loud_ rfl (.inl rfl) (fun K hK => ?_)
      go_simp
      have hba : Below w3.heap.size w3 (w3.alloc (.cells #[.int .i64 pv, .int .i64 pl] 38)).drew := ((Below.refl _ w3).alloc (Nat.le_refl _) _).drew
      have hbn := (Blk.new w3 38 #[.int .i64 pv, .int .i64 pl]).drew9
      obtain ⟨wa, hwa⟩ : ∃ wa, (w3.alloc (.cells #[.int .i64 pv, .int .i64 pl] 38)).drew = wa := ⟨_, rfl⟩
      rw [hwa] at hba hbn
      have HPwa := Lib.hid (HPw3.out.below hba HPw3.out.lt)
      have HQwa := Lib.hid (HQw3.out.below hba HQw3.out.lt)
      have HBwa := Lib.hid (HBw3.out.trans (hba.mono HBw3.out.size))
      have hrow1 : Row wa wa.heap.size (some ⟨w3.heap.size, 0, none⟩) (fcells avs [⟨pv, pl⟩]) := fun _ => ⟨⟨w3.heap.size, 0, none⟩, rfl, hbn.lt, fun j u hu => by
        rcases j with _ | _ | j
        · have := hbn.cell 0
          simp [fcells, avs] at hu
          subst hu
          exact this
        · have := hbn.cell 1
          simp [fcells, avs] at hu
          subst hu
          exact this
        · simp [fcells, avs] at hu⟩
      have HR1 := Lib.hid (HL1.out wa HBwa.out hrow1)
      clear hba hbn hrow1
      rw [hwa]
      refine hK.out _ _ rfl (fun _ => ⟨HPwa.out.cell 0, HPwa.out.cell 1, HQwa.out.cell 0, HQwa.out.cell 1, HQwa.out.cell 2, HQwa.out.cell 3, HQwa.out.cell 4, HQwa.out.cell 5⟩) ?_
      clear hK K
      refine Free.Seq.loud_ rfl (.inl rfl) (fun K hK => ?_)
      go_simp
      refine (HR1.out).mono ?_
      rintro e' wb ⟨rfl, hb9⟩
      have HPwb := Lib.hid (HPwa.out.below hb9 HPwa.out.lt)
      have HQwb := Lib.hid (HQwa.out.below hb9 HQwa.out.lt)
      have HBwb := Lib.hid (HBwa.out.trans (hb9.mono HBwa.out.size))
      clear hb9
      refine hK.out _ _ rfl (fun _ => ⟨HPwb.out.cell 0, HPwb.out.cell 1, HQwb.out.cell 0, HQwb.out.cell 1, HQwb.out.cell 2, HQwb.out.cell 3, HQwb.out.cell 4, HQwb.out.cell 5⟩) ?_
      clear hK K
      iterate 1
        refine Free.Seq.quiet (v := ?_) (a' := ?_) rfl rfl (fun W' hW' => ?_) ?_ ?_
        rotate_left 2
        · first | obtain ⟨u0, u1, u2, u3, u4, u5, u6, u7⟩ := hW' rfl | skip
          go_simp
          try with_reducible rfl
        · simp only [Act.put, List.setIfInBounds_toArray, List.set_cons_zero, List.set_cons_succ]
          try with_reducible rfl
      refine Free.Seq.loud_ rfl (.inl rfl) (fun K hK => ?_)
      go_simp
      refine (HBH.out _).mono ?_
      rintro e' wz ⟨rfl, rfl⟩
      refine hK.out _ _ rfl (fun _ => ⟨HPwb.out.cell 0, HPwb.out.cell 1, HQwb.out.cell 0, HQwb.out.cell 1, HQwb.out.cell 2, HQwb.out.cell 3, HQwb.out.cell 4, HQwb.out.cell 5⟩) ?_
      clear hK K
      iterate 5
        refine Free.Seq.quiet (v := ?_) (a' := ?_) rfl rfl (fun W' hW' => ?_) ?_ ?_
        rotate_left 2
        · first | obtain ⟨u0, u1, u2, u3, u4, u5, u6, u7⟩ := hW' rfl | skip
          go_simp
          try with_reducible rfl
        · simp only [Act.put, List.setIfInBounds_toArray, List.set_cons_zero, List.set_cons_succ]
          try with_reducible rfl
      refine Free.Seq.loud_ rfl (.inl rfl) (fun K hK => ?_)
      go_simp
      refine (HL2.out wb HBwb.out).mono ?_
      rintro e' wc ⟨rfl, hb9⟩
      have HPwc := Lib.hid (HPwb.out.below hb9 HPwb.out.lt)
      have HQwc := Lib.hid (HQwb.out.below hb9 HQwb.out.lt)
      have HBwc := Lib.hid (HBwb.out.trans (hb9.mono HBwb.out.size))
      clear hb9
      refine hK.out _ _ rfl (fun _ => ⟨HPwc.out.cell 0, HPwc.out.cell 1, HQwc.out.cell 0, HQwc.out.cell 1, HQwc.out.cell 2, HQwc.out.cell 3, HQwc.out.cell 4, HQwc.out.cell 5⟩) ?_
      clear hK K
      iterate 4
        refine Free.Seq.quiet (v := ?_) (a' := ?_) rfl rfl (fun W' hW' => ?_) ?_ ?_
        rotate_left 2
        · first | obtain ⟨u0, u1, u2, u3, u4, u5, u6, u7⟩ := hW' rfl | skip
          go_simp
          try with_reducible rfl
        · simp only [Act.put, List.setIfInBounds_toArray, List.set_cons_zero, List.set_cons_succ]
          try with_reducible rfl
      refine Free.Seq.loud_ rfl (.inl rfl) (fun K hK => ?_)
      go_simp
      refine (HL3.out wc HBwc.out).mono ?_
      rintro e' wd ⟨rfl, hb9⟩
      have HPwd := Lib.hid (HPwc.out.below hb9 HPwc.out.lt)
      have HQwd := Lib.hid (HQwc.out.below hb9 HQwc.out.lt)
      have HBwd := Lib.hid (HBwc.out.trans (hb9.mono HBwc.out.size))
      clear hb9
      refine hK.out _ _ rfl (fun _ => ⟨HPwd.out.cell 0, HPwd.out.cell 1, HQwd.out.cell 0, HQwd.out.cell 1, HQwd.out.cell 2, HQwd.out.cell 3, HQwd.out.cell 4, HQwd.out.cell 5⟩) ?_
      clear hK K
      iterate 4
        refine Free.Seq.quiet (v := ?_) (a' := ?_) rfl rfl (fun W' hW' => ?_) ?_ ?_
        rotate_left 2
        · first | obtain ⟨u0, u1, u2, u3, u4, u5, u6, u7⟩ := hW' rfl | skip
          go_simp
          try with_reducible rfl
        · simp only [Act.put, List.setIfInBounds_toArray, List.set_cons_zero, List.set_cons_succ]
          try with_reducible rfl
      refine Free.Seq.loud_ rfl (.inl rfl) (fun K hK => ?_)
      go_simp
      refine (HL4.out wd HBwd.out).mono ?_
      rintro e' we ⟨rfl, hb9⟩
      have HPwe := Lib.hid (HPwd.out.below hb9 HPwd.out.lt)
      have HQwe := Lib.hid (HQwd.out.below hb9 HQwd.out.lt)
      have HBwe := Lib.hid (HBwd.out.trans (hb9.mono HBwd.out.size))
      clear hb9
      refine hK.out _ _ rfl (fun h => absurd h (by decide)) ?_
      clear hK K
      iterate 3
        refine Free.Seq.quiet (v := ?_) (a' := ?_) rfl rfl (fun W' hW' => ?_) ?_ ?_
        rotate_left 2
        · skip
          go_simp
          try with_reducible rfl
        · simp only [Act.put, List.setIfInBounds_toArray, List.set_cons_zero, List.set_cons_succ]
          try with_reducible rfl
      refine Free.Seq.nil_ ?_
      go_wp2
      go_ret2
      exact ⟨congrArg (fun t => Ending.returned (.tuple #[.string t, .int .i64 0])) HEQ.out, HBwe.out⟩
  · rw [if_neg hz]
    have hz1 : ((n : Int) != 0) = true := by rw [bne_iff_ne]; omega
    clear h hi hN hU hb0 hp0 hq0 hch hn hcr hmr hsr hor hpub hfive htext HRT hz
    go_enter Tryz.func18, Tryz.ntmps18
    go_wp2_with (go_at_call 27; refine HCH.out.mono ?_)
    rintro e w1 ⟨rfl, hb1⟩
    have HP1 := Lib.hid (HP0.out.below hb1 HP0.out.lt)
    have HQ1 := Lib.hid (HQ0.out.below hb1 HQ0.out.lt)
    have HB1 := Lib.hid (HB0.out.trans (hb1.mono HB0.out.size))
    clear hb1
    go_wp2
    go_ret2
    exact ⟨rfl, HB1.out⟩
end Go.Proofs.YtipbilmnknmhmaaGreatDoor

/- The reference's one, line, Text (by gen_stmn.py). -/
namespace Go.Proofs.YtipbilmnknmhmaaGreatDoor
set_option maxRecDepth 100000
open Go.RowKit Go.Shelf Go.Sort
attribute [local go_sem] Oper.semAt_some
theorem rowL_snoc (names : List ByteArray) (xs : List St.Slot) (x : St.Slot) : St.rowL names (xs ++ [x]) = St.rowL names xs ++ (if xs = [] then [] else [32, 44]) ++ [32] ++ St.slotL names x := by
  cases xs with
  | nil => simp [St.rowL]
  | cons y ys => simp [St.rowL]
/-- A row's text up to a place. -/
def rkL (names : List ByteArray) (word : List UInt8) (xs : List St.Slot) (k : Nat) : List UInt8 := word ++ St.rowL names (xs.take k)
theorem rkL_zero (names : List ByteArray) (word : List UInt8) (xs : List St.Slot) : rkL names word xs 0 = word := by simp [rkL, St.rowL]
theorem rkL_next (names : List ByteArray) (word : List UInt8) {xs : List St.Slot} {k : Nat} {x : St.Slot} (h : xs[k]? = some x) : rkL names word xs (k + 1) = rkL names word xs k ++ (if 0 < k then [32, 44] else []) ++ [32] ++ St.slotL names x := by
  have hk := (List.getElem?_eq_some_iff.1 h).1
  unfold rkL
  rw [List.take_add_one, h, show (some x).toList = [x] from rfl, rowL_snoc]
  by_cases h0 : 0 < k
  · rw [if_pos h0, if_neg (by intro e; have := congrArg List.length e; rw [List.length_take, List.length_nil] at this; omega)]
    simp
  · obtain rfl : k = 0 := by omega
    rw [if_neg h0, List.take_zero, if_pos rfl]
    simp
theorem rkL_len {names : List ByteArray} {k : Nat} (hN : Cd.Names names k) (word : List UInt8) {xs : List St.Slot} (h : ∀ x ∈ xs, St.slotB k x = true) (hl : xs.length ≤ 12) (n : Nat) : (Lx.pack (rkL names word xs n)).size ≤ word.length + 312 := by
  have h1 := rowL_len hN (xs.take n) fun x hx => h x (List.mem_of_mem_take hx)
  rw [List.length_take] at h1
  rw [Lx.pack_size]
  unfold rkL
  rw [List.length_append]
  omega
section
variable {v : Value} {names : List ByteArray} {up : List Nat}
set_option maxHeartbeats 4000000 in
theorem rone9_any (hz : checkN names up = 0) (x a : Int) (hv : St.valB x = true) (hl : St.labB up.length a = true) (w : World) (h : IsLat w w.heap.size v names up) : Calls Tryz.prog 57 #[v, .int .i64 x, .int .i64 a] w (TellsT8 w (Lx.pack (St.atomL names x a))) := by
  obtain ⟨⟨N, U, c1, c2, rfl, hN, hU⟩, hsh, hfew, hcaps⟩ := id h
  have hNs := Cd.names_of hz
  have hlb := of_decide_eq_true hl
  obtain ⟨j, rfl⟩ : ∃ j : Nat, a = (j : Int) := ⟨a.toNat, by omega⟩
  have hj : j < names.length := by rw [hNs.len]; omega
  obtain ⟨ad, nm, rfl, hadb, hnm, hcn⟩ := strs_at hN hj
  have hb0 : Below w.heap.size w (w.alloc (.cells #[.slice (some ad) names.length c1, .slice U up.length c2] 25)) := (Below.refl _ w).alloc (Nat.le_refl _) _
  have hp0 := Blk.new w 25 #[.slice (some ad) names.length c1, .slice U up.length c2]
  have z0 := (hb0.cell (p := ad.add j) (by rw [add_block]; exact hadb)).trans hcn
  have hn12 : nm.size ≤ 12 := by
    have := (hNs.letters (i := j) (by omega)).2.2
    rw [List.getD_eq_getElem?_getD, hnm] at this
    rw [Lib.size_eq]; exact this
  have hsz := sgn_size (of_decide_eq_true hv)
  have hnl : Cd.nameL names j = nm.data.toList := by unfold Cd.nameL; rw [List.getD_eq_getElem?_getD, Int.toNat_natCast, hnm]; rfl
  have HEQ := Lib.hid (show Lx.pack (Cd.sgn x) ++ ({ data := #[32, 64, 32] } : ByteArray) ++ nm = Lx.pack (St.atomL names x j) by
    unfold St.atomL
    rw [hnl, ← pack_app, ← pack_app, Lx.pack_data]
    rfl)
  have HNT := Lib.hid (fun W => rSigned_any x (of_decide_eq_true hv) W)
  have hadb2 : (ad.add j).block < w.heap.size := by rw [add_block]; exact hadb
  obtain ⟨W0, hW0⟩ : ∃ W0, w.alloc (.cells #[.slice (some ad) names.length c1, .slice U up.length c2] 25) = W0 := ⟨_, rfl⟩
  rw [hW0] at hb0 hp0 z0
  have hadb3 : (ad.add j).block < W0.heap.size := Nat.lt_of_lt_of_le hadb2 hb0.size
  have a0 : W0.cell? ⟨w.heap.size, 0, none⟩ = some (.slice (some ad) names.length c1) := hp0.cell 0
  have HB0 := Lib.hid hb0
  have g0 := fun d os => cell_regrown a0 d os
  have g1 := fun d os => cell_regrown z0 d os
  generalize Lx.pack (Cd.sgn x) = sg at *
  have q1 : (9223372036854775807 < sg.size + 3) = False := eq_false (by omega)
  have q2 : (9223372036854775807 < sg.size + 3 + nm.size) = False := eq_false (by omega)
  clear h hN hU hnm hcn hnl hNs hn12 hb0 hp0 hlb hl hv
  go_enter Tryz.func57, Tryz.ntmps57
  go_wp2
  refine wp_region_quiet_below (by kernel_rfl) (by kernel_rfl) ?_
  repeat (quiet_step ((go_at_call 40; exact Calls.regrown_of ((HNT.out _).mono fun _ _ h => ⟨h.1, h.2 ▸ Below.refl _ _⟩))))
  refine wpQuiet_nil ?_
  rintro _ ⟨⟨d, os⟩, rfl⟩
  have HB5 := Lib.hid (HB0.out.trans ((below_regrown W0 d os).mono HB0.out.size))
  clear g0 g1
  generalize grow (redrawn W0 d) os = w5 at *
  go_wp2
  go_ret
  exact ⟨congrArg (fun s => Ending.returned (.string s)) HEQ.out, HB5.out⟩
set_option maxHeartbeats 8000000 in
theorem rline9_any (hz : checkN names up = 0) {A : Option Addr} {l : List St.Atom} (c : Nat) (word : ByteArray) (hw : word.size ≤ 100) (w : World) (h : IsLat w w.heap.size v names up) (hr : Row w w.heap.size A (fcells avs l)) (hl : l.length ≤ 12) (hall : ∀ x ∈ l, St.slotB up.length (St.toSlot x) = true) :
    Calls Tryz.prog 58 #[v, .string word, .slice A l.length c] w (TellsT8 w (Lx.pack (St.lineW names word.data.toList (l.map St.toSlot)))) := by
  obtain ⟨⟨N, U, c1, c2, rfl, hN, hU⟩, hsh, hfew, hcaps⟩ := id h
  have hNs := Cd.names_of hz
  have HLEN := Lib.hid (fun n => rkL_len hNs word.data.toList (xs := l.map St.toSlot) (fun x hx => by obtain ⟨y, hy, rfl⟩ := List.mem_map.1 hx; exact hall y hy) (by rw [List.length_map]; exact hl) n)
  have HONE := Lib.hid (fun (x : St.Atom) (hx : St.slotB up.length (St.toSlot x) = true) W (hb : Below w.heap.size w W) => rone9_any (v := .agg #[.slice N names.length c1, .slice U up.length c2]) hz x.v x.l (slotB_atom hx).1 (slotB_atom hx).2 W ((h.below hb).more hb.size))
  have HAT := Lib.hid (fun (x : St.Atom) (hx : St.slotB up.length (St.toSlot x) = true) => atomL_len hNs (slotB_atom hx).1 (slotB_atom hx).2)
  have HB0 := Lib.hid ((Below.refl _ w).alloc (Nat.le_refl _) (.cells #[.slice N names.length c1, .slice U up.length c2] 25))
  have P0 := Lib.hid (Blk.new w 25 #[.slice N names.length c1, .slice U up.length c2])
  have H := Lib.hid hr
  have HALL := Lib.hid hall
  have hwl : word.data.toList.length = word.size := by rw [Lib.size_eq]
  have HSTART := Lib.hid (show word = Lx.pack (rkL names word.data.toList (l.map St.toSlot) 0) by rw [rkL_zero, Lx.pack_data])
  obtain ⟨n, hn⟩ : ∃ n, l.length = n := ⟨_, rfl⟩
  have HN := Lib.hid hn
  rw [hn] at hl ⊢
  clear h hN hU hr hn hsh hfew hcaps hall
  go_enter Tryz.func58, Tryz.ntmps58
  go_wp2
  go_loopw [7, 13] (fun o i wr => ∃ k : Nat, k ≤ n ∧ i = .int .i64 k ∧ o = .string (Lx.pack (rkL names word.data.toList (l.map St.toSlot) k)) ∧ Hid (Below w.heap.size w wr) ∧ Hid (Blk wr w.heap.size 25 #[.slice N names.length c1, .slice U up.length c2])) (fun _ i _ => n - (intOf i).toNat)
  case atStart => exact ⟨0, Nat.zero_le _, rfl, congrArg Value.string HSTART.out, HB0, P0⟩
  case round =>
    clear HB0 P0 HSTART
    obtain ⟨k, hk, rfl, rfl, HBW, P0⟩ := hrel
    have hlen := HLEN.out k
    rw [hwl] at hlen
    by_cases hlt : k < n
    · obtain ⟨ad, x, rfl, hxb, hx, x0, x1⟩ := arow_at (H.out.below HBW.out) (show k < l.length by rw [HN.out]; exact hlt)
      have hxok := HALL.out x (List.mem_of_getElem? hx)
      have hz9 := HBW.out.size
      have hxb2 : (ad.add (k * 2)).block < wr.heap.size := by rw [add_block]; omega
      have hal := (Below.refl wr.heap.size wr).alloc (Nat.le_refl _) (.cells #[.int .i64 x.v, .int .i64 x.l] 38)
      have hbw1 := HBW.out.trans (hal.mono HBW.out.size)
      have hp1 := P0.out.below hal P0.out.lt
      have hbx := Blk.new wr 38 #[.int .i64 x.v, .int .i64 x.l]
      have hc := HONE.out x hxok _ hbw1
      have htz := HAT.out x hxok
      obtain ⟨W1, hW1⟩ : ∃ W1, wr.alloc (.cells #[.int .i64 x.v, .int .i64 x.l] 38) = W1 := ⟨_, rfl⟩
      rw [hW1] at hbw1 hp1 hbx hc
      have a0 : W1.cell? ⟨w.heap.size, 0, none⟩ = some (.slice N names.length c1) := hp1.cell 0
      have a1 : W1.cell? ⟨w.heap.size, 1, none⟩ = some (.slice U up.length c2) := hp1.cell 1
      have s0 := hbx.cell 0
      have s1 := hbx.cell 1
      have HB1 := Lib.hid hbw1
      have HP1 := Lib.hid hp1
      have hblt := hbx.lt
      have hplt := hp1.lt
      have HNX := Lib.hid (rkL_next names word.data.toList (xs := l.map St.toSlot) (k := k) (x := St.toSlot x) (by rw [List.getElem?_map, hx]; rfl))
      have htz2 : (Lx.pack (St.atomL names x.v x.l)).size ≤ 19 := by rw [Lx.pack_size]; exact htz
      obtain ⟨t, ht⟩ : ∃ t, Lx.pack (St.atomL names x.v x.l) = t := ⟨_, rfl⟩
      obtain ⟨o, ho⟩ : ∃ o, Lx.pack (rkL names word.data.toList (l.map St.toSlot) k) = o := ⟨_, rfl⟩
      rw [ht] at hc htz2
      rw [ho] at hlen ⊢
      have HC := Lib.hid hc
      have HT : Hid (Lx.pack (St.slotL names (St.toSlot x)) = t) := Lib.hid (by rw [slotL_atom]; exact ht)
      have HO := Lib.hid ho
      clear hx hxok hal hbw1 hp1 hbx hc htz ht ho P0 HONE hwl
      by_cases hk0 : 0 < k
      · have hgt : (k : Int) > 0 := by omega
        have HEQ := Lib.hid (show ((o ++ ({ data := #[32, 44] } : ByteArray)) ++ ({ data := #[32] } : ByteArray)) ++ t = Lx.pack (rkL names word.data.toList (l.map St.toSlot) (k + 1)) by
          rw [HNX.out, if_pos hk0, ← HO.out, ← HT.out, show ({ data := #[32, 44] } : ByteArray) = Lx.pack [32, 44] from rfl, show ({ data := #[32] } : ByteArray) = Lx.pack [32] from rfl, pack_app, pack_app, pack_app]
          skip)
        have q0 : (9223372036854775807 < o.size + 2) = False := eq_false (by omega)
        have q1 : (9223372036854775807 < o.size + 2 + 1) = False := eq_false (by omega)
        have q2 : (9223372036854775807 < o.size + 2 + 1 + t.size) = False := eq_false (by omega)
        go_wp2_with (fail)
        refine HC.out.mono ?_
        rintro e w2 ⟨rfl, hb2⟩
        have HB2 := Lib.hid (HB1.out.trans (hb2.mono HB1.out.size))
        have HP2 := Lib.hid (HP1.out.below hb2 HP1.out.lt)
        clear hb2 a0 a1 s0 s1
        go_wp2
        go_roundw
        case rel => exact ⟨k + 1, by omega, by go_num, congrArg Value.string HEQ.out, HB2, HP2⟩
        case measure => simp [intOf]; omega
      · have hgt : ¬ (k : Int) > 0 := by omega
        have hgt2 : (0 < (k : Int)) = False := eq_false (by omega)
        have HEQ := Lib.hid (show ((o) ++ ({ data := #[32] } : ByteArray)) ++ t = Lx.pack (rkL names word.data.toList (l.map St.toSlot) (k + 1)) by
          rw [HNX.out, if_neg hk0, ← HO.out, ← HT.out, show ({ data := #[32] } : ByteArray) = Lx.pack [32] from rfl, pack_app, pack_app]
          rw [List.append_nil])
        skip
        have q1 : (9223372036854775807 < o.size + 1) = False := eq_false (by omega)
        have q2 : (9223372036854775807 < o.size + 1 + t.size) = False := eq_false (by omega)
        go_wp2_with (fail)
        refine HC.out.mono ?_
        rintro e w2 ⟨rfl, hb2⟩
        have HB2 := Lib.hid (HB1.out.trans (hb2.mono HB1.out.size))
        have HP2 := Lib.hid (HP1.out.below hb2 HP1.out.lt)
        clear hb2 a0 a1 s0 s1
        go_wp2
        go_roundw
        case rel => exact ⟨k + 1, by omega, by go_num, congrArg Value.string HEQ.out, HB2, HP2⟩
        case measure => simp [intOf]; omega
    · obtain rfl : k = n := by omega
      have HEQ := Lib.hid (show Lx.pack (rkL names word.data.toList (l.map St.toSlot) k) ++ ({ data := #[32, 59, 10] } : ByteArray) = Lx.pack (St.lineW names word.data.toList (l.map St.toSlot)) by
        rw [show ({ data := #[32, 59, 10] } : ByteArray) = Lx.pack [32, 59, 10] from rfl, pack_app]
        unfold rkL St.lineW
        rw [List.take_of_length_le (by rw [List.length_map, HN.out]; exact Nat.le_refl _)])
      generalize Lx.pack (rkL names word.data.toList (l.map St.toSlot) k) = o at *
      have q1 : (9223372036854775807 < o.size + 3) = False := eq_false (by omega)
      go_wp2
      go_ret
      exact ⟨congrArg (fun s => Ending.returned (.string s)) HEQ.out, HBW.out⟩
end
theorem lit44 : ({ data := #[32, 44] } : ByteArray) = Lx.pack [32, 44] := rfl
theorem litret : ({ data := #[32, 114, 101, 116] } : ByteArray) = Lx.pack [32, 114, 101, 116] := rfl
/-- What stands ahead of the stack's slots. -/
def preL (names : List ByteArray) (s : St.State) : List UInt8 :=
  [112, 99, 32] ++ St.atomL names s.pc.v s.pc.l ++ [32, 59, 10] ++ ([99, 111, 100, 101] ++ (if s.code = [] then [] else 32 :: Cd.textL names s.code) ++ [10]) ++ St.lineW names [109, 101, 109] (s.mem.map St.toSlot) ++ [115, 116, 97, 99, 107]
theorem text_pre (names : List ByteArray) (s : St.State) : Lx.pack (preL names s ++ St.rowL names s.stack ++ [32, 59, 10]) ++ Lx.pack (St.lineW names [111, 117, 116] (s.out.map St.toSlot)) = Lx.pack (St.textL names s) := by
  rw [pack_app, St.text_byte]
  congr 1
  unfold preL St.textB
  rw [show St.lineW names [115, 116, 97, 99, 107] s.stack = [115, 116, 97, 99, 107] ++ St.rowL names s.stack ++ [32, 59, 10] from rfl]
  simp only [List.append_assoc]
set_option maxHeartbeats 32000000 in
theorem rText9_any {v sv : Value} {names : List ByteArray} {up : List Nat} {s : St.State} (hz : checkN names up = 0) (hrb : St.rightB up.length s = true) (w : World) (h : IsLat w w.heap.size v names up) (hs : IsSt w w.heap.size sv s) :
    Calls Tryz.prog 24 #[v, sv] w (TellsT8 w (Lx.pack (St.textL names s))) := by
  obtain ⟨⟨N, U, c1, c2, rfl, hN, hU⟩, hsh, hfew, hcaps⟩ := id h
  have hNs := Cd.names_of hz
  obtain ⟨full, hfull⟩ : ∃ full, s = full := ⟨_, rfl⟩
  have hfin := text_pre names s
  obtain ⟨pre, hpre⟩ : ∃ pre, preL names s = pre := ⟨_, rfl⟩
  rw [hfull, ← hfull] at hfin
  rw [hpre] at hfin
  unfold preL at hpre
  have hrb2 := hrb
  unfold St.rightB at hrb2
  simp only [Bool.and_eq_true] at hrb2
  obtain ⟨⟨⟨⟨r1, ⟨r2a, r2b⟩⟩, ⟨r3a, r3b⟩⟩, ⟨r4a, r4b⟩⟩, ⟨r5a, r5b⟩⟩ := hrb2
  have m6 := of_decide_eq_true r3a
  have m12 := of_decide_eq_true r4a
  have m8 := of_decide_eq_true r5a
  rw [show Lx.pack (St.textL names s) = Lx.pack (St.textL names full) by rw [hfull]] at hfin ⊢
  clear hfull
  obtain ⟨⟨pv, pl⟩, code, mem, stack, out⟩ := s
  obtain ⟨cv, mv, stv_, ov, rfl, ⟨cA, cc, rfl, hcr, hcc⟩, ⟨mA, mc, rfl, hmr, hmc⟩, ⟨sA, sc, rfl, hsr, hsc⟩, ⟨oA, oc, rfl, hor, hoc⟩⟩ := hs
  dsimp only at *
  unfold stv
  dsimp only
  have hmem : ∀ x ∈ mem, St.slotB up.length (St.toSlot x) = true := fun x hx => by rw [slotB_toSlot]; exact List.all_eq_true.1 r3b x hx
  have hstk : ∀ x ∈ stack, St.slotB up.length x = true := fun x hx => List.all_eq_true.1 r4b x hx
  have hout : ∀ x ∈ out, St.slotB up.length (St.toSlot x) = true := fun x hx => by rw [slotB_toSlot]; exact List.all_eq_true.1 r5b x hx
  have hpv : St.valB pv = true := by unfold St.pcB at r2a; unfold St.valB; have := of_decide_eq_true r2a; exact decide_eq_true (by omega)
  have HL1 := Lib.hid (fun W (hb : Below w.heap.size w W) => rone9_any (v := .agg #[.slice N names.length c1, .slice U up.length c2]) hz pv pl hpv r2b W ((h.below hb).more hb.size))
  have HONE := Lib.hid (fun a b (ha : St.valB a = true) (hb' : St.labB up.length b = true) W (hb : Below w.heap.size w W) => rone9_any (v := .agg #[.slice N names.length c1, .slice U up.length c2]) hz a b ha hb' W ((h.below hb).more hb.size))
  have HL2 := Lib.hid (fun W (hb : Below w.heap.size w W) => rTextC_any (v := .agg #[.slice N names.length c1, .slice U up.length c2]) hz cc W ((h.below hb).more hb.size) ((hcr.below hb).more hb.size) r1)
  have HL3 := Lib.hid (fun W (hb : Below w.heap.size w W) => rline9_any (v := .agg #[.slice N names.length c1, .slice U up.length c2]) hz mc { data := #[109, 101, 109] } (by decide) W ((h.below hb).more hb.size) ((hmr.below hb).more hb.size) (by omega) hmem)
  have HL4 := Lib.hid (fun W (hb : Below w.heap.size w W) => rline9_any (v := .agg #[.slice N names.length c1, .slice U up.length c2]) hz oc { data := #[111, 117, 116] } (by decide) W ((h.below hb).more hb.size) ((hor.below hb).more hb.size) (by omega) hout)
  change Hid (∀ W (hb : Below w.heap.size w W), Calls Tryz.prog 58 #[.agg #[.slice N names.length c1, .slice U up.length c2], .string { data := #[109, 101, 109] }, .slice mA mem.length mc] W (TellsT8 W (Lx.pack (St.lineW names [109, 101, 109] (mem.map St.toSlot))))) at HL3
  change Hid (∀ W (hb : Below w.heap.size w W), Calls Tryz.prog 58 #[.agg #[.slice N names.length c1, .slice U up.length c2], .string { data := #[111, 117, 116] }, .slice oA out.length oc] W (TellsT8 W (Lx.pack (St.lineW names [111, 117, 116] (out.map St.toSlot))))) at HL4
  have z1 : (Lx.pack (St.atomL names pv pl)).size ≤ 19 := by rw [Lx.pack_size]; exact atomL_len hNs hpv r2b
  have z2 : (Lx.pack (Cd.textL names code)).size ≤ 348 := by rw [Lx.pack_size]; exact Cd.textL_len hNs r1
  have z3 := lineW_len hNs [109, 101, 109] (mem.map St.toSlot) (fun x hx => by obtain ⟨y, hy, rfl⟩ := List.mem_map.1 hx; exact hmem y hy)
  have z4 := lineW_len hNs [111, 117, 116] (out.map St.toSlot) (fun x hx => by obtain ⟨y, hy, rfl⟩ := List.mem_map.1 hx; exact hout y hy)
  rw [List.length_map] at z3 z4
  simp only [List.length_cons, List.length_nil] at z3 z4
  have z3 := Nat.le_trans z3 (show 3 + 26 * mem.length + 3 ≤ 200 by omega)
  have z4 := Nat.le_trans z4 (show 3 + 26 * out.length + 3 ≤ 300 by omega)
  have hprel : pre.length ≤ 1000 := by
    rw [← hpre]
    rw [Lx.pack_size] at z1 z2 z3
    have z9 : (if code = [] then ([] : List UInt8) else 32 :: Cd.textL names code).length ≤ 349 := by
      split
      · decide
      · simp only [List.length_cons]; omega
    simp only [List.length_append, List.length_cons, List.length_nil]
    omega
  have HLEN := Lib.hid (fun k => Nat.le_trans (rkL_len hNs pre hstk m12 k) (show pre.length + 312 ≤ 1312 by omega))
  have HFIN : Hid (Lx.pack (pre ++ St.rowL names stack ++ [32, 59, 10]) ++ Lx.pack (St.lineW names [111, 117, 116] (out.map St.toSlot)) = Lx.pack (St.textL names full)) := Lib.hid hfin
  have HALL := Lib.hid hstk
  have HNS := Lib.hid hNs
  have HSR := Lib.hid hsr
  obtain ⟨n, hn⟩ : ∃ n, stack.length = n := ⟨_, rfl⟩
  have HN := Lib.hid hn
  have HPR := Lib.hid hpre
  rw [hn] at m12 ⊢
  have hb := (((Below.refl _ w).alloc (Nat.le_refl _) (.cells #[.slice N names.length c1, .slice U up.length c2] 25)).alloc (by simp) (.cells #[.int .i64 pv, .int .i64 pl, .slice cA code.length cc, .slice mA mem.length mc, .slice sA n sc, .slice oA out.length oc] 42))
  obtain ⟨W0, hW0⟩ : ∃ W0, (w.alloc (.cells #[.slice N names.length c1, .slice U up.length c2] 25)).alloc (.cells #[.int .i64 pv, .int .i64 pl, .slice cA code.length cc, .slice mA mem.length mc, .slice sA n sc, .slice oA out.length oc] 42) = W0 := ⟨_, rfl⟩
  have hp0 : Blk W0 w.heap.size 25 #[.slice N names.length c1, .slice U up.length c2] := hW0 ▸ (Blk.new _ _ _).alloc _
  have hp1 : Blk W0 (w.heap.size + 1) 42 #[.int .i64 pv, .int .i64 pl, .slice cA code.length cc, .slice mA mem.length mc, .slice sA n sc, .slice oA out.length oc] := by
    have h1 := Blk.new (w.alloc (.cells #[.slice N names.length c1, .slice U up.length c2] 25)) 42 #[.int .i64 pv, .int .i64 pl, .slice cA code.length cc, .slice mA mem.length mc, .slice sA n sc, .slice oA out.length oc]
    rw [show (w.alloc (.cells #[.slice N names.length c1, .slice U up.length c2] 25)).heap.size = w.heap.size + 1 by simp] at h1
    rw [← hW0]; exact h1
  rw [hW0] at hb
  have HB := Lib.hid hb
  have HP0 := Lib.hid hp0
  have HP1 := Lib.hid hp1
  clear h hN hU hcr hmr hsr hor hb hp0 hp1 hfin hstk hNs hn hpre hmem hout r1 r2a r2b r3a r3b r4a r4b r5a r5b m6 m8 hpv hrb hprel hcc hmc hsc hoc
  have a0 : W0.cell? ⟨w.heap.size, 0, none⟩ = some (.slice N names.length c1) := HP0.out.cell 0
  have a1 : W0.cell? ⟨w.heap.size, 1, none⟩ = some (.slice U up.length c2) := HP0.out.cell 1
  have s0 : W0.cell? ⟨w.heap.size + 1, 0, none⟩ = some (.int .i64 pv) := HP1.out.cell 0
  have s1 : W0.cell? ⟨w.heap.size + 1, 1, none⟩ = some (.int .i64 pl) := HP1.out.cell 1
  have s2 : W0.cell? ⟨w.heap.size + 1, 2, none⟩ = some (.slice cA code.length cc) := HP1.out.cell 2
  have s3 : W0.cell? ⟨w.heap.size + 1, 3, none⟩ = some (.slice mA mem.length mc) := HP1.out.cell 3
  have s4 : W0.cell? ⟨w.heap.size + 1, 4, none⟩ = some (.slice sA n sc) := HP1.out.cell 4
  have s5 : W0.cell? ⟨w.heap.size + 1, 5, none⟩ = some (.slice oA out.length oc) := HP1.out.cell 5
  generalize Lx.pack (St.lineW names [111, 117, 116] (out.map St.toSlot)) = t4 at *
  by_cases hcn : code = []
  · have hc0 : (code.length : Int) ≤ 0 := by rw [hcn]; decide
    have hc1 : (0 < (code.length : Int)) = False := eq_false (by omega)
    have HPRE := Lib.hid (show ((((({ data := #[112, 99, 32] } : ByteArray) ++ Lx.pack (St.atomL names pv pl)) ++ ({ data := #[32, 59, 10, 99, 111, 100, 101] } : ByteArray)) ++ ({ data := #[10] } : ByteArray)) ++ Lx.pack (St.lineW names [109, 101, 109] (mem.map St.toSlot))) ++ ({ data := #[115, 116, 97, 99, 107] } : ByteArray) = Lx.pack pre by
      rw [← HPR.out, if_pos hcn, show ({ data := #[112, 99, 32] } : ByteArray) = Lx.pack [112, 99, 32] from rfl, show ({ data := #[32, 59, 10, 99, 111, 100, 101] } : ByteArray) = Lx.pack [32, 59, 10, 99, 111, 100, 101] from rfl, show ({ data := #[10] } : ByteArray) = Lx.pack [10] from rfl, show ({ data := #[115, 116, 97, 99, 107] } : ByteArray) = Lx.pack [115, 116, 97, 99, 107] from rfl]
      simp only [pack_app]
      congr 1 <;> simp)
    clear HPR hcn
    generalize Lx.pack (St.atomL names pv pl) = t1 at *
    generalize Lx.pack (St.lineW names [109, 101, 109] (mem.map St.toSlot)) = t3 at *
    have p1 : (9223372036854775807 < 3 + t1.size) = False := eq_false (by omega)
    have p2 : (9223372036854775807 < 3 + t1.size + 7) = False := eq_false (by omega)
    have p3 : (9223372036854775807 < 3 + t1.size + 7 + 1) = False := eq_false (by omega)
    have p4 : (9223372036854775807 < 3 + t1.size + 7 + 1 + t3.size) = False := eq_false (by omega)
    have p5 : (9223372036854775807 < 3 + t1.size + 7 + 1 + t3.size + 5) = False := eq_false (by omega)
    go_enter Tryz.func24, Tryz.ntmps24
    go_wp2_with (fail)
    refine (HL1.out W0 HB.out).mono ?_
    rintro e w1 ⟨rfl, hb9⟩
    have hp0 := HP0.out.below hb9 HP0.out.lt
    have hp1 := HP1.out.below hb9 HP1.out.lt
    have hb := HB.out.trans (hb9.mono HB.out.size)
    clear hb9 HB HP0 HP1
    clear a0 a1 s0 s1 s2 s3 s4 s5
    have HB := Lib.hid hb
    have HP0 := Lib.hid hp0
    have HP1 := Lib.hid hp1
    clear hb hp0 hp1
    have a0 : w1.cell? ⟨w.heap.size, 0, none⟩ = some (.slice N names.length c1) := HP0.out.cell 0
    have a1 : w1.cell? ⟨w.heap.size, 1, none⟩ = some (.slice U up.length c2) := HP0.out.cell 1
    have s0 : w1.cell? ⟨w.heap.size + 1, 0, none⟩ = some (.int .i64 pv) := HP1.out.cell 0
    have s1 : w1.cell? ⟨w.heap.size + 1, 1, none⟩ = some (.int .i64 pl) := HP1.out.cell 1
    have s2 : w1.cell? ⟨w.heap.size + 1, 2, none⟩ = some (.slice cA code.length cc) := HP1.out.cell 2
    have s3 : w1.cell? ⟨w.heap.size + 1, 3, none⟩ = some (.slice mA mem.length mc) := HP1.out.cell 3
    have s4 : w1.cell? ⟨w.heap.size + 1, 4, none⟩ = some (.slice sA n sc) := HP1.out.cell 4
    have s5 : w1.cell? ⟨w.heap.size + 1, 5, none⟩ = some (.slice oA out.length oc) := HP1.out.cell 5
    go_wp2_with (fail)
    refine (HL3.out w1 HB.out).mono ?_
    rintro e w3 ⟨rfl, hb9⟩
    have hp0 := HP0.out.below hb9 HP0.out.lt
    have hp1 := HP1.out.below hb9 HP1.out.lt
    have hb := HB.out.trans (hb9.mono HB.out.size)
    clear hb9 HB HP0 HP1
    clear a0 a1 s0 s1 s2 s3 s4 s5
    have HB := Lib.hid hb
    have HP0 := Lib.hid hp0
    have HP1 := Lib.hid hp1
    clear hb hp0 hp1
    have a0 : w3.cell? ⟨w.heap.size, 0, none⟩ = some (.slice N names.length c1) := HP0.out.cell 0
    have a1 : w3.cell? ⟨w.heap.size, 1, none⟩ = some (.slice U up.length c2) := HP0.out.cell 1
    have s0 : w3.cell? ⟨w.heap.size + 1, 0, none⟩ = some (.int .i64 pv) := HP1.out.cell 0
    have s1 : w3.cell? ⟨w.heap.size + 1, 1, none⟩ = some (.int .i64 pl) := HP1.out.cell 1
    have s2 : w3.cell? ⟨w.heap.size + 1, 2, none⟩ = some (.slice cA code.length cc) := HP1.out.cell 2
    have s3 : w3.cell? ⟨w.heap.size + 1, 3, none⟩ = some (.slice mA mem.length mc) := HP1.out.cell 3
    have s4 : w3.cell? ⟨w.heap.size + 1, 4, none⟩ = some (.slice sA n sc) := HP1.out.cell 4
    have s5 : w3.cell? ⟨w.heap.size + 1, 5, none⟩ = some (.slice oA out.length oc) := HP1.out.cell 5
    go_wp2
    go_loopw [5, 40] (fun o i wr => ∃ k : Nat, k ≤ n ∧ i = .int .i64 k ∧ o = .string (Lx.pack (rkL names pre stack k)) ∧ Hid (Below w.heap.size w wr) ∧ Hid (Blk wr w.heap.size 25 #[.slice N names.length c1, .slice U up.length c2]) ∧ Hid (Blk wr (w.heap.size + 1) 42 #[.int .i64 pv, .int .i64 pl, .slice cA code.length cc, .slice mA mem.length mc, .slice sA n sc, .slice oA out.length oc])) (fun _ i _ => n - (intOf i).toNat)
    case atStart => exact ⟨0, Nat.zero_le _, rfl, congrArg Value.string (HPRE.out.trans (by rw [rkL_zero])), HB, HP0, HP1⟩
    case round =>
      clear HB HP0 HP1 HPRE HL1 HL2 HL3 a0 a1 s0 s1 s2 s3 s4 s5
      obtain ⟨k, hk, rfl, rfl, HB, HP0, HP1⟩ := hrel
      have hlen := HLEN.out k
      by_cases hlt : k < n
      · obtain ⟨ad, x, rfl, hxb, hx, x0, x1, x2⟩ := srow_at (HSR.out.below HB.out) (show k < stack.length by rw [HN.out]; exact hlt)
        have hxok := HALL.out x (List.mem_of_getElem? hx)
        have hz9 := HB.out.size
        have hxb2 : (ad.add (k * 3)).block < wr.heap.size := by rw [add_block]; omega
        have HNX := Lib.hid (rkL_next names pre hx)
        have hx9 := hxok
        unfold St.slotB at hx9
        simp only [Bool.and_eq_true] at hx9
        have hc0 := fun W hb => HONE.out x.v x.l hx9.1.1 hx9.1.2 W hb
        have htz := atomL_len HNS.out hx9.1.1 hx9.1.2
        have s4 : wr.cell? ⟨w.heap.size + 1, 4, none⟩ = some (.slice (some ad) n sc) := HP1.out.cell 4
        obtain ⟨xr, xv, xl⟩ := x
        dsimp only at x0 x1 x2 hc0 htz
        have hal := (Below.refl wr.heap.size wr).alloc (Nat.le_refl _) (.cells #[.bool xr, .int .i64 xv, .int .i64 xl] 73)
        have hbw1 := HB.out.trans (hal.mono HB.out.size)
        have hp0 := HP0.out.below hal HP0.out.lt
        have hp1 := HP1.out.below hal HP1.out.lt
        have hbx := Blk.new wr 73 #[.bool xr, .int .i64 xv, .int .i64 xl]
        have hc := hc0 _ hbw1
        obtain ⟨W1, hW1⟩ : ∃ W1, wr.alloc (.cells #[.bool xr, .int .i64 xv, .int .i64 xl] 73) = W1 := ⟨_, rfl⟩
        rw [hW1] at hbw1 hp0 hp1 hbx hc
        have a0 : W1.cell? ⟨w.heap.size, 0, none⟩ = some (.slice N names.length c1) := hp0.cell 0
        have a1 : W1.cell? ⟨w.heap.size, 1, none⟩ = some (.slice U up.length c2) := hp0.cell 1
        have t0 := hbx.cell 0
        have t1 := hbx.cell 1
        have t2 := hbx.cell 2
        have HB1 := Lib.hid hbw1
        have HQ0 := Lib.hid hp0
        have HQ1 := Lib.hid hp1
        have hblt := hbx.lt
        have hplt := hp0.lt
        have hplt1 := hp1.lt
        have htz2 : (Lx.pack (St.atomL names xv xl)).size ≤ 19 := by rw [Lx.pack_size]; exact htz
        obtain ⟨t, ht⟩ : ∃ t, Lx.pack (St.atomL names xv xl) = t := ⟨_, rfl⟩
        obtain ⟨o, ho⟩ : ∃ o, Lx.pack (rkL names pre stack k) = o := ⟨_, rfl⟩
        rw [ht] at hc htz2
        rw [ho] at hlen ⊢
        have HC := Lib.hid hc
        have HT := Lib.hid ht
        have HO := Lib.hid ho
        clear hx hxok hx9 hal hbw1 hp0 hp1 hbx hc0 hc htz ht ho HP0 HP1 HONE HL4
        by_cases hk0 : 0 < k
        · have hgt : (k : Int) > 0 := by omega
          cases xr with
          | true =>
            have HEQ := Lib.hid (show ((o ++ ({ data := #[32, 44] } : ByteArray) ++ ({ data := #[32, 114, 101, 116] } : ByteArray)) ++ ({ data := #[32] } : ByteArray)) ++ t = Lx.pack (rkL names pre stack (k + 1)) by
              rw [HNX.out, if_pos hk0, ← HO.out, ← HT.out]
              unfold St.slotL
              rw [if_pos rfl]
              simp only [lit32, lit44, litret, pack_app]
              congr 1 <;> simp)
            have q0 : (9223372036854775807 < o.size + 2) = False := eq_false (by omega)
            have q3 : (9223372036854775807 < o.size + 2 + 4) = False := eq_false (by omega)
            have q1 : (9223372036854775807 < o.size + 2 + 4 + 1) = False := eq_false (by omega)
            have q2 : (9223372036854775807 < o.size + 2 + 4 + 1 + t.size) = False := eq_false (by omega)
            go_wp2_with (fail)
            refine HC.out.mono ?_
            rintro e w2 ⟨rfl, hb2⟩
            have HB2 := Lib.hid (HB1.out.trans (hb2.mono HB1.out.size))
            have HP2 := Lib.hid (HQ0.out.below hb2 HQ0.out.lt)
            have HP3 := Lib.hid (HQ1.out.below hb2 HQ1.out.lt)
            clear hb2 a0 a1 t0 t1 t2
            go_wp2
            go_roundw
            case rel => exact ⟨k + 1, by omega, by go_num, congrArg Value.string HEQ.out, HB2, HP2, HP3⟩
            case measure => simp [intOf]; omega
          | false =>
            have HEQ := Lib.hid (show ((o ++ ({ data := #[32, 44] } : ByteArray)) ++ ({ data := #[32] } : ByteArray)) ++ t = Lx.pack (rkL names pre stack (k + 1)) by
              rw [HNX.out, if_pos hk0, ← HO.out, ← HT.out]
              unfold St.slotL
              rw [if_neg (show ¬ (false = true) by decide)]
              simp only [lit32, lit44, pack_app]
              congr 1 <;> simp)
            have q0 : (9223372036854775807 < o.size + 2) = False := eq_false (by omega)
            have q1 : (9223372036854775807 < o.size + 2 + 1) = False := eq_false (by omega)
            have q2 : (9223372036854775807 < o.size + 2 + 1 + t.size) = False := eq_false (by omega)
            go_wp2_with (fail)
            refine HC.out.mono ?_
            rintro e w2 ⟨rfl, hb2⟩
            have HB2 := Lib.hid (HB1.out.trans (hb2.mono HB1.out.size))
            have HP2 := Lib.hid (HQ0.out.below hb2 HQ0.out.lt)
            have HP3 := Lib.hid (HQ1.out.below hb2 HQ1.out.lt)
            clear hb2 a0 a1 t0 t1 t2
            go_wp2
            go_roundw
            case rel => exact ⟨k + 1, by omega, by go_num, congrArg Value.string HEQ.out, HB2, HP2, HP3⟩
            case measure => simp [intOf]; omega
        · have hgt : ¬ (k : Int) > 0 := by omega
          have hgt2 : (0 < (k : Int)) = False := eq_false (by omega)
          cases xr with
          | true =>
            have HEQ := Lib.hid (show ((o ++ ({ data := #[32, 114, 101, 116] } : ByteArray)) ++ ({ data := #[32] } : ByteArray)) ++ t = Lx.pack (rkL names pre stack (k + 1)) by
              rw [HNX.out, if_neg hk0, ← HO.out, ← HT.out]
              unfold St.slotL
              rw [if_pos rfl]
              simp only [lit32, litret, pack_app]
              congr 1 <;> simp)
            have q3 : (9223372036854775807 < o.size + 4) = False := eq_false (by omega)
            have q1 : (9223372036854775807 < o.size + 4 + 1) = False := eq_false (by omega)
            have q2 : (9223372036854775807 < o.size + 4 + 1 + t.size) = False := eq_false (by omega)
            go_wp2_with (fail)
            refine HC.out.mono ?_
            rintro e w2 ⟨rfl, hb2⟩
            have HB2 := Lib.hid (HB1.out.trans (hb2.mono HB1.out.size))
            have HP2 := Lib.hid (HQ0.out.below hb2 HQ0.out.lt)
            have HP3 := Lib.hid (HQ1.out.below hb2 HQ1.out.lt)
            clear hb2 a0 a1 t0 t1 t2
            go_wp2
            go_roundw
            case rel => exact ⟨k + 1, by omega, by go_num, congrArg Value.string HEQ.out, HB2, HP2, HP3⟩
            case measure => simp [intOf]; omega
          | false =>
            have HEQ := Lib.hid (show ((o) ++ ({ data := #[32] } : ByteArray)) ++ t = Lx.pack (rkL names pre stack (k + 1)) by
              rw [HNX.out, if_neg hk0, ← HO.out, ← HT.out]
              unfold St.slotL
              rw [if_neg (show ¬ (false = true) by decide)]
              simp only [lit32, pack_app]
              congr 1 <;> simp)
            have q1 : (9223372036854775807 < o.size + 1) = False := eq_false (by omega)
            have q2 : (9223372036854775807 < o.size + 1 + t.size) = False := eq_false (by omega)
            go_wp2_with (fail)
            refine HC.out.mono ?_
            rintro e w2 ⟨rfl, hb2⟩
            have HB2 := Lib.hid (HB1.out.trans (hb2.mono HB1.out.size))
            have HP2 := Lib.hid (HQ0.out.below hb2 HQ0.out.lt)
            have HP3 := Lib.hid (HQ1.out.below hb2 HQ1.out.lt)
            clear hb2 a0 a1 t0 t1 t2
            go_wp2
            go_roundw
            case rel => exact ⟨k + 1, by omega, by go_num, congrArg Value.string HEQ.out, HB2, HP2, HP3⟩
            case measure => simp [intOf]; omega
      · obtain rfl : k = n := by omega
        have s5 : wr.cell? ⟨w.heap.size + 1, 5, none⟩ = some (.slice oA out.length oc) := HP1.out.cell 5
        have a0 : wr.cell? ⟨w.heap.size, 0, none⟩ = some (.slice N names.length c1) := HP0.out.cell 0
        have a1 : wr.cell? ⟨w.heap.size, 1, none⟩ = some (.slice U up.length c2) := HP0.out.cell 1
        have hplt := HP0.out.lt
        have hplt1 := HP1.out.lt
        have HEQ := Lib.hid (show Lx.pack (rkL names pre stack k) ++ ({ data := #[32, 59, 10] } : ByteArray) ++ t4 = Lx.pack (St.textL names full) by
          rw [← HFIN.out, show ({ data := #[32, 59, 10] } : ByteArray) = Lx.pack [32, 59, 10] from rfl, pack_app]
          unfold rkL
          rw [List.take_of_length_le (by rw [HN.out]; exact Nat.le_refl _)])
        generalize Lx.pack (rkL names pre stack k) = o at *
        have q1 : (9223372036854775807 < o.size + 3) = False := eq_false (by omega)
        have q2 : (9223372036854775807 < o.size + 3 + t4.size) = False := eq_false (by omega)
        have HC4 := Lib.hid (HL4.out wr HB.out)
        clear HONE HL4 HFIN
        go_wp2_with (fail)
        refine HC4.out.mono ?_
        rintro e w9 ⟨rfl, hb9⟩
        have HB9 := Lib.hid (HB.out.trans (hb9.mono HB.out.size))
        clear hb9
        go_wp2
        go_ret
        exact ⟨congrArg (fun s => Ending.returned (.string s)) HEQ.out, HB9.out⟩
  · have hc0 : (code.length : Int) > 0 := by have := List.length_pos_iff.2 hcn; omega
    have HPRE := Lib.hid (show (((((({ data := #[112, 99, 32] } : ByteArray) ++ Lx.pack (St.atomL names pv pl)) ++ ({ data := #[32, 59, 10, 99, 111, 100, 101] } : ByteArray)) ++ ({ data := #[32] } : ByteArray)) ++ Lx.pack (Cd.textL names code)) ++ ({ data := #[10] } : ByteArray)) ++ Lx.pack (St.lineW names [109, 101, 109] (mem.map St.toSlot)) ++ ({ data := #[115, 116, 97, 99, 107] } : ByteArray) = Lx.pack pre by
      rw [← HPR.out, if_neg hcn, show ({ data := #[112, 99, 32] } : ByteArray) = Lx.pack [112, 99, 32] from rfl, show ({ data := #[32, 59, 10, 99, 111, 100, 101] } : ByteArray) = Lx.pack [32, 59, 10, 99, 111, 100, 101] from rfl, show ({ data := #[10] } : ByteArray) = Lx.pack [10] from rfl, show ({ data := #[115, 116, 97, 99, 107] } : ByteArray) = Lx.pack [115, 116, 97, 99, 107] from rfl]
      simp only [lit32, pack_app]
      congr 1 <;> simp)
    clear HPR hcn
    generalize Lx.pack (St.atomL names pv pl) = t1 at *
    generalize Lx.pack (St.lineW names [109, 101, 109] (mem.map St.toSlot)) = t3 at *
    generalize Lx.pack (Cd.textL names code) = t2 at *
    have p1 : (9223372036854775807 < 3 + t1.size) = False := eq_false (by omega)
    have p2 : (9223372036854775807 < 3 + t1.size + 7) = False := eq_false (by omega)
    have p6 : (9223372036854775807 < 3 + t1.size + 7 + 1) = False := eq_false (by omega)
    have p7 : (9223372036854775807 < 3 + t1.size + 7 + 1 + t2.size) = False := eq_false (by omega)
    have p3 : (9223372036854775807 < 3 + t1.size + 7 + 1 + t2.size + 1) = False := eq_false (by omega)
    have p4 : (9223372036854775807 < 3 + t1.size + 7 + 1 + t2.size + 1 + t3.size) = False := eq_false (by omega)
    have p5 : (9223372036854775807 < 3 + t1.size + 7 + 1 + t2.size + 1 + t3.size + 5) = False := eq_false (by omega)
    go_enter Tryz.func24, Tryz.ntmps24
    go_wp2_with (fail)
    refine (HL1.out W0 HB.out).mono ?_
    rintro e w1 ⟨rfl, hb9⟩
    have hp0 := HP0.out.below hb9 HP0.out.lt
    have hp1 := HP1.out.below hb9 HP1.out.lt
    have hb := HB.out.trans (hb9.mono HB.out.size)
    clear hb9 HB HP0 HP1
    clear a0 a1 s0 s1 s2 s3 s4 s5
    have HB := Lib.hid hb
    have HP0 := Lib.hid hp0
    have HP1 := Lib.hid hp1
    clear hb hp0 hp1
    have a0 : w1.cell? ⟨w.heap.size, 0, none⟩ = some (.slice N names.length c1) := HP0.out.cell 0
    have a1 : w1.cell? ⟨w.heap.size, 1, none⟩ = some (.slice U up.length c2) := HP0.out.cell 1
    have s0 : w1.cell? ⟨w.heap.size + 1, 0, none⟩ = some (.int .i64 pv) := HP1.out.cell 0
    have s1 : w1.cell? ⟨w.heap.size + 1, 1, none⟩ = some (.int .i64 pl) := HP1.out.cell 1
    have s2 : w1.cell? ⟨w.heap.size + 1, 2, none⟩ = some (.slice cA code.length cc) := HP1.out.cell 2
    have s3 : w1.cell? ⟨w.heap.size + 1, 3, none⟩ = some (.slice mA mem.length mc) := HP1.out.cell 3
    have s4 : w1.cell? ⟨w.heap.size + 1, 4, none⟩ = some (.slice sA n sc) := HP1.out.cell 4
    have s5 : w1.cell? ⟨w.heap.size + 1, 5, none⟩ = some (.slice oA out.length oc) := HP1.out.cell 5
    go_wp2_with (fail)
    refine (HL2.out w1 HB.out).mono ?_
    rintro e w2 ⟨rfl, hb9⟩
    have hp0 := HP0.out.below hb9 HP0.out.lt
    have hp1 := HP1.out.below hb9 HP1.out.lt
    have hb := HB.out.trans (hb9.mono HB.out.size)
    clear hb9 HB HP0 HP1
    clear a0 a1 s0 s1 s2 s3 s4 s5
    have HB := Lib.hid hb
    have HP0 := Lib.hid hp0
    have HP1 := Lib.hid hp1
    clear hb hp0 hp1
    have a0 : w2.cell? ⟨w.heap.size, 0, none⟩ = some (.slice N names.length c1) := HP0.out.cell 0
    have a1 : w2.cell? ⟨w.heap.size, 1, none⟩ = some (.slice U up.length c2) := HP0.out.cell 1
    have s0 : w2.cell? ⟨w.heap.size + 1, 0, none⟩ = some (.int .i64 pv) := HP1.out.cell 0
    have s1 : w2.cell? ⟨w.heap.size + 1, 1, none⟩ = some (.int .i64 pl) := HP1.out.cell 1
    have s2 : w2.cell? ⟨w.heap.size + 1, 2, none⟩ = some (.slice cA code.length cc) := HP1.out.cell 2
    have s3 : w2.cell? ⟨w.heap.size + 1, 3, none⟩ = some (.slice mA mem.length mc) := HP1.out.cell 3
    have s4 : w2.cell? ⟨w.heap.size + 1, 4, none⟩ = some (.slice sA n sc) := HP1.out.cell 4
    have s5 : w2.cell? ⟨w.heap.size + 1, 5, none⟩ = some (.slice oA out.length oc) := HP1.out.cell 5
    go_wp2_with (fail)
    refine (HL3.out w2 HB.out).mono ?_
    rintro e w3 ⟨rfl, hb9⟩
    have hp0 := HP0.out.below hb9 HP0.out.lt
    have hp1 := HP1.out.below hb9 HP1.out.lt
    have hb := HB.out.trans (hb9.mono HB.out.size)
    clear hb9 HB HP0 HP1
    clear a0 a1 s0 s1 s2 s3 s4 s5
    have HB := Lib.hid hb
    have HP0 := Lib.hid hp0
    have HP1 := Lib.hid hp1
    clear hb hp0 hp1
    have a0 : w3.cell? ⟨w.heap.size, 0, none⟩ = some (.slice N names.length c1) := HP0.out.cell 0
    have a1 : w3.cell? ⟨w.heap.size, 1, none⟩ = some (.slice U up.length c2) := HP0.out.cell 1
    have s0 : w3.cell? ⟨w.heap.size + 1, 0, none⟩ = some (.int .i64 pv) := HP1.out.cell 0
    have s1 : w3.cell? ⟨w.heap.size + 1, 1, none⟩ = some (.int .i64 pl) := HP1.out.cell 1
    have s2 : w3.cell? ⟨w.heap.size + 1, 2, none⟩ = some (.slice cA code.length cc) := HP1.out.cell 2
    have s3 : w3.cell? ⟨w.heap.size + 1, 3, none⟩ = some (.slice mA mem.length mc) := HP1.out.cell 3
    have s4 : w3.cell? ⟨w.heap.size + 1, 4, none⟩ = some (.slice sA n sc) := HP1.out.cell 4
    have s5 : w3.cell? ⟨w.heap.size + 1, 5, none⟩ = some (.slice oA out.length oc) := HP1.out.cell 5
    go_wp2
    go_loopw [5, 40] (fun o i wr => ∃ k : Nat, k ≤ n ∧ i = .int .i64 k ∧ o = .string (Lx.pack (rkL names pre stack k)) ∧ Hid (Below w.heap.size w wr) ∧ Hid (Blk wr w.heap.size 25 #[.slice N names.length c1, .slice U up.length c2]) ∧ Hid (Blk wr (w.heap.size + 1) 42 #[.int .i64 pv, .int .i64 pl, .slice cA code.length cc, .slice mA mem.length mc, .slice sA n sc, .slice oA out.length oc])) (fun _ i _ => n - (intOf i).toNat)
    case atStart => exact ⟨0, Nat.zero_le _, rfl, congrArg Value.string (HPRE.out.trans (by rw [rkL_zero])), HB, HP0, HP1⟩
    case round =>
      clear HB HP0 HP1 HPRE HL1 HL2 HL3 a0 a1 s0 s1 s2 s3 s4 s5
      obtain ⟨k, hk, rfl, rfl, HB, HP0, HP1⟩ := hrel
      have hlen := HLEN.out k
      by_cases hlt : k < n
      · obtain ⟨ad, x, rfl, hxb, hx, x0, x1, x2⟩ := srow_at (HSR.out.below HB.out) (show k < stack.length by rw [HN.out]; exact hlt)
        have hxok := HALL.out x (List.mem_of_getElem? hx)
        have hz9 := HB.out.size
        have hxb2 : (ad.add (k * 3)).block < wr.heap.size := by rw [add_block]; omega
        have HNX := Lib.hid (rkL_next names pre hx)
        have hx9 := hxok
        unfold St.slotB at hx9
        simp only [Bool.and_eq_true] at hx9
        have hc0 := fun W hb => HONE.out x.v x.l hx9.1.1 hx9.1.2 W hb
        have htz := atomL_len HNS.out hx9.1.1 hx9.1.2
        have s4 : wr.cell? ⟨w.heap.size + 1, 4, none⟩ = some (.slice (some ad) n sc) := HP1.out.cell 4
        obtain ⟨xr, xv, xl⟩ := x
        dsimp only at x0 x1 x2 hc0 htz
        have hal := (Below.refl wr.heap.size wr).alloc (Nat.le_refl _) (.cells #[.bool xr, .int .i64 xv, .int .i64 xl] 73)
        have hbw1 := HB.out.trans (hal.mono HB.out.size)
        have hp0 := HP0.out.below hal HP0.out.lt
        have hp1 := HP1.out.below hal HP1.out.lt
        have hbx := Blk.new wr 73 #[.bool xr, .int .i64 xv, .int .i64 xl]
        have hc := hc0 _ hbw1
        obtain ⟨W1, hW1⟩ : ∃ W1, wr.alloc (.cells #[.bool xr, .int .i64 xv, .int .i64 xl] 73) = W1 := ⟨_, rfl⟩
        rw [hW1] at hbw1 hp0 hp1 hbx hc
        have a0 : W1.cell? ⟨w.heap.size, 0, none⟩ = some (.slice N names.length c1) := hp0.cell 0
        have a1 : W1.cell? ⟨w.heap.size, 1, none⟩ = some (.slice U up.length c2) := hp0.cell 1
        have t0 := hbx.cell 0
        have t1 := hbx.cell 1
        have t2 := hbx.cell 2
        have HB1 := Lib.hid hbw1
        have HQ0 := Lib.hid hp0
        have HQ1 := Lib.hid hp1
        have hblt := hbx.lt
        have hplt := hp0.lt
        have hplt1 := hp1.lt
        have htz2 : (Lx.pack (St.atomL names xv xl)).size ≤ 19 := by rw [Lx.pack_size]; exact htz
        obtain ⟨t, ht⟩ : ∃ t, Lx.pack (St.atomL names xv xl) = t := ⟨_, rfl⟩
        obtain ⟨o, ho⟩ : ∃ o, Lx.pack (rkL names pre stack k) = o := ⟨_, rfl⟩
        rw [ht] at hc htz2
        rw [ho] at hlen ⊢
        have HC := Lib.hid hc
        have HT := Lib.hid ht
        have HO := Lib.hid ho
        clear hx hxok hx9 hal hbw1 hp0 hp1 hbx hc0 hc htz ht ho HP0 HP1 HONE HL4
        by_cases hk0 : 0 < k
        · have hgt : (k : Int) > 0 := by omega
          cases xr with
          | true =>
            have HEQ := Lib.hid (show ((o ++ ({ data := #[32, 44] } : ByteArray) ++ ({ data := #[32, 114, 101, 116] } : ByteArray)) ++ ({ data := #[32] } : ByteArray)) ++ t = Lx.pack (rkL names pre stack (k + 1)) by
              rw [HNX.out, if_pos hk0, ← HO.out, ← HT.out]
              unfold St.slotL
              rw [if_pos rfl]
              simp only [lit32, lit44, litret, pack_app]
              congr 1 <;> simp)
            have q0 : (9223372036854775807 < o.size + 2) = False := eq_false (by omega)
            have q3 : (9223372036854775807 < o.size + 2 + 4) = False := eq_false (by omega)
            have q1 : (9223372036854775807 < o.size + 2 + 4 + 1) = False := eq_false (by omega)
            have q2 : (9223372036854775807 < o.size + 2 + 4 + 1 + t.size) = False := eq_false (by omega)
            go_wp2_with (fail)
            refine HC.out.mono ?_
            rintro e w2 ⟨rfl, hb2⟩
            have HB2 := Lib.hid (HB1.out.trans (hb2.mono HB1.out.size))
            have HP2 := Lib.hid (HQ0.out.below hb2 HQ0.out.lt)
            have HP3 := Lib.hid (HQ1.out.below hb2 HQ1.out.lt)
            clear hb2 a0 a1 t0 t1 t2
            go_wp2
            go_roundw
            case rel => exact ⟨k + 1, by omega, by go_num, congrArg Value.string HEQ.out, HB2, HP2, HP3⟩
            case measure => simp [intOf]; omega
          | false =>
            have HEQ := Lib.hid (show ((o ++ ({ data := #[32, 44] } : ByteArray)) ++ ({ data := #[32] } : ByteArray)) ++ t = Lx.pack (rkL names pre stack (k + 1)) by
              rw [HNX.out, if_pos hk0, ← HO.out, ← HT.out]
              unfold St.slotL
              rw [if_neg (show ¬ (false = true) by decide)]
              simp only [lit32, lit44, pack_app]
              congr 1 <;> simp)
            have q0 : (9223372036854775807 < o.size + 2) = False := eq_false (by omega)
            have q1 : (9223372036854775807 < o.size + 2 + 1) = False := eq_false (by omega)
            have q2 : (9223372036854775807 < o.size + 2 + 1 + t.size) = False := eq_false (by omega)
            go_wp2_with (fail)
            refine HC.out.mono ?_
            rintro e w2 ⟨rfl, hb2⟩
            have HB2 := Lib.hid (HB1.out.trans (hb2.mono HB1.out.size))
            have HP2 := Lib.hid (HQ0.out.below hb2 HQ0.out.lt)
            have HP3 := Lib.hid (HQ1.out.below hb2 HQ1.out.lt)
            clear hb2 a0 a1 t0 t1 t2
            go_wp2
            go_roundw
            case rel => exact ⟨k + 1, by omega, by go_num, congrArg Value.string HEQ.out, HB2, HP2, HP3⟩
            case measure => simp [intOf]; omega
        · have hgt : ¬ (k : Int) > 0 := by omega
          have hgt2 : (0 < (k : Int)) = False := eq_false (by omega)
          cases xr with
          | true =>
            have HEQ := Lib.hid (show ((o ++ ({ data := #[32, 114, 101, 116] } : ByteArray)) ++ ({ data := #[32] } : ByteArray)) ++ t = Lx.pack (rkL names pre stack (k + 1)) by
              rw [HNX.out, if_neg hk0, ← HO.out, ← HT.out]
              unfold St.slotL
              rw [if_pos rfl]
              simp only [lit32, litret, pack_app]
              congr 1 <;> simp)
            have q3 : (9223372036854775807 < o.size + 4) = False := eq_false (by omega)
            have q1 : (9223372036854775807 < o.size + 4 + 1) = False := eq_false (by omega)
            have q2 : (9223372036854775807 < o.size + 4 + 1 + t.size) = False := eq_false (by omega)
            go_wp2_with (fail)
            refine HC.out.mono ?_
            rintro e w2 ⟨rfl, hb2⟩
            have HB2 := Lib.hid (HB1.out.trans (hb2.mono HB1.out.size))
            have HP2 := Lib.hid (HQ0.out.below hb2 HQ0.out.lt)
            have HP3 := Lib.hid (HQ1.out.below hb2 HQ1.out.lt)
            clear hb2 a0 a1 t0 t1 t2
            go_wp2
            go_roundw
            case rel => exact ⟨k + 1, by omega, by go_num, congrArg Value.string HEQ.out, HB2, HP2, HP3⟩
            case measure => simp [intOf]; omega
          | false =>
            have HEQ := Lib.hid (show ((o) ++ ({ data := #[32] } : ByteArray)) ++ t = Lx.pack (rkL names pre stack (k + 1)) by
              rw [HNX.out, if_neg hk0, ← HO.out, ← HT.out]
              unfold St.slotL
              rw [if_neg (show ¬ (false = true) by decide)]
              simp only [lit32, pack_app]
              congr 1 <;> simp)
            have q1 : (9223372036854775807 < o.size + 1) = False := eq_false (by omega)
            have q2 : (9223372036854775807 < o.size + 1 + t.size) = False := eq_false (by omega)
            go_wp2_with (fail)
            refine HC.out.mono ?_
            rintro e w2 ⟨rfl, hb2⟩
            have HB2 := Lib.hid (HB1.out.trans (hb2.mono HB1.out.size))
            have HP2 := Lib.hid (HQ0.out.below hb2 HQ0.out.lt)
            have HP3 := Lib.hid (HQ1.out.below hb2 HQ1.out.lt)
            clear hb2 a0 a1 t0 t1 t2
            go_wp2
            go_roundw
            case rel => exact ⟨k + 1, by omega, by go_num, congrArg Value.string HEQ.out, HB2, HP2, HP3⟩
            case measure => simp [intOf]; omega
      · obtain rfl : k = n := by omega
        have s5 : wr.cell? ⟨w.heap.size + 1, 5, none⟩ = some (.slice oA out.length oc) := HP1.out.cell 5
        have a0 : wr.cell? ⟨w.heap.size, 0, none⟩ = some (.slice N names.length c1) := HP0.out.cell 0
        have a1 : wr.cell? ⟨w.heap.size, 1, none⟩ = some (.slice U up.length c2) := HP0.out.cell 1
        have hplt := HP0.out.lt
        have hplt1 := HP1.out.lt
        have HEQ := Lib.hid (show Lx.pack (rkL names pre stack k) ++ ({ data := #[32, 59, 10] } : ByteArray) ++ t4 = Lx.pack (St.textL names full) by
          rw [← HFIN.out, show ({ data := #[32, 59, 10] } : ByteArray) = Lx.pack [32, 59, 10] from rfl, pack_app]
          unfold rkL
          rw [List.take_of_length_le (by rw [HN.out]; exact Nat.le_refl _)])
        generalize Lx.pack (rkL names pre stack k) = o at *
        have q1 : (9223372036854775807 < o.size + 3) = False := eq_false (by omega)
        have q2 : (9223372036854775807 < o.size + 3 + t4.size) = False := eq_false (by omega)
        have HC4 := Lib.hid (HL4.out wr HB.out)
        clear HONE HL4 HFIN
        go_wp2_with (fail)
        refine HC4.out.mono ?_
        rintro e w9 ⟨rfl, hb9⟩
        have HB9 := Lib.hid (HB.out.trans (hb9.mono HB.out.size))
        clear hb9
        go_wp2
        go_ret
        exact ⟨congrArg (fun s => Ending.returned (.string s)) HEQ.out, HB9.out⟩
end Go.Proofs.YtipbilmnknmhmaaGreatDoor
