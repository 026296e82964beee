/- The walk of slices.Clone at []int. -/
import Derived.Laws.IdiomCopy
import Derived.Lib.SlBuf
import Derived.Lib.SliceRun
import Derived.BigRegion
import Derived.BigQuiet
import Derived.Test.YtmbgndcahlopdaaGRulA
import Derived.Test.YtmbgndcahlopdaaGBase
namespace Go.Proofs.Ytmbgndcahlopdaa
set_option maxRecDepth 100000
open Go.RowKit Go.Shelf

theorem own_empty1 (w : World) (e : TypeId) : (w.alloc (.cells #[] e)).ownsRow w.heap.size e 1 (.slice (some ⟨w.heap.size, 0, none⟩) 0 0) 0 [] :=
  ⟨by simp, .inr ⟨w.heap.size, 0, #[], rfl, Nat.le_refl _, World.alloc_heap_new w _, Nat.le_refl _, by unfold maxLen; omega, by simp, by simp⟩⟩
def Cloned (w : World) (l : List Int) (e : Ending) (w' : World) : Prop := ∃ v, e = .returned v ∧ w'.ownsRow w.heap.size 3 1 v l.length (ints l) ∧ Below w.heap.size w w'
set_option maxHeartbeats 1000000 in
theorem cloneI_any (A : Option Addr) (c : Nat) (l : List Int) (w : World) (h : Row w w.heap.size A (ints l)) (hl : l.length ≤ 1000000) :
    Calls Try.prog 27 #[.slice A l.length c] w (Cloned w l) := by
  have hnil := fun (W : World) => Lib.run_eql_slice_nil (P := Try.prog) W 26 3 A l.length c 0 0 Try.underlying26
  cases A with
  | none =>
    have hl0 : l = [] := by
      match l, h with
      | [], _ => rfl
      | x :: r, h =>
        obtain ⟨ad, e, _⟩ := h (by simp [ints])
        cases e
    subst hl0
    have hn0 := fun (W : World) => Lib.run_eql_slice_nil (P := Try.prog) W 26 3 none 0 c 0 0 Try.underlying26
    show Calls Try.prog 27 #[.slice none 0 c] w (Cloned w [])
    clear hnil h hl
    go_enter Try.func27, Try.ntmps27
    go_wp2
    go_ret
    exact ⟨_, rfl, World.ownsRow_nil _ _ _ _, Below.refl _ _⟩
  | some ad =>
    obtain ⟨i0, hi, hz0, hz1, hz2⟩ := info_parts Try.infoInt
    have H := Lib.hid h
    clear h
    go_enter Try.func27, Try.ntmps27
    go_wp2_with (at_builtin; refine wpList_append_own _ rfl _ _ 26 rfl w.heap.size 3 i0 (.int .i64 0) 1 8 Try.underlying26 hi hz0 hz1 hz2 rfl (by decide) (.slice (some ⟨w.heap.size, 0, none⟩) 0 0) 0 [] rfl ?c0 ad l.length c (ints l) rfl ?c1 ?c2 ?c3 ?c4 ?c5 ?c6 ?_)
    case c0 => exact own_empty1 w 3
    case c1 => rw [ints_length, Nat.mul_one]
    case c2 =>
      intro j u hu
      obtain ⟨ad', e, hb, hc⟩ := (Row.below H.out ((Below.refl _ w).alloc (Nat.le_refl _) _)) (by rintro e; rw [e] at hu; simp at hu)
      injection e with e
      subst e
      exact hc j u hu
    case c3 =>
      intro u hu
      obtain ⟨x, _, rfl⟩ := List.mem_map.1 hu
      rfl
    case c4 => unfold maxLen; omega
    case c5 => omega
    case c6 => simp
    intro v' w' hown hg _
    have HO := Lib.hid hown
    have HG := Lib.hid hg
    clear hown hg
    go_wp2
    go_ret
    exact ⟨v', rfl, HO.out, ((Below.refl _ w).alloc (Nat.le_refl _) _).grown HG.out (by simp) (fun k he => by cases he; exact Nat.le_refl _)⟩
end Go.Proofs.Ytmbgndcahlopdaa

/- Draws in memory: package draw's left, and the parts of take. -/
namespace Go.Proofs.Ytmbgndcahlopdaa
set_option maxRecDepth 100000
open Go.RowKit Go.Shelf
attribute [local go_sem] Oper.semAt_some

theorem left13_any (n b : Int) (hb : 0 < b) (hB : b < 9223372036854775808) (w : World) : Calls Try.prog 130 #[.int .i64 n, .int .i64 b] w fun e w' => e = .returned (.int .i64 (n % b)) ∧ w = w' := by
  have he := Dr.left_eq n b hb
  have h1 := Int.lt_tmod_of_pos n hb
  have h2 := Int.tmod_lt_of_pos n hb
  have hw : wrap64 (n.tmod b) = n.tmod b := by unfold wrap64; omega
  have hw2 : n.tmod b < 0 → wrap64 (n.tmod b + b) = n.tmod b + b := fun h => by unfold wrap64; omega
  have hb0 : (b == 0) = false := by rw [beq_eq_false_iff_ne]; omega
  have hb1 : ¬ b = 0 := by omega
  by_cases hn : n.tmod b < 0
  · rw [if_pos hn] at he
    have HE := Lib.hid (he.trans (hw2 hn).symm)
    have hl : decide (n.tmod b < 0) = true := decide_eq_true hn
    clear h1 h2 hw2 he hn
    go_enter Try.func130, Try.ntmps130
    go_wp2
    go_ret
    exact ⟨by rw [HE.out]; rfl, rfl⟩
  · rw [if_neg hn] at he
    have hl : decide (n.tmod b < 0) = false := decide_eq_false hn
    have HE := Lib.hid he
    clear h1 h2 hw2 he hn
    go_enter Try.func130, Try.ntmps130
    go_wp2
    go_ret
    exact ⟨by rw [HE.out]; rfl, rfl⟩
theorem below_drewN13 (B : Nat) (w : World) (k : Nat) : Below B w (w.drewN k) := ⟨rfl, rfl, rfl, Nat.le_refl _, fun _ _ => rfl⟩
theorem own_ofD {W W' : World} {base sz n : Nat} {e : TypeId} {rv : Value} {xs : List Value} (h : W.ownsRow base e sz rv n xs) (hk : ∀ g, rv.ownBlock = some g → W'.heap[g]? = W.heap[g]?) : W'.ownsRow base e sz rv n xs :=
  ⟨h.1, h.2.imp id fun ⟨g, cap, cur, he, hb', hh, r⟩ => ⟨g, cap, cur, he, hb', (hk g (by rw [he]; rfl)).trans hh, r⟩⟩
theorem own_blkD {W : World} {base sz n : Nat} {e : TypeId} {rv : Value} {xs : List Value} (h : W.ownsRow base e sz rv n xs) {g : Nat} (hg : rv.ownBlock = some g) : ∃ cs, Blk W g e cs := by
  rcases h.2 with ⟨he, _⟩ | ⟨g', cap, cur, he, _, hh, _⟩
  · rw [he] at hg; cases hg
  · rw [he] at hg
    injection hg with hg
    subst hg
    exact ⟨cur, hh⟩
theorem Blk.ty_neD {W : World} {a b : Nat} {t u : TypeId} {c d : Array Value} (h : Blk W a t c) (h' : Blk W b u d) (htu : t ≠ u) : a ≠ b := by
  rintro rfl
  have := h.symm.trans h'
  injection this with this
  injection this with h1 h2
  exact htu h2
theorem wpList_appD {P : Program} {ops : Array Oper} {rest : List Oper} {o : Oper} {a : Act} {w : World} {Q : Exit → Act → World → Prop} (hgd : o.guard = none) (s x : Operand) (t1 t2 : TypeId)
    (ho : o.op = .call { callee := .builtin .append, args := #[s, x], argTypes := #[t1, t2] }) (v1 v2 : Value) (hs : a.eval s = v1) (hx : a.eval x = v2) (v' : Value) (w' : World)
    (hr : (Builtin.append_ #[t1, t2] o.type #[v1, v2]).run P w = .ok v' w') (h : wpList P ops Q rest (a.put o.dst v') w') : wpList P ops Q (o :: rest) a w := by
  refine wpList_plain hgd fun K hK => ?_
  unfold Oper.wp execOp
  simp only [ho, resolve, invoke, builtin, Sem.run_bind, Sem.run_pure, Result.andThen_ok, List.map_toArray, List.map_cons, List.map_nil, hs, hx, hr]
  exact hK _ _ h
/-- A box of draws, whose two rows are its own, and apart. -/
structure Drws (w : World) (B G n m : Nat) (list log : List Int) (i : Nat) (A : Option Addr) (c : Nat) (L : Option Addr) (d : Nat) : Prop where
  box : Blk w G 30 #[.slice A n c, .int .i64 (i : Int), .slice L m d]
  la : w.ownsRow B 3 1 (.slice A n c) n (ints list)
  lo : w.ownsRow B 3 1 (.slice L m d) m (ints log)
  ne : ∀ g, (Value.slice A n c).ownBlock = some g → (Value.slice L m d).ownBlock ≠ some g
  bg : B ≤ G
section
variable {w : World} {B G n m : Nat} {list log : List Int} {i : Nat} {A : Option Addr} {c : Nat} {L : Option Addr} {d : Nat}
theorem Drws.drew (h : Drws w B G n m list log i A c L d) : Drws w.drew B G n m list log i A c L d := ⟨h.box, h.la, h.lo, h.ne, h.bg⟩
theorem Drws.drewN (h : Drws w B G n m list log i A c L d) (k : Nat) : Drws (w.drewN k) B G n m list log i A c L d := ⟨h.box, h.la, h.lo, h.ne, h.bg⟩
theorem Drws.len (h : Drws w B G n m list log i A c L d) : list.length = n := by have := h.la.1; rw [ints_length] at this; omega
theorem Drws.len2 (h : Drws w B G n m list log i A c L d) : log.length = m := by have := h.lo.1; rw [ints_length] at this; omega
theorem Drws.apart (h : Drws w B G n m list log i A c L d) {g : Nat} (hg : (Value.slice A n c).ownBlock = some g ∨ (Value.slice L m d).ownBlock = some g) : g ≠ G := by
  rcases hg with hg | hg
  · obtain ⟨cs, hb⟩ := own_blkD h.la hg
    exact hb.ty_neD h.box (by decide)
  · obtain ⟨cs, hb⟩ := own_blkD h.lo hg
    exact hb.ty_neD h.box (by decide)
theorem Drws.at_ (h : Drws w B G n m list log i A c L d) (j : Nat) : Drws (w.setCell ⟨G, 1, none⟩ (.int .i64 (j : Int))) B G n m list log j A c L d :=
  ⟨h.box.set_ 1 _, own_ofD h.la fun g hg => Below.heap_setCell w _ _ g (h.apart (.inl hg)), own_ofD h.lo fun g hg => Below.heap_setCell w _ _ g (h.apart (.inr hg)), h.ne, h.bg⟩
/-- One choice more behind the log. -/
theorem Drws.push (h : Drws w B G n m list log i A c L d) (x : Int) (hm : m ≤ 100000) :
    ∃ L' d' W, (Builtin.append_ #[26, 26] 26 #[.slice L m d, .slice (some ⟨w.heap.size, 0, none⟩) 1 1]).run Try.prog (w.alloc (.cells #[.int .i64 x] 3)) = .ok (.slice L' (m + 1) d') W ∧
      Blk W G 30 #[.slice A n c, .int .i64 (i : Int), .slice L m d] ∧ Below B w W ∧
      Drws (W.setCell ⟨G, 2, none⟩ (.slice L' (m + 1) d')) B G n (m + 1) list (log ++ [x]) i A c L' d' ∧ Below B w (W.setCell ⟨G, 2, none⟩ (.slice L' (m + 1) d')) := by
  obtain ⟨i0, hi, hz0, hz1, hz2⟩ := info_parts Try.infoInt
  have hG := h.box.lt
  have hB := h.bg
  have hcell := (Blk.new w 3 #[.int .i64 x]).row (cs := [.int .i64 x]) (t := 3)
  obtain ⟨v', W, hrun, hown, hg, -, hwh⟩ := run_append_own_at (P := Try.prog) (w.alloc (.cells #[.int .i64 x] 3)) B 26 26 3 i0 (.int .i64 0) 1 8 Try.underlying26 hi hz0 hz1 hz2 rfl (by decide) _ m _ (h.lo.alloc _) ⟨w.heap.size, 0, none⟩ 1 1 [.int .i64 x] rfl
    (fun j u hu => by
      obtain ⟨ad', e, _, hc⟩ := hcell (by simp)
      injection e with e
      subst e
      exact hc j u hu) (by intro u hu; simp at hu; rw [hu]; rfl) (by unfold maxLen; omega) (by omega) (by simp; omega)
  obtain ⟨L', d', rfl⟩ := ownT_slice hown
  have ha := h.box.alloc (.cells #[.int .i64 x] 3)
  have hk : Blk W G 30 #[.slice A n c, .int .i64 (i : Int), .slice L m d] := (hg.block G ha.lt (fun e => h.apart (.inr e.symm) rfl)).trans ha
  have hla : W.ownsRow B 3 1 (.slice A n c) n (ints list) := own_ofD (h.la.alloc (.cells #[.int .i64 x] 3)) fun g hg' => hg.block g (by have := (h.la.lt g hg').2; simp; omega) fun e => h.ne g hg' e.symm
  have hb1 : Below B w W := ((Below.refl B w).alloc (by omega) _).grown hg (by simp; omega) fun k e => (h.lo.lt k e).1
  rw [← ints_snoc] at hown
  have hap : ∀ g, (Value.slice A n c).ownBlock = some g ∨ (Value.slice L' (m + 1) d').ownBlock = some g → g ≠ G := by
    rintro g (hg' | hg')
    · obtain ⟨cs, hb⟩ := own_blkD hla hg'
      exact hb.ty_neD hk (by decide)
    · obtain ⟨cs, hb⟩ := own_blkD hown hg'
      exact hb.ty_neD hk (by decide)
  refine ⟨L', d', W, hrun, hk, hb1, ⟨hk.set_ 2 _, own_ofD hla fun g hg' => Below.heap_setCell W _ _ g (hap g (.inl hg')), own_ofD hown fun g hg' => Below.heap_setCell W _ _ g (hap g (.inr hg')), fun g hg' => ?_, hB⟩, hb1.setCell hB _⟩
  rcases hwh with e | e
  · rw [e]; exact h.ne g hg'
  · rw [e]
    intro e2
    injection e2 with e2
    have := (h.la.lt g hg').2
    simp at e2
    omega
end
end Go.Proofs.Ytmbgndcahlopdaa

/- The walk of package draw's take. -/
namespace Go.Proofs.Ytmbgndcahlopdaa
set_option maxRecDepth 100000
open Go.RowKit Go.Shelf
attribute [local go_sem] Oper.semAt_some

/-- What take answers: the error, and the draws behind it. -/
def Took13 (w : World) (B G n m : Nat) (list log : List Int) (i : Nat) (A : Option Addr) (c : Nat) (b : Int) (e : Ending) (w' : World) : Prop :=
  if b < 1 then e = .returned (.int .i64 1) ∧ w = w' else if m = 2000 then e = .returned (.int .i64 8) ∧ w = w' else
    e = .returned (.int .i64 0) ∧ ∃ L' d', Drws w' B G n (m + 1) list (log ++ [Dr.choice list i b]) (Dr.next list i) A c L' d' ∧ Below B w w'
set_option maxHeartbeats 2000000 in
theorem take13_any {w : World} {B G n m : Nat} {list log : List Int} {i : Nat} {A : Option Addr} {c : Nat} {L : Option Addr} {d : Nat} (b : Int) (h : Drws w B G n m list log i A c L d) (_ : n ≤ 1000000) (hi : i ≤ 9223372036854775807) (hm : m ≤ 2000) (hB : b < 9223372036854775808) :
    Calls Try.prog 126 #[.pointer (some ⟨G, 0, none⟩), .int .i64 b] w (Took13 w B G n m list log i A c b) := by
  have q0 : w.cell? ⟨G, 0, none⟩ = some (.slice A n c) := h.box.cell 0
  have q1 : w.cell? ⟨G, 1, none⟩ = some (.int .i64 (i : Int)) := h.box.cell 1
  have q2 : w.cell? ⟨G, 2, none⟩ = some (.slice L m d) := h.box.cell 2
  have f1 := h.box.frozen 1
  have f2 := h.box.frozen 2
  unfold Took13
  by_cases hb : b < 1
  · have hl : decide (b < 1) = true := decide_eq_true hb
    simp only [if_pos hb]
    clear h hi hB hb
    go_enter Try.func126, Try.ntmps126
    go_wp2
    go_ret
    exact ⟨rfl, rfl⟩
  · have hl : decide (b < 1) = false := decide_eq_false hb
    simp only [if_neg hb]
    by_cases hm2 : m = 2000
    · subst hm2
      simp only [if_pos]
      clear h hi hB hb
      go_enter Try.func126, Try.ntmps126
      go_wp2
      go_ret
      exact ⟨rfl, rfl⟩
    · simp only [if_neg hm2]
      have hmz : ((m : Int) == 2000) = false := by rw [beq_eq_false_iff_ne]; omega
      by_cases hlt : i < n
      · have hlen := h.len
        have hrow := (ownT_row h.la).1
        obtain ⟨ad, hA, hba, c0⟩ := irow_at hrow (show i < list.length by omega)
        have hx : list[i]? = some (list[i]'(by omega)) := List.getElem?_eq_getElem _
        have hch : Dr.choice list i b = (list[i]'(by omega)) % b := by unfold Dr.choice; rw [if_pos (by omega), List.getD_eq_getElem?_getD, hx]; rfl
        have hnx : Dr.next list i = i + 1 := by unfold Dr.next; rw [if_pos (by omega)]
        rw [hch, hnx]
        generalize list[i]'(by omega) = x at *
        obtain ⟨y, hy⟩ : ∃ y, x % b = y := ⟨_, rfl⟩
        have hleft := fun W => left13_any x b (by omega) hB W
        rw [hy] at hleft ⊢
        have hp := fun N => ((h.drewN N).at_ (i + 1)).push y (by omega)
        simp only [World.size_setCell, Int.natCast_succ] at hp
        subst hA
        have HC := Lib.hid hleft
        have HP := Lib.hid hp
        have HBG := Lib.hid h.bg
        clear h hleft hp hrow hx hch hnx hy hlen hB hb
        go_enter Try.func126, Try.ntmps126
        go_wp2
        go_region
        go_wp2
        go_quiet (exact quiet_same2 (HC.out _))
        obtain ⟨L', d', W, hrun, hk, hb1, hD, hbD⟩ := HP.out (1 + nq)
        have k2 : W.cell? ⟨G, 2, none⟩ = some (.slice L m d) := hk.cell 2
        have k3 := hk.frozen 2
        have HRUN := Lib.hid hrun
        have HD := Lib.hid hD
        have HBD := Lib.hid (((below_drewN13 B w (1 + nq)).setCell (p := ⟨G, 1, none⟩) HBG.out (.int .i64 ((i : Int) + 1))).trans hbD)
        clear hrun hD hbD hb1 hk
        go_wp2_with (at_builtin; refine wpList_appD rfl _ _ 26 26 rfl _ _ rfl rfl _ _ HRUN.out ?_)
        go_wp2
        go_ret
        exact ⟨rfl, L', d', HD.out, HBD.out⟩
      · have hlen := h.len
        have hch : Dr.choice list i b = 0 := by unfold Dr.choice; rw [if_neg (by omega)]
        have hnx : Dr.next list i = i := by unfold Dr.next; rw [if_neg (by omega)]
        rw [hch, hnx]
        obtain ⟨L', d', W, hrun, hk, hb1, hD, hbD⟩ := h.drew.push 0 (by omega)
        have k2 : W.cell? ⟨G, 2, none⟩ = some (.slice L m d) := hk.cell 2
        have k3 := hk.frozen 2
        have HRUN := Lib.hid hrun
        have HD := Lib.hid hD
        have HBD := Lib.hid (((Below.refl B w).drew).trans hbD)
        clear h hrun hD hbD hb1 hk hch hnx hlen hB hb
        go_enter Try.func126, Try.ntmps126
        go_wp2
        go_region
        go_wp2_with (at_builtin; refine wpList_appD rfl _ _ 26 26 rfl _ _ rfl rfl _ _ HRUN.out ?_)
        go_wp2
        go_ret
        exact ⟨rfl, L', d', HD.out, HBD.out⟩
end Go.Proofs.Ytmbgndcahlopdaa
