/- Labels of rows: package equiv's labels for the three kinds; slices.Concat at []int (by gen_eqvc.py). -/
import Derived.Test.YtlddglhjpiahfaaGEqvB
import Derived.Test.YtlddglhjpiahfaaGJudM
import Derived.Test.YtlddglhjpiahfaaGCodE
import Derived.Test.YtlddglhjpiahfaaGOrd
import Derived.Test.YtlddglhjpiahfaaGCodK
namespace Go.Proofs.Ytlddglhjpiahfaa
set_option maxRecDepth 100000
open Go.RowKit Go.Shelf Go.Sort
attribute [local go_sem] Oper.semAt_some
theorem run_append_noneE {P : Program} {w : World} {base : Nat} (t ty e : TypeId) (i : TypeInfo) (size c : Nat) (ht : P.underlying t = some (.slice e)) (hi : P.info? e = some i)
    (v : Value) (n : Nat) (xs : List Value) (hown : w.ownsRow base e size v n xs) : (Builtin.append_ #[t, t] ty #[v, .slice none 0 c]).run P w = .ok v w := by
  rcases hown.2 with ⟨rfl, rfl⟩ | ⟨g, cap, cur, rfl, _, _, hnc, _⟩
  · simp [Builtin.append_, run_underlying ht, sizeOf, typeInfo, hi, Builtin.lenOf, Builtin.firstCells]
  · simp [Builtin.append_, run_underlying ht, sizeOf, typeInfo, hi, Builtin.lenOf, Builtin.firstCells, hnc, storeCells]
theorem Row.cellE {w : World} {B : Nat} {ad : Addr} {xs : List Value} (h : Row w B (some ad) xs) {j : Nat} {u : Value} (hu : xs[j]? = some u) : w.cell? (ad.add j) = some u := by
  obtain ⟨ad', e, _, hc⟩ := h (by rintro rfl; simp at hu)
  injection e with e
  subst e
  exact hc j u hu
/-- append, of a row without a place and any room. -/
theorem append_runE {P : Program} {w : World} (base : Nat) (t ty e : TypeId) (i : TypeInfo) (z : Value) (size bytes : Nat) (ht : P.underlying t = some (.slice e)) (hi : P.info? e = some i) (hz : i.zero = some z)
    (hsize : i.size = size) (hby : i.bytes = bytes) (hzs : z.cells.size = size) (hsz : 0 < size) (v : Value) (n : Nat) (xs : List Value) (hown : w.ownsRow base e size v n xs)
    (A : Option Addr) (m c : Nat) (news : List Value) (hn : news.length = m * size) (hr : Row w w.heap.size A news) (h1 : ∀ u ∈ news, u.oneCell' = true)
    (h63 : n + m ≤ maxLen) (hbytes : (n + m) * bytes ≤ 140737488355328) (hbase : base ≤ w.heap.size) :
    ∃ v' w', (Builtin.append_ #[t, t] ty #[v, .slice A m c]).run P w = .ok v' w' ∧ w'.ownsRow base e size v' (n + m) (xs ++ news) ∧ Below base w w' ∧ ∀ (g : Nat) (t : TypeId) (cs : Array Value), some g ≠ v.ownBlock → Blk w g t cs → Blk w' g t cs := by
  cases A with
  | some ad =>
    obtain ⟨v', w', h1, h2, h3, _, h5⟩ := run_append_own_at (P := P) w base t ty e i z size bytes ht hi hz hsize hby hzs hsz v n xs hown ad m c news hn (fun j u hu => Row.cellE hr hu) h1 h63 hbytes hbase
    exact ⟨v', w', h1, h2, (Below.refl base w).grown h3 hbase (fun k he => (hown.lt k he).1), fun g t cs hg hb => (h3.block g hb.lt hg).trans hb⟩
  | none =>
    have hn0 : news = [] := by
      cases news with
      | nil => rfl
      | cons y r => obtain ⟨ad, e, _⟩ := hr (by simp); cases e
    subst hn0
    have hm : m = 0 := by
      rcases Nat.eq_zero_or_pos m with h | h
      · exact h
      · have := Nat.mul_pos h hsz; simp at hn; omega
    subst hm
    exact ⟨v, w, run_append_noneE (P := P) (w := w) t ty e i size c ht hi v n xs hown, by simpa using hown, Below.refl _ _, fun _ _ _ _ h => h⟩
theorem one_row (w : World) (x : Value) (t : TypeId) : Row (w.alloc (.cells #[x] t)) (w.alloc (.cells #[x] t)).heap.size (some ⟨w.heap.size, 0, none⟩) [x] :=
  (Blk.new w t [x].toArray).row.more (by simp)
/-- Numbers in a row of one's own. -/
def GotInts (w : World) (ls : List Int) (e : Ending) (w' : World) : Prop := ∃ A c, e = .returned (.slice A ls.length c) ∧ w'.ownsRow w.heap.size 3 1 (.slice A ls.length c) ls.length (ints ls) ∧ Below w.heap.size w w'
theorem own_start (w : World) (n : Nat) (hn : n ≤ 1000000) : (w.alloc (.cells (madeCells #[.int .i64 0] n) 3)).ownsRow w.heap.size 3 1 (.slice (some ⟨w.heap.size, 0, none⟩) 0 n) 0 [] :=
  ⟨by simp, .inr ⟨w.heap.size, n, _, rfl, Nat.le_refl _, World.alloc_heap_new w _, Nat.zero_le _, by unfold maxLen; omega, by simp [madeCells], by simp⟩⟩

/-! atoms -/
set_option maxHeartbeats 8000000 in
theorem labelsA_any {B : Option Addr} {a : List St.Atom} (ca : Nat) (w : World) (ha : Row w w.heap.size B (fcells avs a)) (hn : a.length ≤ 100000) :
    Calls Try.prog 32 #[.slice B a.length ca, howA] w (GotInts w (a.map (·.l))) := by
  obtain ⟨i0, hi, hz0, hz1, hz2⟩ := info_parts Try.infoInt
  have hen : ∀ args W, (callFunc 52 args).run Try.prog W = .ok (.enter 52 args) W := Try.call52
  have hlab := fun (x : St.Atom) W => labA_any x.v x.l W
  obtain ⟨n, hna⟩ : ∃ n, a.length = n := ⟨_, rfl⟩
  unfold GotInts
  rw [List.length_map, hna]
  have hn9 : n ≤ 100000 := by omega
  have hmk : ∀ W, (Instr.makeSlice 83 (.int .i64 0) (.int .i64 (n : Int))).run Try.prog W = .ok (.slice (some ⟨W.heap.size, 0, none⟩) 0 n) (W.alloc (.cells (madeCells #[.int .i64 0] n) 3)) := fun W => by
    have h := run_make (P := Try.prog) W 83 3 i0 (.int .i64 0) Try.underlying83 hi hz0 .i64 .i64 0 n (by omega) (by omega) (by rw [hz2]; omega) (by omega)
    simp only [Int.toNat_natCast, Int.toNat_zero, hz1, Nat.mul_one] at h
    exact h
  have hb0 := (Below.refl w.heap.size w).alloc (Nat.le_refl _) (.cells #[.func (.func 52) #[] #[], .func (.func 53) #[] #[]] 63)
  have hk0 := Blk.new w 63 #[.func (.func 52) #[] #[], .func (.func 53) #[] #[]]
  obtain ⟨W0, hW0⟩ : ∃ W0, w.alloc (.cells #[.func (.func 52) #[] #[], .func (.func 53) #[] #[]] 63) = W0 := ⟨_, rfl⟩
  have hs0 : W0.heap.size = w.heap.size + 1 := by rw [← hW0]; simp
  rw [hW0] at hb0 hk0
  have hb1 := hb0.alloc hb0.size (.cells (madeCells #[.int .i64 0] n) 3)
  have hk1 := hk0.alloc (.cells (madeCells #[.int .i64 0] n) 3)
  have ho1 := own_start W0 n (by omega)
  rw [hs0] at ho1
  have HK1 := Lib.hid hk1
  have HB1 := Lib.hid hb1
  have HO1 := Lib.hid ho1
  have HS0 := Lib.hid hs0
  have H := Lib.hid ha
  have HNA := Lib.hid hna
  have HLAB := Lib.hid hlab
  clear ha hna hb0 hk0 hb1 hk1 ho1 hs0 hlab hn
  unfold howA
  go_enter Try.func32, Try.ntmps32
  go_wp2
  go_loopw [5, 13] (fun v i wr => ∃ k : Nat, k ≤ n ∧ i = .int .i64 k ∧ Hid (wr.ownsRow (w.heap.size + 1) 3 1 v k (ints ((a.take k).map (·.l)))) ∧ Hid (Below w.heap.size w wr) ∧ Hid (Blk wr w.heap.size 63 #[.func (.func 52) #[] #[], .func (.func 53) #[] #[]])) (fun _ i _ => n - (intOf i).toNat)
  case atStart => exact ⟨0, Nat.zero_le _, rfl, Lib.hid (by rw [HS0.out]; exact HO1.out), HB1, HK1⟩
  case round =>
    obtain ⟨k, hk, rfl, HO, HB, HK⟩ := hrel
    clear HB1 HO1 HK1 hW0
    obtain ⟨An, cn, rfl⟩ := ownT_slice HO.out
    by_cases hlt : k < n
    · obtain ⟨ad, x, rfl, hxb, hx, x0, x1⟩ := arow_at (H.out.below HB.out) (show k < a.length by rw [HNA.out]; exact hlt)
      have hz := HB.out.size
      have hxb2 : (ad.add (k * 2)).block < wr.heap.size := by rw [add_block]; omega
      have hcall := HLAB.out x
      have hnx := congrArg (List.map (·.l)) (Ev.take_snoc hx)
      rw [List.map_append, List.map_cons, List.map_nil] at hnx
      have hba := HB.out.alloc hz (.cells #[.int .i64 x.v, .int .i64 x.l] 27)
      have hoa := HO.out.alloc (.cells #[.int .i64 x.v, .int .i64 x.l] 27)
      have hka := HK.out.alloc (.cells #[.int .i64 x.v, .int .i64 x.l] 27)
      have hxa := Blk.new wr 27 #[.int .i64 x.v, .int .i64 x.l]
      have hf : wr.cell? ⟨w.heap.size, 0, none⟩ = some (.func (.func 52) #[] #[]) := HK.out.cell 0
      have hlk := HK.out.lt
      have HCALL := Lib.hid hcall
      have HBA := Lib.hid hba
      have HOA := Lib.hid hoa
      have HKA := Lib.hid hka
      have HNX := Lib.hid hnx
      clear hx hcall hba hoa hka hxa hnx
      generalize x.v = xx0 at *
      generalize x.l = xx1 at *
      go_wp2_with (fail)
      refine (HCALL.out _).mono ?_
      rintro e w3 ⟨rfl, hb3⟩
      have hb4 := (HBA.out.trans (hb3.mono HBA.out.size))
      have ho4 := (ownT_below HOA.out hb3)
      have hk4 := HKA.out.below hb3 HKA.out.lt
      have hs4 := HKA.out.lt
      have hz4 := hb4.size
      obtain ⟨v', W5, hrun, hown5, hb5, hk5⟩ := append_runE (P := Try.prog) (w := w3.alloc (.cells #[.int .i64 xx1] 3)) (w.heap.size + 1) 83 83 3 i0 (.int .i64 0) 1 8 Try.underlying83 hi hz0 hz1 hz2 rfl (by decide) _ k _ (ho4.alloc _) (some ⟨w3.heap.size, 0, none⟩) 1 1 [.int .i64 xx1] rfl (one_row w3 _ _) (by intro u hu; simp at hu; rw [hu]; rfl) (by unfold maxLen; omega) (by omega) (by have := hk4.lt; simp; omega)
      have hk6 := hk5 _ _ _ (fun he => by have := (ho4.lt _ he.symm).1; omega) (hk4.alloc (.cells #[.int .i64 xx1] 3))
      have HRUN := Lib.hid hrun
      have HB6 := Lib.hid ((hb4.alloc hb4.size (.cells #[.int .i64 xx1] 3)).trans (hb5.mono (by omega)))
      have HK6 := Lib.hid hk6
      have HO6 : Hid (W5.ownsRow (w.heap.size + 1) 3 1 v' (k + 1) (ints ((a.take (k + 1)).map (·.l)))) := Lib.hid (by rw [HNX.out, ints_snoc]; exact hown5)
      clear hb3 hb4 ho4 hk4 hs4 hz4 hrun hown5 hb5 hk5 hk6 x0 x1 hf
      go_wp2_with (at_builtin; refine wpList_app_run rfl _ _ 83 83 rfl _ _ rfl rfl _ _ HRUN.out ?_)
      go_wp2
      go_roundw
      case rel => exact ⟨k + 1, by omega, by go_num, HO6, HB6, HK6⟩
      case measure => simp [intOf]; omega
    · obtain rfl : k = n := by omega
      have hall : a.take k = a := List.take_of_length_le (by rw [HNA.out]; exact Nat.le_refl _)
      have hres := HO.out
      rw [hall] at hres
      have HRES := Lib.hid (ownT_mono hres (Nat.le_succ _))
      clear hall hres
      go_wp2
      go_ret
      exact ⟨An, cn, rfl, HRES.out, HB.out⟩

/-! slots -/
set_option maxHeartbeats 8000000 in
theorem labelsS_any {B : Option Addr} {a : List St.Slot} (ca : Nat) (w : World) (ha : Row w w.heap.size B (fcells svs a)) (hn : a.length ≤ 100000) :
    Calls Try.prog 43 #[.slice B a.length ca, howS] w (GotInts w (a.map (·.l))) := by
  obtain ⟨i0, hi, hz0, hz1, hz2⟩ := info_parts Try.infoInt
  have hen : ∀ args W, (callFunc 59 args).run Try.prog W = .ok (.enter 59 args) W := Try.call59
  have hlab := fun (x : St.Slot) W => labS_any x.ret x.v x.l W
  obtain ⟨n, hna⟩ : ∃ n, a.length = n := ⟨_, rfl⟩
  unfold GotInts
  rw [List.length_map, hna]
  have hn9 : n ≤ 100000 := by omega
  have hmk : ∀ W, (Instr.makeSlice 83 (.int .i64 0) (.int .i64 (n : Int))).run Try.prog W = .ok (.slice (some ⟨W.heap.size, 0, none⟩) 0 n) (W.alloc (.cells (madeCells #[.int .i64 0] n) 3)) := fun W => by
    have h := run_make (P := Try.prog) W 83 3 i0 (.int .i64 0) Try.underlying83 hi hz0 .i64 .i64 0 n (by omega) (by omega) (by rw [hz2]; omega) (by omega)
    simp only [Int.toNat_natCast, Int.toNat_zero, hz1, Nat.mul_one] at h
    exact h
  have hb0 := (Below.refl w.heap.size w).alloc (Nat.le_refl _) (.cells #[.func (.func 59) #[] #[], .func (.func 60) #[] #[]] 77)
  have hk0 := Blk.new w 77 #[.func (.func 59) #[] #[], .func (.func 60) #[] #[]]
  obtain ⟨W0, hW0⟩ : ∃ W0, w.alloc (.cells #[.func (.func 59) #[] #[], .func (.func 60) #[] #[]] 77) = W0 := ⟨_, rfl⟩
  have hs0 : W0.heap.size = w.heap.size + 1 := by rw [← hW0]; simp
  rw [hW0] at hb0 hk0
  have hb1 := hb0.alloc hb0.size (.cells (madeCells #[.int .i64 0] n) 3)
  have hk1 := hk0.alloc (.cells (madeCells #[.int .i64 0] n) 3)
  have ho1 := own_start W0 n (by omega)
  rw [hs0] at ho1
  have HK1 := Lib.hid hk1
  have HB1 := Lib.hid hb1
  have HO1 := Lib.hid ho1
  have HS0 := Lib.hid hs0
  have H := Lib.hid ha
  have HNA := Lib.hid hna
  have HLAB := Lib.hid hlab
  clear ha hna hb0 hk0 hb1 hk1 ho1 hs0 hlab hn
  unfold howS
  go_enter Try.func43, Try.ntmps43
  go_wp2
  go_loopw [5, 13] (fun v i wr => ∃ k : Nat, k ≤ n ∧ i = .int .i64 k ∧ Hid (wr.ownsRow (w.heap.size + 1) 3 1 v k (ints ((a.take k).map (·.l)))) ∧ Hid (Below w.heap.size w wr) ∧ Hid (Blk wr w.heap.size 77 #[.func (.func 59) #[] #[], .func (.func 60) #[] #[]])) (fun _ i _ => n - (intOf i).toNat)
  case atStart => exact ⟨0, Nat.zero_le _, rfl, Lib.hid (by rw [HS0.out]; exact HO1.out), HB1, HK1⟩
  case round =>
    obtain ⟨k, hk, rfl, HO, HB, HK⟩ := hrel
    clear HB1 HO1 HK1 hW0
    obtain ⟨An, cn, rfl⟩ := ownT_slice HO.out
    by_cases hlt : k < n
    · obtain ⟨ad, x, rfl, hxb, hx, x0, x1, x2⟩ := srow_at (H.out.below HB.out) (show k < a.length by rw [HNA.out]; exact hlt)
      have hz := HB.out.size
      have hxb2 : (ad.add (k * 3)).block < wr.heap.size := by rw [add_block]; omega
      have hcall := HLAB.out x
      have hnx := congrArg (List.map (·.l)) (Ev.take_snoc hx)
      rw [List.map_append, List.map_cons, List.map_nil] at hnx
      have hba := HB.out.alloc hz (.cells #[.bool x.ret, .int .i64 x.v, .int .i64 x.l] 53)
      have hoa := HO.out.alloc (.cells #[.bool x.ret, .int .i64 x.v, .int .i64 x.l] 53)
      have hka := HK.out.alloc (.cells #[.bool x.ret, .int .i64 x.v, .int .i64 x.l] 53)
      have hxa := Blk.new wr 53 #[.bool x.ret, .int .i64 x.v, .int .i64 x.l]
      have hf : wr.cell? ⟨w.heap.size, 0, none⟩ = some (.func (.func 59) #[] #[]) := HK.out.cell 0
      have hlk := HK.out.lt
      have HCALL := Lib.hid hcall
      have HBA := Lib.hid hba
      have HOA := Lib.hid hoa
      have HKA := Lib.hid hka
      have HNX := Lib.hid hnx
      clear hx hcall hba hoa hka hxa hnx
      generalize x.ret = xx0 at *
      generalize x.v = xx1 at *
      generalize x.l = xx2 at *
      go_wp2_with (fail)
      refine (HCALL.out _).mono ?_
      rintro e w3 ⟨rfl, hb3⟩
      have hb4 := (HBA.out.trans (hb3.mono HBA.out.size))
      have ho4 := (ownT_below HOA.out hb3)
      have hk4 := HKA.out.below hb3 HKA.out.lt
      have hs4 := HKA.out.lt
      have hz4 := hb4.size
      obtain ⟨v', W5, hrun, hown5, hb5, hk5⟩ := append_runE (P := Try.prog) (w := w3.alloc (.cells #[.int .i64 xx2] 3)) (w.heap.size + 1) 83 83 3 i0 (.int .i64 0) 1 8 Try.underlying83 hi hz0 hz1 hz2 rfl (by decide) _ k _ (ho4.alloc _) (some ⟨w3.heap.size, 0, none⟩) 1 1 [.int .i64 xx2] rfl (one_row w3 _ _) (by intro u hu; simp at hu; rw [hu]; rfl) (by unfold maxLen; omega) (by omega) (by have := hk4.lt; simp; omega)
      have hk6 := hk5 _ _ _ (fun he => by have := (ho4.lt _ he.symm).1; omega) (hk4.alloc (.cells #[.int .i64 xx2] 3))
      have HRUN := Lib.hid hrun
      have HB6 := Lib.hid ((hb4.alloc hb4.size (.cells #[.int .i64 xx2] 3)).trans (hb5.mono (by omega)))
      have HK6 := Lib.hid hk6
      have HO6 : Hid (W5.ownsRow (w.heap.size + 1) 3 1 v' (k + 1) (ints ((a.take (k + 1)).map (·.l)))) := Lib.hid (by rw [HNX.out, ints_snoc]; exact hown5)
      clear hb3 hb4 ho4 hk4 hs4 hz4 hrun hown5 hb5 hk5 hk6 x0 x1 x2 hf
      go_wp2_with (at_builtin; refine wpList_app_run rfl _ _ 83 83 rfl _ _ rfl rfl _ _ HRUN.out ?_)
      go_wp2
      go_roundw
      case rel => exact ⟨k + 1, by omega, by go_num, HO6, HB6, HK6⟩
      case measure => simp [intOf]; omega
    · obtain rfl : k = n := by omega
      have hall : a.take k = a := List.take_of_length_le (by rw [HNA.out]; exact Nat.le_refl _)
      have hres := HO.out
      rw [hall] at hres
      have HRES := Lib.hid (ownT_mono hres (Nat.le_succ _))
      clear hall hres
      go_wp2
      go_ret
      exact ⟨An, cn, rfl, HRES.out, HB.out⟩

/-! instructions -/
set_option maxHeartbeats 8000000 in
theorem labelsI_any {B : Option Addr} {a : List Cd.In} (ca : Nat) (w : World) (ha : Row w w.heap.size B (icells a)) (hn : a.length ≤ 100000) :
    Calls Try.prog 54 #[.slice B a.length ca, howI] w (GotInts w (a.map (·.l))) := by
  obtain ⟨i0, hi, hz0, hz1, hz2⟩ := info_parts Try.infoInt
  have hen : ∀ args W, (callFunc 56 args).run Try.prog W = .ok (.enter 56 args) W := Try.call56
  have hlab := fun (x : Cd.In) W => labI_any x.op x.n x.l W
  obtain ⟨n, hna⟩ : ∃ n, a.length = n := ⟨_, rfl⟩
  unfold GotInts
  rw [List.length_map, hna]
  have hn9 : n ≤ 100000 := by omega
  have hmk : ∀ W, (Instr.makeSlice 83 (.int .i64 0) (.int .i64 (n : Int))).run Try.prog W = .ok (.slice (some ⟨W.heap.size, 0, none⟩) 0 n) (W.alloc (.cells (madeCells #[.int .i64 0] n) 3)) := fun W => by
    have h := run_make (P := Try.prog) W 83 3 i0 (.int .i64 0) Try.underlying83 hi hz0 .i64 .i64 0 n (by omega) (by omega) (by rw [hz2]; omega) (by omega)
    simp only [Int.toNat_natCast, Int.toNat_zero, hz1, Nat.mul_one] at h
    exact h
  have hb0 := (Below.refl w.heap.size w).alloc (Nat.le_refl _) (.cells #[.func (.func 56) #[] #[], .func (.func 57) #[] #[]] 71)
  have hk0 := Blk.new w 71 #[.func (.func 56) #[] #[], .func (.func 57) #[] #[]]
  obtain ⟨W0, hW0⟩ : ∃ W0, w.alloc (.cells #[.func (.func 56) #[] #[], .func (.func 57) #[] #[]] 71) = W0 := ⟨_, rfl⟩
  have hs0 : W0.heap.size = w.heap.size + 1 := by rw [← hW0]; simp
  rw [hW0] at hb0 hk0
  have hb1 := hb0.alloc hb0.size (.cells (madeCells #[.int .i64 0] n) 3)
  have hk1 := hk0.alloc (.cells (madeCells #[.int .i64 0] n) 3)
  have ho1 := own_start W0 n (by omega)
  rw [hs0] at ho1
  have HK1 := Lib.hid hk1
  have HB1 := Lib.hid hb1
  have HO1 := Lib.hid ho1
  have HS0 := Lib.hid hs0
  have H := Lib.hid ha
  have HNA := Lib.hid hna
  have HLAB := Lib.hid hlab
  clear ha hna hb0 hk0 hb1 hk1 ho1 hs0 hlab hn
  unfold howI
  go_enter Try.func54, Try.ntmps54
  go_wp2
  go_loopw [5, 13] (fun v i wr => ∃ k : Nat, k ≤ n ∧ i = .int .i64 k ∧ Hid (wr.ownsRow (w.heap.size + 1) 3 1 v k (ints ((a.take k).map (·.l)))) ∧ Hid (Below w.heap.size w wr) ∧ Hid (Blk wr w.heap.size 71 #[.func (.func 56) #[] #[], .func (.func 57) #[] #[]])) (fun _ i _ => n - (intOf i).toNat)
  case atStart => exact ⟨0, Nat.zero_le _, rfl, Lib.hid (by rw [HS0.out]; exact HO1.out), HB1, HK1⟩
  case round =>
    obtain ⟨k, hk, rfl, HO, HB, HK⟩ := hrel
    clear HB1 HO1 HK1 hW0
    obtain ⟨An, cn, rfl⟩ := ownT_slice HO.out
    by_cases hlt : k < n
    · obtain ⟨ad, x, rfl, hxb, hx, x0, x1, x2⟩ := inrow_at (H.out.below HB.out) (show k < a.length by rw [HNA.out]; exact hlt)
      have hz := HB.out.size
      have hxb2 : (ad.add (k * 3)).block < wr.heap.size := by rw [add_block]; omega
      have hcall := HLAB.out x
      have hnx := congrArg (List.map (·.l)) (Ev.take_snoc hx)
      rw [List.map_append, List.map_cons, List.map_nil] at hnx
      have hba := HB.out.alloc hz (.cells #[.int .i64 x.op, .int .i64 x.n, .int .i64 x.l] 67)
      have hoa := HO.out.alloc (.cells #[.int .i64 x.op, .int .i64 x.n, .int .i64 x.l] 67)
      have hka := HK.out.alloc (.cells #[.int .i64 x.op, .int .i64 x.n, .int .i64 x.l] 67)
      have hxa := Blk.new wr 67 #[.int .i64 x.op, .int .i64 x.n, .int .i64 x.l]
      have hf : wr.cell? ⟨w.heap.size, 0, none⟩ = some (.func (.func 56) #[] #[]) := HK.out.cell 0
      have hlk := HK.out.lt
      have HCALL := Lib.hid hcall
      have HBA := Lib.hid hba
      have HOA := Lib.hid hoa
      have HKA := Lib.hid hka
      have HNX := Lib.hid hnx
      clear hx hcall hba hoa hka hxa hnx
      generalize x.op = xx0 at *
      generalize x.n = xx1 at *
      generalize x.l = xx2 at *
      go_wp2_with (fail)
      refine (HCALL.out _).mono ?_
      rintro e w3 ⟨rfl, hb3⟩
      have hb4 := (HBA.out.trans (hb3.mono HBA.out.size))
      have ho4 := (ownT_below HOA.out hb3)
      have hk4 := HKA.out.below hb3 HKA.out.lt
      have hs4 := HKA.out.lt
      have hz4 := hb4.size
      obtain ⟨v', W5, hrun, hown5, hb5, hk5⟩ := append_runE (P := Try.prog) (w := w3.alloc (.cells #[.int .i64 xx2] 3)) (w.heap.size + 1) 83 83 3 i0 (.int .i64 0) 1 8 Try.underlying83 hi hz0 hz1 hz2 rfl (by decide) _ k _ (ho4.alloc _) (some ⟨w3.heap.size, 0, none⟩) 1 1 [.int .i64 xx2] rfl (one_row w3 _ _) (by intro u hu; simp at hu; rw [hu]; rfl) (by unfold maxLen; omega) (by omega) (by have := hk4.lt; simp; omega)
      have hk6 := hk5 _ _ _ (fun he => by have := (ho4.lt _ he.symm).1; omega) (hk4.alloc (.cells #[.int .i64 xx2] 3))
      have HRUN := Lib.hid hrun
      have HB6 := Lib.hid ((hb4.alloc hb4.size (.cells #[.int .i64 xx2] 3)).trans (hb5.mono (by omega)))
      have HK6 := Lib.hid hk6
      have HO6 : Hid (W5.ownsRow (w.heap.size + 1) 3 1 v' (k + 1) (ints ((a.take (k + 1)).map (·.l)))) := Lib.hid (by rw [HNX.out, ints_snoc]; exact hown5)
      clear hb3 hb4 ho4 hk4 hs4 hz4 hrun hown5 hb5 hk5 hk6 x0 x1 x2 hf
      go_wp2_with (at_builtin; refine wpList_app_run rfl _ _ 83 83 rfl _ _ rfl rfl _ _ HRUN.out ?_)
      go_wp2
      go_roundw
      case rel => exact ⟨k + 1, by omega, by go_num, HO6, HB6, HK6⟩
      case measure => simp [intOf]; omega
    · obtain rfl : k = n := by omega
      have hall : a.take k = a := List.take_of_length_le (by rw [HNA.out]; exact Nat.le_refl _)
      have hres := HO.out
      rw [hall] at hres
      have HRES := Lib.hid (ownT_mono hres (Nat.le_succ _))
      clear hall hres
      go_wp2
      go_ret
      exact ⟨An, cn, rfl, HRES.out, HB.out⟩

/-! slices.Concat -/
/-- Rows of numbers, each in a cell of a row at g. -/
def IntsAt (w : World) (g : Nat) (LL : List (List Int)) : Prop := ∀ k l, LL[k]? = some l → ∃ A c, w.cell? ⟨g, k, none⟩ = some (.slice A l.length c) ∧ Row w w.heap.size A (ints l)
theorem IntsAt.below {w w' : World} {g : Nat} {LL : List (List Int)} (h : IntsAt w g LL) (hb : Below w.heap.size w w') : IntsAt w' g LL := fun k l hl => by
  obtain ⟨A, c, h1, h2⟩ := h k l hl
  exact ⟨A, c, (hb.cell (p := ⟨g, k, none⟩) (block_lt_of_cell h1)).trans h1, (h2.below hb).more hb.size⟩
def flatN (LL : List (List Int)) (k : Nat) : List Int := (LL.take k).flatten
theorem flatN_succ {LL : List (List Int)} {k : Nat} {l : List Int} (h : LL[k]? = some l) : flatN LL (k + 1) = flatN LL k ++ l := by
  unfold flatN
  rw [Ev.take_snoc h, List.flatten_append]
  simp
end Go.Proofs.Ytlddglhjpiahfaa

/- The walk of package equiv's look: why labels can't be looked at, or which are seen. -/
namespace Go.Proofs.Ytlddglhjpiahfaa
set_option maxRecDepth 100000
open Go.RowKit Go.Shelf Go.Sort
attribute [local go_sem] Oper.semAt_some
theorem Try.infoBoolE : (Try.prog.info? 4).map (fun i => (i.zero, i.size, i.bytes)) = some (some (.bool false), 1, 1) := by kernel_rfl
def viewTo (up : List Nat) (o : Int) (k : Nat) : List Bool := (Ev.viewL up o).take k ++ List.replicate (up.length - k) false
theorem viewTo_zero (up : List Nat) (o : Int) : viewTo up o 0 = List.replicate up.length false := by simp [viewTo]
theorem viewTo_all (up : List Nat) (o : Int) : viewTo up o up.length = Ev.viewL up o := by
  unfold viewTo
  rw [List.take_of_length_le (by rw [Ev.viewL_len]; exact Nat.le_refl _), Nat.sub_self]
  simp
theorem viewTo_set {up : List Nat} {o : Int} {k : Nat} (hk : k < up.length) : (viewTo up o k).set k (Lat.fl up k o.toNat) = viewTo up o (k + 1) := by
  have hl := Ev.viewL_len up o
  have hx : (Ev.viewL up o)[k]? = some (Lat.fl up k o.toNat) := by
    unfold Ev.viewL
    rw [List.getElem?_map, List.getElem?_range hk]
    rfl
  unfold viewTo
  rw [Ev.take_snoc hx, List.append_assoc, List.set_append_right _ _ (by rw [List.length_take]; omega), show k - ((Ev.viewL up o).take k).length = 0 by rw [List.length_take]; omega, show up.length - k = (up.length - (k + 1)) + 1 by omega, List.replicate_succ]
  rfl
theorem viewTo_len {up : List Nat} {o : Int} {k : Nat} (hk : k ≤ up.length) : (viewTo up o k).length = up.length := by
  have hl := Ev.viewL_len up o
  unfold viewTo
  rw [List.length_append, List.length_take, List.length_replicate]
  omega
theorem vbs_set (v : List Bool) (k : Nat) (x : Bool) : ((vbs v).toArray).setIfInBounds k (.bool x) = (vbs (v.set k x)).toArray := by
  unfold vbs
  simp [List.map_set]
theorem labN_okE {names : List ByteArray} {up : List Nat} {a b : Nat} (hz : checkN names up = 0) (ha : a < up.length) (hb : b < up.length) : labN names up a b = 0 := by
  unfold labN isLab
  rw [if_pos hz, if_pos (by simp; omega)]
theorem flowsR_okE {names : List ByteArray} {up : List Nat} {a b : Nat} (hz : checkN names up = 0) (ha : a < up.length) (hb : b < up.length) : flowsR names up a b = Lat.fl up a b := by
  unfold flowsR
  rw [if_pos (labN_okE hz ha hb)]
  rfl
/-- What look tells. -/
def LookedR (res : Nat) (up : List Nat) (o : Int) (w : World) (e : Ending) (w' : World) : Prop :=
  ∃ A n c, e = .returned (.tuple #[.slice A n c, .int .i64 (res : Nat)]) ∧ (res = 0 → n = up.length ∧ Row w' w'.heap.size A (vbs (Ev.viewL up o))) ∧ Below w.heap.size w w'
set_option maxHeartbeats 8000000 in
theorem look_any {v : Value} {names : List ByteArray} {up : List Nat} {LL : List (List Int)} (o : Int) (g cl : Nat) (w : World) (h : IsLat w w.heap.size v names up) (hg : IntsAt w g LL) (hln : LL.length ≤ 1000) (hll : ∀ l ∈ LL, l.length ≤ 1000000) :
    Calls Try.prog 31 #[v, .int .i64 o, .slice (some ⟨g, 0, none⟩) LL.length cl] w (LookedR (Ev.lookN names up o LL.flatten) up o w) := by
  obtain ⟨i0, hi, hz0, hz1, hz2⟩ := info_parts Try.infoBoolE
  have hfl := fun (a b : Int) W (hb : Below w.heap.size w W) => Flows_any a b W ((h.below hb).more hb.size)
  obtain ⟨⟨A, A', c, c', rfl, hN, hU⟩, hshort, ⟨hf1, hf2⟩, -⟩ := h
  obtain ⟨n, hn⟩ : ∃ n, labN names up o o = n := ⟨_, rfl⟩
  obtain ⟨m, hm⟩ : ∃ m, LL.length = m := ⟨_, rfl⟩
  rw [hm]
  have hb0 := (Below.refl w.heap.size w).alloc (Nat.le_refl _) (.cells #[.slice A names.length c, .slice A' up.length c'] 25)
  have hk0 := Blk.new w 25 #[.slice A names.length c, .slice A' up.length c']
  have h1 := hfl o o _ hb0
  rw [hn] at h1
  have H1 := Lib.hid h1
  have HF := Lib.hid hfl
  have HG := Lib.hid hg
  have HB0 := Lib.hid hb0
  have HK0 := Lib.hid hk0
  have HN := Lib.hid hn
  have HM := Lib.hid hm
  have HLL := Lib.hid hll
  have hm9 : m ≤ 1000 := by omega
  clear hN hU hn hm h1 hfl hg hb0 hk0 hll hln hshort
  obtain ⟨res, hres⟩ : ∃ res, Ev.lookN names up o LL.flatten = res := ⟨_, rfl⟩
  rw [hres]
  have HRES := Lib.hid hres
  clear hres
  by_cases hz : n = 0
  · subst hz
    obtain ⟨hz1', ⟨o, rfl, ho⟩, -⟩ := labN_zero HN.out
    obtain ⟨l1, l2⟩ := len_of_checkN hz1'
    have HC := Lib.hid hz1'
    obtain ⟨nu, hnu⟩ : ∃ nu, up.length = nu := ⟨_, rfl⟩
    have HNU := Lib.hid hnu
    have hmk := fun W => run_make_n (P := Try.prog) 80 4 i0 (.bool false) Try.underlying80 hi hz0 hz1 rfl nu (by rw [hz2]; omega) (by omega) W
    rw [hnu] at l1 l2 ho H1 HB0 HK0 HF hf2
    rw [hnu]
    clear hz1' hnu hi hz0 hz1 hz2
    go_enter Try.func31, Try.ntmps31
    go_wp2_with (fail)
    refine H1.out.mono ?_
    rintro e w1 ⟨rfl, hb1⟩
    have hk1 := HK0.out.below hb1 HK0.out.lt
    have hB1 := HB0.out.trans (hb1.mono HB0.out.size)
    have hc1 : w1.cell? ⟨w.heap.size, 1, none⟩ = some (.slice A' nu c') := hk1.cell 1
    have hlt1 := hk1.lt
    have hB2 := hB1.alloc hB1.size (.cells (List.replicate nu (.bool false)).toArray 4)
    have hk2 := hk1.alloc (.cells (List.replicate nu (.bool false)).toArray 4)
    have hv2 : Blk (w1.alloc (.cells (List.replicate nu (.bool false)).toArray 4)) w1.heap.size 4 (vbs (viewTo up o 0)).toArray := by
      rw [viewTo_zero, HNU.out, show vbs (List.replicate nu false) = List.replicate nu (.bool false) by simp [vbs]]
      exact Blk.new _ _ _
    have HB2 := Lib.hid hB2
    have HK2 := Lib.hid hk2
    have HV2 := Lib.hid hv2
    have hws : w.heap.size ≤ w1.heap.size := hB1.size
    clear hb1 hk1 hB1 hB2 hk2 hv2 H1
    go_wp2
    go_loopw [32] (fun i wr => ∃ k : Nat, k ≤ nu ∧ i = .int .i64 k ∧ Hid (Blk wr w1.heap.size 4 (vbs (viewTo up o k)).toArray) ∧ Hid (Blk wr w.heap.size 25 #[.slice A names.length c, .slice A' nu c']) ∧ Hid (Below w.heap.size w wr)) (fun i _ => nu - (intOf i).toNat)
    case atStart => exact ⟨0, Nat.zero_le _, rfl, HV2, HK2, HB2⟩
    case round =>
      clear HV2 HK2 HB2 hc1
      obtain ⟨k, hk, rfl, HV, HK, HB⟩ := hrel
      have l0 : wr.cell? ⟨w.heap.size, 0, none⟩ = some (.slice A names.length c) := HK.out.cell 0
      have l1 : wr.cell? ⟨w.heap.size, 1, none⟩ = some (.slice A' nu c') := HK.out.cell 1
      by_cases hlt : k < nu
      · have hcall := HF.out (k : Int) (o : Int) wr HB.out
        rw [flowsR_okE HC.out (by rw [HNU.out]; exact hlt) (by rw [HNU.out]; exact ho), labN_okE HC.out (by rw [HNU.out]; exact hlt) (by rw [HNU.out]; exact ho)] at hcall
        have HCALL := Lib.hid hcall
        have hset := viewTo_set (up := up) (o := (o : Int)) (k := k) (by rw [HNU.out]; exact hlt)
        rw [Int.toNat_natCast] at hset
        have HSET := Lib.hid hset
        have hlen := viewTo_len (up := up) (o := (o : Int)) (k := k) (by rw [HNU.out]; exact hk)
        rw [HNU.out] at hlen
        clear hcall hset
        generalize Lat.fl up k o = fb at *
        go_wp2_with (fail)
        refine HCALL.out.mono ?_
        rintro e w3 ⟨rfl, hb3⟩
        have hv3 := HV.out.below hb3 HV.out.lt
        have hk3 := HK.out.below hb3 HK.out.lt
        have hB3 := HB.out.trans (hb3.mono HB.out.size)
        obtain ⟨old, hcv⟩ : ∃ old, w3.cell? ⟨w1.heap.size, k, none⟩ = some (.bool old) := ⟨(viewTo up o k)[k]'(by rw [hlen]; exact hlt), by rw [hv3.cell]; simp [vbs, hlen, hlt]⟩
        have hfv : w3.frozen? ⟨w1.heap.size, k, none⟩ = false := hv3.frozen k
        have hv4 := hv3.set_ k (.bool fb)
        rw [vbs_set, HSET.out] at hv4
        have hk4 := hk3.other (p := ⟨w1.heap.size, k, none⟩) (by show w1.heap.size ≠ w.heap.size; omega) (.bool fb)
        have hB4 := hB3.setCell (p := ⟨w1.heap.size, k, none⟩) hws (.bool fb)
        have HV4 := Lib.hid hv4
        have HK4 := Lib.hid hk4
        have HB4 := Lib.hid hB4
        clear hb3 hv3 hk3 hB3 hv4 hk4 hB4 l0 l1 hlen
        go_wp2
        go_roundw
        case rel => exact ⟨k + 1, by omega, by go_num, HV4, HK4, HB4⟩
        case measure => simp [intOf]; omega
      · obtain rfl : nu = k := by omega
        have hres := HV.out
        rw [show viewTo up (o : Int) nu = Ev.viewL up o by rw [← HNU.out]; exact viewTo_all up o] at hres
        have hrow := hres.row.more (B' := wr.heap.size) hres.lt
        have hgl := HG.out.below ((HB.out).mono (Nat.le_refl _))
        have HROW := Lib.hid hrow
        have HGL := Lib.hid hgl
        clear hres hrow hgl HV HK l0 l1
        obtain ⟨w5, hw5⟩ : ∃ w5, wr = w5 := ⟨_, rfl⟩
        rw [hw5] at HB HROW HGL ⊢
        clear hw5
        go_wp2
        go_loopw [48] (fun i wr => ∃ j : Nat, j ≤ m ∧ i = .int .i64 j ∧ Hid (∀ x ∈ flatN LL j, isLab up x = true) ∧ wr = w5) (fun i _ => m - (intOf i).toNat)
        case atStart => exact ⟨0, Nat.zero_le _, rfl, Lib.hid (by simp [flatN]), rfl⟩
        case round =>
          obtain ⟨j, hj, rfl, HA, hwr⟩ := hrel
          obtain rfl := hwr.symm
          by_cases hlt2 : j < m
          · obtain ⟨l, hl⟩ : ∃ l, LL[j]? = some l := ⟨_, List.getElem?_eq_getElem (show j < LL.length by rw [HM.out]; exact hlt2)⟩
            obtain ⟨B, cb, hc0, hr⟩ := HGL.out j l hl
            have hnx := flatN_succ hl
            have hl9 := HLL.out l (List.mem_of_getElem? hl)
            obtain ⟨p, hp⟩ : ∃ p, l.length = p := ⟨_, rfl⟩
            rw [hp] at hc0 hl9
            have hgb : g < w5.heap.size := block_lt_of_cell hc0
            have HR := Lib.hid hr
            have HNX := Lib.hid hnx
            have HP := Lib.hid hp
            have HL := Lib.hid hl
            clear hl hr hnx hp
            go_wp2
            go_loopw [54] (fun i wr => ∃ q : Nat, q ≤ p ∧ i = .int .i64 q ∧ Hid (∀ x ∈ l.take q, isLab up x = true) ∧ wr = w5) (fun i _ => p - (intOf i).toNat)
            case atStart => exact ⟨0, Nat.zero_le _, rfl, Lib.hid (by simp), rfl⟩
            case round =>
              obtain ⟨q, hq, rfl, HQ, hwr⟩ := hrel
              obtain rfl := hwr.symm
              by_cases hlt3 : q < p
              · obtain ⟨bd, rfl, hbd, hx⟩ := irow_at HR.out (show q < l.length by rw [HP.out]; exact hlt3)
                obtain ⟨x, hxe⟩ : ∃ x, l[q]'(by rw [HP.out]; exact hlt3) = x := ⟨_, rfl⟩
                rw [hxe] at hx
                have hxs : l[q]? = some x := by rw [← hxe]; exact List.getElem?_eq_getElem _
                have HTS := Lib.hid (Ev.take_snoc hxs)
                have HXS := Lib.hid hxs
                clear hxe hxs
                by_cases hbad : x < 0 ∨ (nu : Int) ≤ x
                · have hno : Ev.lookN names up o LL.flatten = 9 := by
                    unfold Ev.lookN
                    rw [if_pos HN.out, if_neg]
                    intro hall
                    have hm2 := List.all_eq_true.1 hall x (List.mem_flatten.2 ⟨l, List.mem_of_getElem? HL.out, List.mem_of_getElem? HXS.out⟩)
                    unfold isLab at hm2
                    rw [decide_eq_true_eq, HNU.out] at hm2
                    omega
                  rw [HRES.out] at hno
                  have HNO := Lib.hid hno
                  clear hno
                  by_cases hneg : x < 0
                  · have hneg2 : (x < 0) = True := eq_true hneg
                    go_wp2
                    go_ret2
                    exact ⟨none, 0, 0, by rw [HNO.out]; rfl, fun h => absurd (HNO.out.symm.trans h) (by decide), HB.out⟩
                  · have hneg2 : (x < 0) = False := eq_false hneg
                    have hge : ((nu : Int) ≤ x) = True := eq_true (by omega)
                    go_wp2
                    go_ret2
                    exact ⟨none, 0, 0, by rw [HNO.out]; rfl, fun h => absurd (HNO.out.symm.trans h) (by decide), HB.out⟩
                · have hneg2 : (x < 0) = False := eq_false (by omega)
                  have hge : ((nu : Int) ≤ x) = False := eq_false (by omega)
                  have hok : isLab up x = true := by unfold isLab; rw [decide_eq_true_eq, HNU.out]; omega
                  have HOK := Lib.hid hok
                  clear hok
                  go_wp2
                  go_roundw
                  case rel => exact ⟨q + 1, by omega, by go_num, Lib.hid fun y hy => by
                    rw [HTS.out, List.mem_append, List.mem_singleton] at hy
                    rcases hy with hy | rfl
                    · exact HQ.out y hy
                    · exact HOK.out, trivial⟩
                  case measure => simp [intOf]; omega
              · obtain rfl : q = p := by omega
                have hall : ∀ x ∈ flatN LL (j + 1), isLab up x = true := fun x hx => by
                  rw [HNX.out, List.mem_append] at hx
                  rcases hx with hx | hx
                  · exact HA.out x hx
                  · have h9 := HQ.out x
                    rw [List.take_of_length_le (by rw [HP.out]; exact Nat.le_refl _)] at h9
                    exact h9 hx
                have HALL := Lib.hid hall
                clear hall
                go_wp2
                go_roundw
                case rel => exact ⟨j + 1, by omega, by go_num, HALL, trivial⟩
                case measure => simp [intOf]; omega
          · obtain rfl : j = m := by omega
            have hall : ∀ x ∈ LL.flatten, isLab up x = true := by
              have h9 := HA.out
              unfold flatN at h9
              rw [List.take_of_length_le (by rw [HM.out]; exact Nat.le_refl _)] at h9
              exact h9
            have hyes := Ev.lookN_ok HN.out hall
            rw [HRES.out] at hyes
            have HYES := Lib.hid hyes
            clear hall hyes
            go_wp2
            go_ret2
            exact ⟨_, _, _, by rw [HYES.out]; rfl, fun _ => ⟨HNU.out.symm, HROW.out⟩, HB.out⟩
  · have hz1 : ((n : Int) == 0) = false := by rw [beq_eq_false_iff_ne]; omega
    have hz2 : ((n : Int) != 0) = true := by rw [bne_iff_ne]; omega
    have hE : Ev.lookN names up o LL.flatten = n := by
      unfold Ev.lookN
      rw [if_neg (by rw [HN.out]; exact hz), HN.out]
    rw [HRES.out] at hE
    have HE := Lib.hid hE
    have HZ := Lib.hid hz
    clear hE hi hz0 hz
    go_enter Try.func31, Try.ntmps31
    go_wp2_with (fail)
    refine H1.out.mono ?_
    rintro e w1 ⟨rfl, hb1⟩
    have HB1 := Lib.hid (HB0.out.trans (hb1.mono HB0.out.size))
    clear hb1
    go_wp2
    go_ret2
    exact ⟨none, 0, 0, by rw [HE.out]; rfl, fun h => absurd (HE.out.symm.trans h) HZ.out, HB1.out⟩
end Go.Proofs.Ytlddglhjpiahfaa

/- Walks of package equiv's compare, Atoms, Codes, Stacks (by gen_eqve.py). -/
namespace Go.Proofs.Ytlddglhjpiahfaa
set_option maxRecDepth 100000
open Go.RowKit Go.Shelf Go.Sort
attribute [local go_sem] Oper.semAt_some
/-- What is told: the answer, if there is no error. -/
def Ev.told (n : Nat) (b : Bool) : Bool := if n = 0 then b else false
def TellsBE (w : World) (b : Bool) (n : Nat) (e : Ending) (w' : World) : Prop := e = .returned (.tuple #[.bool b, .int .i64 (n : Int)]) ∧ Below w.heap.size w w'
theorem labIn_of {α : Type} {lab : α → Int} {up : List Nat} {o : Int} {l : List α} (h : ∀ x ∈ l.map lab, isLab up x = true) : LabIn lab (Ev.viewL up o).length l := fun x hx => by
  have := h (lab x) (List.mem_map_of_mem hx)
  unfold isLab at this
  rw [decide_eq_true_eq] at this
  rw [Ev.viewL_len]
  exact this
theorem ints_two {w : World} {A1 A2 : Option Addr} {n1 n2 c1 c2 : Nat} {l1 l2 : List Int} (g : Nat) (h1 : l1.length = n1) (h2 : l2.length = n2) (hk : Blk w g 83 #[.slice A1 n1 c1, .slice A2 n2 c2]) (r1 : Row w w.heap.size A1 (ints l1)) (r2 : Row w w.heap.size A2 (ints l2)) : IntsAt w g [l1, l2] := fun k l hl => by
  match k, hl with
  | 0, hl =>
    simp only [List.getElem?_cons_zero, Option.some.injEq] at hl
    subst hl
    exact ⟨A1, c1, by rw [h1]; exact hk.cell 0, r1⟩
  | 1, hl =>
    simp only [List.getElem?_cons_succ, List.getElem?_cons_zero, Option.some.injEq] at hl
    subst hl
    exact ⟨A2, c2, by rw [h2]; exact hk.cell 1, r2⟩
theorem flat_two (l1 l2 : List Int) : [l1, l2].flatten = l1 ++ l2 := by simp

/-! atoms -/
set_option maxHeartbeats 16000000 in
theorem compareA_any {v : Value} {names : List ByteArray} {up : List Nat} {B D : Option Addr} {a b : List St.Atom} (o : Int) (ca cb : Nat) (w : World) (h : IsLat w w.heap.size v names up) (ha : Row w w.heap.size B (fcells avs a)) (hb : Row w w.heap.size D (fcells avs b)) (hna : a.length ≤ 100000) (hnb : b.length ≤ 100000) :
    Calls Try.prog 25 #[v, .int .i64 o, .slice B a.length ca, .slice D b.length cb, howA] w (TellsBE w (Ev.told (Ev.lookN names up o (a.map (·.l) ++ b.map (·.l))) (Ev.alike (Ev.seenA (Ev.viewL up o)) a b)) (Ev.lookN names up o (a.map (·.l) ++ b.map (·.l)))) := by
  obtain ⟨res, hres⟩ : ∃ res, Ev.lookN names up o (a.map (·.l) ++ b.map (·.l)) = res := ⟨_, rfl⟩
  rw [hres]
  have hl0 := h
  obtain ⟨⟨N, U, c1, c2, rfl, -, -⟩, -, -, -⟩ := h
  obtain ⟨W0, hW0⟩ : ∃ W0, (w.alloc (.cells #[.slice N names.length c1, .slice U up.length c2] 25)).alloc (.cells #[.func (.func 52) #[] #[], .func (.func 53) #[] #[]] 63) = W0 := ⟨_, rfl⟩
  have hb0 : Below w.heap.size w W0 := hW0 ▸ ((Below.refl _ w).alloc (Nat.le_refl _) _).alloc (by simp) _
  have hp0 : Blk W0 w.heap.size 25 #[.slice N names.length c1, .slice U up.length c2] := hW0 ▸ (Blk.new _ _ _).alloc _
  have hq0 : Blk W0 (w.heap.size + 1) 63 #[.func (.func 52) #[] #[], .func (.func 53) #[] #[]] := by
    have h1 := Blk.new (w.alloc (.cells #[.slice N names.length c1, .slice U up.length c2] 25)) 63 #[.func (.func 52) #[] #[], .func (.func 53) #[] #[]]
    rw [show (w.alloc (.cells #[.slice N names.length c1, .slice U up.length c2] 25)).heap.size = w.heap.size + 1 by simp] at h1
    rw [← hW0]; exact h1
  have hlb := fun W (hb : Below W0.heap.size W0 W) => labelsA_any ca W ((ha.below (hb0.trans (hb.mono hb0.size))).more (Nat.le_trans hb0.size hb.size)) hna
  have hlb2 := fun W (hW : Below W0.heap.size W0 W) => labelsA_any cb W ((hb.below (hb0.trans (hW.mono hb0.size))).more (Nat.le_trans hb0.size hW.size)) hnb
  have hlk := fun g cl W (hW : Below W0.heap.size W0 W) (hg : IntsAt W g [a.map (·.l), b.map (·.l)]) => look_any o g cl W ((hl0.below (hb0.trans (hW.mono hb0.size))).more (Nat.le_trans hb0.size hW.size)) hg (by simp) (by intro l hl; simp at hl; rcases hl with rfl | rfl <;> (rw [List.length_map]; omega))
  have hal := fun A c W (hW : Below W0.heap.size W0 W) (hr : Row W W.heap.size A (vbs (Ev.viewL up o))) (hl1 : LabIn (·.l) (Ev.viewL up o).length a) (hl2 : LabIn (·.l) (Ev.viewL up o).length b) => alikeA_any (A := A) c ca cb W hr ((ha.below (hb0.trans (hW.mono hb0.size))).more (Nat.le_trans hb0.size hW.size)) ((hb.below (hb0.trans (hW.mono hb0.size))).more (Nat.le_trans hb0.size hW.size)) hl1 hl2 (by omega)
  simp only [flat_two, hres, Ev.viewL_len] at hlb hlb2 hlk hal
  unfold GotInts at hlb hlb2
  rw [List.length_map] at hlb hlb2
  unfold howA at hlb hlb2 hal
  have hlz : res = 0 → LabIn (·.l) up.length a ∧ LabIn (·.l) up.length b := fun e => by
    have h9 := (Ev.lookN_zero (hres.trans e)).2
    have e1 := labIn_of (o := o) fun x hx => h9 x (List.mem_append_left _ hx)
    have e2 := labIn_of (o := o) fun x hx => h9 x (List.mem_append_right _ hx)
    rw [Ev.viewL_len] at e1 e2
    exact ⟨e1, e2⟩
  have hla : (a.map (·.l)).length = a.length := List.length_map ..
  have hlb3 : (b.map (·.l)).length = b.length := List.length_map ..
  generalize Ev.alike (Ev.seenA (Ev.viewL up o)) a b = ans at *
  generalize a.map (·.l) = la at *
  generalize b.map (·.l) = lb at *
  have l0 : W0.cell? ⟨w.heap.size, 0, none⟩ = some (.slice N names.length c1) := hp0.cell 0
  have l1 : W0.cell? ⟨w.heap.size, 1, none⟩ = some (.slice U up.length c2) := hp0.cell 1
  have q0 : W0.cell? ⟨w.heap.size + 1, 0, none⟩ = some (.func (.func 52) #[] #[]) := hq0.cell 0
  have q1 : W0.cell? ⟨w.heap.size + 1, 1, none⟩ = some (.func (.func 53) #[] #[]) := hq0.cell 1
  have HLA := Lib.hid hlb
  have HLB := Lib.hid hlb2
  have HLK := Lib.hid hlk
  have HAL := Lib.hid hal
  have HLZ := Lib.hid hlz
  have HB0 := Lib.hid hb0
  have HP := Lib.hid hp0
  have HQ := Lib.hid hq0
  have HNA := Lib.hid hla
  have HNB := Lib.hid hlb3
  clear ha hb hb0 hp0 hq0 hlb hlb2 hlk hal hlz hla hlb3 hres hl0
  unfold howA
  go_enter Try.func25, Try.ntmps25
  go_wp2_with (fail)
  clear hW0
  refine Free.region_seq [4, 7, 8, 9] [0, 3, 6] 9 (fun W' => W'.cell? ⟨w.heap.size, 0, none⟩ = some (.slice N names.length c1) ∧ W'.cell? ⟨w.heap.size, 1, none⟩ = some (.slice U up.length c2) ∧ W'.cell? ⟨w.heap.size + 1, 0, none⟩ = some (.func (.func 52) #[] #[]) ∧ W'.cell? ⟨w.heap.size + 1, 1, none⟩ = some (.func (.func 53) #[] #[])) (by kernel_rfl) (by kernel_rfl) (by kernel_rfl) (by kernel_rfl) (⟨l0, l1, q0, q1⟩) (fun ops hops => ?_)
  clear hops
  iterate 4
    refine Free.Seq.quiet (v := ?_) (a' := ?_) rfl rfl (fun W' hW' => ?_) ?_ ?_
    rotate_left 2
    · first | obtain ⟨s0, s1, s2, s3⟩ := hW' rfl | skip
      go_simp
      try with_reducible rfl
    · simp only [Act.put, List.setIfInBounds_toArray, List.set_cons_zero, List.set_cons_succ]
      try with_reducible rfl
  refine Free.Seq.loud_ rfl (.inl rfl) (fun K hK => ?_)
  go_simp
  refine (HLA.out W0.drew (Below.refl _ W0).drew).mono ?_
  rintro e w1 ⟨A1, d1, rfl, hown1, hb1⟩
  have hb1 := (Below.refl _ W0).drew.trans hb1
  have hp1 := HP.out.below hb1 HP.out.lt
  have hq1 := HQ.out.below hb1 HQ.out.lt
  have HB1 := Lib.hid hb1
  have HR1 := Lib.hid (ownT_row hown1).1
  refine hK.out _ _ rfl (fun _ => ⟨hp1.cell 0, hp1.cell 1, hq1.cell 0, hq1.cell 1⟩) ?_
  clear hK K hp1 hq1 hb1 hown1
  iterate 2
    refine Free.Seq.quiet (v := ?_) (a' := ?_) rfl rfl (fun W' hW' => ?_) ?_ ?_
    rotate_left 2
    · first | obtain ⟨s0, s1, s2, s3⟩ := hW' rfl | skip
      go_simp
      try with_reducible rfl
    · simp only [Act.put, List.setIfInBounds_toArray, List.set_cons_zero, List.set_cons_succ]
      try with_reducible rfl
  refine Free.Seq.loud_ rfl (.inl rfl) (fun K hK => ?_)
  go_simp
  refine (HLB.out w1 HB1.out).mono ?_
  rintro e w2 ⟨A2, d2, rfl, hown2, hb2⟩
  have hB2 := HB1.out.trans (hb2.mono HB1.out.size)
  have hp2 := HP.out.below hB2 HP.out.lt
  have hq2 := HQ.out.below hB2 HQ.out.lt
  have HB2 := Lib.hid hB2
  have HR1b := Lib.hid ((HR1.out.below hb2).more hb2.size)
  have HR2 := Lib.hid (ownT_row hown2).1
  refine hK.out _ _ rfl (fun _ => ⟨hp2.cell 0, hp2.cell 1, hq2.cell 0, hq2.cell 1⟩) ?_
  clear hK K hp2 hq2 hB2 hb2 hown2 HR1
  refine Free.Seq.loud_ rfl (.inl rfl) (fun K hK => ?_)
  go_simp
  have hk3 := Blk.new w2 83 #[.slice A1 a.length d1, .slice A2 b.length d2]
  have hb3 := (Below.refl _ w2).alloc (Nat.le_refl _) (.cells #[.slice A1 a.length d1, .slice A2 b.length d2] 83)
  have hi3 := ints_two w2.heap.size HNA.out HNB.out hk3 ((HR1b.out.below hb3).more hb3.size) ((HR2.out.below hb3).more hb3.size)
  have HI3 := Lib.hid hi3
  have hB3 := HB2.out.trans (hb3.mono HB2.out.size)
  have hp3 := HP.out.below hB3 HP.out.lt
  have hq3 := HQ.out.below hB3 HQ.out.lt
  have HB3 := Lib.hid hB3
  refine hK.out _ _ rfl (fun _ => ⟨hp3.cell 0, hp3.cell 1, hq3.cell 0, hq3.cell 1⟩) ?_
  clear hK K hp3 hq3 hk3 hb3 hi3 hB3
  refine Free.Seq.loud_ rfl (.inl rfl) (fun K hK => ?_)
  go_simp
  refine (HLK.out w2.heap.size 2 _ HB3.out HI3.out).mono ?_
  rintro e w4 ⟨A4, n4, c4, rfl, hz4, hb4⟩
  have hB4 := HB3.out.trans (hb4.mono HB3.out.size)
  have hq4 := HQ.out.below hB4 HQ.out.lt
  have HZ4 := Lib.hid hz4
  have HB4 := Lib.hid hB4
  refine hK.out _ _ rfl (fun h => absurd h (by decide)) ?_
  clear hK K hb4 hz4 hB4
  iterate 5
    refine Free.Seq.quiet (v := ?_) (a' := ?_) rfl rfl (fun W' hW' => ?_) ?_ ?_
    rotate_left 2
    · skip
      go_simp
      try with_reducible rfl
    · simp only [Act.put, List.setIfInBounds_toArray, List.set_cons_zero, List.set_cons_succ]
      try with_reducible rfl
  refine Free.Seq.nil_ ?_
  have y0 : w4.cell? ⟨w.heap.size + 1, 0, none⟩ = some (.func (.func 52) #[] #[]) := hq4.cell 0
  have y1 : w4.cell? ⟨w.heap.size + 1, 1, none⟩ = some (.func (.func 53) #[] #[]) := hq4.cell 1
  clear l0 l1 q0 q1 hq4
  by_cases hz : res = 0
  · subst hz
    obtain ⟨rfl, hr4⟩ := HZ4.out rfl
    have hcall := HAL.out A4 c4 w4 HB4.out hr4 (HLZ.out rfl).1 (HLZ.out rfl).2
    have HC := Lib.hid hcall
    clear hr4 hcall
    go_wp2_with (fail)
    refine HC.out.mono ?_
    rintro e w5 ⟨rfl, hb5⟩
    have HB5 := Lib.hid (HB0.out.trans ((HB4.out.trans (hb5.mono HB4.out.size)).mono HB0.out.size))
    clear hb5
    go_wp2
    go_ret2
    exact ⟨rfl, HB5.out⟩
  · have hz1 : ((res : Int) == 0) = false := by rw [beq_eq_false_iff_ne]; omega
    have hz2 : ((res : Int) != 0) = true := by rw [bne_iff_ne]; omega
    have HT := Lib.hid (show Ev.told res ans = false from if_neg hz)
    clear hz
    go_wp2
    go_ret2
    exact ⟨by rw [HT.out]; rfl, HB0.out.trans (HB4.out.mono HB0.out.size)⟩
set_option maxHeartbeats 8000000 in
theorem Atoms_any {v : Value} {names : List ByteArray} {up : List Nat} {B D : Option Addr} {a b : List St.Atom} (o : Int) (ca cb : Nat) (w : World) (h : IsLat w w.heap.size v names up) (ha : Row w w.heap.size B (fcells avs a)) (hb : Row w w.heap.size D (fcells avs b)) (hna : a.length ≤ 100000) (hnb : b.length ≤ 100000) :
    Calls Try.prog 8 #[v, .int .i64 o, .slice B a.length ca, .slice D b.length cb] w (TellsBE w (Ev.told (Ev.lookN names up o (a.map (·.l) ++ b.map (·.l))) (Ev.alike (Ev.seenA (Ev.viewL up o)) a b)) (Ev.lookN names up o (a.map (·.l) ++ b.map (·.l)))) := by
  have hcm := fun W (hW : Below w.heap.size w W) => compareA_any o ca cb W ((h.below hW).more hW.size) ((ha.below hW).more hW.size) ((hb.below hW).more hW.size) hna hnb
  generalize Ev.told (Ev.lookN names up o (a.map (·.l) ++ b.map (·.l))) (Ev.alike (Ev.seenA (Ev.viewL up o)) a b) = ans at *
  generalize Ev.lookN names up o (a.map (·.l) ++ b.map (·.l)) = res at *
  obtain ⟨⟨N, U, c1, c2, rfl, -, -⟩, -, -, -⟩ := h
  obtain ⟨W0, hW0⟩ : ∃ W0, w.alloc (.cells #[.slice N names.length c1, .slice U up.length c2] 25) = W0 := ⟨_, rfl⟩
  have hb0 : Below w.heap.size w W0 := hW0 ▸ (Below.refl _ w).alloc (Nat.le_refl _) _
  have hp0 : Blk W0 w.heap.size 25 #[.slice N names.length c1, .slice U up.length c2] := hW0 ▸ Blk.new _ _ _
  have hhow := fun W => howA_any W
  unfold howA at hhow hcm
  have l0 : W0.cell? ⟨w.heap.size, 0, none⟩ = some (.slice N names.length c1) := hp0.cell 0
  have l1 : W0.cell? ⟨w.heap.size, 1, none⟩ = some (.slice U up.length c2) := hp0.cell 1
  have HCM := Lib.hid hcm
  have HH := Lib.hid hhow
  have HB0 := Lib.hid hb0
  have HP := Lib.hid hp0
  generalize a.length = na at *
  generalize b.length = nb at *
  clear ha hb hb0 hp0 hcm hhow
  go_enter Try.func8, Try.ntmps8
  go_wp2_with (fail)
  clear hW0
  refine Free.region_seq [4, 5] [0] 5 (fun W' => W'.cell? ⟨w.heap.size, 0, none⟩ = some (.slice N names.length c1) ∧ W'.cell? ⟨w.heap.size, 1, none⟩ = some (.slice U up.length c2)) (by kernel_rfl) (by kernel_rfl) (by kernel_rfl) (by kernel_rfl) (⟨l0, l1⟩) (fun ops hops => ?_)
  clear hops
  iterate 4
    refine Free.Seq.quiet (v := ?_) (a' := ?_) rfl rfl (fun W' hW' => ?_) ?_ ?_
    rotate_left 2
    · first | obtain ⟨s0, s1⟩ := hW' rfl | skip
      go_simp
      try with_reducible rfl
    · simp only [Act.put, List.setIfInBounds_toArray, List.set_cons_zero, List.set_cons_succ]
      try with_reducible rfl
  refine Free.Seq.loud_ rfl (.inl rfl) (fun K hK => ?_)
  go_simp
  refine (HH.out W0.drew).mono ?_
  rintro e w1 ⟨rfl, hb1⟩
  have hb1 := (Below.refl _ W0).drew.trans hb1
  have hp1 := HP.out.below hb1 HP.out.lt
  have HB1 := Lib.hid (HB0.out.trans (hb1.mono HB0.out.size))
  refine hK.out _ _ rfl (fun _ => ⟨hp1.cell 0, hp1.cell 1⟩) ?_
  clear hK K hp1 hb1
  refine Free.Seq.loud_ rfl (.inl rfl) (fun K hK => ?_)
  go_simp
  refine (HCM.out w1 HB1.out).mono ?_
  rintro e w2 ⟨rfl, hb2⟩
  have HB2 := Lib.hid (HB1.out.trans (hb2.mono HB1.out.size))
  refine hK.out _ _ rfl (fun h => absurd h (by decide)) ?_
  clear hK K hb2
  iterate 4
    refine Free.Seq.quiet (v := ?_) (a' := ?_) rfl rfl (fun W' hW' => ?_) ?_ ?_
    rotate_left 2
    · skip
      go_simp
      try with_reducible rfl
    · simp only [Act.put, List.setIfInBounds_toArray, List.set_cons_zero, List.set_cons_succ]
      try with_reducible rfl
  refine Free.Seq.nil_ ?_
  clear l0 l1
  go_wp2
  go_ret2
  exact ⟨rfl, HB2.out⟩

/-! instructions -/
set_option maxHeartbeats 16000000 in
theorem compareI_any {v : Value} {names : List ByteArray} {up : List Nat} {B D : Option Addr} {a b : List Cd.In} (o : Int) (ca cb : Nat) (w : World) (h : IsLat w w.heap.size v names up) (ha : Row w w.heap.size B (icells a)) (hb : Row w w.heap.size D (icells b)) (hna : a.length ≤ 100000) (hnb : b.length ≤ 100000) :
    Calls Try.prog 27 #[v, .int .i64 o, .slice B a.length ca, .slice D b.length cb, howI] w (TellsBE w (Ev.told (Ev.lookN names up o (a.map (·.l) ++ b.map (·.l))) (Ev.alike (Ev.seenI (Ev.viewL up o)) a b)) (Ev.lookN names up o (a.map (·.l) ++ b.map (·.l)))) := by
  obtain ⟨res, hres⟩ : ∃ res, Ev.lookN names up o (a.map (·.l) ++ b.map (·.l)) = res := ⟨_, rfl⟩
  rw [hres]
  have hl0 := h
  obtain ⟨⟨N, U, c1, c2, rfl, -, -⟩, -, -, -⟩ := h
  obtain ⟨W0, hW0⟩ : ∃ W0, (w.alloc (.cells #[.slice N names.length c1, .slice U up.length c2] 25)).alloc (.cells #[.func (.func 56) #[] #[], .func (.func 57) #[] #[]] 71) = W0 := ⟨_, rfl⟩
  have hb0 : Below w.heap.size w W0 := hW0 ▸ ((Below.refl _ w).alloc (Nat.le_refl _) _).alloc (by simp) _
  have hp0 : Blk W0 w.heap.size 25 #[.slice N names.length c1, .slice U up.length c2] := hW0 ▸ (Blk.new _ _ _).alloc _
  have hq0 : Blk W0 (w.heap.size + 1) 71 #[.func (.func 56) #[] #[], .func (.func 57) #[] #[]] := by
    have h1 := Blk.new (w.alloc (.cells #[.slice N names.length c1, .slice U up.length c2] 25)) 71 #[.func (.func 56) #[] #[], .func (.func 57) #[] #[]]
    rw [show (w.alloc (.cells #[.slice N names.length c1, .slice U up.length c2] 25)).heap.size = w.heap.size + 1 by simp] at h1
    rw [← hW0]; exact h1
  have hlb := fun W (hb : Below W0.heap.size W0 W) => labelsI_any ca W ((ha.below (hb0.trans (hb.mono hb0.size))).more (Nat.le_trans hb0.size hb.size)) hna
  have hlb2 := fun W (hW : Below W0.heap.size W0 W) => labelsI_any cb W ((hb.below (hb0.trans (hW.mono hb0.size))).more (Nat.le_trans hb0.size hW.size)) hnb
  have hlk := fun g cl W (hW : Below W0.heap.size W0 W) (hg : IntsAt W g [a.map (·.l), b.map (·.l)]) => look_any o g cl W ((hl0.below (hb0.trans (hW.mono hb0.size))).more (Nat.le_trans hb0.size hW.size)) hg (by simp) (by intro l hl; simp at hl; rcases hl with rfl | rfl <;> (rw [List.length_map]; omega))
  have hal := fun A c W (hW : Below W0.heap.size W0 W) (hr : Row W W.heap.size A (vbs (Ev.viewL up o))) (hl1 : LabIn (·.l) (Ev.viewL up o).length a) (hl2 : LabIn (·.l) (Ev.viewL up o).length b) => alikeI_any (A := A) c ca cb W hr ((ha.below (hb0.trans (hW.mono hb0.size))).more (Nat.le_trans hb0.size hW.size)) ((hb.below (hb0.trans (hW.mono hb0.size))).more (Nat.le_trans hb0.size hW.size)) hl1 hl2 (by omega)
  simp only [flat_two, hres, Ev.viewL_len] at hlb hlb2 hlk hal
  unfold GotInts at hlb hlb2
  rw [List.length_map] at hlb hlb2
  unfold howI at hlb hlb2 hal
  have hlz : res = 0 → LabIn (·.l) up.length a ∧ LabIn (·.l) up.length b := fun e => by
    have h9 := (Ev.lookN_zero (hres.trans e)).2
    have e1 := labIn_of (o := o) fun x hx => h9 x (List.mem_append_left _ hx)
    have e2 := labIn_of (o := o) fun x hx => h9 x (List.mem_append_right _ hx)
    rw [Ev.viewL_len] at e1 e2
    exact ⟨e1, e2⟩
  have hla : (a.map (·.l)).length = a.length := List.length_map ..
  have hlb3 : (b.map (·.l)).length = b.length := List.length_map ..
  generalize Ev.alike (Ev.seenI (Ev.viewL up o)) a b = ans at *
  generalize a.map (·.l) = la at *
  generalize b.map (·.l) = lb at *
  have l0 : W0.cell? ⟨w.heap.size, 0, none⟩ = some (.slice N names.length c1) := hp0.cell 0
  have l1 : W0.cell? ⟨w.heap.size, 1, none⟩ = some (.slice U up.length c2) := hp0.cell 1
  have q0 : W0.cell? ⟨w.heap.size + 1, 0, none⟩ = some (.func (.func 56) #[] #[]) := hq0.cell 0
  have q1 : W0.cell? ⟨w.heap.size + 1, 1, none⟩ = some (.func (.func 57) #[] #[]) := hq0.cell 1
  have HLA := Lib.hid hlb
  have HLB := Lib.hid hlb2
  have HLK := Lib.hid hlk
  have HAL := Lib.hid hal
  have HLZ := Lib.hid hlz
  have HB0 := Lib.hid hb0
  have HP := Lib.hid hp0
  have HQ := Lib.hid hq0
  have HNA := Lib.hid hla
  have HNB := Lib.hid hlb3
  clear ha hb hb0 hp0 hq0 hlb hlb2 hlk hal hlz hla hlb3 hres hl0
  unfold howI
  go_enter Try.func27, Try.ntmps27
  go_wp2_with (fail)
  clear hW0
  refine Free.region_seq [4, 7, 8, 9] [0, 3, 6] 9 (fun W' => W'.cell? ⟨w.heap.size, 0, none⟩ = some (.slice N names.length c1) ∧ W'.cell? ⟨w.heap.size, 1, none⟩ = some (.slice U up.length c2) ∧ W'.cell? ⟨w.heap.size + 1, 0, none⟩ = some (.func (.func 56) #[] #[]) ∧ W'.cell? ⟨w.heap.size + 1, 1, none⟩ = some (.func (.func 57) #[] #[])) (by kernel_rfl) (by kernel_rfl) (by kernel_rfl) (by kernel_rfl) (⟨l0, l1, q0, q1⟩) (fun ops hops => ?_)
  clear hops
  iterate 4
    refine Free.Seq.quiet (v := ?_) (a' := ?_) rfl rfl (fun W' hW' => ?_) ?_ ?_
    rotate_left 2
    · first | obtain ⟨s0, s1, s2, s3⟩ := hW' rfl | skip
      go_simp
      try with_reducible rfl
    · simp only [Act.put, List.setIfInBounds_toArray, List.set_cons_zero, List.set_cons_succ]
      try with_reducible rfl
  refine Free.Seq.loud_ rfl (.inl rfl) (fun K hK => ?_)
  go_simp
  refine (HLA.out W0.drew (Below.refl _ W0).drew).mono ?_
  rintro e w1 ⟨A1, d1, rfl, hown1, hb1⟩
  have hb1 := (Below.refl _ W0).drew.trans hb1
  have hp1 := HP.out.below hb1 HP.out.lt
  have hq1 := HQ.out.below hb1 HQ.out.lt
  have HB1 := Lib.hid hb1
  have HR1 := Lib.hid (ownT_row hown1).1
  refine hK.out _ _ rfl (fun _ => ⟨hp1.cell 0, hp1.cell 1, hq1.cell 0, hq1.cell 1⟩) ?_
  clear hK K hp1 hq1 hb1 hown1
  iterate 2
    refine Free.Seq.quiet (v := ?_) (a' := ?_) rfl rfl (fun W' hW' => ?_) ?_ ?_
    rotate_left 2
    · first | obtain ⟨s0, s1, s2, s3⟩ := hW' rfl | skip
      go_simp
      try with_reducible rfl
    · simp only [Act.put, List.setIfInBounds_toArray, List.set_cons_zero, List.set_cons_succ]
      try with_reducible rfl
  refine Free.Seq.loud_ rfl (.inl rfl) (fun K hK => ?_)
  go_simp
  refine (HLB.out w1 HB1.out).mono ?_
  rintro e w2 ⟨A2, d2, rfl, hown2, hb2⟩
  have hB2 := HB1.out.trans (hb2.mono HB1.out.size)
  have hp2 := HP.out.below hB2 HP.out.lt
  have hq2 := HQ.out.below hB2 HQ.out.lt
  have HB2 := Lib.hid hB2
  have HR1b := Lib.hid ((HR1.out.below hb2).more hb2.size)
  have HR2 := Lib.hid (ownT_row hown2).1
  refine hK.out _ _ rfl (fun _ => ⟨hp2.cell 0, hp2.cell 1, hq2.cell 0, hq2.cell 1⟩) ?_
  clear hK K hp2 hq2 hB2 hb2 hown2 HR1
  refine Free.Seq.loud_ rfl (.inl rfl) (fun K hK => ?_)
  go_simp
  have hk3 := Blk.new w2 83 #[.slice A1 a.length d1, .slice A2 b.length d2]
  have hb3 := (Below.refl _ w2).alloc (Nat.le_refl _) (.cells #[.slice A1 a.length d1, .slice A2 b.length d2] 83)
  have hi3 := ints_two w2.heap.size HNA.out HNB.out hk3 ((HR1b.out.below hb3).more hb3.size) ((HR2.out.below hb3).more hb3.size)
  have HI3 := Lib.hid hi3
  have hB3 := HB2.out.trans (hb3.mono HB2.out.size)
  have hp3 := HP.out.below hB3 HP.out.lt
  have hq3 := HQ.out.below hB3 HQ.out.lt
  have HB3 := Lib.hid hB3
  refine hK.out _ _ rfl (fun _ => ⟨hp3.cell 0, hp3.cell 1, hq3.cell 0, hq3.cell 1⟩) ?_
  clear hK K hp3 hq3 hk3 hb3 hi3 hB3
  refine Free.Seq.loud_ rfl (.inl rfl) (fun K hK => ?_)
  go_simp
  refine (HLK.out w2.heap.size 2 _ HB3.out HI3.out).mono ?_
  rintro e w4 ⟨A4, n4, c4, rfl, hz4, hb4⟩
  have hB4 := HB3.out.trans (hb4.mono HB3.out.size)
  have hq4 := HQ.out.below hB4 HQ.out.lt
  have HZ4 := Lib.hid hz4
  have HB4 := Lib.hid hB4
  refine hK.out _ _ rfl (fun h => absurd h (by decide)) ?_
  clear hK K hb4 hz4 hB4
  iterate 5
    refine Free.Seq.quiet (v := ?_) (a' := ?_) rfl rfl (fun W' hW' => ?_) ?_ ?_
    rotate_left 2
    · skip
      go_simp
      try with_reducible rfl
    · simp only [Act.put, List.setIfInBounds_toArray, List.set_cons_zero, List.set_cons_succ]
      try with_reducible rfl
  refine Free.Seq.nil_ ?_
  have y0 : w4.cell? ⟨w.heap.size + 1, 0, none⟩ = some (.func (.func 56) #[] #[]) := hq4.cell 0
  have y1 : w4.cell? ⟨w.heap.size + 1, 1, none⟩ = some (.func (.func 57) #[] #[]) := hq4.cell 1
  clear l0 l1 q0 q1 hq4
  by_cases hz : res = 0
  · subst hz
    obtain ⟨rfl, hr4⟩ := HZ4.out rfl
    have hcall := HAL.out A4 c4 w4 HB4.out hr4 (HLZ.out rfl).1 (HLZ.out rfl).2
    have HC := Lib.hid hcall
    clear hr4 hcall
    go_wp2_with (fail)
    refine HC.out.mono ?_
    rintro e w5 ⟨rfl, hb5⟩
    have HB5 := Lib.hid (HB0.out.trans ((HB4.out.trans (hb5.mono HB4.out.size)).mono HB0.out.size))
    clear hb5
    go_wp2
    go_ret2
    exact ⟨rfl, HB5.out⟩
  · have hz1 : ((res : Int) == 0) = false := by rw [beq_eq_false_iff_ne]; omega
    have hz2 : ((res : Int) != 0) = true := by rw [bne_iff_ne]; omega
    have HT := Lib.hid (show Ev.told res ans = false from if_neg hz)
    clear hz
    go_wp2
    go_ret2
    exact ⟨by rw [HT.out]; rfl, HB0.out.trans (HB4.out.mono HB0.out.size)⟩
set_option maxHeartbeats 8000000 in
theorem Codes_any {v : Value} {names : List ByteArray} {up : List Nat} {B D : Option Addr} {a b : List Cd.In} (o : Int) (ca cb : Nat) (w : World) (h : IsLat w w.heap.size v names up) (ha : Row w w.heap.size B (icells a)) (hb : Row w w.heap.size D (icells b)) (hna : a.length ≤ 100000) (hnb : b.length ≤ 100000) :
    Calls Try.prog 9 #[v, .int .i64 o, .slice B a.length ca, .slice D b.length cb] w (TellsBE w (Ev.told (Ev.lookN names up o (a.map (·.l) ++ b.map (·.l))) (Ev.alike (Ev.seenI (Ev.viewL up o)) a b)) (Ev.lookN names up o (a.map (·.l) ++ b.map (·.l)))) := by
  have hcm := fun W (hW : Below w.heap.size w W) => compareI_any o ca cb W ((h.below hW).more hW.size) ((ha.below hW).more hW.size) ((hb.below hW).more hW.size) hna hnb
  generalize Ev.told (Ev.lookN names up o (a.map (·.l) ++ b.map (·.l))) (Ev.alike (Ev.seenI (Ev.viewL up o)) a b) = ans at *
  generalize Ev.lookN names up o (a.map (·.l) ++ b.map (·.l)) = res at *
  obtain ⟨⟨N, U, c1, c2, rfl, -, -⟩, -, -, -⟩ := h
  obtain ⟨W0, hW0⟩ : ∃ W0, w.alloc (.cells #[.slice N names.length c1, .slice U up.length c2] 25) = W0 := ⟨_, rfl⟩
  have hb0 : Below w.heap.size w W0 := hW0 ▸ (Below.refl _ w).alloc (Nat.le_refl _) _
  have hp0 : Blk W0 w.heap.size 25 #[.slice N names.length c1, .slice U up.length c2] := hW0 ▸ Blk.new _ _ _
  have hhow := fun W => howI_any W
  unfold howI at hhow hcm
  have l0 : W0.cell? ⟨w.heap.size, 0, none⟩ = some (.slice N names.length c1) := hp0.cell 0
  have l1 : W0.cell? ⟨w.heap.size, 1, none⟩ = some (.slice U up.length c2) := hp0.cell 1
  have HCM := Lib.hid hcm
  have HH := Lib.hid hhow
  have HB0 := Lib.hid hb0
  have HP := Lib.hid hp0
  generalize a.length = na at *
  generalize b.length = nb at *
  clear ha hb hb0 hp0 hcm hhow
  go_enter Try.func9, Try.ntmps9
  go_wp2_with (fail)
  clear hW0
  refine Free.region_seq [4, 5] [0] 5 (fun W' => W'.cell? ⟨w.heap.size, 0, none⟩ = some (.slice N names.length c1) ∧ W'.cell? ⟨w.heap.size, 1, none⟩ = some (.slice U up.length c2)) (by kernel_rfl) (by kernel_rfl) (by kernel_rfl) (by kernel_rfl) (⟨l0, l1⟩) (fun ops hops => ?_)
  clear hops
  iterate 4
    refine Free.Seq.quiet (v := ?_) (a' := ?_) rfl rfl (fun W' hW' => ?_) ?_ ?_
    rotate_left 2
    · first | obtain ⟨s0, s1⟩ := hW' rfl | skip
      go_simp
      try with_reducible rfl
    · simp only [Act.put, List.setIfInBounds_toArray, List.set_cons_zero, List.set_cons_succ]
      try with_reducible rfl
  refine Free.Seq.loud_ rfl (.inl rfl) (fun K hK => ?_)
  go_simp
  refine (HH.out W0.drew).mono ?_
  rintro e w1 ⟨rfl, hb1⟩
  have hb1 := (Below.refl _ W0).drew.trans hb1
  have hp1 := HP.out.below hb1 HP.out.lt
  have HB1 := Lib.hid (HB0.out.trans (hb1.mono HB0.out.size))
  refine hK.out _ _ rfl (fun _ => ⟨hp1.cell 0, hp1.cell 1⟩) ?_
  clear hK K hp1 hb1
  refine Free.Seq.loud_ rfl (.inl rfl) (fun K hK => ?_)
  go_simp
  refine (HCM.out w1 HB1.out).mono ?_
  rintro e w2 ⟨rfl, hb2⟩
  have HB2 := Lib.hid (HB1.out.trans (hb2.mono HB1.out.size))
  refine hK.out _ _ rfl (fun h => absurd h (by decide)) ?_
  clear hK K hb2
  iterate 4
    refine Free.Seq.quiet (v := ?_) (a' := ?_) rfl rfl (fun W' hW' => ?_) ?_ ?_
    rotate_left 2
    · skip
      go_simp
      try with_reducible rfl
    · simp only [Act.put, List.setIfInBounds_toArray, List.set_cons_zero, List.set_cons_succ]
      try with_reducible rfl
  refine Free.Seq.nil_ ?_
  clear l0 l1
  go_wp2
  go_ret2
  exact ⟨rfl, HB2.out⟩

/-! slots -/
set_option maxHeartbeats 16000000 in
theorem compareS_any {v : Value} {names : List ByteArray} {up : List Nat} {B D : Option Addr} {a b : List St.Slot} (o : Int) (ca cb : Nat) (w : World) (h : IsLat w w.heap.size v names up) (ha : Row w w.heap.size B (fcells svs a)) (hb : Row w w.heap.size D (fcells svs b)) (hna : a.length ≤ 100000) (hnb : b.length ≤ 100000) :
    Calls Try.prog 29 #[v, .int .i64 o, .slice B a.length ca, .slice D b.length cb, howS] w (TellsBE w (Ev.told (Ev.lookN names up o (a.map (·.l) ++ b.map (·.l))) (Ev.alike (Ev.seenS (Ev.viewL up o)) a b)) (Ev.lookN names up o (a.map (·.l) ++ b.map (·.l)))) := by
  obtain ⟨res, hres⟩ : ∃ res, Ev.lookN names up o (a.map (·.l) ++ b.map (·.l)) = res := ⟨_, rfl⟩
  rw [hres]
  have hl0 := h
  obtain ⟨⟨N, U, c1, c2, rfl, -, -⟩, -, -, -⟩ := h
  obtain ⟨W0, hW0⟩ : ∃ W0, (w.alloc (.cells #[.slice N names.length c1, .slice U up.length c2] 25)).alloc (.cells #[.func (.func 59) #[] #[], .func (.func 60) #[] #[]] 77) = W0 := ⟨_, rfl⟩
  have hb0 : Below w.heap.size w W0 := hW0 ▸ ((Below.refl _ w).alloc (Nat.le_refl _) _).alloc (by simp) _
  have hp0 : Blk W0 w.heap.size 25 #[.slice N names.length c1, .slice U up.length c2] := hW0 ▸ (Blk.new _ _ _).alloc _
  have hq0 : Blk W0 (w.heap.size + 1) 77 #[.func (.func 59) #[] #[], .func (.func 60) #[] #[]] := by
    have h1 := Blk.new (w.alloc (.cells #[.slice N names.length c1, .slice U up.length c2] 25)) 77 #[.func (.func 59) #[] #[], .func (.func 60) #[] #[]]
    rw [show (w.alloc (.cells #[.slice N names.length c1, .slice U up.length c2] 25)).heap.size = w.heap.size + 1 by simp] at h1
    rw [← hW0]; exact h1
  have hlb := fun W (hb : Below W0.heap.size W0 W) => labelsS_any ca W ((ha.below (hb0.trans (hb.mono hb0.size))).more (Nat.le_trans hb0.size hb.size)) hna
  have hlb2 := fun W (hW : Below W0.heap.size W0 W) => labelsS_any cb W ((hb.below (hb0.trans (hW.mono hb0.size))).more (Nat.le_trans hb0.size hW.size)) hnb
  have hlk := fun g cl W (hW : Below W0.heap.size W0 W) (hg : IntsAt W g [a.map (·.l), b.map (·.l)]) => look_any o g cl W ((hl0.below (hb0.trans (hW.mono hb0.size))).more (Nat.le_trans hb0.size hW.size)) hg (by simp) (by intro l hl; simp at hl; rcases hl with rfl | rfl <;> (rw [List.length_map]; omega))
  have hal := fun A c W (hW : Below W0.heap.size W0 W) (hr : Row W W.heap.size A (vbs (Ev.viewL up o))) (hl1 : LabIn (·.l) (Ev.viewL up o).length a) (hl2 : LabIn (·.l) (Ev.viewL up o).length b) => alikeS_any (A := A) c ca cb W hr ((ha.below (hb0.trans (hW.mono hb0.size))).more (Nat.le_trans hb0.size hW.size)) ((hb.below (hb0.trans (hW.mono hb0.size))).more (Nat.le_trans hb0.size hW.size)) hl1 hl2 (by omega)
  simp only [flat_two, hres, Ev.viewL_len] at hlb hlb2 hlk hal
  unfold GotInts at hlb hlb2
  rw [List.length_map] at hlb hlb2
  unfold howS at hlb hlb2 hal
  have hlz : res = 0 → LabIn (·.l) up.length a ∧ LabIn (·.l) up.length b := fun e => by
    have h9 := (Ev.lookN_zero (hres.trans e)).2
    have e1 := labIn_of (o := o) fun x hx => h9 x (List.mem_append_left _ hx)
    have e2 := labIn_of (o := o) fun x hx => h9 x (List.mem_append_right _ hx)
    rw [Ev.viewL_len] at e1 e2
    exact ⟨e1, e2⟩
  have hla : (a.map (·.l)).length = a.length := List.length_map ..
  have hlb3 : (b.map (·.l)).length = b.length := List.length_map ..
  generalize Ev.alike (Ev.seenS (Ev.viewL up o)) a b = ans at *
  generalize a.map (·.l) = la at *
  generalize b.map (·.l) = lb at *
  have l0 : W0.cell? ⟨w.heap.size, 0, none⟩ = some (.slice N names.length c1) := hp0.cell 0
  have l1 : W0.cell? ⟨w.heap.size, 1, none⟩ = some (.slice U up.length c2) := hp0.cell 1
  have q0 : W0.cell? ⟨w.heap.size + 1, 0, none⟩ = some (.func (.func 59) #[] #[]) := hq0.cell 0
  have q1 : W0.cell? ⟨w.heap.size + 1, 1, none⟩ = some (.func (.func 60) #[] #[]) := hq0.cell 1
  have HLA := Lib.hid hlb
  have HLB := Lib.hid hlb2
  have HLK := Lib.hid hlk
  have HAL := Lib.hid hal
  have HLZ := Lib.hid hlz
  have HB0 := Lib.hid hb0
  have HP := Lib.hid hp0
  have HQ := Lib.hid hq0
  have HNA := Lib.hid hla
  have HNB := Lib.hid hlb3
  clear ha hb hb0 hp0 hq0 hlb hlb2 hlk hal hlz hla hlb3 hres hl0
  unfold howS
  go_enter Try.func29, Try.ntmps29
  go_wp2_with (fail)
  clear hW0
  refine Free.region_seq [4, 7, 8, 9] [0, 3, 6] 9 (fun W' => W'.cell? ⟨w.heap.size, 0, none⟩ = some (.slice N names.length c1) ∧ W'.cell? ⟨w.heap.size, 1, none⟩ = some (.slice U up.length c2) ∧ W'.cell? ⟨w.heap.size + 1, 0, none⟩ = some (.func (.func 59) #[] #[]) ∧ W'.cell? ⟨w.heap.size + 1, 1, none⟩ = some (.func (.func 60) #[] #[])) (by kernel_rfl) (by kernel_rfl) (by kernel_rfl) (by kernel_rfl) (⟨l0, l1, q0, q1⟩) (fun ops hops => ?_)
  clear hops
  iterate 4
    refine Free.Seq.quiet (v := ?_) (a' := ?_) rfl rfl (fun W' hW' => ?_) ?_ ?_
    rotate_left 2
    · first | obtain ⟨s0, s1, s2, s3⟩ := hW' rfl | skip
      go_simp
      try with_reducible rfl
    · simp only [Act.put, List.setIfInBounds_toArray, List.set_cons_zero, List.set_cons_succ]
      try with_reducible rfl
  refine Free.Seq.loud_ rfl (.inl rfl) (fun K hK => ?_)
  go_simp
  refine (HLA.out W0.drew (Below.refl _ W0).drew).mono ?_
  rintro e w1 ⟨A1, d1, rfl, hown1, hb1⟩
  have hb1 := (Below.refl _ W0).drew.trans hb1
  have hp1 := HP.out.below hb1 HP.out.lt
  have hq1 := HQ.out.below hb1 HQ.out.lt
  have HB1 := Lib.hid hb1
  have HR1 := Lib.hid (ownT_row hown1).1
  refine hK.out _ _ rfl (fun _ => ⟨hp1.cell 0, hp1.cell 1, hq1.cell 0, hq1.cell 1⟩) ?_
  clear hK K hp1 hq1 hb1 hown1
  iterate 2
    refine Free.Seq.quiet (v := ?_) (a' := ?_) rfl rfl (fun W' hW' => ?_) ?_ ?_
    rotate_left 2
    · first | obtain ⟨s0, s1, s2, s3⟩ := hW' rfl | skip
      go_simp
      try with_reducible rfl
    · simp only [Act.put, List.setIfInBounds_toArray, List.set_cons_zero, List.set_cons_succ]
      try with_reducible rfl
  refine Free.Seq.loud_ rfl (.inl rfl) (fun K hK => ?_)
  go_simp
  refine (HLB.out w1 HB1.out).mono ?_
  rintro e w2 ⟨A2, d2, rfl, hown2, hb2⟩
  have hB2 := HB1.out.trans (hb2.mono HB1.out.size)
  have hp2 := HP.out.below hB2 HP.out.lt
  have hq2 := HQ.out.below hB2 HQ.out.lt
  have HB2 := Lib.hid hB2
  have HR1b := Lib.hid ((HR1.out.below hb2).more hb2.size)
  have HR2 := Lib.hid (ownT_row hown2).1
  refine hK.out _ _ rfl (fun _ => ⟨hp2.cell 0, hp2.cell 1, hq2.cell 0, hq2.cell 1⟩) ?_
  clear hK K hp2 hq2 hB2 hb2 hown2 HR1
  refine Free.Seq.loud_ rfl (.inl rfl) (fun K hK => ?_)
  go_simp
  have hk3 := Blk.new w2 83 #[.slice A1 a.length d1, .slice A2 b.length d2]
  have hb3 := (Below.refl _ w2).alloc (Nat.le_refl _) (.cells #[.slice A1 a.length d1, .slice A2 b.length d2] 83)
  have hi3 := ints_two w2.heap.size HNA.out HNB.out hk3 ((HR1b.out.below hb3).more hb3.size) ((HR2.out.below hb3).more hb3.size)
  have HI3 := Lib.hid hi3
  have hB3 := HB2.out.trans (hb3.mono HB2.out.size)
  have hp3 := HP.out.below hB3 HP.out.lt
  have hq3 := HQ.out.below hB3 HQ.out.lt
  have HB3 := Lib.hid hB3
  refine hK.out _ _ rfl (fun _ => ⟨hp3.cell 0, hp3.cell 1, hq3.cell 0, hq3.cell 1⟩) ?_
  clear hK K hp3 hq3 hk3 hb3 hi3 hB3
  refine Free.Seq.loud_ rfl (.inl rfl) (fun K hK => ?_)
  go_simp
  refine (HLK.out w2.heap.size 2 _ HB3.out HI3.out).mono ?_
  rintro e w4 ⟨A4, n4, c4, rfl, hz4, hb4⟩
  have hB4 := HB3.out.trans (hb4.mono HB3.out.size)
  have hq4 := HQ.out.below hB4 HQ.out.lt
  have HZ4 := Lib.hid hz4
  have HB4 := Lib.hid hB4
  refine hK.out _ _ rfl (fun h => absurd h (by decide)) ?_
  clear hK K hb4 hz4 hB4
  iterate 5
    refine Free.Seq.quiet (v := ?_) (a' := ?_) rfl rfl (fun W' hW' => ?_) ?_ ?_
    rotate_left 2
    · skip
      go_simp
      try with_reducible rfl
    · simp only [Act.put, List.setIfInBounds_toArray, List.set_cons_zero, List.set_cons_succ]
      try with_reducible rfl
  refine Free.Seq.nil_ ?_
  have y0 : w4.cell? ⟨w.heap.size + 1, 0, none⟩ = some (.func (.func 59) #[] #[]) := hq4.cell 0
  have y1 : w4.cell? ⟨w.heap.size + 1, 1, none⟩ = some (.func (.func 60) #[] #[]) := hq4.cell 1
  clear l0 l1 q0 q1 hq4
  by_cases hz : res = 0
  · subst hz
    obtain ⟨rfl, hr4⟩ := HZ4.out rfl
    have hcall := HAL.out A4 c4 w4 HB4.out hr4 (HLZ.out rfl).1 (HLZ.out rfl).2
    have HC := Lib.hid hcall
    clear hr4 hcall
    go_wp2_with (fail)
    refine HC.out.mono ?_
    rintro e w5 ⟨rfl, hb5⟩
    have HB5 := Lib.hid (HB0.out.trans ((HB4.out.trans (hb5.mono HB4.out.size)).mono HB0.out.size))
    clear hb5
    go_wp2
    go_ret2
    exact ⟨rfl, HB5.out⟩
  · have hz1 : ((res : Int) == 0) = false := by rw [beq_eq_false_iff_ne]; omega
    have hz2 : ((res : Int) != 0) = true := by rw [bne_iff_ne]; omega
    have HT := Lib.hid (show Ev.told res ans = false from if_neg hz)
    clear hz
    go_wp2
    go_ret2
    exact ⟨by rw [HT.out]; rfl, HB0.out.trans (HB4.out.mono HB0.out.size)⟩
set_option maxHeartbeats 8000000 in
theorem Stacks_any {v : Value} {names : List ByteArray} {up : List Nat} {B D : Option Addr} {a b : List St.Slot} (o : Int) (ca cb : Nat) (w : World) (h : IsLat w w.heap.size v names up) (ha : Row w w.heap.size B (fcells svs a)) (hb : Row w w.heap.size D (fcells svs b)) (hna : a.length ≤ 100000) (hnb : b.length ≤ 100000) :
    Calls Try.prog 10 #[v, .int .i64 o, .slice B a.length ca, .slice D b.length cb] w (TellsBE w (Ev.told (Ev.lookN names up o (a.map (·.l) ++ b.map (·.l))) (Ev.alike (Ev.seenS (Ev.viewL up o)) a b)) (Ev.lookN names up o (a.map (·.l) ++ b.map (·.l)))) := by
  have hcm := fun W (hW : Below w.heap.size w W) => compareS_any o ca cb W ((h.below hW).more hW.size) ((ha.below hW).more hW.size) ((hb.below hW).more hW.size) hna hnb
  generalize Ev.told (Ev.lookN names up o (a.map (·.l) ++ b.map (·.l))) (Ev.alike (Ev.seenS (Ev.viewL up o)) a b) = ans at *
  generalize Ev.lookN names up o (a.map (·.l) ++ b.map (·.l)) = res at *
  obtain ⟨⟨N, U, c1, c2, rfl, -, -⟩, -, -, -⟩ := h
  obtain ⟨W0, hW0⟩ : ∃ W0, w.alloc (.cells #[.slice N names.length c1, .slice U up.length c2] 25) = W0 := ⟨_, rfl⟩
  have hb0 : Below w.heap.size w W0 := hW0 ▸ (Below.refl _ w).alloc (Nat.le_refl _) _
  have hp0 : Blk W0 w.heap.size 25 #[.slice N names.length c1, .slice U up.length c2] := hW0 ▸ Blk.new _ _ _
  have hhow := fun W => howS_any W
  unfold howS at hhow hcm
  have l0 : W0.cell? ⟨w.heap.size, 0, none⟩ = some (.slice N names.length c1) := hp0.cell 0
  have l1 : W0.cell? ⟨w.heap.size, 1, none⟩ = some (.slice U up.length c2) := hp0.cell 1
  have HCM := Lib.hid hcm
  have HH := Lib.hid hhow
  have HB0 := Lib.hid hb0
  have HP := Lib.hid hp0
  generalize a.length = na at *
  generalize b.length = nb at *
  clear ha hb hb0 hp0 hcm hhow
  go_enter Try.func10, Try.ntmps10
  go_wp2_with (fail)
  clear hW0
  refine Free.region_seq [4, 5] [0] 5 (fun W' => W'.cell? ⟨w.heap.size, 0, none⟩ = some (.slice N names.length c1) ∧ W'.cell? ⟨w.heap.size, 1, none⟩ = some (.slice U up.length c2)) (by kernel_rfl) (by kernel_rfl) (by kernel_rfl) (by kernel_rfl) (⟨l0, l1⟩) (fun ops hops => ?_)
  clear hops
  iterate 4
    refine Free.Seq.quiet (v := ?_) (a' := ?_) rfl rfl (fun W' hW' => ?_) ?_ ?_
    rotate_left 2
    · first | obtain ⟨s0, s1⟩ := hW' rfl | skip
      go_simp
      try with_reducible rfl
    · simp only [Act.put, List.setIfInBounds_toArray, List.set_cons_zero, List.set_cons_succ]
      try with_reducible rfl
  refine Free.Seq.loud_ rfl (.inl rfl) (fun K hK => ?_)
  go_simp
  refine (HH.out W0.drew).mono ?_
  rintro e w1 ⟨rfl, hb1⟩
  have hb1 := (Below.refl _ W0).drew.trans hb1
  have hp1 := HP.out.below hb1 HP.out.lt
  have HB1 := Lib.hid (HB0.out.trans (hb1.mono HB0.out.size))
  refine hK.out _ _ rfl (fun _ => ⟨hp1.cell 0, hp1.cell 1⟩) ?_
  clear hK K hp1 hb1
  refine Free.Seq.loud_ rfl (.inl rfl) (fun K hK => ?_)
  go_simp
  refine (HCM.out w1 HB1.out).mono ?_
  rintro e w2 ⟨rfl, hb2⟩
  have HB2 := Lib.hid (HB1.out.trans (hb2.mono HB1.out.size))
  refine hK.out _ _ rfl (fun h => absurd h (by decide)) ?_
  clear hK K hb2
  iterate 4
    refine Free.Seq.quiet (v := ?_) (a' := ?_) rfl rfl (fun W' hW' => ?_) ?_ ?_
    rotate_left 2
    · skip
      go_simp
      try with_reducible rfl
    · simp only [Act.put, List.setIfInBounds_toArray, List.set_cons_zero, List.set_cons_succ]
      try with_reducible rfl
  refine Free.Seq.nil_ ?_
  clear l0 l1
  go_wp2
  go_ret2
  exact ⟨rfl, HB2.out⟩
end Go.Proofs.Ytlddglhjpiahfaa

/- Walks of package equiv's public, outs, Outs. -/
namespace Go.Proofs.Ytlddglhjpiahfaa
set_option maxRecDepth 100000
open Go.RowKit Go.Shelf Go.Sort
attribute [local go_sem] Oper.semAt_some
theorem Try.infoAtomE : (Try.prog.info? 27).map (fun i => (i.zero, i.size, i.bytes)) = some (some (.agg #[.int .i64 0, .int .i64 0]), 2, 16) := by kernel_rfl
theorem two_row (w : World) (x y : Value) (t : TypeId) : Row (w.alloc (.cells #[x, y] t)) (w.alloc (.cells #[x, y] t)).heap.size (some ⟨w.heap.size, 0, none⟩) [x, y] :=
  (Blk.new w t [x, y].toArray).row.more (by simp)
/-- Atoms in a row of one's own. -/
def GotAtoms (w : World) (l : List St.Atom) (e : Ending) (w' : World) : Prop := ∃ A c, e = .returned (.slice A l.length c) ∧ Row w' w'.heap.size A (fcells avs l) ∧ Below w.heap.size w w'
theorem pub_len (v : List Bool) (l : List St.Atom) : (Ev.pub v l).length ≤ l.length := List.length_filter_le _ _
set_option maxHeartbeats 8000000 in
theorem public_any {A B : Option Addr} {v : List Bool} {a : List St.Atom} (c ca : Nat) (w : World) (h : Row w w.heap.size A (vbs v)) (ha : Row w w.heap.size B (fcells avs a)) (hl : LabIn (·.l) v.length a) (hn : a.length ≤ 100000) :
    Calls Try.prog 63 #[.slice A v.length c, .slice B a.length ca] w (GotAtoms w (Ev.pub v a)) := by
  obtain ⟨i0, hi, hz0, hz1, hz2⟩ := info_parts Try.infoAtomE
  obtain ⟨n, hna⟩ : ∃ n, a.length = n := ⟨_, rfl⟩
  rw [hna]
  have hn9 : n ≤ 100000 := by omega
  have H := Lib.hid ha
  have HV := Lib.hid h
  have HL := Lib.hid hl
  have HNA := Lib.hid hna
  clear h ha hl hna hn
  go_enter Try.func63, Try.ntmps63
  go_wp2
  go_loopw [5, 10] (fun r i wr => ∃ k m : Nat, k ≤ n ∧ m ≤ k ∧ i = .int .i64 k ∧ Hid ((Ev.pub v (a.take k)).length = m) ∧ Hid (wr.ownsRow w.heap.size 27 2 r m (fcells avs (Ev.pub v (a.take k)))) ∧ Hid (Below w.heap.size w wr)) (fun _ i _ => n - (intOf i).toNat)
  case atStart => exact ⟨0, 0, Nat.zero_le _, Nat.le_refl _, rfl, Lib.hid rfl, Lib.hid (World.ownsRow_nil _ _ _ _), Lib.hid (Below.refl _ _)⟩
  case round =>
    obtain ⟨k, m, hk, hmk, rfl, HM, HO, HB⟩ := hrel
    obtain ⟨An, cn, rfl⟩ := ownT_slice HO.out
    by_cases hlt : k < n
    · obtain ⟨bd, x, rfl, hxb, hx, x0, x1⟩ := arow_at (H.out.below HB.out) (show k < a.length by rw [HNA.out]; exact hlt)
      have hxl : 0 ≤ x.l ∧ x.l < v.length := HL.out x (List.mem_of_getElem? hx)
      obtain ⟨ad, q, rfl, hadb, hql, hq, hcv⟩ := vbs_at (HV.out.below HB.out) hxl
      have hps := Ev.pub_snoc v (a.take k) x
      rw [← Ev.take_snoc hx] at hps
      obtain ⟨s, hs⟩ : ∃ s, Ev.at_ v x.l = s := ⟨_, rfl⟩
      have hfc : avs x = [.int .i64 x.v, .int .i64 x.l] := rfl
      rw [hs] at hcv hps
      have HPS := Lib.hid hps
      have HFC := Lib.hid hfc
      have hz := HB.out.size
      have hxb2 : (bd.add (k * 2)).block < wr.heap.size := by rw [add_block]; omega
      have hcv2 : (wr.alloc (.cells #[.int .i64 x.v, .int .i64 x.l] 27)).cell? (ad.add q) = some (.bool s) := (((Below.refl wr.heap.size wr).alloc (Nat.le_refl _) _).cell (p := ad.add q) (by rw [add_block]; omega)).trans hcv
      clear hs hps hfc hx hxl
      rw [hql] at x1 hcv2 HFC
      have hvlt : q < v.length := hq
      generalize x.v = xv at *
      obtain ⟨Wb, hWb⟩ : ∃ Wb, wr.alloc (.cells #[.int .i64 xv, .int .i64 (q : Nat)] 27) = Wb := ⟨_, rfl⟩
      have hbb := HB.out.alloc hz (.cells #[.int .i64 xv, .int .i64 (q : Nat)] 27)
      have hob := HO.out.alloc (.cells #[.int .i64 xv, .int .i64 (q : Nat)] 27)
      have hkb := Blk.new wr 27 #[.int .i64 xv, .int .i64 (q : Nat)]
      rw [hWb] at hbb hob hkb hcv2
      have z0 : Wb.cell? ⟨wr.heap.size, 0, none⟩ = some (.int .i64 xv) := hkb.cell 0
      have z1 : Wb.cell? ⟨wr.heap.size, 1, none⟩ = some (.int .i64 (q : Nat)) := hkb.cell 1
      have HBB := Lib.hid hbb
      have HOB := Lib.hid hob
      cases s
      · have HO6 : Hid (Wb.ownsRow w.heap.size 27 2 (.slice An m cn) m (fcells avs (Ev.pub v (a.take (k + 1))))) := Lib.hid (by rw [HPS.out]; exact HOB.out)
        have HM6 : Hid ((Ev.pub v (a.take (k + 1))).length = m) := Lib.hid (by rw [HPS.out]; exact HM.out)
        clear hbb hob hkb hcv
        go_wp2
        go_roundw
        case rel => exact ⟨k + 1, m, by omega, by omega, by go_num, HM6, HO6, HBB⟩
        case measure => simp [intOf]; omega
      · obtain ⟨v', W5, hrun, hown5, hb5, -⟩ := append_runE (P := Try.prog) (w := Wb.alloc (.cells #[.int .i64 xv, .int .i64 (q : Nat)] 27)) w.heap.size 29 29 27 i0 (.agg #[.int .i64 0, .int .i64 0]) 2 16 Try.underlying29 hi hz0 hz1 hz2 rfl (by decide) _ m _ (hob.alloc _) (some ⟨Wb.heap.size, 0, none⟩) 1 1 [.int .i64 xv, .int .i64 (q : Nat)] rfl (two_row Wb _ _ _) (by intro u hu; simp at hu; rcases hu with rfl | rfl <;> rfl) (by unfold maxLen; omega) (by omega) (by have := hbb.size; simp; omega)
        have HRUN := Lib.hid hrun
        have HB6 := Lib.hid ((hbb.alloc hbb.size (.cells #[.int .i64 xv, .int .i64 (q : Nat)] 27)).trans hb5)
        have HO6 : Hid (W5.ownsRow w.heap.size 27 2 v' (m + 1) (fcells avs (Ev.pub v (a.take (k + 1))))) := Lib.hid (by rw [HPS.out, if_pos rfl, fcells_snoc, HFC.out]; exact hown5)
        have HM6 : Hid ((Ev.pub v (a.take (k + 1))).length = m + 1) := Lib.hid (by rw [HPS.out, if_pos rfl, List.length_append, HM.out]; rfl)
        clear hbb hob hkb hrun hown5 hb5 hcv
        go_wp2_with (at_builtin; refine wpList_app_run rfl _ _ 29 29 rfl _ _ rfl rfl _ _ HRUN.out ?_)
        go_wp2
        go_roundw
        case rel => exact ⟨k + 1, m + 1, by omega, by omega, by go_num, HM6, HO6, HB6⟩
        case measure => simp [intOf]; omega
    · obtain rfl : k = n := by omega
      have hall : a.take k = a := List.take_of_length_le (by rw [HNA.out]; exact Nat.le_refl _)
      have hres := HO.out
      have hlen := HM.out
      rw [hall] at hres hlen
      have HRES := Lib.hid (ownT_row hres).1
      have HLEN := Lib.hid hlen
      clear hall hres hlen
      go_wp2
      go_ret
      exact ⟨An, cn, by rw [HLEN.out]; rfl, HRES.out, HB.out⟩
set_option maxHeartbeats 4000000 in
theorem outs_any {A B D : Option Addr} {v : List Bool} {a b : List St.Atom} (c ca cb : Nat) (w : World) (h : Row w w.heap.size A (vbs v)) (ha : Row w w.heap.size B (fcells avs a)) (hb : Row w w.heap.size D (fcells avs b)) (hl : LabIn (·.l) v.length a) (hl2 : LabIn (·.l) v.length b) (hn : a.length ≤ 1000) (hn2 : b.length ≤ 1000) :
    Calls Try.prog 33 #[.slice A v.length c, .slice B a.length ca, .slice D b.length cb] w (Tells w (Ev.outs v a b)) := by
  have h1 := public_any c ca w h ha hl (by omega)
  have h2 := fun W (hW : Below w.heap.size w W) => public_any c cb W ((h.below hW).more hW.size) ((hb.below hW).more hW.size) hl2 (by omega)
  have h3 := fun (A1 A2 : Option Addr) c1 c2 W (r1 : Row W W.heap.size A1 (fcells avs (Ev.pub v a))) (r2 : Row W W.heap.size A2 (fcells avs (Ev.pub v b))) => atEqual_any c1 c2 W r1 r2 (Nat.le_trans (pub_len v a) hn) (Nat.le_trans (pub_len v b) hn2)
  unfold GotAtoms at h1 h2
  have hout : Ev.outs v a b = decide (Ev.pub v a = Ev.pub v b) := rfl
  rw [hout]
  generalize Ev.pub v a = pa at *
  generalize Ev.pub v b = pb at *
  generalize decide (pa = pb) = ans at *
  have H1 := Lib.hid h1
  have H2 := Lib.hid h2
  have H3 := Lib.hid h3
  clear h ha hb hl hl2 hn hn2 h1 h2 h3 hout
  go_enter Try.func33, Try.ntmps33
  go_wp2_with (fail)
  refine H1.out.mono ?_
  rintro e w1 ⟨A1, d1, rfl, hr1, hb1⟩
  have HB1 := Lib.hid hb1
  have HR1 := Lib.hid hr1
  clear hb1 hr1
  go_wp2_with (fail)
  refine (H2.out _ HB1.out).mono ?_
  rintro e w2 ⟨A2, d2, rfl, hr2, hb2⟩
  have HB2 := Lib.hid (HB1.out.trans (hb2.mono HB1.out.size))
  have HC := Lib.hid (H3.out A1 A2 d1 d2 w2 ((HR1.out.below hb2).more hb2.size) hr2)
  clear hb2 hr2
  go_wp2_with (fail)
  refine HC.out.mono ?_
  rintro e w3 ⟨rfl, hb3⟩
  have HB3 := Lib.hid (HB2.out.trans (hb3.mono HB2.out.size))
  clear hb3
  go_wp2
  go_ret
  exact ⟨rfl, HB3.out⟩
end Go.Proofs.Ytlddglhjpiahfaa

/- A range over a function that only reads, where a round may lay a variable and the body may return: what iterator and body promise each other, and the caller's law; slices.Backward at []api.Slot. -/
namespace Go.Proofs.Ytlddglhjpiahfaa
set_option maxRecDepth 100000
open Go.RowKit Go.Shelf
attribute [local go_sem] Oper.semAt_some
end Go.Proofs.Ytlddglhjpiahfaa

/- slices.Backward at []api.Slot: its iterator; package equiv's crop. -/
namespace Go.Proofs.Ytlddglhjpiahfaa
set_option maxRecDepth 100000
open Go.RowKit Go.Shelf
attribute [local go_sem] Oper.semAt_some
/-- A place of a row. -/
abbrev Pl (s : List St.Slot) := { i : Nat // i < s.length }
end Go.Proofs.Ytlddglhjpiahfaa

/- The walk of package equiv's crop. -/
namespace Go.Proofs.Ytlddglhjpiahfaa
set_option maxRecDepth 100000
open Go.RowKit Go.Shelf
attribute [local go_sem] Oper.semAt_some
end Go.Proofs.Ytlddglhjpiahfaa

/- The walk of package equiv's labelsOf (by gen_eqvj.py). -/
namespace Go.Proofs.Ytlddglhjpiahfaa
set_option maxRecDepth 100000
open Go.RowKit Go.Shelf Go.Sort
attribute [local go_sem] Oper.semAt_some
/-- No row is longer than 15. -/
def Fif (s : St.State) : Prop := s.code.length ≤ 15 ∧ s.mem.length ≤ 15 ∧ s.stack.length ≤ 15 ∧ s.out.length ≤ 15
end Go.Proofs.Ytlddglhjpiahfaa

/- Walks of package equiv's places and states. -/
namespace Go.Proofs.Ytlddglhjpiahfaa
set_option maxRecDepth 100000
open Go.RowKit Go.Shelf Go.Sort
attribute [local go_sem] Oper.semAt_some
/-- A region's operations, behind a name. -/
theorem quiet_hideE {P : Program} {C : World → Prop} {Q : Act → Prop} {l : List Oper} {a : Act} (h : ∀ ops, ops = l.toArray → wpQuiet P ops C Q l a) : wpQuiet P l.toArray C Q l a := h _ rfl
/-- All labels of a state are places of the view. -/
def LabsIn (n : Nat) (s : St.State) : Prop := ∀ l ∈ Ev.labsOf s, 0 ≤ l ∧ l < n
section
variable {n : Nat} {s : St.State} (h : LabsIn n s)
include h
end
end Go.Proofs.Ytlddglhjpiahfaa

/- law12's alive. -/
namespace Go.Proofs.Ytlddglhjpiahfaa
set_option maxRecDepth 100000
open Go.RowKit Go.Shelf Go.Sort
attribute [local go_sem] Oper.semAt_some
theorem e12_look0 : Ev.lookN bNames8 bUp8 0 [1, 1] = 0 := by decide +kernel
theorem e12_look1 : Ev.lookN bNames8 bUp8 1 [1, 1] = 0 := by decide +kernel
theorem e12_al0 : Ev.alike (Ev.seenA (Ev.viewL bUp8 0)) [⟨1, 1⟩] [⟨2, 1⟩] = true := by decide +kernel
theorem e12_al1 : Ev.alike (Ev.seenA (Ev.viewL bUp8 1)) [⟨1, 1⟩] [⟨2, 1⟩] = false := by decide +kernel
set_option maxRecDepth 100000 in
set_option maxHeartbeats 8000000 in
theorem alive12_any (w : World) : Calls Try.prog 17 #[] w (Tells w true) := by
  have hlat := alive8_lat w
  obtain ⟨Wa, hWa⟩ : ∃ Wa : World, ((w.alloc (.cells #[.string ⟨#[97]⟩, .string ⟨#[98]⟩] 9)).alloc (.cells #[.int .u32 3, .int .u32 2] 92)).alloc (.cells #[.slice (some ⟨w.heap.size, 0, none⟩) 2 2, .slice (some ⟨w.heap.size + 1, 0, none⟩) 2 2] 25) = Wa := ⟨_, rfl⟩
  have hBa : Below w.heap.size w Wa := by rw [← hWa]; exact (((Below.refl _ w).alloc (Nat.le_refl _) _).alloc (by simp) _).alloc (by simp; omega) _
  have hsa : Wa.heap.size = w.heap.size + 3 := by rw [← hWa]; simp
  have hla : Blk Wa (w.heap.size + 1 + 1) 25 #[.slice (some ⟨w.heap.size, 0, none⟩) 2 2, .slice (some ⟨w.heap.size + 1, 0, none⟩) 2 2] := by rw [← hWa]; exact Blk.new' _ _ _ _ (by simp)
  rw [hWa, ← hsa] at hlat
  have hat := fun (o : Int) (W : World) (hb : Below Wa.heap.size Wa W) =>
    Atoms_any (a := [⟨1, 1⟩]) (b := [⟨2, 1⟩]) (B := some ⟨W.heap.size, 0, none⟩) (D := some ⟨W.heap.size + 1, 0, none⟩) o 1 1 ((W.alloc (.cells #[.int .i64 1, .int .i64 1] 27)).alloc (.cells #[.int .i64 2, .int .i64 1] 27))
      ((hlat.below (hb.trans (((Below.refl _ W).alloc hb.size _).alloc (by have := hb.size; simp; omega) _))).more (by have := hb.size; simp; omega))
      (((Blk.new W 27 #[.int .i64 1, .int .i64 1]).alloc _).row.more (by simp))
      ((Blk.new' (W.alloc (.cells #[.int .i64 1, .int .i64 1] 27)) 27 #[.int .i64 2, .int .i64 1] (W.heap.size + 1) (by simp)).row.more (by simp))
      (by decide) (by decide)
  have h0 := hat 0
  have h1 := hat 1
  simp only [List.map_cons, List.map_nil, List.cons_append, List.nil_append, e12_look0, e12_look1, e12_al0, e12_al1] at h0 h1
  rw [show Ev.told 0 true = true from rfl] at h0
  rw [show Ev.told 0 false = false from rfl] at h1
  have H0 := Lib.hid h0
  have H1 := Lib.hid h1
  have HB := Lib.hid hBa
  have HL := Lib.hid hla
  have l0 : Wa.cell? ⟨w.heap.size + 1 + 1, 0, none⟩ = some (.slice (some ⟨w.heap.size, 0, none⟩) 2 2) := hla.cell 0
  have l1 : Wa.cell? ⟨w.heap.size + 1 + 1, 1, none⟩ = some (.slice (some ⟨w.heap.size + 1, 0, none⟩) 2 2) := hla.cell 1
  clear hlat hBa hsa hla hat h0 h1
  go_enter Try.func17, Try.ntmps17
  go_wp2_with (fail)
  refine (H0.out Wa (Below.refl _ _)).mono ?_
  rintro e w1 ⟨rfl, hb1⟩
  have hb1 := (((Below.refl _ Wa).alloc (Nat.le_refl _) (.cells #[.int .i64 1, .int .i64 1] 27)).alloc (by simp) (.cells #[.int .i64 2, .int .i64 1] 27)).trans (hb1.mono (by simp; omega))
  have hl1 := HL.out.below hb1 HL.out.lt
  have HB1 := Lib.hid hb1
  clear l0 l1
  have l0 : w1.cell? ⟨w.heap.size + 1 + 1, 0, none⟩ = some (.slice (some ⟨w.heap.size, 0, none⟩) 2 2) := hl1.cell 0
  have l1 : w1.cell? ⟨w.heap.size + 1 + 1, 1, none⟩ = some (.slice (some ⟨w.heap.size + 1, 0, none⟩) 2 2) := hl1.cell 1
  clear hb1 hl1
  go_wp2_with (fail)
  refine (H1.out w1 HB1.out).mono ?_
  rintro e w2 ⟨rfl, hb2⟩
  have hb2 := (((Below.refl _ w1).alloc (Nat.le_refl _) (.cells #[.int .i64 1, .int .i64 1] 27)).alloc (by simp) (.cells #[.int .i64 2, .int .i64 1] 27)).trans (hb2.mono (by simp; omega))
  have HB2 := Lib.hid (HB.out.trans ((HB1.out.trans (hb2.mono HB1.out.size)).mono HB.out.size))
  clear hb2 l0 l1
  go_wp2
  go_ret
  exact ⟨rfl, HB2.out⟩
end Go.Proofs.Ytlddglhjpiahfaa
