/- Labels of rows: package equiv's labels for the three kinds; slices.Concat at []int (by gen_eqvc.py). -/
import Derived.Test.YtlddglhjpiahfaaGEqvB
import Derived.Test.YtlddglhjpiahfaaGJudM
import Derived.Test.YtlddglhjpiahfaaGCodE
import Derived.Test.YtlddglhjpiahfaaGOrd
import Derived.Test.YtlddglhjpiahfaaGCodK
namespace Go.Proofs.Ytlddglhjpiahfaa
set_option maxRecDepth 100000
open Go.RowKit Go.Shelf Go.Sort
attribute [local go_sem] Oper.semAt_some
theorem run_append_noneE {P : Program} {w : World} {base : Nat} (t ty e : TypeId) (i : TypeInfo) (size c : Nat) (ht : P.underlying t = some (.slice e)) (hi : P.info? e = some i)
    (v : Value) (n : Nat) (xs : List Value) (hown : w.ownsRow base e size v n xs) : (Builtin.append_ #[t, t] ty #[v, .slice none 0 c]).run P w = .ok v w := by
  rcases hown.2 with ⟨rfl, rfl⟩ | ⟨g, cap, cur, rfl, _, _, hnc, _⟩
  · simp [Builtin.append_, run_underlying ht, sizeOf, typeInfo, hi, Builtin.lenOf, Builtin.firstCells]
  · simp [Builtin.append_, run_underlying ht, sizeOf, typeInfo, hi, Builtin.lenOf, Builtin.firstCells, hnc, storeCells]
theorem Row.cellE {w : World} {B : Nat} {ad : Addr} {xs : List Value} (h : Row w B (some ad) xs) {j : Nat} {u : Value} (hu : xs[j]? = some u) : w.cell? (ad.add j) = some u := by
  obtain ⟨ad', e, _, hc⟩ := h (by rintro rfl; simp at hu)
  injection e with e
  subst e
  exact hc j u hu
/-- append, of a row without a place and any room. -/
theorem append_runE {P : Program} {w : World} (base : Nat) (t ty e : TypeId) (i : TypeInfo) (z : Value) (size bytes : Nat) (ht : P.underlying t = some (.slice e)) (hi : P.info? e = some i) (hz : i.zero = some z)
    (hsize : i.size = size) (hby : i.bytes = bytes) (hzs : z.cells.size = size) (hsz : 0 < size) (v : Value) (n : Nat) (xs : List Value) (hown : w.ownsRow base e size v n xs)
    (A : Option Addr) (m c : Nat) (news : List Value) (hn : news.length = m * size) (hr : Row w w.heap.size A news) (h1 : ∀ u ∈ news, u.oneCell' = true)
    (h63 : n + m ≤ maxLen) (hbytes : (n + m) * bytes ≤ 140737488355328) (hbase : base ≤ w.heap.size) :
    ∃ v' w', (Builtin.append_ #[t, t] ty #[v, .slice A m c]).run P w = .ok v' w' ∧ w'.ownsRow base e size v' (n + m) (xs ++ news) ∧ Below base w w' ∧ ∀ (g : Nat) (t : TypeId) (cs : Array Value), some g ≠ v.ownBlock → Blk w g t cs → Blk w' g t cs := by
  cases A with
  | some ad =>
    obtain ⟨v', w', h1, h2, h3, _, h5⟩ := run_append_own_at (P := P) w base t ty e i z size bytes ht hi hz hsize hby hzs hsz v n xs hown ad m c news hn (fun j u hu => Row.cellE hr hu) h1 h63 hbytes hbase
    exact ⟨v', w', h1, h2, (Below.refl base w).grown h3 hbase (fun k he => (hown.lt k he).1), fun g t cs hg hb => (h3.block g hb.lt hg).trans hb⟩
  | none =>
    have hn0 : news = [] := by
      cases news with
      | nil => rfl
      | cons y r => obtain ⟨ad, e, _⟩ := hr (by simp); cases e
    subst hn0
    have hm : m = 0 := by
      rcases Nat.eq_zero_or_pos m with h | h
      · exact h
      · have := Nat.mul_pos h hsz; simp at hn; omega
    subst hm
    exact ⟨v, w, run_append_noneE (P := P) (w := w) t ty e i size c ht hi v n xs hown, by simpa using hown, Below.refl _ _, fun _ _ _ _ h => h⟩
theorem one_row (w : World) (x : Value) (t : TypeId) : Row (w.alloc (.cells #[x] t)) (w.alloc (.cells #[x] t)).heap.size (some ⟨w.heap.size, 0, none⟩) [x] :=
  (Blk.new w t [x].toArray).row.more (by simp)
/-- Numbers in a row of one's own. -/
def GotInts (w : World) (ls : List Int) (e : Ending) (w' : World) : Prop := ∃ A c, e = .returned (.slice A ls.length c) ∧ w'.ownsRow w.heap.size 3 1 (.slice A ls.length c) ls.length (ints ls) ∧ Below w.heap.size w w'
theorem own_start (w : World) (n : Nat) (hn : n ≤ 1000000) : (w.alloc (.cells (madeCells #[.int .i64 0] n) 3)).ownsRow w.heap.size 3 1 (.slice (some ⟨w.heap.size, 0, none⟩) 0 n) 0 [] :=
  ⟨by simp, .inr ⟨w.heap.size, n, _, rfl, Nat.le_refl _, World.alloc_heap_new w _, Nat.zero_le _, by unfold maxLen; omega, by simp [madeCells], by simp⟩⟩

/-! atoms -/
set_option maxHeartbeats 8000000 in
theorem labelsA_any {B : Option Addr} {a : List St.Atom} (ca : Nat) (w : World) (ha : Row w w.heap.size B (fcells avs a)) (hn : a.length ≤ 100000) :
    Calls Try.prog 32 #[.slice B a.length ca, howA] w (GotInts w (a.map (·.l))) := by
  obtain ⟨i0, hi, hz0, hz1, hz2⟩ := info_parts Try.infoInt
  have hen : ∀ args W, (callFunc 52 args).run Try.prog W = .ok (.enter 52 args) W := Try.call52
  have hlab := fun (x : St.Atom) W => labA_any x.v x.l W
  obtain ⟨n, hna⟩ : ∃ n, a.length = n := ⟨_, rfl⟩
  unfold GotInts
  rw [List.length_map, hna]
  have hn9 : n ≤ 100000 := by omega
  have hmk : ∀ W, (Instr.makeSlice 83 (.int .i64 0) (.int .i64 (n : Int))).run Try.prog W = .ok (.slice (some ⟨W.heap.size, 0, none⟩) 0 n) (W.alloc (.cells (madeCells #[.int .i64 0] n) 3)) := fun W => by
    have h := run_make (P := Try.prog) W 83 3 i0 (.int .i64 0) Try.underlying83 hi hz0 .i64 .i64 0 n (by omega) (by omega) (by rw [hz2]; omega) (by omega)
    simp only [Int.toNat_natCast, Int.toNat_zero, hz1, Nat.mul_one] at h
    exact h
  have hb0 := (Below.refl w.heap.size w).alloc (Nat.le_refl _) (.cells #[.func (.func 52) #[] #[], .func (.func 53) #[] #[]] 63)
  have hk0 := Blk.new w 63 #[.func (.func 52) #[] #[], .func (.func 53) #[] #[]]
  obtain ⟨W0, hW0⟩ : ∃ W0, w.alloc (.cells #[.func (.func 52) #[] #[], .func (.func 53) #[] #[]] 63) = W0 := ⟨_, rfl⟩
  have hs0 : W0.heap.size = w.heap.size + 1 := by rw [← hW0]; simp
  rw [hW0] at hb0 hk0
  have hb1 := hb0.alloc hb0.size (.cells (madeCells #[.int .i64 0] n) 3)
  have hk1 := hk0.alloc (.cells (madeCells #[.int .i64 0] n) 3)
  have ho1 := own_start W0 n (by omega)
  rw [hs0] at ho1
  have HK1 := Lib.hid hk1
  have HB1 := Lib.hid hb1
  have HO1 := Lib.hid ho1
  have HS0 := Lib.hid hs0
  have H := Lib.hid ha
  have HNA := Lib.hid hna
  have HLAB := Lib.hid hlab
  clear ha hna hb0 hk0 hb1 hk1 ho1 hs0 hlab hn
  unfold howA
  go_enter Try.func32, Try.ntmps32
  go_wp2
  go_loopw [5, 13] (fun v i wr => ∃ k : Nat, k ≤ n ∧ i = .int .i64 k ∧ Hid (wr.ownsRow (w.heap.size + 1) 3 1 v k (ints ((a.take k).map (·.l)))) ∧ Hid (Below w.heap.size w wr) ∧ Hid (Blk wr w.heap.size 63 #[.func (.func 52) #[] #[], .func (.func 53) #[] #[]])) (fun _ i _ => n - (intOf i).toNat)
  case atStart => exact ⟨0, Nat.zero_le _, rfl, Lib.hid (by rw [HS0.out]; exact HO1.out), HB1, HK1⟩
  case round =>
    obtain ⟨k, hk, rfl, HO, HB, HK⟩ := hrel
    clear HB1 HO1 HK1 hW0
    obtain ⟨An, cn, rfl⟩ := ownT_slice HO.out
    by_cases hlt : k < n
    · obtain ⟨ad, x, rfl, hxb, hx, x0, x1⟩ := arow_at (H.out.below HB.out) (show k < a.length by rw [HNA.out]; exact hlt)
      have hz := HB.out.size
      have hxb2 : (ad.add (k * 2)).block < wr.heap.size := by rw [add_block]; omega
      have hcall := HLAB.out x
      have hnx := congrArg (List.map (·.l)) (Ev.take_snoc hx)
      rw [List.map_append, List.map_cons, List.map_nil] at hnx
      have hba := HB.out.alloc hz (.cells #[.int .i64 x.v, .int .i64 x.l] 27)
      have hoa := HO.out.alloc (.cells #[.int .i64 x.v, .int .i64 x.l] 27)
      have hka := HK.out.alloc (.cells #[.int .i64 x.v, .int .i64 x.l] 27)
      have hxa := Blk.new wr 27 #[.int .i64 x.v, .int .i64 x.l]
      have hf : wr.cell? ⟨w.heap.size, 0, none⟩ = some (.func (.func 52) #[] #[]) := HK.out.cell 0
      have hlk := HK.out.lt
      have HCALL := Lib.hid hcall
      have HBA := Lib.hid hba
      have HOA := Lib.hid hoa
      have HKA := Lib.hid hka
      have HNX := Lib.hid hnx
      clear hx hcall hba hoa hka hxa hnx
      generalize x.v = xx0 at *
      generalize x.l = xx1 at *
      go_wp2_with (fail)
      refine (HCALL.out _).mono ?_
      rintro e w3 ⟨rfl, hb3⟩
      have hb4 := (HBA.out.trans (hb3.mono HBA.out.size))
      have ho4 := (ownT_below HOA.out hb3)
      have hk4 := HKA.out.below hb3 HKA.out.lt
      have hs4 := HKA.out.lt
      have hz4 := hb4.size
      obtain ⟨v', W5, hrun, hown5, hb5, hk5⟩ := append_runE (P := Try.prog) (w := w3.alloc (.cells #[.int .i64 xx1] 3)) (w.heap.size + 1) 83 83 3 i0 (.int .i64 0) 1 8 Try.underlying83 hi hz0 hz1 hz2 rfl (by decide) _ k _ (ho4.alloc _) (some ⟨w3.heap.size, 0, none⟩) 1 1 [.int .i64 xx1] rfl (one_row w3 _ _) (by intro u hu; simp at hu; rw [hu]; rfl) (by unfold maxLen; omega) (by omega) (by have := hk4.lt; simp; omega)
      have hk6 := hk5 _ _ _ (fun he => by have := (ho4.lt _ he.symm).1; omega) (hk4.alloc (.cells #[.int .i64 xx1] 3))
      have HRUN := Lib.hid hrun
      have HB6 := Lib.hid ((hb4.alloc hb4.size (.cells #[.int .i64 xx1] 3)).trans (hb5.mono (by omega)))
      have HK6 := Lib.hid hk6
      have HO6 : Hid (W5.ownsRow (w.heap.size + 1) 3 1 v' (k + 1) (ints ((a.take (k + 1)).map (·.l)))) := Lib.hid (by rw [HNX.out, ints_snoc]; exact hown5)
      clear hb3 hb4 ho4 hk4 hs4 hz4 hrun hown5 hb5 hk5 hk6 x0 x1 hf
      go_wp2_with (at_builtin; refine wpList_app_run rfl _ _ 83 83 rfl _ _ rfl rfl _ _ HRUN.out ?_)
      go_wp2
      go_roundw
      case rel => exact ⟨k + 1, by omega, by go_num, HO6, HB6, HK6⟩
      case measure => simp [intOf]; omega
    · obtain rfl : k = n := by omega
      have hall : a.take k = a := List.take_of_length_le (by rw [HNA.out]; exact Nat.le_refl _)
      have hres := HO.out
      rw [hall] at hres
      have HRES := Lib.hid (ownT_mono hres (Nat.le_succ _))
      clear hall hres
      go_wp2
      go_ret
      exact ⟨An, cn, rfl, HRES.out, HB.out⟩

/-! slots -/
set_option maxHeartbeats 8000000 in
theorem labelsS_any {B : Option Addr} {a : List St.Slot} (ca : Nat) (w : World) (ha : Row w w.heap.size B (fcells svs a)) (hn : a.length ≤ 100000) :
    Calls Try.prog 43 #[.slice B a.length ca, howS] w (GotInts w (a.map (·.l))) := by
  obtain ⟨i0, hi, hz0, hz1, hz2⟩ := info_parts Try.infoInt
  have hen : ∀ args W, (callFunc 59 args).run Try.prog W = .ok (.enter 59 args) W := Try.call59
  have hlab := fun (x : St.Slot) W => labS_any x.ret x.v x.l W
  obtain ⟨n, hna⟩ : ∃ n, a.length = n := ⟨_, rfl⟩
  unfold GotInts
  rw [List.length_map, hna]
  have hn9 : n ≤ 100000 := by omega
  have hmk : ∀ W, (Instr.makeSlice 83 (.int .i64 0) (.int .i64 (n : Int))).run Try.prog W = .ok (.slice (some ⟨W.heap.size, 0, none⟩) 0 n) (W.alloc (.cells (madeCells #[.int .i64 0] n) 3)) := fun W => by
    have h := run_make (P := Try.prog) W 83 3 i0 (.int .i64 0) Try.underlying83 hi hz0 .i64 .i64 0 n (by omega) (by omega) (by rw [hz2]; omega) (by omega)
    simp only [Int.toNat_natCast, Int.toNat_zero, hz1, Nat.mul_one] at h
    exact h
  have hb0 := (Below.refl w.heap.size w).alloc (Nat.le_refl _) (.cells #[.func (.func 59) #[] #[], .func (.func 60) #[] #[]] 77)
  have hk0 := Blk.new w 77 #[.func (.func 59) #[] #[], .func (.func 60) #[] #[]]
  obtain ⟨W0, hW0⟩ : ∃ W0, w.alloc (.cells #[.func (.func 59) #[] #[], .func (.func 60) #[] #[]] 77) = W0 := ⟨_, rfl⟩
  have hs0 : W0.heap.size = w.heap.size + 1 := by rw [← hW0]; simp
  rw [hW0] at hb0 hk0
  have hb1 := hb0.alloc hb0.size (.cells (madeCells #[.int .i64 0] n) 3)
  have hk1 := hk0.alloc (.cells (madeCells #[.int .i64 0] n) 3)
  have ho1 := own_start W0 n (by omega)
  rw [hs0] at ho1
  have HK1 := Lib.hid hk1
  have HB1 := Lib.hid hb1
  have HO1 := Lib.hid ho1
  have HS0 := Lib.hid hs0
  have H := Lib.hid ha
  have HNA := Lib.hid hna
  have HLAB := Lib.hid hlab
  clear ha hna hb0 hk0 hb1 hk1 ho1 hs0 hlab hn
  unfold howS
  go_enter Try.func43, Try.ntmps43
  go_wp2
  go_loopw [5, 13] (fun v i wr => ∃ k : Nat, k ≤ n ∧ i = .int .i64 k ∧ Hid (wr.ownsRow (w.heap.size + 1) 3 1 v k (ints ((a.take k).map (·.l)))) ∧ Hid (Below w.heap.size w wr) ∧ Hid (Blk wr w.heap.size 77 #[.func (.func 59) #[] #[], .func (.func 60) #[] #[]])) (fun _ i _ => n - (intOf i).toNat)
  case atStart => exact ⟨0, Nat.zero_le _, rfl, Lib.hid (by rw [HS0.out]; exact HO1.out), HB1, HK1⟩
  case round =>
    obtain ⟨k, hk, rfl, HO, HB, HK⟩ := hrel
    clear HB1 HO1 HK1 hW0
    obtain ⟨An, cn, rfl⟩ := ownT_slice HO.out
    by_cases hlt : k < n
    · obtain ⟨ad, x, rfl, hxb, hx, x0, x1, x2⟩ := srow_at (H.out.below HB.out) (show k < a.length by rw [HNA.out]; exact hlt)
      have hz := HB.out.size
      have hxb2 : (ad.add (k * 3)).block < wr.heap.size := by rw [add_block]; omega
      have hcall := HLAB.out x
      have hnx := congrArg (List.map (·.l)) (Ev.take_snoc hx)
      rw [List.map_append, List.map_cons, List.map_nil] at hnx
      have hba := HB.out.alloc hz (.cells #[.bool x.ret, .int .i64 x.v, .int .i64 x.l] 53)
      have hoa := HO.out.alloc (.cells #[.bool x.ret, .int .i64 x.v, .int .i64 x.l] 53)
      have hka := HK.out.alloc (.cells #[.bool x.ret, .int .i64 x.v, .int .i64 x.l] 53)
      have hxa := Blk.new wr 53 #[.bool x.ret, .int .i64 x.v, .int .i64 x.l]
      have hf : wr.cell? ⟨w.heap.size, 0, none⟩ = some (.func (.func 59) #[] #[]) := HK.out.cell 0
      have hlk := HK.out.lt
      have HCALL := Lib.hid hcall
      have HBA := Lib.hid hba
      have HOA := Lib.hid hoa
      have HKA := Lib.hid hka
      have HNX := Lib.hid hnx
      clear hx hcall hba hoa hka hxa hnx
      generalize x.ret = xx0 at *
      generalize x.v = xx1 at *
      generalize x.l = xx2 at *
      go_wp2_with (fail)
      refine (HCALL.out _).mono ?_
      rintro e w3 ⟨rfl, hb3⟩
      have hb4 := (HBA.out.trans (hb3.mono HBA.out.size))
      have ho4 := (ownT_below HOA.out hb3)
      have hk4 := HKA.out.below hb3 HKA.out.lt
      have hs4 := HKA.out.lt
      have hz4 := hb4.size
      obtain ⟨v', W5, hrun, hown5, hb5, hk5⟩ := append_runE (P := Try.prog) (w := w3.alloc (.cells #[.int .i64 xx2] 3)) (w.heap.size + 1) 83 83 3 i0 (.int .i64 0) 1 8 Try.underlying83 hi hz0 hz1 hz2 rfl (by decide) _ k _ (ho4.alloc _) (some ⟨w3.heap.size, 0, none⟩) 1 1 [.int .i64 xx2] rfl (one_row w3 _ _) (by intro u hu; simp at hu; rw [hu]; rfl) (by unfold maxLen; omega) (by omega) (by have := hk4.lt; simp; omega)
      have hk6 := hk5 _ _ _ (fun he => by have := (ho4.lt _ he.symm).1; omega) (hk4.alloc (.cells #[.int .i64 xx2] 3))
      have HRUN := Lib.hid hrun
      have HB6 := Lib.hid ((hb4.alloc hb4.size (.cells #[.int .i64 xx2] 3)).trans (hb5.mono (by omega)))
      have HK6 := Lib.hid hk6
      have HO6 : Hid (W5.ownsRow (w.heap.size + 1) 3 1 v' (k + 1) (ints ((a.take (k + 1)).map (·.l)))) := Lib.hid (by rw [HNX.out, ints_snoc]; exact hown5)
      clear hb3 hb4 ho4 hk4 hs4 hz4 hrun hown5 hb5 hk5 hk6 x0 x1 x2 hf
      go_wp2_with (at_builtin; refine wpList_app_run rfl _ _ 83 83 rfl _ _ rfl rfl _ _ HRUN.out ?_)
      go_wp2
      go_roundw
      case rel => exact ⟨k + 1, by omega, by go_num, HO6, HB6, HK6⟩
      case measure => simp [intOf]; omega
    · obtain rfl : k = n := by omega
      have hall : a.take k = a := List.take_of_length_le (by rw [HNA.out]; exact Nat.le_refl _)
      have hres := HO.out
      rw [hall] at hres
      have HRES := Lib.hid (ownT_mono hres (Nat.le_succ _))
      clear hall hres
      go_wp2
      go_ret
      exact ⟨An, cn, rfl, HRES.out, HB.out⟩

/-! instructions -/
set_option maxHeartbeats 8000000 in
theorem labelsI_any {B : Option Addr} {a : List Cd.In} (ca : Nat) (w : World) (ha : Row w w.heap.size B (icells a)) (hn : a.length ≤ 100000) :
    Calls Try.prog 54 #[.slice B a.length ca, howI] w (GotInts w (a.map (·.l))) := by
  obtain ⟨i0, hi, hz0, hz1, hz2⟩ := info_parts Try.infoInt
  have hen : ∀ args W, (callFunc 56 args).run Try.prog W = .ok (.enter 56 args) W := Try.call56
  have hlab := fun (x : Cd.In) W => labI_any x.op x.n x.l W
  obtain ⟨n, hna⟩ : ∃ n, a.length = n := ⟨_, rfl⟩
  unfold GotInts
  rw [List.length_map, hna]
  have hn9 : n ≤ 100000 := by omega
  have hmk : ∀ W, (Instr.makeSlice 83 (.int .i64 0) (.int .i64 (n : Int))).run Try.prog W = .ok (.slice (some ⟨W.heap.size, 0, none⟩) 0 n) (W.alloc (.cells (madeCells #[.int .i64 0] n) 3)) := fun W => by
    have h := run_make (P := Try.prog) W 83 3 i0 (.int .i64 0) Try.underlying83 hi hz0 .i64 .i64 0 n (by omega) (by omega) (by rw [hz2]; omega) (by omega)
    simp only [Int.toNat_natCast, Int.toNat_zero, hz1, Nat.mul_one] at h
    exact h
  have hb0 := (Below.refl w.heap.size w).alloc (Nat.le_refl _) (.cells #[.func (.func 56) #[] #[], .func (.func 57) #[] #[]] 71)
  have hk0 := Blk.new w 71 #[.func (.func 56) #[] #[], .func (.func 57) #[] #[]]
  obtain ⟨W0, hW0⟩ : ∃ W0, w.alloc (.cells #[.func (.func 56) #[] #[], .func (.func 57) #[] #[]] 71) = W0 := ⟨_, rfl⟩
  have hs0 : W0.heap.size = w.heap.size + 1 := by rw [← hW0]; simp
  rw [hW0] at hb0 hk0
  have hb1 := hb0.alloc hb0.size (.cells (madeCells #[.int .i64 0] n) 3)
  have hk1 := hk0.alloc (.cells (madeCells #[.int .i64 0] n) 3)
  have ho1 := own_start W0 n (by omega)
  rw [hs0] at ho1
  have HK1 := Lib.hid hk1
  have HB1 := Lib.hid hb1
  have HO1 := Lib.hid ho1
  have HS0 := Lib.hid hs0
  have H := Lib.hid ha
  have HNA := Lib.hid hna
  have HLAB := Lib.hid hlab
  clear ha hna hb0 hk0 hb1 hk1 ho1 hs0 hlab hn
  unfold howI
  go_enter Try.func54, Try.ntmps54
  go_wp2
  go_loopw [5, 13] (fun v i wr => ∃ k : Nat, k ≤ n ∧ i = .int .i64 k ∧ Hid (wr.ownsRow (w.heap.size + 1) 3 1 v k (ints ((a.take k).map (·.l)))) ∧ Hid (Below w.heap.size w wr) ∧ Hid (Blk wr w.heap.size 71 #[.func (.func 56) #[] #[], .func (.func 57) #[] #[]])) (fun _ i _ => n - (intOf i).toNat)
  case atStart => exact ⟨0, Nat.zero_le _, rfl, Lib.hid (by rw [HS0.out]; exact HO1.out), HB1, HK1⟩
  case round =>
    obtain ⟨k, hk, rfl, HO, HB, HK⟩ := hrel
    clear HB1 HO1 HK1 hW0
    obtain ⟨An, cn, rfl⟩ := ownT_slice HO.out
    by_cases hlt : k < n
    · obtain ⟨ad, x, rfl, hxb, hx, x0, x1, x2⟩ := inrow_at (H.out.below HB.out) (show k < a.length by rw [HNA.out]; exact hlt)
      have hz := HB.out.size
      have hxb2 : (ad.add (k * 3)).block < wr.heap.size := by rw [add_block]; omega
      have hcall := HLAB.out x
      have hnx := congrArg (List.map (·.l)) (Ev.take_snoc hx)
      rw [List.map_append, List.map_cons, List.map_nil] at hnx
      have hba := HB.out.alloc hz (.cells #[.int .i64 x.op, .int .i64 x.n, .int .i64 x.l] 67)
      have hoa := HO.out.alloc (.cells #[.int .i64 x.op, .int .i64 x.n, .int .i64 x.l] 67)
      have hka := HK.out.alloc (.cells #[.int .i64 x.op, .int .i64 x.n, .int .i64 x.l] 67)
      have hxa := Blk.new wr 67 #[.int .i64 x.op, .int .i64 x.n, .int .i64 x.l]
      have hf : wr.cell? ⟨w.heap.size, 0, none⟩ = some (.func (.func 56) #[] #[]) := HK.out.cell 0
      have hlk := HK.out.lt
      have HCALL := Lib.hid hcall
      have HBA := Lib.hid hba
      have HOA := Lib.hid hoa
      have HKA := Lib.hid hka
      have HNX := Lib.hid hnx
      clear hx hcall hba hoa hka hxa hnx
      generalize x.op = xx0 at *
      generalize x.n = xx1 at *
      generalize x.l = xx2 at *
      go_wp2_with (fail)
      refine (HCALL.out _).mono ?_
      rintro e w3 ⟨rfl, hb3⟩
      have hb4 := (HBA.out.trans (hb3.mono HBA.out.size))
      have ho4 := (ownT_below HOA.out hb3)
      have hk4 := HKA.out.below hb3 HKA.out.lt
      have hs4 := HKA.out.lt
      have hz4 := hb4.size
      obtain ⟨v', W5, hrun, hown5, hb5, hk5⟩ := append_runE (P := Try.prog) (w := w3.alloc (.cells #[.int .i64 xx2] 3)) (w.heap.size + 1) 83 83 3 i0 (.int .i64 0) 1 8 Try.underlying83 hi hz0 hz1 hz2 rfl (by decide) _ k _ (ho4.alloc _) (some ⟨w3.heap.size, 0, none⟩) 1 1 [.int .i64 xx2] rfl (one_row w3 _ _) (by intro u hu; simp at hu; rw [hu]; rfl) (by unfold maxLen; omega) (by omega) (by have := hk4.lt; simp; omega)
      have hk6 := hk5 _ _ _ (fun he => by have := (ho4.lt _ he.symm).1; omega) (hk4.alloc (.cells #[.int .i64 xx2] 3))
      have HRUN := Lib.hid hrun
      have HB6 := Lib.hid ((hb4.alloc hb4.size (.cells #[.int .i64 xx2] 3)).trans (hb5.mono (by omega)))
      have HK6 := Lib.hid hk6
      have HO6 : Hid (W5.ownsRow (w.heap.size + 1) 3 1 v' (k + 1) (ints ((a.take (k + 1)).map (·.l)))) := Lib.hid (by rw [HNX.out, ints_snoc]; exact hown5)
      clear hb3 hb4 ho4 hk4 hs4 hz4 hrun hown5 hb5 hk5 hk6 x0 x1 x2 hf
      go_wp2_with (at_builtin; refine wpList_app_run rfl _ _ 83 83 rfl _ _ rfl rfl _ _ HRUN.out ?_)
      go_wp2
      go_roundw
      case rel => exact ⟨k + 1, by omega, by go_num, HO6, HB6, HK6⟩
      case measure => simp [intOf]; omega
    · obtain rfl : k = n := by omega
      have hall : a.take k = a := List.take_of_length_le (by rw [HNA.out]; exact Nat.le_refl _)
      have hres := HO.out
      rw [hall] at hres
      have HRES := Lib.hid (ownT_mono hres (Nat.le_succ _))
      clear hall hres
      go_wp2
      go_ret
      exact ⟨An, cn, rfl, HRES.out, HB.out⟩

/-! slices.Concat -/
/-- Rows of numbers, each in a cell of a row at g. -/
def IntsAt (w : World) (g : Nat) (LL : List (List Int)) : Prop := ∀ k l, LL[k]? = some l → ∃ A c, w.cell? ⟨g, k, none⟩ = some (.slice A l.length c) ∧ Row w w.heap.size A (ints l)
theorem IntsAt.below {w w' : World} {g : Nat} {LL : List (List Int)} (h : IntsAt w g LL) (hb : Below w.heap.size w w') : IntsAt w' g LL := fun k l hl => by
  obtain ⟨A, c, h1, h2⟩ := h k l hl
  exact ⟨A, c, (hb.cell (p := ⟨g, k, none⟩) (block_lt_of_cell h1)).trans h1, (h2.below hb).more hb.size⟩
def flatN (LL : List (List Int)) (k : Nat) : List Int := (LL.take k).flatten
theorem flatN_succ {LL : List (List Int)} {k : Nat} {l : List Int} (h : LL[k]? = some l) : flatN LL (k + 1) = flatN LL k ++ l := by
  unfold flatN
  rw [Ev.take_snoc h, List.flatten_append]
  simp
theorem flatN_le (LL : List (List Int)) (k : Nat) : (flatN LL k).length ≤ LL.flatten.length := by
  unfold flatN
  rw [← List.take_append_drop k LL, List.flatten_append, List.length_append]
  rw [List.take_append_drop]
  omega
set_option maxHeartbeats 8000000 in
theorem concatE_any {LL : List (List Int)} (g c : Nat) (w : World) (h : IntsAt w g LL) (hpos : 0 < LL.flatten.length) (hle : LL.flatten.length ≤ 1000) (hn : LL.length ≤ 100) :
    Calls Try.prog 69 #[.slice (some ⟨g, 0, none⟩) LL.length c] w (GotInts w LL.flatten) := by
  obtain ⟨i0, hi, hz0, hz1, hz2⟩ := info_parts Try.infoInt
  obtain ⟨n, hnl⟩ : ∃ n, LL.length = n := ⟨_, rfl⟩
  obtain ⟨M, hM⟩ : ∃ M, LL.flatten.length = M := ⟨_, rfl⟩
  unfold GotInts
  have hfl : flatN LL n = LL.flatten := by unfold flatN; rw [List.take_of_length_le (by omega)]
  have hle2 := flatN_le LL
  rw [hM] at hpos hle hle2 ⊢
  rw [hnl] at hn ⊢
  have hgrow := fun W => igrow_any M W hpos hle
  have HN := Lib.hid hnl
  have HM := Lib.hid hM
  have HFL := Lib.hid hfl
  have HLE := Lib.hid hle2
  have HG := Lib.hid hgrow
  have H := Lib.hid h
  clear h hnl hM hfl hle2 hgrow
  go_enter Try.func69, Try.ntmps69
  go_wp2
  go_loopw [3, 11] (fun a i wr => ∃ (k : Nat), k ≤ n ∧ i = .int .i64 k ∧ a = .int .i64 ((flatN LL k).length : Int) ∧ wr = w) (fun _ i _ => n - (intOf i).toNat)
  case atStart => exact ⟨0, Nat.zero_le _, rfl, by simp [flatN], rfl⟩
  case round =>
    obtain ⟨k, hk, rfl, rfl, hwr⟩ := hrel
    obtain rfl := hwr.symm
    by_cases hlt : k < n
    · obtain ⟨l, hl⟩ : ∃ l, LL[k]? = some l := ⟨_, List.getElem?_eq_getElem (show k < LL.length by rw [HN.out]; exact hlt)⟩
      obtain ⟨A, cl, hc, hr⟩ := H.out k l hl
      have hgb : g < w.heap.size := block_lt_of_cell hc
      have hnx := flatN_succ hl
      have h1 := HLE.out k
      have h2 := HLE.out (k + 1)
      rw [hnx, List.length_append] at h2
      have HNX := Lib.hid (show (flatN LL (k + 1)).length = (flatN LL k).length + l.length by rw [hnx, List.length_append])
      clear hnx hl hr
      generalize (flatN LL k).length = m at *
      generalize l.length = p at *
      have hlt0 : ((m : Int) + (p : Int) < 0) = False := eq_false (by omega)
      go_wp2
      go_roundw
      case rel => exact ⟨k + 1, by omega, by go_num, by rw [HNX.out]; simp, trivial⟩
      case measure => simp [intOf]; omega
    · obtain rfl : k = n := by omega
      rw [HFL.out, HM.out]
      go_wp2_with (fail)
      refine (HG.out w).mono ?_
      rintro e w1 ⟨G, rfl, hGn, hown, hbw⟩
      have HB1 := Lib.hid hbw
      have HO1 : Hid (w1.ownsRow w.heap.size 3 1 (.slice (some ⟨w.heap.size, 0, none⟩) 0 G) (flatN LL 0).length (ints (flatN LL 0))) := Lib.hid hown
      clear hown hbw HG
      go_wp2
      go_loopw [6, 27] (fun v i wr => ∃ (j : Nat), j ≤ k ∧ i = .int .i64 j ∧ Hid (wr.ownsRow w.heap.size 3 1 v (flatN LL j).length (ints (flatN LL j))) ∧ Hid (Below w.heap.size w wr)) (fun _ i _ => k - (intOf i).toNat)
      case atStart => exact ⟨0, Nat.zero_le _, rfl, HO1, HB1⟩
      case round =>
        clear HB1 HO1
        obtain ⟨j, hj, rfl, HO, HB⟩ := hrel
        obtain ⟨An, cn, rfl⟩ := ownT_slice HO.out
        by_cases hlt2 : j < k
        · obtain ⟨l, hl⟩ : ∃ l, LL[j]? = some l := ⟨_, List.getElem?_eq_getElem (show j < LL.length by rw [HN.out]; exact hlt2)⟩
          obtain ⟨A, cl, hc0, hr⟩ := H.out j l hl
          have hgb : g < w.heap.size := block_lt_of_cell hc0
          have hc := (HB.out.cell (p := ⟨g, j, none⟩) hgb).trans hc0
          have hr2 := (hr.below HB.out).more HB.out.size
          have hnx := flatN_succ hl
          have h2 := HLE.out (j + 1)
          rw [hnx, List.length_append] at h2
          have hgb2 : g < wr.heap.size := Nat.lt_of_lt_of_le hgb HB.out.size
          obtain ⟨v', W5, hrun, hown5, hb5, -⟩ := append_runE (P := Try.prog) (w := wr) w.heap.size 83 83 3 i0 (.int .i64 0) 1 8 Try.underlying83 hi hz0 hz1 hz2 rfl (by decide) _ _ _ HO.out A l.length cl (ints l) (by rw [ints_len, Nat.mul_one]) hr2 (by intro u hu; obtain ⟨x, _, rfl⟩ := List.mem_map.1 hu; rfl) (by unfold maxLen; omega) (by omega) HB.out.size
          have HRUN := Lib.hid hrun
          have HB6 := Lib.hid (HB.out.trans hb5)
          have HO6 : Hid (W5.ownsRow w.heap.size 3 1 v' (flatN LL (j + 1)).length (ints (flatN LL (j + 1)))) := Lib.hid (by rw [hnx, List.length_append, ints_app]; exact hown5)
          clear hc0 hr hr2 hnx h2 hrun hown5 hb5 hl
          generalize (flatN LL j).length = m at *
          generalize l.length = p at *
          go_wp2_with (at_builtin; refine wpList_app_run rfl _ _ 83 83 rfl _ _ rfl rfl _ _ HRUN.out ?_)
          go_wp2
          go_roundw
          case rel => exact ⟨j + 1, by omega, by go_num, HO6, HB6⟩
          case measure => simp [intOf]; omega
        · obtain rfl : j = k := by omega
          have hres := HO.out
          rw [HFL.out] at hres
          have HRES := Lib.hid hres
          have hl9 : LL.flatten.length = M := HM.out
          rw [HFL.out, hl9]
          clear hres hl9
          go_wp2
          go_ret
          exact ⟨An, cn, rfl, by have := HRES.out; rw [HM.out] at this; exact this, HB.out⟩
end Go.Proofs.Ytlddglhjpiahfaa

/- The walk of package equiv's look: why labels can't be looked at, or which are seen. -/
namespace Go.Proofs.Ytlddglhjpiahfaa
set_option maxRecDepth 100000
open Go.RowKit Go.Shelf Go.Sort
attribute [local go_sem] Oper.semAt_some
theorem Try.infoBoolE : (Try.prog.info? 4).map (fun i => (i.zero, i.size, i.bytes)) = some (some (.bool false), 1, 1) := by kernel_rfl
def viewTo (up : List Nat) (o : Int) (k : Nat) : List Bool := (Ev.viewL up o).take k ++ List.replicate (up.length - k) false
theorem viewTo_zero (up : List Nat) (o : Int) : viewTo up o 0 = List.replicate up.length false := by simp [viewTo]
theorem viewTo_all (up : List Nat) (o : Int) : viewTo up o up.length = Ev.viewL up o := by
  unfold viewTo
  rw [List.take_of_length_le (by rw [Ev.viewL_len]; exact Nat.le_refl _), Nat.sub_self]
  simp
theorem viewTo_set {up : List Nat} {o : Int} {k : Nat} (hk : k < up.length) : (viewTo up o k).set k (Lat.fl up k o.toNat) = viewTo up o (k + 1) := by
  have hl := Ev.viewL_len up o
  have hx : (Ev.viewL up o)[k]? = some (Lat.fl up k o.toNat) := by
    unfold Ev.viewL
    rw [List.getElem?_map, List.getElem?_range hk]
    rfl
  unfold viewTo
  rw [Ev.take_snoc hx, List.append_assoc, List.set_append_right _ _ (by rw [List.length_take]; omega), show k - ((Ev.viewL up o).take k).length = 0 by rw [List.length_take]; omega, show up.length - k = (up.length - (k + 1)) + 1 by omega, List.replicate_succ]
  rfl
theorem viewTo_len {up : List Nat} {o : Int} {k : Nat} (hk : k ≤ up.length) : (viewTo up o k).length = up.length := by
  have hl := Ev.viewL_len up o
  unfold viewTo
  rw [List.length_append, List.length_take, List.length_replicate]
  omega
theorem vbs_set (v : List Bool) (k : Nat) (x : Bool) : ((vbs v).toArray).setIfInBounds k (.bool x) = (vbs (v.set k x)).toArray := by
  unfold vbs
  simp [List.map_set]
theorem labN_okE {names : List ByteArray} {up : List Nat} {a b : Nat} (hz : checkN names up = 0) (ha : a < up.length) (hb : b < up.length) : labN names up a b = 0 := by
  unfold labN isLab
  rw [if_pos hz, if_pos (by simp; omega)]
theorem flowsR_okE {names : List ByteArray} {up : List Nat} {a b : Nat} (hz : checkN names up = 0) (ha : a < up.length) (hb : b < up.length) : flowsR names up a b = Lat.fl up a b := by
  unfold flowsR
  rw [if_pos (labN_okE hz ha hb)]
  rfl
/-- What look tells. -/
def LookedR (res : Nat) (up : List Nat) (o : Int) (w : World) (e : Ending) (w' : World) : Prop :=
  ∃ A n c, e = .returned (.tuple #[.slice A n c, .int .i64 (res : Nat)]) ∧ (res = 0 → n = up.length ∧ Row w' w'.heap.size A (vbs (Ev.viewL up o))) ∧ Below w.heap.size w w'
set_option maxHeartbeats 8000000 in
theorem look_any {v : Value} {names : List ByteArray} {up : List Nat} {LL : List (List Int)} (o : Int) (g cl : Nat) (w : World) (h : IsLat w w.heap.size v names up) (hg : IntsAt w g LL) (hln : LL.length ≤ 1000) (hll : ∀ l ∈ LL, l.length ≤ 1000000) :
    Calls Try.prog 31 #[v, .int .i64 o, .slice (some ⟨g, 0, none⟩) LL.length cl] w (LookedR (Ev.lookN names up o LL.flatten) up o w) := by
  obtain ⟨i0, hi, hz0, hz1, hz2⟩ := info_parts Try.infoBoolE
  have hfl := fun (a b : Int) W (hb : Below w.heap.size w W) => Flows_any a b W ((h.below hb).more hb.size)
  obtain ⟨⟨A, A', c, c', rfl, hN, hU⟩, hshort, ⟨hf1, hf2⟩, -⟩ := h
  obtain ⟨n, hn⟩ : ∃ n, labN names up o o = n := ⟨_, rfl⟩
  obtain ⟨m, hm⟩ : ∃ m, LL.length = m := ⟨_, rfl⟩
  rw [hm]
  have hb0 := (Below.refl w.heap.size w).alloc (Nat.le_refl _) (.cells #[.slice A names.length c, .slice A' up.length c'] 25)
  have hk0 := Blk.new w 25 #[.slice A names.length c, .slice A' up.length c']
  have h1 := hfl o o _ hb0
  rw [hn] at h1
  have H1 := Lib.hid h1
  have HF := Lib.hid hfl
  have HG := Lib.hid hg
  have HB0 := Lib.hid hb0
  have HK0 := Lib.hid hk0
  have HN := Lib.hid hn
  have HM := Lib.hid hm
  have HLL := Lib.hid hll
  have hm9 : m ≤ 1000 := by omega
  clear hN hU hn hm h1 hfl hg hb0 hk0 hll hln hshort
  obtain ⟨res, hres⟩ : ∃ res, Ev.lookN names up o LL.flatten = res := ⟨_, rfl⟩
  rw [hres]
  have HRES := Lib.hid hres
  clear hres
  by_cases hz : n = 0
  · subst hz
    obtain ⟨hz1', ⟨o, rfl, ho⟩, -⟩ := labN_zero HN.out
    obtain ⟨l1, l2⟩ := len_of_checkN hz1'
    have HC := Lib.hid hz1'
    obtain ⟨nu, hnu⟩ : ∃ nu, up.length = nu := ⟨_, rfl⟩
    have HNU := Lib.hid hnu
    have hmk := fun W => run_make_n (P := Try.prog) 80 4 i0 (.bool false) Try.underlying80 hi hz0 hz1 rfl nu (by rw [hz2]; omega) (by omega) W
    rw [hnu] at l1 l2 ho H1 HB0 HK0 HF hf2
    rw [hnu]
    clear hz1' hnu hi hz0 hz1 hz2
    go_enter Try.func31, Try.ntmps31
    go_wp2_with (fail)
    refine H1.out.mono ?_
    rintro e w1 ⟨rfl, hb1⟩
    have hk1 := HK0.out.below hb1 HK0.out.lt
    have hB1 := HB0.out.trans (hb1.mono HB0.out.size)
    have hc1 : w1.cell? ⟨w.heap.size, 1, none⟩ = some (.slice A' nu c') := hk1.cell 1
    have hlt1 := hk1.lt
    have hB2 := hB1.alloc hB1.size (.cells (List.replicate nu (.bool false)).toArray 4)
    have hk2 := hk1.alloc (.cells (List.replicate nu (.bool false)).toArray 4)
    have hv2 : Blk (w1.alloc (.cells (List.replicate nu (.bool false)).toArray 4)) w1.heap.size 4 (vbs (viewTo up o 0)).toArray := by
      rw [viewTo_zero, HNU.out, show vbs (List.replicate nu false) = List.replicate nu (.bool false) by simp [vbs]]
      exact Blk.new _ _ _
    have HB2 := Lib.hid hB2
    have HK2 := Lib.hid hk2
    have HV2 := Lib.hid hv2
    have hws : w.heap.size ≤ w1.heap.size := hB1.size
    clear hb1 hk1 hB1 hB2 hk2 hv2 H1
    go_wp2
    go_loopw [32] (fun i wr => ∃ k : Nat, k ≤ nu ∧ i = .int .i64 k ∧ Hid (Blk wr w1.heap.size 4 (vbs (viewTo up o k)).toArray) ∧ Hid (Blk wr w.heap.size 25 #[.slice A names.length c, .slice A' nu c']) ∧ Hid (Below w.heap.size w wr)) (fun i _ => nu - (intOf i).toNat)
    case atStart => exact ⟨0, Nat.zero_le _, rfl, HV2, HK2, HB2⟩
    case round =>
      clear HV2 HK2 HB2 hc1
      obtain ⟨k, hk, rfl, HV, HK, HB⟩ := hrel
      have l0 : wr.cell? ⟨w.heap.size, 0, none⟩ = some (.slice A names.length c) := HK.out.cell 0
      have l1 : wr.cell? ⟨w.heap.size, 1, none⟩ = some (.slice A' nu c') := HK.out.cell 1
      by_cases hlt : k < nu
      · have hcall := HF.out (k : Int) (o : Int) wr HB.out
        rw [flowsR_okE HC.out (by rw [HNU.out]; exact hlt) (by rw [HNU.out]; exact ho), labN_okE HC.out (by rw [HNU.out]; exact hlt) (by rw [HNU.out]; exact ho)] at hcall
        have HCALL := Lib.hid hcall
        have hset := viewTo_set (up := up) (o := (o : Int)) (k := k) (by rw [HNU.out]; exact hlt)
        rw [Int.toNat_natCast] at hset
        have HSET := Lib.hid hset
        have hlen := viewTo_len (up := up) (o := (o : Int)) (k := k) (by rw [HNU.out]; exact hk)
        rw [HNU.out] at hlen
        clear hcall hset
        generalize Lat.fl up k o = fb at *
        go_wp2_with (fail)
        refine HCALL.out.mono ?_
        rintro e w3 ⟨rfl, hb3⟩
        have hv3 := HV.out.below hb3 HV.out.lt
        have hk3 := HK.out.below hb3 HK.out.lt
        have hB3 := HB.out.trans (hb3.mono HB.out.size)
        obtain ⟨old, hcv⟩ : ∃ old, w3.cell? ⟨w1.heap.size, k, none⟩ = some (.bool old) := ⟨(viewTo up o k)[k]'(by rw [hlen]; exact hlt), by rw [hv3.cell]; simp [vbs, hlen, hlt]⟩
        have hfv : w3.frozen? ⟨w1.heap.size, k, none⟩ = false := hv3.frozen k
        have hv4 := hv3.set_ k (.bool fb)
        rw [vbs_set, HSET.out] at hv4
        have hk4 := hk3.other (p := ⟨w1.heap.size, k, none⟩) (by show w1.heap.size ≠ w.heap.size; omega) (.bool fb)
        have hB4 := hB3.setCell (p := ⟨w1.heap.size, k, none⟩) hws (.bool fb)
        have HV4 := Lib.hid hv4
        have HK4 := Lib.hid hk4
        have HB4 := Lib.hid hB4
        clear hb3 hv3 hk3 hB3 hv4 hk4 hB4 l0 l1 hlen
        go_wp2
        go_roundw
        case rel => exact ⟨k + 1, by omega, by go_num, HV4, HK4, HB4⟩
        case measure => simp [intOf]; omega
      · obtain rfl : nu = k := by omega
        have hres := HV.out
        rw [show viewTo up (o : Int) nu = Ev.viewL up o by rw [← HNU.out]; exact viewTo_all up o] at hres
        have hrow := hres.row.more (B' := wr.heap.size) hres.lt
        have hgl := HG.out.below ((HB.out).mono (Nat.le_refl _))
        have HROW := Lib.hid hrow
        have HGL := Lib.hid hgl
        clear hres hrow hgl HV HK l0 l1
        obtain ⟨w5, hw5⟩ : ∃ w5, wr = w5 := ⟨_, rfl⟩
        rw [hw5] at HB HROW HGL ⊢
        clear hw5
        go_wp2
        go_loopw [48] (fun i wr => ∃ j : Nat, j ≤ m ∧ i = .int .i64 j ∧ Hid (∀ x ∈ flatN LL j, isLab up x = true) ∧ wr = w5) (fun i _ => m - (intOf i).toNat)
        case atStart => exact ⟨0, Nat.zero_le _, rfl, Lib.hid (by simp [flatN]), rfl⟩
        case round =>
          obtain ⟨j, hj, rfl, HA, hwr⟩ := hrel
          obtain rfl := hwr.symm
          by_cases hlt2 : j < m
          · obtain ⟨l, hl⟩ : ∃ l, LL[j]? = some l := ⟨_, List.getElem?_eq_getElem (show j < LL.length by rw [HM.out]; exact hlt2)⟩
            obtain ⟨B, cb, hc0, hr⟩ := HGL.out j l hl
            have hnx := flatN_succ hl
            have hl9 := HLL.out l (List.mem_of_getElem? hl)
            obtain ⟨p, hp⟩ : ∃ p, l.length = p := ⟨_, rfl⟩
            rw [hp] at hc0 hl9
            have hgb : g < w5.heap.size := block_lt_of_cell hc0
            have HR := Lib.hid hr
            have HNX := Lib.hid hnx
            have HP := Lib.hid hp
            have HL := Lib.hid hl
            clear hl hr hnx hp
            go_wp2
            go_loopw [54] (fun i wr => ∃ q : Nat, q ≤ p ∧ i = .int .i64 q ∧ Hid (∀ x ∈ l.take q, isLab up x = true) ∧ wr = w5) (fun i _ => p - (intOf i).toNat)
            case atStart => exact ⟨0, Nat.zero_le _, rfl, Lib.hid (by simp), rfl⟩
            case round =>
              obtain ⟨q, hq, rfl, HQ, hwr⟩ := hrel
              obtain rfl := hwr.symm
              by_cases hlt3 : q < p
              · obtain ⟨bd, rfl, hbd, hx⟩ := irow_at HR.out (show q < l.length by rw [HP.out]; exact hlt3)
                obtain ⟨x, hxe⟩ : ∃ x, l[q]'(by rw [HP.out]; exact hlt3) = x := ⟨_, rfl⟩
                rw [hxe] at hx
                have hxs : l[q]? = some x := by rw [← hxe]; exact List.getElem?_eq_getElem _
                have HTS := Lib.hid (Ev.take_snoc hxs)
                have HXS := Lib.hid hxs
                clear hxe hxs
                by_cases hbad : x < 0 ∨ (nu : Int) ≤ x
                · have hno : Ev.lookN names up o LL.flatten = 9 := by
                    unfold Ev.lookN
                    rw [if_pos HN.out, if_neg]
                    intro hall
                    have hm2 := List.all_eq_true.1 hall x (List.mem_flatten.2 ⟨l, List.mem_of_getElem? HL.out, List.mem_of_getElem? HXS.out⟩)
                    unfold isLab at hm2
                    rw [decide_eq_true_eq, HNU.out] at hm2
                    omega
                  rw [HRES.out] at hno
                  have HNO := Lib.hid hno
                  clear hno
                  by_cases hneg : x < 0
                  · have hneg2 : (x < 0) = True := eq_true hneg
                    go_wp2
                    go_ret2
                    exact ⟨none, 0, 0, by rw [HNO.out]; rfl, fun h => absurd (HNO.out.symm.trans h) (by decide), HB.out⟩
                  · have hneg2 : (x < 0) = False := eq_false hneg
                    have hge : ((nu : Int) ≤ x) = True := eq_true (by omega)
                    go_wp2
                    go_ret2
                    exact ⟨none, 0, 0, by rw [HNO.out]; rfl, fun h => absurd (HNO.out.symm.trans h) (by decide), HB.out⟩
                · have hneg2 : (x < 0) = False := eq_false (by omega)
                  have hge : ((nu : Int) ≤ x) = False := eq_false (by omega)
                  have hok : isLab up x = true := by unfold isLab; rw [decide_eq_true_eq, HNU.out]; omega
                  have HOK := Lib.hid hok
                  clear hok
                  go_wp2
                  go_roundw
                  case rel => exact ⟨q + 1, by omega, by go_num, Lib.hid fun y hy => by
                    rw [HTS.out, List.mem_append, List.mem_singleton] at hy
                    rcases hy with hy | rfl
                    · exact HQ.out y hy
                    · exact HOK.out, trivial⟩
                  case measure => simp [intOf]; omega
              · obtain rfl : q = p := by omega
                have hall : ∀ x ∈ flatN LL (j + 1), isLab up x = true := fun x hx => by
                  rw [HNX.out, List.mem_append] at hx
                  rcases hx with hx | hx
                  · exact HA.out x hx
                  · have h9 := HQ.out x
                    rw [List.take_of_length_le (by rw [HP.out]; exact Nat.le_refl _)] at h9
                    exact h9 hx
                have HALL := Lib.hid hall
                clear hall
                go_wp2
                go_roundw
                case rel => exact ⟨j + 1, by omega, by go_num, HALL, trivial⟩
                case measure => simp [intOf]; omega
          · obtain rfl : j = m := by omega
            have hall : ∀ x ∈ LL.flatten, isLab up x = true := by
              have h9 := HA.out
              unfold flatN at h9
              rw [List.take_of_length_le (by rw [HM.out]; exact Nat.le_refl _)] at h9
              exact h9
            have hyes := Ev.lookN_ok HN.out hall
            rw [HRES.out] at hyes
            have HYES := Lib.hid hyes
            clear hall hyes
            go_wp2
            go_ret2
            exact ⟨_, _, _, by rw [HYES.out]; rfl, fun _ => ⟨HNU.out.symm, HROW.out⟩, HB.out⟩
  · have hz1 : ((n : Int) == 0) = false := by rw [beq_eq_false_iff_ne]; omega
    have hz2 : ((n : Int) != 0) = true := by rw [bne_iff_ne]; omega
    have hE : Ev.lookN names up o LL.flatten = n := by
      unfold Ev.lookN
      rw [if_neg (by rw [HN.out]; exact hz), HN.out]
    rw [HRES.out] at hE
    have HE := Lib.hid hE
    have HZ := Lib.hid hz
    clear hE hi hz0 hz
    go_enter Try.func31, Try.ntmps31
    go_wp2_with (fail)
    refine H1.out.mono ?_
    rintro e w1 ⟨rfl, hb1⟩
    have HB1 := Lib.hid (HB0.out.trans (hb1.mono HB0.out.size))
    clear hb1
    go_wp2
    go_ret2
    exact ⟨none, 0, 0, by rw [HE.out]; rfl, fun h => absurd (HE.out.symm.trans h) HZ.out, HB1.out⟩
end Go.Proofs.Ytlddglhjpiahfaa

/- Walks of package equiv's compare, Atoms, Codes, Stacks (by gen_eqve.py). -/
namespace Go.Proofs.Ytlddglhjpiahfaa
set_option maxRecDepth 100000
open Go.RowKit Go.Shelf Go.Sort
attribute [local go_sem] Oper.semAt_some
/-- What is told: the answer, if there is no error. -/
def Ev.told (n : Nat) (b : Bool) : Bool := if n = 0 then b else false
def TellsBE (w : World) (b : Bool) (n : Nat) (e : Ending) (w' : World) : Prop := e = .returned (.tuple #[.bool b, .int .i64 (n : Int)]) ∧ Below w.heap.size w w'
theorem labIn_of {α : Type} {lab : α → Int} {up : List Nat} {o : Int} {l : List α} (h : ∀ x ∈ l.map lab, isLab up x = true) : LabIn lab (Ev.viewL up o).length l := fun x hx => by
  have := h (lab x) (List.mem_map_of_mem hx)
  unfold isLab at this
  rw [decide_eq_true_eq] at this
  rw [Ev.viewL_len]
  exact this
theorem ints_two {w : World} {A1 A2 : Option Addr} {n1 n2 c1 c2 : Nat} {l1 l2 : List Int} (g : Nat) (h1 : l1.length = n1) (h2 : l2.length = n2) (hk : Blk w g 83 #[.slice A1 n1 c1, .slice A2 n2 c2]) (r1 : Row w w.heap.size A1 (ints l1)) (r2 : Row w w.heap.size A2 (ints l2)) : IntsAt w g [l1, l2] := fun k l hl => by
  match k, hl with
  | 0, hl =>
    simp only [List.getElem?_cons_zero, Option.some.injEq] at hl
    subst hl
    exact ⟨A1, c1, by rw [h1]; exact hk.cell 0, r1⟩
  | 1, hl =>
    simp only [List.getElem?_cons_succ, List.getElem?_cons_zero, Option.some.injEq] at hl
    subst hl
    exact ⟨A2, c2, by rw [h2]; exact hk.cell 1, r2⟩
theorem flat_two (l1 l2 : List Int) : [l1, l2].flatten = l1 ++ l2 := by simp

/-! atoms -/
set_option maxHeartbeats 16000000 in
theorem compareA_any {v : Value} {names : List ByteArray} {up : List Nat} {B D : Option Addr} {a b : List St.Atom} (o : Int) (ca cb : Nat) (w : World) (h : IsLat w w.heap.size v names up) (ha : Row w w.heap.size B (fcells avs a)) (hb : Row w w.heap.size D (fcells avs b)) (hna : a.length ≤ 100000) (hnb : b.length ≤ 100000) :
    Calls Try.prog 25 #[v, .int .i64 o, .slice B a.length ca, .slice D b.length cb, howA] w (TellsBE w (Ev.told (Ev.lookN names up o (a.map (·.l) ++ b.map (·.l))) (Ev.alike (Ev.seenA (Ev.viewL up o)) a b)) (Ev.lookN names up o (a.map (·.l) ++ b.map (·.l)))) := by
  obtain ⟨res, hres⟩ : ∃ res, Ev.lookN names up o (a.map (·.l) ++ b.map (·.l)) = res := ⟨_, rfl⟩
  rw [hres]
  have hl0 := h
  obtain ⟨⟨N, U, c1, c2, rfl, -, -⟩, -, -, -⟩ := h
  obtain ⟨W0, hW0⟩ : ∃ W0, (w.alloc (.cells #[.slice N names.length c1, .slice U up.length c2] 25)).alloc (.cells #[.func (.func 52) #[] #[], .func (.func 53) #[] #[]] 63) = W0 := ⟨_, rfl⟩
  have hb0 : Below w.heap.size w W0 := hW0 ▸ ((Below.refl _ w).alloc (Nat.le_refl _) _).alloc (by simp) _
  have hp0 : Blk W0 w.heap.size 25 #[.slice N names.length c1, .slice U up.length c2] := hW0 ▸ (Blk.new _ _ _).alloc _
  have hq0 : Blk W0 (w.heap.size + 1) 63 #[.func (.func 52) #[] #[], .func (.func 53) #[] #[]] := by
    have h1 := Blk.new (w.alloc (.cells #[.slice N names.length c1, .slice U up.length c2] 25)) 63 #[.func (.func 52) #[] #[], .func (.func 53) #[] #[]]
    rw [show (w.alloc (.cells #[.slice N names.length c1, .slice U up.length c2] 25)).heap.size = w.heap.size + 1 by simp] at h1
    rw [← hW0]; exact h1
  have hlb := fun W (hb : Below W0.heap.size W0 W) => labelsA_any ca W ((ha.below (hb0.trans (hb.mono hb0.size))).more (Nat.le_trans hb0.size hb.size)) hna
  have hlb2 := fun W (hW : Below W0.heap.size W0 W) => labelsA_any cb W ((hb.below (hb0.trans (hW.mono hb0.size))).more (Nat.le_trans hb0.size hW.size)) hnb
  have hlk := fun g cl W (hW : Below W0.heap.size W0 W) (hg : IntsAt W g [a.map (·.l), b.map (·.l)]) => look_any o g cl W ((hl0.below (hb0.trans (hW.mono hb0.size))).more (Nat.le_trans hb0.size hW.size)) hg (by simp) (by intro l hl; simp at hl; rcases hl with rfl | rfl <;> (rw [List.length_map]; omega))
  have hal := fun A c W (hW : Below W0.heap.size W0 W) (hr : Row W W.heap.size A (vbs (Ev.viewL up o))) (hl1 : LabIn (·.l) (Ev.viewL up o).length a) (hl2 : LabIn (·.l) (Ev.viewL up o).length b) => alikeA_any (A := A) c ca cb W hr ((ha.below (hb0.trans (hW.mono hb0.size))).more (Nat.le_trans hb0.size hW.size)) ((hb.below (hb0.trans (hW.mono hb0.size))).more (Nat.le_trans hb0.size hW.size)) hl1 hl2 (by omega)
  simp only [flat_two, hres, Ev.viewL_len] at hlb hlb2 hlk hal
  unfold GotInts at hlb hlb2
  rw [List.length_map] at hlb hlb2
  unfold howA at hlb hlb2 hal
  have hlz : res = 0 → LabIn (·.l) up.length a ∧ LabIn (·.l) up.length b := fun e => by
    have h9 := (Ev.lookN_zero (hres.trans e)).2
    have e1 := labIn_of (o := o) fun x hx => h9 x (List.mem_append_left _ hx)
    have e2 := labIn_of (o := o) fun x hx => h9 x (List.mem_append_right _ hx)
    rw [Ev.viewL_len] at e1 e2
    exact ⟨e1, e2⟩
  have hla : (a.map (·.l)).length = a.length := List.length_map ..
  have hlb3 : (b.map (·.l)).length = b.length := List.length_map ..
  generalize Ev.alike (Ev.seenA (Ev.viewL up o)) a b = ans at *
  generalize a.map (·.l) = la at *
  generalize b.map (·.l) = lb at *
  have l0 : W0.cell? ⟨w.heap.size, 0, none⟩ = some (.slice N names.length c1) := hp0.cell 0
  have l1 : W0.cell? ⟨w.heap.size, 1, none⟩ = some (.slice U up.length c2) := hp0.cell 1
  have q0 : W0.cell? ⟨w.heap.size + 1, 0, none⟩ = some (.func (.func 52) #[] #[]) := hq0.cell 0
  have q1 : W0.cell? ⟨w.heap.size + 1, 1, none⟩ = some (.func (.func 53) #[] #[]) := hq0.cell 1
  have HLA := Lib.hid hlb
  have HLB := Lib.hid hlb2
  have HLK := Lib.hid hlk
  have HAL := Lib.hid hal
  have HLZ := Lib.hid hlz
  have HB0 := Lib.hid hb0
  have HP := Lib.hid hp0
  have HQ := Lib.hid hq0
  have HNA := Lib.hid hla
  have HNB := Lib.hid hlb3
  clear ha hb hb0 hp0 hq0 hlb hlb2 hlk hal hlz hla hlb3 hres hl0
  unfold howA
  go_enter Try.func25, Try.ntmps25
  go_wp2_with (fail)
  clear hW0
  refine Free.region_seq [4, 7, 8, 9] [0, 3, 6] 9 (fun W' => W'.cell? ⟨w.heap.size, 0, none⟩ = some (.slice N names.length c1) ∧ W'.cell? ⟨w.heap.size, 1, none⟩ = some (.slice U up.length c2) ∧ W'.cell? ⟨w.heap.size + 1, 0, none⟩ = some (.func (.func 52) #[] #[]) ∧ W'.cell? ⟨w.heap.size + 1, 1, none⟩ = some (.func (.func 53) #[] #[])) (by kernel_rfl) (by kernel_rfl) (by kernel_rfl) (by kernel_rfl) (⟨l0, l1, q0, q1⟩) (fun ops hops => ?_)
  clear hops
  iterate 4
    refine Free.Seq.quiet (v := ?_) (a' := ?_) rfl rfl (fun W' hW' => ?_) ?_ ?_
    rotate_left 2
    · first | obtain ⟨s0, s1, s2, s3⟩ := hW' rfl | skip
      go_simp
      try with_reducible rfl
    · simp only [Act.put, List.setIfInBounds_toArray, List.set_cons_zero, List.set_cons_succ]
      try with_reducible rfl
  refine Free.Seq.loud_ rfl (.inl rfl) (fun K hK => ?_)
  go_simp
  refine (HLA.out W0.drew (Below.refl _ W0).drew).mono ?_
  rintro e w1 ⟨A1, d1, rfl, hown1, hb1⟩
  have hb1 := (Below.refl _ W0).drew.trans hb1
  have hp1 := HP.out.below hb1 HP.out.lt
  have hq1 := HQ.out.below hb1 HQ.out.lt
  have HB1 := Lib.hid hb1
  have HR1 := Lib.hid (ownT_row hown1).1
  refine hK.out _ _ rfl (fun _ => ⟨hp1.cell 0, hp1.cell 1, hq1.cell 0, hq1.cell 1⟩) ?_
  clear hK K hp1 hq1 hb1 hown1
  iterate 2
    refine Free.Seq.quiet (v := ?_) (a' := ?_) rfl rfl (fun W' hW' => ?_) ?_ ?_
    rotate_left 2
    · first | obtain ⟨s0, s1, s2, s3⟩ := hW' rfl | skip
      go_simp
      try with_reducible rfl
    · simp only [Act.put, List.setIfInBounds_toArray, List.set_cons_zero, List.set_cons_succ]
      try with_reducible rfl
  refine Free.Seq.loud_ rfl (.inl rfl) (fun K hK => ?_)
  go_simp
  refine (HLB.out w1 HB1.out).mono ?_
  rintro e w2 ⟨A2, d2, rfl, hown2, hb2⟩
  have hB2 := HB1.out.trans (hb2.mono HB1.out.size)
  have hp2 := HP.out.below hB2 HP.out.lt
  have hq2 := HQ.out.below hB2 HQ.out.lt
  have HB2 := Lib.hid hB2
  have HR1b := Lib.hid ((HR1.out.below hb2).more hb2.size)
  have HR2 := Lib.hid (ownT_row hown2).1
  refine hK.out _ _ rfl (fun _ => ⟨hp2.cell 0, hp2.cell 1, hq2.cell 0, hq2.cell 1⟩) ?_
  clear hK K hp2 hq2 hB2 hb2 hown2 HR1
  refine Free.Seq.loud_ rfl (.inl rfl) (fun K hK => ?_)
  go_simp
  have hk3 := Blk.new w2 83 #[.slice A1 a.length d1, .slice A2 b.length d2]
  have hb3 := (Below.refl _ w2).alloc (Nat.le_refl _) (.cells #[.slice A1 a.length d1, .slice A2 b.length d2] 83)
  have hi3 := ints_two w2.heap.size HNA.out HNB.out hk3 ((HR1b.out.below hb3).more hb3.size) ((HR2.out.below hb3).more hb3.size)
  have HI3 := Lib.hid hi3
  have hB3 := HB2.out.trans (hb3.mono HB2.out.size)
  have hp3 := HP.out.below hB3 HP.out.lt
  have hq3 := HQ.out.below hB3 HQ.out.lt
  have HB3 := Lib.hid hB3
  refine hK.out _ _ rfl (fun _ => ⟨hp3.cell 0, hp3.cell 1, hq3.cell 0, hq3.cell 1⟩) ?_
  clear hK K hp3 hq3 hk3 hb3 hi3 hB3
  refine Free.Seq.loud_ rfl (.inl rfl) (fun K hK => ?_)
  go_simp
  refine (HLK.out w2.heap.size 2 _ HB3.out HI3.out).mono ?_
  rintro e w4 ⟨A4, n4, c4, rfl, hz4, hb4⟩
  have hB4 := HB3.out.trans (hb4.mono HB3.out.size)
  have hq4 := HQ.out.below hB4 HQ.out.lt
  have HZ4 := Lib.hid hz4
  have HB4 := Lib.hid hB4
  refine hK.out _ _ rfl (fun h => absurd h (by decide)) ?_
  clear hK K hb4 hz4 hB4
  iterate 5
    refine Free.Seq.quiet (v := ?_) (a' := ?_) rfl rfl (fun W' hW' => ?_) ?_ ?_
    rotate_left 2
    · skip
      go_simp
      try with_reducible rfl
    · simp only [Act.put, List.setIfInBounds_toArray, List.set_cons_zero, List.set_cons_succ]
      try with_reducible rfl
  refine Free.Seq.nil_ ?_
  have y0 : w4.cell? ⟨w.heap.size + 1, 0, none⟩ = some (.func (.func 52) #[] #[]) := hq4.cell 0
  have y1 : w4.cell? ⟨w.heap.size + 1, 1, none⟩ = some (.func (.func 53) #[] #[]) := hq4.cell 1
  clear l0 l1 q0 q1 hq4
  by_cases hz : res = 0
  · subst hz
    obtain ⟨rfl, hr4⟩ := HZ4.out rfl
    have hcall := HAL.out A4 c4 w4 HB4.out hr4 (HLZ.out rfl).1 (HLZ.out rfl).2
    have HC := Lib.hid hcall
    clear hr4 hcall
    go_wp2_with (fail)
    refine HC.out.mono ?_
    rintro e w5 ⟨rfl, hb5⟩
    have HB5 := Lib.hid (HB0.out.trans ((HB4.out.trans (hb5.mono HB4.out.size)).mono HB0.out.size))
    clear hb5
    go_wp2
    go_ret2
    exact ⟨rfl, HB5.out⟩
  · have hz1 : ((res : Int) == 0) = false := by rw [beq_eq_false_iff_ne]; omega
    have hz2 : ((res : Int) != 0) = true := by rw [bne_iff_ne]; omega
    have HT := Lib.hid (show Ev.told res ans = false from if_neg hz)
    clear hz
    go_wp2
    go_ret2
    exact ⟨by rw [HT.out]; rfl, HB0.out.trans (HB4.out.mono HB0.out.size)⟩
set_option maxHeartbeats 8000000 in
theorem Atoms_any {v : Value} {names : List ByteArray} {up : List Nat} {B D : Option Addr} {a b : List St.Atom} (o : Int) (ca cb : Nat) (w : World) (h : IsLat w w.heap.size v names up) (ha : Row w w.heap.size B (fcells avs a)) (hb : Row w w.heap.size D (fcells avs b)) (hna : a.length ≤ 100000) (hnb : b.length ≤ 100000) :
    Calls Try.prog 8 #[v, .int .i64 o, .slice B a.length ca, .slice D b.length cb] w (TellsBE w (Ev.told (Ev.lookN names up o (a.map (·.l) ++ b.map (·.l))) (Ev.alike (Ev.seenA (Ev.viewL up o)) a b)) (Ev.lookN names up o (a.map (·.l) ++ b.map (·.l)))) := by
  have hcm := fun W (hW : Below w.heap.size w W) => compareA_any o ca cb W ((h.below hW).more hW.size) ((ha.below hW).more hW.size) ((hb.below hW).more hW.size) hna hnb
  generalize Ev.told (Ev.lookN names up o (a.map (·.l) ++ b.map (·.l))) (Ev.alike (Ev.seenA (Ev.viewL up o)) a b) = ans at *
  generalize Ev.lookN names up o (a.map (·.l) ++ b.map (·.l)) = res at *
  obtain ⟨⟨N, U, c1, c2, rfl, -, -⟩, -, -, -⟩ := h
  obtain ⟨W0, hW0⟩ : ∃ W0, w.alloc (.cells #[.slice N names.length c1, .slice U up.length c2] 25) = W0 := ⟨_, rfl⟩
  have hb0 : Below w.heap.size w W0 := hW0 ▸ (Below.refl _ w).alloc (Nat.le_refl _) _
  have hp0 : Blk W0 w.heap.size 25 #[.slice N names.length c1, .slice U up.length c2] := hW0 ▸ Blk.new _ _ _
  have hhow := fun W => howA_any W
  unfold howA at hhow hcm
  have l0 : W0.cell? ⟨w.heap.size, 0, none⟩ = some (.slice N names.length c1) := hp0.cell 0
  have l1 : W0.cell? ⟨w.heap.size, 1, none⟩ = some (.slice U up.length c2) := hp0.cell 1
  have HCM := Lib.hid hcm
  have HH := Lib.hid hhow
  have HB0 := Lib.hid hb0
  have HP := Lib.hid hp0
  generalize a.length = na at *
  generalize b.length = nb at *
  clear ha hb hb0 hp0 hcm hhow
  go_enter Try.func8, Try.ntmps8
  go_wp2_with (fail)
  clear hW0
  refine Free.region_seq [4, 5] [0] 5 (fun W' => W'.cell? ⟨w.heap.size, 0, none⟩ = some (.slice N names.length c1) ∧ W'.cell? ⟨w.heap.size, 1, none⟩ = some (.slice U up.length c2)) (by kernel_rfl) (by kernel_rfl) (by kernel_rfl) (by kernel_rfl) (⟨l0, l1⟩) (fun ops hops => ?_)
  clear hops
  iterate 4
    refine Free.Seq.quiet (v := ?_) (a' := ?_) rfl rfl (fun W' hW' => ?_) ?_ ?_
    rotate_left 2
    · first | obtain ⟨s0, s1⟩ := hW' rfl | skip
      go_simp
      try with_reducible rfl
    · simp only [Act.put, List.setIfInBounds_toArray, List.set_cons_zero, List.set_cons_succ]
      try with_reducible rfl
  refine Free.Seq.loud_ rfl (.inl rfl) (fun K hK => ?_)
  go_simp
  refine (HH.out W0.drew).mono ?_
  rintro e w1 ⟨rfl, hb1⟩
  have hb1 := (Below.refl _ W0).drew.trans hb1
  have hp1 := HP.out.below hb1 HP.out.lt
  have HB1 := Lib.hid (HB0.out.trans (hb1.mono HB0.out.size))
  refine hK.out _ _ rfl (fun _ => ⟨hp1.cell 0, hp1.cell 1⟩) ?_
  clear hK K hp1 hb1
  refine Free.Seq.loud_ rfl (.inl rfl) (fun K hK => ?_)
  go_simp
  refine (HCM.out w1 HB1.out).mono ?_
  rintro e w2 ⟨rfl, hb2⟩
  have HB2 := Lib.hid (HB1.out.trans (hb2.mono HB1.out.size))
  refine hK.out _ _ rfl (fun h => absurd h (by decide)) ?_
  clear hK K hb2
  iterate 4
    refine Free.Seq.quiet (v := ?_) (a' := ?_) rfl rfl (fun W' hW' => ?_) ?_ ?_
    rotate_left 2
    · skip
      go_simp
      try with_reducible rfl
    · simp only [Act.put, List.setIfInBounds_toArray, List.set_cons_zero, List.set_cons_succ]
      try with_reducible rfl
  refine Free.Seq.nil_ ?_
  clear l0 l1
  go_wp2
  go_ret2
  exact ⟨rfl, HB2.out⟩

/-! instructions -/
/-! slots -/
end Go.Proofs.Ytlddglhjpiahfaa

/- Walks of package equiv's public, outs, Outs. -/
namespace Go.Proofs.Ytlddglhjpiahfaa
set_option maxRecDepth 100000
open Go.RowKit Go.Shelf Go.Sort
attribute [local go_sem] Oper.semAt_some
theorem Try.infoAtomE : (Try.prog.info? 27).map (fun i => (i.zero, i.size, i.bytes)) = some (some (.agg #[.int .i64 0, .int .i64 0]), 2, 16) := by kernel_rfl
theorem two_row (w : World) (x y : Value) (t : TypeId) : Row (w.alloc (.cells #[x, y] t)) (w.alloc (.cells #[x, y] t)).heap.size (some ⟨w.heap.size, 0, none⟩) [x, y] :=
  (Blk.new w t [x, y].toArray).row.more (by simp)
/-- Atoms in a row of one's own. -/
def GotAtoms (w : World) (l : List St.Atom) (e : Ending) (w' : World) : Prop := ∃ A c, e = .returned (.slice A l.length c) ∧ Row w' w'.heap.size A (fcells avs l) ∧ Below w.heap.size w w'
theorem pub_len (v : List Bool) (l : List St.Atom) : (Ev.pub v l).length ≤ l.length := List.length_filter_le _ _
set_option maxHeartbeats 8000000 in
theorem public_any {A B : Option Addr} {v : List Bool} {a : List St.Atom} (c ca : Nat) (w : World) (h : Row w w.heap.size A (vbs v)) (ha : Row w w.heap.size B (fcells avs a)) (hl : LabIn (·.l) v.length a) (hn : a.length ≤ 100000) :
    Calls Try.prog 63 #[.slice A v.length c, .slice B a.length ca] w (GotAtoms w (Ev.pub v a)) := by
  obtain ⟨i0, hi, hz0, hz1, hz2⟩ := info_parts Try.infoAtomE
  obtain ⟨n, hna⟩ : ∃ n, a.length = n := ⟨_, rfl⟩
  rw [hna]
  have hn9 : n ≤ 100000 := by omega
  have H := Lib.hid ha
  have HV := Lib.hid h
  have HL := Lib.hid hl
  have HNA := Lib.hid hna
  clear h ha hl hna hn
  go_enter Try.func63, Try.ntmps63
  go_wp2
  go_loopw [5, 10] (fun r i wr => ∃ k m : Nat, k ≤ n ∧ m ≤ k ∧ i = .int .i64 k ∧ Hid ((Ev.pub v (a.take k)).length = m) ∧ Hid (wr.ownsRow w.heap.size 27 2 r m (fcells avs (Ev.pub v (a.take k)))) ∧ Hid (Below w.heap.size w wr)) (fun _ i _ => n - (intOf i).toNat)
  case atStart => exact ⟨0, 0, Nat.zero_le _, Nat.le_refl _, rfl, Lib.hid rfl, Lib.hid (World.ownsRow_nil _ _ _ _), Lib.hid (Below.refl _ _)⟩
  case round =>
    obtain ⟨k, m, hk, hmk, rfl, HM, HO, HB⟩ := hrel
    obtain ⟨An, cn, rfl⟩ := ownT_slice HO.out
    by_cases hlt : k < n
    · obtain ⟨bd, x, rfl, hxb, hx, x0, x1⟩ := arow_at (H.out.below HB.out) (show k < a.length by rw [HNA.out]; exact hlt)
      have hxl : 0 ≤ x.l ∧ x.l < v.length := HL.out x (List.mem_of_getElem? hx)
      obtain ⟨ad, q, rfl, hadb, hql, hq, hcv⟩ := vbs_at (HV.out.below HB.out) hxl
      have hps := Ev.pub_snoc v (a.take k) x
      rw [← Ev.take_snoc hx] at hps
      obtain ⟨s, hs⟩ : ∃ s, Ev.at_ v x.l = s := ⟨_, rfl⟩
      have hfc : avs x = [.int .i64 x.v, .int .i64 x.l] := rfl
      rw [hs] at hcv hps
      have HPS := Lib.hid hps
      have HFC := Lib.hid hfc
      have hz := HB.out.size
      have hxb2 : (bd.add (k * 2)).block < wr.heap.size := by rw [add_block]; omega
      have hcv2 : (wr.alloc (.cells #[.int .i64 x.v, .int .i64 x.l] 27)).cell? (ad.add q) = some (.bool s) := (((Below.refl wr.heap.size wr).alloc (Nat.le_refl _) _).cell (p := ad.add q) (by rw [add_block]; omega)).trans hcv
      clear hs hps hfc hx hxl
      rw [hql] at x1 hcv2 HFC
      have hvlt : q < v.length := hq
      generalize x.v = xv at *
      obtain ⟨Wb, hWb⟩ : ∃ Wb, wr.alloc (.cells #[.int .i64 xv, .int .i64 (q : Nat)] 27) = Wb := ⟨_, rfl⟩
      have hbb := HB.out.alloc hz (.cells #[.int .i64 xv, .int .i64 (q : Nat)] 27)
      have hob := HO.out.alloc (.cells #[.int .i64 xv, .int .i64 (q : Nat)] 27)
      have hkb := Blk.new wr 27 #[.int .i64 xv, .int .i64 (q : Nat)]
      rw [hWb] at hbb hob hkb hcv2
      have z0 : Wb.cell? ⟨wr.heap.size, 0, none⟩ = some (.int .i64 xv) := hkb.cell 0
      have z1 : Wb.cell? ⟨wr.heap.size, 1, none⟩ = some (.int .i64 (q : Nat)) := hkb.cell 1
      have HBB := Lib.hid hbb
      have HOB := Lib.hid hob
      cases s
      · have HO6 : Hid (Wb.ownsRow w.heap.size 27 2 (.slice An m cn) m (fcells avs (Ev.pub v (a.take (k + 1))))) := Lib.hid (by rw [HPS.out]; exact HOB.out)
        have HM6 : Hid ((Ev.pub v (a.take (k + 1))).length = m) := Lib.hid (by rw [HPS.out]; exact HM.out)
        clear hbb hob hkb hcv
        go_wp2
        go_roundw
        case rel => exact ⟨k + 1, m, by omega, by omega, by go_num, HM6, HO6, HBB⟩
        case measure => simp [intOf]; omega
      · obtain ⟨v', W5, hrun, hown5, hb5, -⟩ := append_runE (P := Try.prog) (w := Wb.alloc (.cells #[.int .i64 xv, .int .i64 (q : Nat)] 27)) w.heap.size 29 29 27 i0 (.agg #[.int .i64 0, .int .i64 0]) 2 16 Try.underlying29 hi hz0 hz1 hz2 rfl (by decide) _ m _ (hob.alloc _) (some ⟨Wb.heap.size, 0, none⟩) 1 1 [.int .i64 xv, .int .i64 (q : Nat)] rfl (two_row Wb _ _ _) (by intro u hu; simp at hu; rcases hu with rfl | rfl <;> rfl) (by unfold maxLen; omega) (by omega) (by have := hbb.size; simp; omega)
        have HRUN := Lib.hid hrun
        have HB6 := Lib.hid ((hbb.alloc hbb.size (.cells #[.int .i64 xv, .int .i64 (q : Nat)] 27)).trans hb5)
        have HO6 : Hid (W5.ownsRow w.heap.size 27 2 v' (m + 1) (fcells avs (Ev.pub v (a.take (k + 1))))) := Lib.hid (by rw [HPS.out, if_pos rfl, fcells_snoc, HFC.out]; exact hown5)
        have HM6 : Hid ((Ev.pub v (a.take (k + 1))).length = m + 1) := Lib.hid (by rw [HPS.out, if_pos rfl, List.length_append, HM.out]; rfl)
        clear hbb hob hkb hrun hown5 hb5 hcv
        go_wp2_with (at_builtin; refine wpList_app_run rfl _ _ 29 29 rfl _ _ rfl rfl _ _ HRUN.out ?_)
        go_wp2
        go_roundw
        case rel => exact ⟨k + 1, m + 1, by omega, by omega, by go_num, HM6, HO6, HB6⟩
        case measure => simp [intOf]; omega
    · obtain rfl : k = n := by omega
      have hall : a.take k = a := List.take_of_length_le (by rw [HNA.out]; exact Nat.le_refl _)
      have hres := HO.out
      have hlen := HM.out
      rw [hall] at hres hlen
      have HRES := Lib.hid (ownT_row hres).1
      have HLEN := Lib.hid hlen
      clear hall hres hlen
      go_wp2
      go_ret
      exact ⟨An, cn, by rw [HLEN.out]; rfl, HRES.out, HB.out⟩
set_option maxHeartbeats 4000000 in
theorem outs_any {A B D : Option Addr} {v : List Bool} {a b : List St.Atom} (c ca cb : Nat) (w : World) (h : Row w w.heap.size A (vbs v)) (ha : Row w w.heap.size B (fcells avs a)) (hb : Row w w.heap.size D (fcells avs b)) (hl : LabIn (·.l) v.length a) (hl2 : LabIn (·.l) v.length b) (hn : a.length ≤ 1000) (hn2 : b.length ≤ 1000) :
    Calls Try.prog 33 #[.slice A v.length c, .slice B a.length ca, .slice D b.length cb] w (Tells w (Ev.outs v a b)) := by
  have h1 := public_any c ca w h ha hl (by omega)
  have h2 := fun W (hW : Below w.heap.size w W) => public_any c cb W ((h.below hW).more hW.size) ((hb.below hW).more hW.size) hl2 (by omega)
  have h3 := fun (A1 A2 : Option Addr) c1 c2 W (r1 : Row W W.heap.size A1 (fcells avs (Ev.pub v a))) (r2 : Row W W.heap.size A2 (fcells avs (Ev.pub v b))) => atEqual_any c1 c2 W r1 r2 (Nat.le_trans (pub_len v a) hn) (Nat.le_trans (pub_len v b) hn2)
  unfold GotAtoms at h1 h2
  have hout : Ev.outs v a b = decide (Ev.pub v a = Ev.pub v b) := rfl
  rw [hout]
  generalize Ev.pub v a = pa at *
  generalize Ev.pub v b = pb at *
  generalize decide (pa = pb) = ans at *
  have H1 := Lib.hid h1
  have H2 := Lib.hid h2
  have H3 := Lib.hid h3
  clear h ha hb hl hl2 hn hn2 h1 h2 h3 hout
  go_enter Try.func33, Try.ntmps33
  go_wp2_with (fail)
  refine H1.out.mono ?_
  rintro e w1 ⟨A1, d1, rfl, hr1, hb1⟩
  have HB1 := Lib.hid hb1
  have HR1 := Lib.hid hr1
  clear hb1 hr1
  go_wp2_with (fail)
  refine (H2.out _ HB1.out).mono ?_
  rintro e w2 ⟨A2, d2, rfl, hr2, hb2⟩
  have HB2 := Lib.hid (HB1.out.trans (hb2.mono HB1.out.size))
  have HC := Lib.hid (H3.out A1 A2 d1 d2 w2 ((HR1.out.below hb2).more hb2.size) hr2)
  clear hb2 hr2
  go_wp2_with (fail)
  refine HC.out.mono ?_
  rintro e w3 ⟨rfl, hb3⟩
  have HB3 := Lib.hid (HB2.out.trans (hb3.mono HB2.out.size))
  clear hb3
  go_wp2
  go_ret
  exact ⟨rfl, HB3.out⟩
end Go.Proofs.Ytlddglhjpiahfaa

/- A range over a function that only reads, where a round may lay a variable and the body may return: what iterator and body promise each other, and the caller's law; slices.Backward at []api.Slot. -/
namespace Go.Proofs.Ytlddglhjpiahfaa
set_option maxRecDepth 100000
open Go.RowKit Go.Shelf
attribute [local go_sem] Oper.semAt_some
section
variable {F : Fence} {n : Nat} {P : Program}
/-- The iterator's promise: it asks round after round; all have come, or one round said no. -/
def SeqReads {α : Type} (F : Fence) (n : Nat) (P : Program) (gf : Nat) (lb : Array Value) (encs : α → Array Value) (Kp : World → World → Prop) (S Sp : List α → Prop) (w0 : World) : Prop :=
  ∀ (l : Nat) (J Jx : List α → World → Prop) (W : World), Below w0.heap.size w0 W →
    (∀ pre x W1, J pre W1 → YieldAt F (n - 1) P l (encs x) W1 fun e W' => (e = .returned (.bool true) ∧ J (pre ++ [x]) W' ∧ Kp W1 W') ∨ (e = .returned (.bool false) ∧ Jx (pre ++ [x]) W')) →
    J [] W →
    CallsIn F n P gf (#[.func (.yield l) #[] #[]] ++ lb) W fun e W' => (∃ v, e = .returned v) ∧ ((∃ xs, S xs ∧ J xs W') ∨ (∃ pre, Sp pre ∧ Jx pre W'))
/-- The caller's law. -/
theorem wpIn_rangeReads {α : Type} {g : Operand} {ps : Array Tmp} {assign body : Code} {Q : Exit → Act → World → Prop} {a : Act} {w : World}
    (hro : F.round = none) (h1 : 1 ≤ n) {gf : Nat} {lb : Array Value} (hg : a.eval g = .func (.func gf) #[] lb) (hFg : F.fn gf) (eg : ∀ args w, (callFunc gf args).run P w = .ok (.enter gf args) w)
    {encs : α → Array Value} {Kp : World → World → Prop} {S Sp : List α → Prop} (hseq : SeqReads F (n - 1) P gf lb encs Kp S Sp w)
    (hKt : ∀ {A B C : World}, Kp A B → Kp B C → Kp A C) (hKb : ∀ (W : World) (l : Nat) (o' : Obj), w.heap.size ≤ l → Kp W (W.putObj l o')) (hps : ∀ x, (encs x).size = ps.size)
    (I Ix : List α → World → Prop)
    (hIa : ∀ pre W o, I pre W → I pre (W.alloc o)) (hIp : ∀ pre W l o o', I pre W → w.heap.size ≤ l → W.heap[l]? = some o → o.isCells = false → I pre (W.putObj l o'))
    (hXp : ∀ pre W l o o', Ix pre W → w.heap.size ≤ l → W.heap[l]? = some o → o.isCells = false → Ix pre (W.putObj l o'))
    (h0 : I [] w)
    (hround : ∀ (l : Nat) (pre : List α) (x : α) (W : World) (K : Act → World → Prop), I pre W →
      (∀ a' W', KeepsOthers W W' → Kp W W' →
        (∀ l' o o', w.heap.size ≤ l' → W'.heap[l']? = some o → o.isCells = false →
          body.wpIn (F.inRound l) (n - 1 - 1) P (fun e _ W2 => KeepsOthers (W'.putObj l' o') W2 ∧ ((e = .normal ∧ Kp (W'.putObj l' o') W2 ∧ I (pre ++ [x]) W2) ∨ (e = .ret ∧ Ix (pre ++ [x]) W2))) a' (W'.putObj l' o')) → K a' W') →
      assign.wpIn (F.inRound l) (n - 1 - 1) P (Exit.then K (fun _ _ _ => False)) { tmps := (ps.zip (encs x)).foldl (fun t (p, v) => t.setIfInBounds p v) a.tmps, defers := [] } W)
    (hdone : ∀ (D : Nat) (xs : List α) (W : World), w.heap.size ≤ D → S xs → I xs W → W.heap[D]? = some (.deferred (some [])) → Q .normal { a with defers := { target := .collected D, args := #[] } :: a.defers } W)
    (hstop : ∀ (D : Nat) (pre : List α) (W : World), w.heap.size ≤ D → Sp pre → Ix pre W → W.heap[D]? = some (.deferred (some [])) → Code.ret.wpIn F n P Q { a with defers := { target := .collected D, args := #[] } :: a.defers } W) :
    (Code.rangeFunc g ps assign body).wpIn F n P Q a w := by
  refine wpIn_rangeFunc fun fn hfn => ?_
  rw [hro]
  obtain ⟨rec, hrec⟩ : ∃ rec : LoopState → Option Code → Loop, rec = fun st pe => { state := st, pending := pe, fn, tmps := a.tmps, params := ps, assign, body, defers := w.heap.size } := ⟨_, rfl⟩
  obtain ⟨W1, hW1⟩ : ∃ W1, (w.alloc (.deferred (some []))).alloc (.loop (rec .ready none)) = W1 := ⟨_, rfl⟩
  have hL1 : W1.heap[w.heap.size + 1]? = some (.loop (rec .ready none)) := by
    have h := World.alloc_heap_new (w.alloc (.deferred (some []))) (.loop (rec .ready none))
    rw [World.size_alloc, hW1] at h; exact h
  have hD1 : W1.heap[w.heap.size]? = some (.deferred (some [])) := by
    rw [← hW1]; exact (Below.heap_alloc _ _ _ (by simp)).trans (World.alloc_heap_new w _)
  have hb1 : Below w.heap.size w W1 := by
    rw [← hW1]; exact ((Below.refl _ w).alloc (Nat.le_refl _) _).alloc (by simp) _
  have hI1 : I [] W1 := by rw [← hW1]; exact hIa _ _ _ (hIa _ _ _ h0)
  refine ⟨w.heap.size + 1, [{ target := .collected w.heap.size, args := #[] }], W1, { target := .fn (.func gf) lb, args := #[.func (.yield (w.heap.size + 1)) #[] #[]] }, W1, gf,
    #[.func (.yield (w.heap.size + 1)) #[] #[]] ++ lb, W1, ?_, ?_, ?_, ?_, fun _ => h1, ?_⟩
  · rw [← hW1, hrec]; exact run_enterLoop_outer _ _ _ _ _
  · simp only [resolve, hg]
    simp [go_sem]
  · intro f' hf'
    simp [Target.leads] at hf'
    subst hf'; exact hFg
  · simp [invoke, go_sem, eg]
  refine (hseq (w.heap.size + 1)
    (fun pre W => I pre W ∧ W.heap[w.heap.size + 1]? = some (.loop (rec .ready none)) ∧ W.heap[w.heap.size]? = some (.deferred (some [])))
    (fun pre W => Ix pre W ∧ W.heap[w.heap.size + 1]? = some (.loop (rec .done (some .ret))) ∧ W.heap[w.heap.size]? = some (.deferred (some []))) W1 hb1 ?_ ⟨hI1, hL1, hD1⟩).mono ?_
  · rintro pre x W ⟨hi, hl, hd⟩
    have hy := run_yield (P := P) (args := encs x) hl (by rw [hrec]; exact hps x)
    rw [hrec] at hy
    refine ⟨fn, _, assign, body, hy, roundIn_of_wpIn hfn (hround _ pre x W _ hi ?_)⟩
    clear hy
    intro a' Wa hko hka hbd
    have hla := hko.same _ _ hl rfl
    have hda := hko.same _ _ hd rfl
    refine ⟨_, run_beginRound hla (by rw [hrec]), wpIn_mono (hbd _ _ (.loop { rec .ready none with state := .busy }) (by omega) hla rfl) ?_⟩
    rintro e a3 W3 ⟨hk3, hend⟩
    have hlt := (Array.getElem?_eq_some_iff.1 hla).1
    have hl2 : (Wa.putObj (w.heap.size + 1) (.loop { rec .ready none with state := .busy })).heap[w.heap.size + 1]? = some (.loop { rec .ready none with state := .busy }) := World.putObj_heap_same hlt
    have hl3 := hk3.same _ _ hl2 rfl
    have hd3 := hk3.same _ _ ((World.putObj_heap_other (by omega)).trans hda) rfl
    have hlt3 := (Array.getElem?_eq_some_iff.1 hl3).1
    rcases hend with ⟨rfl, hkp, hi3⟩ | ⟨rfl, hx3⟩
    · have hr := run_endRound (P := P) none hl3
      rw [hrec] at hr
      rw [hrec] at hl3
      exact ⟨_, _, hr, .inl ⟨rfl, ⟨hIp _ _ _ _ _ hi3 (by omega) hl3 rfl, by rw [hrec]; exact World.putObj_heap_same hlt3, (World.putObj_heap_other (by omega)).trans hd3⟩,
        hKt hka (hKt (hKb _ _ _ (by omega)) (hKt hkp (hKb _ _ _ (by omega))))⟩⟩
    · have hr := run_endRound (P := P) (some .ret) hl3
      rw [hrec] at hr
      rw [hrec] at hl3
      exact ⟨_, _, hr, .inr ⟨rfl, hXp _ _ _ _ _ hx3 (by omega) hl3 rfl, by rw [hrec]; exact World.putObj_heap_same hlt3, (World.putObj_heap_other (by omega)).trans hd3⟩⟩
  · rintro e W2 ⟨⟨v, rfl⟩, (⟨xs, hS, hi, hl, hd⟩ | ⟨pre, hSp, hi, hl, hd⟩)⟩
    · exact ⟨none, _, by have := run_endLoop (P := P) hl (by rw [hrec]; simp); rw [hrec] at this; exact this, hdone _ xs _ (Nat.le_refl _) hS (hIp _ _ _ _ _ hi (by omega) hl rfl) ((World.putObj_heap_other (by omega)).trans hd)⟩
    · exact ⟨some .ret, _, by have := run_endLoop (P := P) hl (by rw [hrec]; simp); rw [hrec] at this; exact this, hstop _ pre _ (Nat.le_refl _) hSp (hXp _ _ _ _ _ hi (by omega) hl rfl) ((World.putObj_heap_other (by omega)).trans hd)⟩
end
end Go.Proofs.Ytlddglhjpiahfaa

/- slices.Backward at []api.Slot: its iterator; package equiv's crop. -/
namespace Go.Proofs.Ytlddglhjpiahfaa
set_option maxRecDepth 100000
open Go.RowKit Go.Shelf
attribute [local go_sem] Oper.semAt_some
theorem backward_any (A : Option Addr) (n c : Nat) (w : World) :
    Calls Try.prog 71 #[.slice A n c] w fun e w' => e = .returned (.func (.func 90) #[] #[.pointer (some ⟨w.heap.size, 0, none⟩)]) ∧ w.alloc (.cells #[.slice A n c] 30) = w' := by
  have hmf : ∀ (fn : Fn) (first cap : Array Value) (w : World), (Instr.makeFunc fn first cap).run Try.prog w = .ok (.func fn first cap) w := fun _ _ _ _ => rfl
  go_enter Try.func71, Try.ntmps71
  go_wp2
  go_ret
  exact ⟨rfl, rfl⟩
/-- A place of a row. -/
abbrev Pl (s : List St.Slot) := { i : Nat // i < s.length }
def benc (s : List St.Slot) (i : Pl s) : Array Value := #[.int .i64 (i.1 : Int), .agg #[.bool s[i.1].ret, .int .i64 s[i.1].v, .int .i64 s[i.1].l]]
def plv {s : List St.Slot} (l : List (Pl s)) : List Nat := l.map (·.1)
theorem plv_snoc {s : List St.Slot} (l : List (Pl s)) (i : Pl s) : plv (l ++ [i]) = plv l ++ [i.1] := by simp [plv]
/-- The places from behind. -/
def down (n k : Nat) : List Nat := (List.range k).map fun j => n - 1 - j
theorem down_succ (n k : Nat) : down n (k + 1) = down n k ++ [n - 1 - k] := by simp [down, List.range_succ]
theorem down_prefix {n k m : Nat} (h : k ≤ m) : down n k <+: down n m := by
  unfold down
  exact (Lat.range_prefix h).map _
/-- What a round must keep: the iterator's cell, and what lies below b. -/
def KpB (b Bn : Nat) (W W' : World) : Prop := ∀ p : Addr, (p.block < b ∨ p.block = Bn) → W'.cell? p = W.cell? p
theorem KpB.trans {b Bn : Nat} {A B C : World} (h : KpB b Bn A B) (k : KpB b Bn B C) : KpB b Bn A C := fun p hp => (k p hp).trans (h p hp)
theorem KpB.below {b Bn m : Nat} {W W' : World} (h : Below m W W') (hb : b ≤ m) (hB : Bn < m) : KpB b Bn W W' := fun p hp => h.cell (by omega)
theorem KpB.putObj {b Bn : Nat} (W : World) (l : Nat) (o : Obj) (hb : b ≤ l) (hB : Bn < l) : KpB b Bn W (W.putObj l o) := fun p hp => World.cell?_of_block (World.putObj_heap_other (by omega))
set_option maxRecDepth 100000 in
set_option maxHeartbeats 4000000 in
theorem back_reads {s : List St.Slot} {A : Option Addr} (c Bn b N : Nat) (hN : 1 ≤ N) (hs : s.length ≤ 100000) (w : World) (hb : b ≤ w.heap.size) (hBn : Bn < w.heap.size) (hr : Row w b A (fcells svs s)) (hc : w.cell? ⟨Bn, 0, none⟩ = some (.slice A s.length c)) :
    SeqReads Fence.wide N Try.prog 90 #[.pointer (some ⟨Bn, 0, none⟩)] (benc s) (KpB b Bn) (fun xs => plv xs = down s.length s.length) (fun pre => plv pre <+: down s.length s.length) w := fun lp J Jx W hW hY h0 => by
  have hwf : ∀ f, Fence.wide.fn f := fun _ => trivial
  have hkw : KpB b Bn w W := KpB.below hW hb hBn
  have hcW := (hkw ⟨Bn, 0, none⟩ (.inr rfl)).trans hc
  obtain ⟨n, hn⟩ : ∃ n, s.length = n := ⟨_, rfl⟩
  rw [hn] at hcW hs ⊢
  have HN := Lib.hid hn
  have HKW := Lib.hid hkw
  have HR := Lib.hid hr
  have HC := Lib.hid hc
  clear hn hkw hr hc
  refine callsIn_of_wp Try.func90 rfl trivial ?_ rfl
  simp only [Try.ntmps90, List.size_toArray, List.length_cons, List.length_nil, Nat.reduceAdd, Nat.reduceSub, Array.replicate_succ, Array.replicate_zero, List.push_toArray, List.append_toArray, List.nil_append, List.cons_append]
  gi_wp2
  gi_loopw [3] (fun i wr => ∃ (a : Nat) (pre : List (Pl s)), a ≤ n ∧ i = .int .i64 ((a : Int) - 1) ∧ Hid (plv pre = down n (n - a)) ∧ J pre wr ∧ Hid (KpB b Bn w wr)) (fun i _ => (intOf i + 1).toNat)
  case atStart => exact ⟨n, [], Nat.le_refl _, rfl, Lib.hid (by rw [Nat.sub_self]; rfl), h0, HKW⟩
  case round =>
    clear h0 HKW hcW
    obtain ⟨a, pre, ha, rfl, HV, hj, HK⟩ := hrel
    have hcr : wr.cell? ⟨Bn, 0, none⟩ = some (.slice A s.length c) := (HK.out ⟨Bn, 0, none⟩ (.inr rfl)).trans HC.out
    rw [HN.out] at hcr
    cases a with
    | zero =>
      have h1 : (((0 : Nat) : Int) - 1) = -1 := by decide
      rw [h1]
      gi_wp2
      go_end0
      exact ⟨⟨_, rfl⟩, .inl ⟨pre, HV.out, hj⟩⟩
    | succ a =>
      have h1 : (((a + 1 : Nat) : Int) - 1) = (a : Int) := by omega
      rw [h1]
      have has : a < s.length := by rw [HN.out]; omega
      obtain ⟨ad, x, rfl, hadb, hx, x0, x1, x2⟩ := srow_at HR.out has
      have k0 := (HK.out (ad.add (a * 3)) (.inl (by rw [add_block]; exact hadb))).trans x0
      have k1 := (HK.out ⟨(ad.add (a * 3)).block, (ad.add (a * 3)).off + 1, none⟩ (.inl (by show (ad.add (a * 3)).block < b; rw [add_block]; exact hadb))).trans x1
      have k2 := (HK.out ⟨(ad.add (a * 3)).block, (ad.add (a * 3)).off + 2, none⟩ (.inl (by show (ad.add (a * 3)).block < b; rw [add_block]; exact hadb))).trans x2
      have hsx : s[a] = x := by
        rw [List.getElem?_eq_getElem has] at hx
        injection hx
      obtain ⟨fn, tmps, assign, body, hy, hR⟩ := hY pre ⟨a, has⟩ wr hj
      unfold benc at hy
      dsimp only at hy
      rw [hsx] at hy
      have hdn : plv (pre ++ [(⟨a, has⟩ : Pl s)]) = down n (n - a) := by
        rw [plv_snoc, HV.out, show n - a = (n - (a + 1)) + 1 by omega, down_succ, show n - 1 - (n - (a + 1)) = a by omega]
      have HDN := Lib.hid hdn
      clear x0 x1 x2 hx hsx hdn
      generalize x.ret = xr at *
      generalize x.v = xv at *
      generalize x.l = xl at *
      gi_wp2
      refine hR.mono ?_
      rintro e W3 (⟨rfl, hJ3, hk3⟩ | ⟨rfl, hJx3⟩)
      · have HK3 := Lib.hid (HK.out.trans hk3)
        clear hk3
        gi_wp2
        go_roundw
        case rel => exact ⟨a, _, by omega, by go_num, HDN, hJ3, HK3⟩
        case measure => simp [intOf]
      · gi_wp2
        refine bodyPost_ret (results_none rfl _ _ _) rfl ?_
        exact ⟨⟨_, rfl⟩, .inr ⟨_, by rw [HDN.out]; exact down_prefix (Nat.sub_le _ _), hJx3⟩⟩
end Go.Proofs.Ytlddglhjpiahfaa

/- The walk of package equiv's crop. -/
namespace Go.Proofs.Ytlddglhjpiahfaa
set_option maxRecDepth 100000
open Go.RowKit Go.Shelf
attribute [local go_sem] Oper.semAt_some
/-- None of these is kept. -/
def NoneKept (v : List Bool) (s : List St.Slot) (ps : List Nat) : Prop := ∀ i ∈ ps, ∀ x, s[i]? = some x → Ev.kept v x = false
theorem NoneKept.snoc {v : List Bool} {s : List St.Slot} {ps : List Nat} {i : Nat} {x : St.Slot} (h : NoneKept v s ps) (hx : s[i]? = some x) (hk : Ev.kept v x = false) : NoneKept v s (ps ++ [i]) := fun j hj y hy => by
  rcases List.mem_append.1 hj with hj | hj
  · exact h j hj y hy
  · rw [List.mem_singleton] at hj
    subst hj
    rw [hx] at hy
    injection hy with hy
    rw [← hy]; exact hk
theorem down_mem {n k i : Nat} (h : i < n) (hk : n - 1 - i < k) : i ∈ down n k := by
  unfold down
  exact List.mem_map.2 ⟨n - 1 - i, List.mem_range.2 hk, by omega⟩
theorem crop_none {v : List Bool} {s : List St.Slot} (h : NoneKept v s (down s.length s.length)) : Ev.cropN v s = 0 :=
  Ev.cropN_none v s fun x hx => by
    obtain ⟨i, hi, rfl⟩ := List.getElem_of_mem hx
    exact h i (down_mem hi (by omega)) _ (List.getElem?_eq_getElem hi)
theorem crop_at {v : List Bool} {s : List St.Slot} {pre : List Nat} {i : Nat} {x : St.Slot} (hp : pre ++ [i] <+: down s.length s.length) (h : NoneKept v s pre) (hx : s[i]? = some x) (hk : Ev.kept v x = true) : Ev.cropN v s = i + 1 := by
  have hi := (List.getElem?_eq_some_iff.1 hx).1
  obtain ⟨t, ht⟩ := hp
  have hl : (down s.length s.length).length = s.length := by simp [down]
  have hpl : pre.length < s.length := by
    have := congrArg List.length ht
    rw [hl] at this
    simp at this; omega
  have hpre : pre = down s.length pre.length := by
    have h1 : pre = (down s.length s.length).take pre.length := by rw [← ht]; simp
    refine h1.trans ?_
    unfold down
    rw [← List.map_take, List.take_range, show min pre.length s.length = pre.length by omega]
  have hii : i = s.length - 1 - pre.length := by
    have h1 : (down s.length s.length)[pre.length]? = some i := by rw [← ht]; simp
    unfold down at h1
    rw [List.getElem?_map, List.getElem?_range hpl] at h1
    injection h1 with h1
    exact h1.symm
  refine Ev.cropN_at v s i x hx hk fun j y hj hy => ?_
  have hjl := (List.getElem?_eq_some_iff.1 hy).1
  rw [hpre] at h
  exact h j (down_mem hjl (by omega)) y hy
/-- What stands where a round said no. -/
def CropStop (v : List Bool) (s : List St.Slot) (B : Option Addr) (cs : Nat) (w : World) (pre : List (Pl s)) (W : World) : Prop :=
  ∃ pre' i x, plv pre = pre' ++ [i] ∧ NoneKept v s pre' ∧ s[i]? = some x ∧ Ev.kept v x = true ∧ Blk W (w.heap.size + 1 + 1) 30 #[.slice B (i + 1) cs] ∧ Below w.heap.size w W
set_option maxRecDepth 100000 in
set_option maxHeartbeats 8000000 in
theorem crop_any {A B : Option Addr} {v : List Bool} {s : List St.Slot} (c cs : Nat) (w : World) (h : Row w w.heap.size A (vbs v)) (hs : Row w w.heap.size B (fcells svs s)) (hl : LabIn (·.l) v.length s) (hn : s.length ≤ 100000) (hcs : s.length ≤ cs) :
    Calls Try.prog 45 #[.slice A v.length c, .slice B s.length cs] w fun e w' => ∃ A' c', e = .returned (.slice A' (Ev.cropN v s) c') ∧ Row w' w'.heap.size A' (fcells svs (Ev.crop v s)) ∧ Below w.heap.size w w' := by
  have hwf : ∀ f, Fence.wide.fn f := fun _ => trivial
  obtain ⟨n, hnn⟩ : ∃ n, s.length = n := ⟨_, rfl⟩
  obtain ⟨W0, hW0⟩ : ∃ W0, (((w.alloc (.cells #[.slice A v.length c] 80)).alloc (.cells #[.slice B n cs] 30)).alloc (.cells #[.slice none 0 0] 30)).alloc (.cells #[.slice B n cs] 30) = W0 := ⟨_, rfl⟩
  have hsz : W0.heap.size = w.heap.size + 1 + 1 + 1 + 1 := by rw [← hW0]; simp
  have b0 : Blk W0 w.heap.size 80 #[.slice A v.length c] := by rw [← hW0]; exact (((Blk.new _ _ _).alloc _).alloc _).alloc _
  have b1 : Blk W0 (w.heap.size + 1) 30 #[.slice B n cs] := by rw [← hW0]; exact ((Blk.new' _ _ _ _ (by simp)).alloc _).alloc _
  have b2 : Blk W0 (w.heap.size + 1 + 1) 30 #[.slice none 0 0] := by rw [← hW0]; exact (Blk.new' _ _ _ _ (by simp)).alloc _
  have b3 : Blk W0 (w.heap.size + 1 + 1 + 1) 30 #[.slice B n cs] := by rw [← hW0]; exact Blk.new' _ _ _ _ (by simp)
  have hB0 : Below w.heap.size w W0 := by rw [← hW0]; exact ((((Below.refl _ w).alloc (Nat.le_refl _) _).alloc (by simp) _).alloc (by simp; omega) _).alloc (by simp; omega) _
  rw [hnn]
  have c3 : W0.cell? ⟨w.heap.size + 1 + 1 + 1, 0, none⟩ = some (.slice B s.length cs) := by rw [hnn]; exact b3.cell 0
  have hbk := fun N (hN : 1 ≤ N) => back_reads (s := s) cs (w.heap.size + 1 + 1 + 1) w.heap.size N hN hn W0 (by omega) (by omega) (hs.below hB0) c3
  refine (callsIn_wide (n := 3)).1 ?_
  refine callsIn_of_wp_marks Try.func45 rfl trivial ?_ rfl
  simp only [Try.ntmps45, List.size_toArray, List.length_cons, List.length_nil, Nat.reduceAdd, Nat.reduceSub, Array.replicate_succ, Array.replicate_zero, List.push_toArray, List.append_toArray, List.nil_append, List.cons_append]
  gi_wp2_with (gi_at_call 71; refine (callsIn_wide.2 (backward_any B n cs _)).mono ?_; rintro e w' ⟨rfl, rfl⟩)
  have HHS := Lib.hid hs
  have HHV := Lib.hid h
  have HLB := Lib.hid hl
  have HNN := Lib.hid hnn
  have HSZ := Lib.hid hsz
  clear hW0 h hs hl
  refine wpIn_rangeReads rfl (by decide) (gf := 90) (lb := #[.pointer (some ⟨w.heap.size + 1 + 1 + 1, 0, none⟩)]) rfl trivial (enters_of Try.func90 (by kernel_rfl) rfl)
    (hbk _ (by decide)) KpB.trans (fun W l o hl => KpB.putObj W l o (by omega) (by omega)) (fun _ => rfl)
    (fun pre W => NoneKept v s (plv pre) ∧ Blk W w.heap.size 80 #[.slice A v.length c] ∧ Blk W (w.heap.size + 1) 30 #[.slice B n cs] ∧ Blk W (w.heap.size + 1 + 1) 30 #[.slice none 0 0] ∧ Below w.heap.size w W ∧ w.heap.size + 4 ≤ W.heap.size)
    (CropStop v s B cs w)
    (fun pre W o ⟨i0, i1, i2, i3, i4, i5⟩ => ⟨i0, i1.alloc o, i2.alloc o, i3.alloc o, i4.alloc i4.size o, by simp; omega⟩)
    (fun pre W l o o' ⟨i0, i1, i2, i3, i4, i5⟩ hl ho hc => ⟨i0, i1.putObj o' ho hc, i2.putObj o' ho hc, i3.putObj o' ho hc, i4.trans ((Below.refl _ W).grown (grownBy_putObj' W l o') i4.size (fun k e => by cases e; omega)), by simp; omega⟩)
    (fun pre W l o o' ⟨pre', i, x, e1, e2, e3, e4, e5, e6⟩ hl ho hc => ⟨pre', i, x, e1, e2, e3, e4, e5.putObj o' ho hc, e6.trans ((Below.refl _ W).grown (grownBy_putObj' W l o') e6.size (fun k e => by cases e; omega))⟩)
    ⟨fun i hi => absurd hi (by simp [plv]), b0, b1, b2, hB0, by omega⟩ ?round ?done ?stop
  case round =>
    rintro l pre ⟨i, hi⟩ W K ⟨hno, k0, k1, k2, hB, hz⟩ hK
    obtain ⟨x, hxe⟩ : ∃ x, s[i] = x := ⟨_, rfl⟩
    have hx : s[i]? = some x := by rw [← hxe]; exact List.getElem?_eq_getElem hi
    have hbe : benc s ⟨i, hi⟩ = #[.int .i64 (i : Int), .agg #[.bool x.ret, .int .i64 x.v, .int .i64 x.l]] := by unfold benc; rw [hxe]
    rw [hbe]
    have hxl : 0 ≤ x.l ∧ x.l < v.length := HLB.out x (List.mem_of_getElem? hx)
    have HX := Lib.hid hx
    have HNO := Lib.hid hno
    have HZ := Lib.hid hz
    have hin : i < n := by rw [← HNN.out]; exact hi
    have hkp : Ev.kept v x = (x.ret && Ev.at_ v x.l) := rfl
    have HKP := Lib.hid hkp
    have HK0 := Lib.hid k0
    have HK1 := Lib.hid k1
    have HK2 := Lib.hid k2
    have HB := Lib.hid hB
    clear hxe hx hno hbe hkp k0 k1 k2 hB hz b0 b1 b2 b3 hB0 c3 hbk
    generalize x.ret = xr at *
    generalize x.v = xv at *
    generalize x.l = xl at *
    gi_wp2
    refine hK _ _ (KeepsOthers.alloc _ _) (KpB.below ((Below.refl _ W).alloc (Nat.le_refl _) _) (by have := HZ.out; omega) (by have := HZ.out; omega)) ?_
    intro l' o o' hl' hcell ho
    have hbx := (Blk.new W 53 #[.bool xr, .int .i64 xv, .int .i64 xl]).putObj o' hcell ho
    have m0 := (HK0.out.alloc (.cells #[.bool xr, .int .i64 xv, .int .i64 xl] 53)).putObj o' hcell ho
    have m1 := (HK1.out.alloc (.cells #[.bool xr, .int .i64 xv, .int .i64 xl] 53)).putObj o' hcell ho
    have m2 := (HK2.out.alloc (.cells #[.bool xr, .int .i64 xv, .int .i64 xl] 53)).putObj o' hcell ho
    have hBX := (HB.out.alloc HB.out.size (.cells #[.bool xr, .int .i64 xv, .int .i64 xl] 53)).trans ((Below.refl w.heap.size _).grown (grownBy_putObj' (W.alloc (.cells #[.bool xr, .int .i64 xv, .int .i64 xl] 53)) l' o') (by have := HB.out.size; simp; omega) (fun k e => by cases e; omega))
    have hzX : w.heap.size + 4 ≤ ((W.alloc (.cells #[.bool xr, .int .i64 xv, .int .i64 xl] 53)).putObj l' o').heap.size := by have := HZ.out; simp; omega
    obtain ⟨X, hX⟩ : ∃ X, (W.alloc (.cells #[.bool xr, .int .i64 xv, .int .i64 xl] 53)).putObj l' o' = X := ⟨_, rfl⟩
    rw [hX] at hbx m0 m1 m2 hBX hzX
    obtain ⟨ad, k, hA, hadb, hkl, hk, hcv⟩ := vbs_at (HHV.out.below hBX) hxl
    subst hA hkl
    obtain ⟨sv, hsv⟩ : ∃ sv, Ev.at_ v ((k : Nat) : Int) = sv := ⟨_, rfl⟩
    rw [hsv] at hcv HKP
    have HM0 := Lib.hid m0
    have HM1 := Lib.hid m1
    have HM2 := Lib.hid m2
    have HBX := Lib.hid hBX
    have HZX := Lib.hid hzX
    have x0 : X.cell? ⟨W.heap.size, 0, none⟩ = some (.bool xr) := hbx.cell 0
    have x2 : X.cell? ⟨W.heap.size, 2, none⟩ = some (.int .i64 (k : Nat)) := hbx.cell 2
    have y0 : X.cell? ⟨w.heap.size, 0, none⟩ = some (.slice (some ad) v.length c) := m0.cell 0
    have y1 : X.cell? ⟨w.heap.size + 1, 0, none⟩ = some (.slice B n cs) := m1.cell 0
    have y2 : X.cell? ⟨w.heap.size + 1 + 1, 0, none⟩ = some (.slice none 0 0) := m2.cell 0
    have yf : X.frozen? ⟨w.heap.size + 1 + 1, 0, none⟩ = false := m2.frozen 0
    have hcap : (i + 1 ≤ cs) := by omega
    have hi9 : i ≤ 100000 := by omega
    clear m0 m1 m2 hBX hzX hbx hsv hxl hK
    cases xr
    · gi_wp2
      exact ⟨KeepsOthers.refl _, fun p hp => rfl, by rw [plv_snoc]; exact HNO.out.snoc HX.out HKP.out, HM0.out, HM1.out, HM2.out, HBX.out, HZX.out⟩
    · cases sv
      · gi_wp2
        exact ⟨KeepsOthers.refl _, fun p hp => rfl, by rw [plv_snoc]; exact HNO.out.snoc HX.out HKP.out, HM0.out, HM1.out, HM2.out, HBX.out, HZX.out⟩
      · gi_wp2
        exact ⟨KeepsOthers.setCell _ _ _, ⟨plv pre, i, x, plv_snoc _ _, HNO.out, HX.out, HKP.out, HM2.out.set_ 0 _, HBX.out.setCell (p := ⟨w.heap.size + 1 + 1, 0, none⟩) (by show w.heap.size ≤ w.heap.size + 1 + 1; omega) _⟩⟩
  case done =>
    rintro D xs W hD hxs ⟨hno, k0, k1, k2, hB, hz⟩ hK
    have hcn := crop_none (v := v) (s := s) (by rw [← hxs]; exact hno)
    have HCN := Lib.hid hcn
    have y2 : W.cell? ⟨w.heap.size + 1 + 1, 0, none⟩ = some (.slice none 0 0) := k2.cell 0
    have yf : W.frozen? ⟨w.heap.size + 1 + 1, 0, none⟩ = false := k2.frozen 0
    have HHW := Lib.hid (HHS.out.below hB)
    clear hno k0 k1 hxs hcn b0 b1 b2 b3 c3 hbk
    gi_wp2
    have hK' := (KeepsOthers.setCell W ⟨w.heap.size + 1 + 1, 0, none⟩ (.slice none 0 0)).same D _ hK rfl
    refine ⟨by simp, .inl ⟨_, _, rfl, run_takeDeferred hK', ?_⟩⟩
    have hc5 : _ = some (Value.slice none 0 0) := ((k2.set_ 0 (.slice none 0 0)).putObj (.deferred none) hK' rfl).cell 0
    refine ⟨.slice none 0 0, by simp [results, Try.f45, go_sem, hc5], none, 0, by rw [HCN.out], ?_, (hB.setCell (p := ⟨w.heap.size + 1 + 1, 0, none⟩) (by show w.heap.size ≤ w.heap.size + 1 + 1; omega) _).trans (belowK_b (w := w) (Nat.le_refl _) _ D _ _ (by omega) hK' rfl rfl)⟩
    unfold Ev.crop
    rw [HCN.out]
    exact Row.nil
  case stop =>
    rintro D pre W hD hpre ⟨pre', i, x, e1, e2, e3, e4, k2, hB⟩ hK
    rw [e1] at hpre
    have hcn := crop_at hpre e2 e3 e4
    have HCN := Lib.hid hcn
    clear e1 e2 e3 e4 hpre hcn b0 b1 b2 b3 c3 hbk
    gi_wp2
    refine ⟨by simp, .inl ⟨_, _, rfl, run_takeDeferred hK, ?_⟩⟩
    have hc5 : _ = some (Value.slice B (i + 1) cs) := (k2.putObj (.deferred none) hK rfl).cell 0
    have hB5 := hB.trans (belowK_b (w := w) (Nat.le_refl _) W D _ (.deferred none) (by omega) hK rfl rfl)
    refine ⟨.slice B (i + 1) cs, by simp [results, Try.f45, go_sem, hc5], B, cs, by rw [HCN.out], ?_, hB5⟩
    unfold Ev.crop
    rw [HCN.out, fcells_take svs_len]
    exact ((HHS.out.below hB5).more hB5.size).take _
end Go.Proofs.Ytlddglhjpiahfaa

/- The walk of package equiv's labelsOf (by gen_eqvj.py). -/
namespace Go.Proofs.Ytlddglhjpiahfaa
set_option maxRecDepth 100000
open Go.RowKit Go.Shelf Go.Sort
attribute [local go_sem] Oper.semAt_some
/-- A row of numbers, as a value. -/
def GotRow (l : List Int) (v : Value) (W : World) : Prop := ∃ A c, v = .slice A l.length c ∧ Row W W.heap.size A (ints l)
theorem GotRow.below {l : List Int} {v : Value} {W W' : World} (h : GotRow l v W) (hb : Below W.heap.size W W') : GotRow l v W' := by
  obtain ⟨A, c, e, hr⟩ := h
  exact ⟨A, c, e, (hr.below hb).more hb.size⟩
/-- What is known where some operations are done, and nothing that lay is written. -/
structure FJ (af : Nat → Value → World → Prop) (w0 : World) (done : Nat → Bool) (r : Nat → Value) (W : World) : Prop where
  below : Below w0.heap.size w0 W
  f : ∀ k, done k = true → af k (r k) W
section
variable {af : Nat → Value → World → Prop} {w0 : World} {done : Nat → Bool} {r : Nat → Value} {W W' : World}
theorem FJ.start (r : Nat → Value) : FJ af w0 (fun _ => false) r w0.drew := ⟨(Below.refl _ _).drew, fun _ h => by cases h⟩
theorem FJ.made (haf : ∀ k v W W', af k v W → Below W.heap.size W W' → af k v W') (h : FJ af w0 done r W) {k : Nat} {v : Value} (hb : Below W.heap.size W W') (ha : af k v W') : FJ af w0 (Free.upd done k) (Free.updR r k v) W' := by
  refine ⟨h.below.trans (hb.mono h.below.size), fun j hj => ?_⟩
  unfold Free.upd at hj
  unfold Free.updR
  by_cases e : j = k
  · subst e; rw [if_pos rfl]; exact ha
  · rw [if_neg e] at hj ⊢; exact haf _ _ _ _ (h.f j hj) hb
end
def lofAf (l1 l2 l3 l4 l5 : List Int) (k : Nat) (v : Value) (W : World) : Prop :=
  match k with
  | 3 => GotRow l1 v W
  | 6 => v = howI
  | 7 => GotRow l2 v W
  | 10 => v = howA
  | 11 => GotRow l3 v W
  | 14 => v = howS
  | 15 => GotRow l4 v W
  | 18 => v = howA
  | 19 => GotRow l5 v W
  | 20 => ∃ b, v = .slice (some ⟨b, 0, none⟩) 5 5 ∧ IntsAt W b [l1, l2, l3, l4, l5]
  | 21 => GotRow [l1, l2, l3, l4, l5].flatten v W
  | 22 => GotRow [l1, l2, l3, l4, l5].flatten v W
  | _ => True
theorem lofAf.below {l1 l2 l3 l4 l5 : List Int} (k : Nat) (v : Value) (W W' : World) (h : lofAf l1 l2 l3 l4 l5 k v W) (hb : Below W.heap.size W W') : lofAf l1 l2 l3 l4 l5 k v W' := by
  unfold lofAf at h ⊢
  split
  all_goals first | exact GotRow.below h hb | exact h | trivial | (obtain ⟨b, e, hi⟩ := h; exact ⟨b, e, hi.below hb⟩)
theorem ints_five {w : World} {A1 A2 A3 A4 A5 : Option Addr} {c1 c2 c3 c4 c5 : Nat} {l1 l2 l3 l4 l5 : List Int} (g : Nat)
    (hk : Blk w g 83 #[.slice A1 l1.length c1, .slice A2 l2.length c2, .slice A3 l3.length c3, .slice A4 l4.length c4, .slice A5 l5.length c5]) (r1 : Row w w.heap.size A1 (ints l1)) (r2 : Row w w.heap.size A2 (ints l2)) (r3 : Row w w.heap.size A3 (ints l3)) (r4 : Row w w.heap.size A4 (ints l4)) (r5 : Row w w.heap.size A5 (ints l5)) : IntsAt w g [l1, l2, l3, l4, l5] := fun k l hl => by
  match k, hl with
  | 0, hl => simp at hl; subst hl; exact ⟨A1, c1, hk.cell 0, r1⟩
  | 1, hl => simp at hl; subst hl; exact ⟨A2, c2, hk.cell 1, r2⟩
  | 2, hl => simp at hl; subst hl; exact ⟨A3, c3, hk.cell 2, r3⟩
  | 3, hl => simp at hl; subst hl; exact ⟨A4, c4, hk.cell 3, r4⟩
  | 4, hl => simp at hl; subst hl; exact ⟨A5, c5, hk.cell 4, r5⟩
theorem flat_five (l1 l2 l3 l4 l5 : List Int) : [l1, l2, l3, l4, l5].flatten = l1 ++ (l2 ++ (l3 ++ (l4 ++ l5))) := by simp
/-- No row is longer than 15. -/
def Fif (s : St.State) : Prop := s.code.length ≤ 15 ∧ s.mem.length ≤ 15 ∧ s.stack.length ≤ 15 ∧ s.out.length ≤ 15
/-- What labelsOf tells. -/
def LabsGot (ls : List Int) (w : World) (e : Ending) (w' : World) : Prop := ∃ A c, e = .returned (.slice A ls.length c) ∧ Row w' w'.heap.size A (ints ls) ∧ Below w.heap.size w w'

set_option maxRecDepth 100000 in
set_option maxHeartbeats 16000000 in
theorem labelsOf_any {sv : Value} {s : St.State} (w : World) (h : IsSt w w.heap.size sv s) (hsm : Fif s) : Calls Try.prog 41 #[sv] w (LabsGot (Ev.labsOf s) w) := by
  obtain ⟨cv, mv, stv_, ov, rfl, ⟨cA, cc, rfl, hcr, -⟩, ⟨mA, mc, rfl, hmr, -⟩, ⟨sA, sc, rfl, hsr, -⟩, ⟨oA, oc, rfl, hor, -⟩⟩ := h
  obtain ⟨h1, h2, h3, h4⟩ := hsm
  unfold stv
  obtain ⟨W0, hW0⟩ : ∃ W0, w.alloc (.cells #[.int .i64 s.pc.v, .int .i64 s.pc.l, .slice cA s.code.length cc, .slice mA s.mem.length mc, .slice sA s.stack.length sc, .slice oA s.out.length oc] 32) = W0 := ⟨_, rfl⟩
  have hb0 : Below w.heap.size w W0 := hW0 ▸ (Below.refl _ w).alloc (Nat.le_refl _) _
  have hp0 : Blk W0 w.heap.size 32 #[.int .i64 s.pc.v, .int .i64 s.pc.l, .slice cA s.code.length cc, .slice mA s.mem.length mc, .slice sA s.stack.length sc, .slice oA s.out.length oc] := hW0 ▸ Blk.new _ _ _
  have l1 := fun W (hb : Below W0.heap.size W0 W) => labelsI_any (a := s.code) cc W ((hcr.below (hb0.trans (hb.mono hb0.size))).more (Nat.le_trans hb0.size hb.size)) (by omega)
  have l2 := fun W (hb : Below W0.heap.size W0 W) => labelsA_any (a := s.mem) mc W ((hmr.below (hb0.trans (hb.mono hb0.size))).more (Nat.le_trans hb0.size hb.size)) (by omega)
  have l3 := fun W (hb : Below W0.heap.size W0 W) => labelsS_any (a := s.stack) sc W ((hsr.below (hb0.trans (hb.mono hb0.size))).more (Nat.le_trans hb0.size hb.size)) (by omega)
  have l4 := fun W (hb : Below W0.heap.size W0 W) => labelsA_any (a := s.out) oc W ((hor.below (hb0.trans (hb.mono hb0.size))).more (Nat.le_trans hb0.size hb.size)) (by omega)
  have hcc := fun g c W (hi : IntsAt W g [[s.pc.l], s.code.map (·.l), s.mem.map (·.l), s.stack.map (·.l), s.out.map (·.l)]) => concatE_any g c W hi (by rw [flat_five]; simp) (by rw [flat_five]; simp; omega) (by simp)
  have hls : Ev.labsOf s = [[s.pc.l], s.code.map (·.l), s.mem.map (·.l), s.stack.map (·.l), s.out.map (·.l)].flatten := (flat_five _ _ _ _ _).symm
  rw [hls]
  generalize s.code.map (·.l) = lI at *
  generalize s.mem.map (·.l) = lM at *
  generalize s.stack.map (·.l) = lS at *
  generalize s.out.map (·.l) = lO at *
  have HL5 := Lib.hid l1
  have HL9 := Lib.hid l2
  have HL13 := Lib.hid l3
  have HL17 := Lib.hid l4
  have HCC := Lib.hid hcc
  have HB := Lib.hid hb0
  have HP := Lib.hid hp0
  clear l1 l2 l3 l4 hcc hb0 hp0 hcr hmr hsr hor hls h1 h2 h3 h4
  go_enter Try.func41, Try.ntmps41
  go_wp2_with (fail)
  clear hW0
  refine Free.region_each (by kernel_rfl) (by kernel_rfl)
    (fun k => [some (.pointer (some ⟨w.heap.size, 0, none⟩)), some (.pointer (some ⟨w.heap.size, 1, none⟩)), some (.int .i64 s.pc.l), none, some (.pointer (some ⟨w.heap.size, 2, none⟩)), some (.slice cA s.code.length cc), none, none, some (.pointer (some ⟨w.heap.size, 3, none⟩)), some (.slice mA s.mem.length mc), none, none, some (.pointer (some ⟨w.heap.size, 4, none⟩)), some (.slice sA s.stack.length sc), none, none, some (.pointer (some ⟨w.heap.size, 5, none⟩)), some (.slice oA s.out.length oc), none, none, none, none, none].getD k none)
    (FJ (lofAf [s.pc.l] lI lM lS lO) W0) (fun _ => undef) ?_ ?_ ?_
  · exact FJ.start _
  · refine ⟨?_, ?_, ?_, ?_, ?_, ?_, ?_, ?_, ?_, ?_, ?_, ?_, ?_, ?_, ?_, ?_, ?_, ?_, ?_, ?_, ?_, ?_, ?_, trivial⟩
    · refine Free.step_val _ rfl rfl fun done r W ρ hρ hcst hfun hJ hV hC hd hdeps => ?_
      have e0 : ρ (.tmp 1) = .pointer (some ⟨w.heap.size, 0, none⟩) := by rw [hρ]; rfl
      clear hρ
      refine ⟨?_, hJ.made lofAf.below (Below.refl _ _) trivial⟩
      go_simp
    · refine Free.step_val _ rfl rfl fun done r W ρ hρ hcst hfun hJ hV hC hd hdeps => ?_
      have e0 : ρ (.tmp 3) = .pointer (some ⟨w.heap.size, 0, none⟩) := by rw [hρ]; exact hV 0 _ (hdeps 0 (by decide)) rfl
      clear hρ
      refine ⟨?_, hJ.made lofAf.below (Below.refl _ _) trivial⟩
      go_simp
    · refine Free.step_val _ rfl rfl fun done r W ρ hρ hcst hfun hJ hV hC hd hdeps => ?_
      have e0 : ρ (.tmp 4) = .pointer (some ⟨w.heap.size, 1, none⟩) := by rw [hρ]; exact hV 1 _ (hdeps 1 (by decide)) rfl
      have c0 : W.cell? ⟨w.heap.size, 1, none⟩ = some (.int .i64 s.pc.l) := (HP.out.below hJ.below HP.out.lt).cell 1
      clear hρ
      refine ⟨?_, hJ.made lofAf.below (Below.refl _ _) trivial⟩
      go_simp
    · refine Free.step_any rfl rfl fun done r W ρ hρ hcst hfun hJ hV hC hd hdeps => ?_
      have e0 : ρ (.tmp 5) = .int .i64 s.pc.l := by rw [hρ]; exact hV 2 _ (hdeps 2 (by decide)) rfl
      clear hρ
      have hf := hJ.made lofAf.below (k := 3) (v := .slice (some ⟨W.heap.size, 0, none⟩) 1 1) ((Below.refl _ W).alloc (Nat.le_refl _) (.cells #[.int .i64 s.pc.l] 3)) ⟨some ⟨W.heap.size, 0, none⟩, 1, rfl, one_row W _ _⟩
      go_simp
      exact hf
    · refine Free.step_val _ rfl rfl fun done r W ρ hρ hcst hfun hJ hV hC hd hdeps => ?_
      have e0 : ρ (.tmp 1) = .pointer (some ⟨w.heap.size, 0, none⟩) := by rw [hρ]; rfl
      clear hρ
      refine ⟨?_, hJ.made lofAf.below (Below.refl _ _) trivial⟩
      go_simp
    · refine Free.step_val _ rfl rfl fun done r W ρ hρ hcst hfun hJ hV hC hd hdeps => ?_
      have e0 : ρ (.tmp 7) = .pointer (some ⟨w.heap.size, 2, none⟩) := by rw [hρ]; exact hV 4 _ (hdeps 4 (by decide)) rfl
      have c0 : W.cell? ⟨w.heap.size, 2, none⟩ = some (.slice cA s.code.length cc) := (HP.out.below hJ.below HP.out.lt).cell 2
      clear hρ
      refine ⟨?_, hJ.made lofAf.below (Below.refl _ _) trivial⟩
      go_simp
    · refine Free.step_any rfl rfl fun done r W ρ hρ hcst hfun hJ hV hC hd hdeps => ?_
      clear hρ
      go_simp
      exact (howI_any W).mono fun e w' ⟨he, hb⟩ => ⟨_, he, hJ.made lofAf.below hb rfl⟩
    · refine Free.step_any rfl rfl fun done r W ρ hρ hcst hfun hJ hV hC hd hdeps => ?_
      have e0 : ρ (.tmp 8) = .slice cA s.code.length cc := by rw [hρ]; exact hV 5 _ (hdeps 5 (by decide)) rfl
      have e1 : ρ (.tmp 9) = howI := by rw [hρ]; exact hJ.f 6 (hdeps 6 (by decide))
      clear hρ
      go_simp
      exact (HL5.out W hJ.below).mono fun e w' ⟨A, c, he, ho, hb⟩ => ⟨_, he, hJ.made lofAf.below hb ⟨A, c, rfl, (ownT_row ho).1⟩⟩
    · refine Free.step_val _ rfl rfl fun done r W ρ hρ hcst hfun hJ hV hC hd hdeps => ?_
      have e0 : ρ (.tmp 1) = .pointer (some ⟨w.heap.size, 0, none⟩) := by rw [hρ]; rfl
      clear hρ
      refine ⟨?_, hJ.made lofAf.below (Below.refl _ _) trivial⟩
      go_simp
    · refine Free.step_val _ rfl rfl fun done r W ρ hρ hcst hfun hJ hV hC hd hdeps => ?_
      have e0 : ρ (.tmp 11) = .pointer (some ⟨w.heap.size, 3, none⟩) := by rw [hρ]; exact hV 8 _ (hdeps 8 (by decide)) rfl
      have c0 : W.cell? ⟨w.heap.size, 3, none⟩ = some (.slice mA s.mem.length mc) := (HP.out.below hJ.below HP.out.lt).cell 3
      clear hρ
      refine ⟨?_, hJ.made lofAf.below (Below.refl _ _) trivial⟩
      go_simp
    · refine Free.step_any rfl rfl fun done r W ρ hρ hcst hfun hJ hV hC hd hdeps => ?_
      clear hρ
      go_simp
      exact (howA_any W).mono fun e w' ⟨he, hb⟩ => ⟨_, he, hJ.made lofAf.below hb rfl⟩
    · refine Free.step_any rfl rfl fun done r W ρ hρ hcst hfun hJ hV hC hd hdeps => ?_
      have e0 : ρ (.tmp 12) = .slice mA s.mem.length mc := by rw [hρ]; exact hV 9 _ (hdeps 9 (by decide)) rfl
      have e1 : ρ (.tmp 13) = howA := by rw [hρ]; exact hJ.f 10 (hdeps 10 (by decide))
      clear hρ
      go_simp
      exact (HL9.out W hJ.below).mono fun e w' ⟨A, c, he, ho, hb⟩ => ⟨_, he, hJ.made lofAf.below hb ⟨A, c, rfl, (ownT_row ho).1⟩⟩
    · refine Free.step_val _ rfl rfl fun done r W ρ hρ hcst hfun hJ hV hC hd hdeps => ?_
      have e0 : ρ (.tmp 1) = .pointer (some ⟨w.heap.size, 0, none⟩) := by rw [hρ]; rfl
      clear hρ
      refine ⟨?_, hJ.made lofAf.below (Below.refl _ _) trivial⟩
      go_simp
    · refine Free.step_val _ rfl rfl fun done r W ρ hρ hcst hfun hJ hV hC hd hdeps => ?_
      have e0 : ρ (.tmp 15) = .pointer (some ⟨w.heap.size, 4, none⟩) := by rw [hρ]; exact hV 12 _ (hdeps 12 (by decide)) rfl
      have c0 : W.cell? ⟨w.heap.size, 4, none⟩ = some (.slice sA s.stack.length sc) := (HP.out.below hJ.below HP.out.lt).cell 4
      clear hρ
      refine ⟨?_, hJ.made lofAf.below (Below.refl _ _) trivial⟩
      go_simp
    · refine Free.step_any rfl rfl fun done r W ρ hρ hcst hfun hJ hV hC hd hdeps => ?_
      clear hρ
      go_simp
      exact (howS_any W).mono fun e w' ⟨he, hb⟩ => ⟨_, he, hJ.made lofAf.below hb rfl⟩
    · refine Free.step_any rfl rfl fun done r W ρ hρ hcst hfun hJ hV hC hd hdeps => ?_
      have e0 : ρ (.tmp 16) = .slice sA s.stack.length sc := by rw [hρ]; exact hV 13 _ (hdeps 13 (by decide)) rfl
      have e1 : ρ (.tmp 17) = howS := by rw [hρ]; exact hJ.f 14 (hdeps 14 (by decide))
      clear hρ
      go_simp
      exact (HL13.out W hJ.below).mono fun e w' ⟨A, c, he, ho, hb⟩ => ⟨_, he, hJ.made lofAf.below hb ⟨A, c, rfl, (ownT_row ho).1⟩⟩
    · refine Free.step_val _ rfl rfl fun done r W ρ hρ hcst hfun hJ hV hC hd hdeps => ?_
      have e0 : ρ (.tmp 1) = .pointer (some ⟨w.heap.size, 0, none⟩) := by rw [hρ]; rfl
      clear hρ
      refine ⟨?_, hJ.made lofAf.below (Below.refl _ _) trivial⟩
      go_simp
    · refine Free.step_val _ rfl rfl fun done r W ρ hρ hcst hfun hJ hV hC hd hdeps => ?_
      have e0 : ρ (.tmp 19) = .pointer (some ⟨w.heap.size, 5, none⟩) := by rw [hρ]; exact hV 16 _ (hdeps 16 (by decide)) rfl
      have c0 : W.cell? ⟨w.heap.size, 5, none⟩ = some (.slice oA s.out.length oc) := (HP.out.below hJ.below HP.out.lt).cell 5
      clear hρ
      refine ⟨?_, hJ.made lofAf.below (Below.refl _ _) trivial⟩
      go_simp
    · refine Free.step_any rfl rfl fun done r W ρ hρ hcst hfun hJ hV hC hd hdeps => ?_
      clear hρ
      go_simp
      exact (howA_any W).mono fun e w' ⟨he, hb⟩ => ⟨_, he, hJ.made lofAf.below hb rfl⟩
    · refine Free.step_any rfl rfl fun done r W ρ hρ hcst hfun hJ hV hC hd hdeps => ?_
      have e0 : ρ (.tmp 20) = .slice oA s.out.length oc := by rw [hρ]; exact hV 17 _ (hdeps 17 (by decide)) rfl
      have e1 : ρ (.tmp 21) = howA := by rw [hρ]; exact hJ.f 18 (hdeps 18 (by decide))
      clear hρ
      go_simp
      exact (HL17.out W hJ.below).mono fun e w' ⟨A, c, he, ho, hb⟩ => ⟨_, he, hJ.made lofAf.below hb ⟨A, c, rfl, (ownT_row ho).1⟩⟩
    · refine Free.step_any rfl rfl fun done r W ρ hρ hcst hfun hJ hV hC hd hdeps => ?_
      have e0 : ρ (.tmp 6) = r 3 := by rw [hρ]; rfl
      have e1 : ρ (.tmp 10) = r 7 := by rw [hρ]; rfl
      have e2 : ρ (.tmp 14) = r 11 := by rw [hρ]; rfl
      have e3 : ρ (.tmp 18) = r 15 := by rw [hρ]; rfl
      have e4 : ρ (.tmp 22) = r 19 := by rw [hρ]; rfl
      obtain ⟨A1, k1, h1, q1⟩ := hJ.f 3 (hdeps 3 (by decide))
      obtain ⟨A2, k2, h2, q2⟩ := hJ.f 7 (hdeps 7 (by decide))
      obtain ⟨A3, k3, h3, q3⟩ := hJ.f 11 (hdeps 11 (by decide))
      obtain ⟨A4, k4, h4, q4⟩ := hJ.f 15 (hdeps 15 (by decide))
      obtain ⟨A5, k5, h5, q5⟩ := hJ.f 19 (hdeps 19 (by decide))
      rw [h1] at e0
      rw [h2] at e1
      rw [h3] at e2
      rw [h4] at e3
      rw [h5] at e4
      have hb := (Below.refl _ W).alloc (Nat.le_refl _) (.cells #[.slice A1 [s.pc.l].length k1, .slice A2 lI.length k2, .slice A3 lM.length k3, .slice A4 lS.length k4, .slice A5 lO.length k5] 83)
      have hf := hJ.made lofAf.below (k := 20) (v := .slice (some ⟨W.heap.size, 0, none⟩) 5 5) hb ⟨W.heap.size, rfl, ints_five _ (Blk.new _ _ _) ((q1.below hb).more hb.size) ((q2.below hb).more hb.size) ((q3.below hb).more hb.size) ((q4.below hb).more hb.size) ((q5.below hb).more hb.size)⟩
      clear hρ h1 h2 h3 h4 h5 q1 q2 q3 q4 q5 hb
      go_simp
      exact hf
    · refine Free.step_any rfl rfl fun done r W ρ hρ hcst hfun hJ hV hC hd hdeps => ?_
      have e0 : ρ (.tmp 23) = r 20 := by rw [hρ]; rfl
      obtain ⟨b, h1, hi⟩ := hJ.f 20 (hdeps 20 (by decide))
      rw [h1] at e0
      have hc := HCC.out b 5 W hi
      clear hρ h1 hi
      go_simp
      exact hc.mono fun e w' ⟨A, c, he, ho, hb⟩ => ⟨_, he, hJ.made lofAf.below hb ⟨A, c, rfl, (ownT_row ho).1⟩⟩
    · refine Free.step_any rfl rfl fun done r W ρ hρ hcst hfun hJ hV hC hd hdeps => ?_
      have e0 : ρ (.tmp 24) = r 21 := by rw [hρ]; rfl
      have hx := hJ.f 21 (hdeps 21 (by decide))
      have hf := hJ.made lofAf.below (k := 22) (v := r 21) (Below.refl _ _) hx
      clear hρ hx
      go_simp
      exact hf
  · intro done r W hall hJ hV
    obtain ⟨A, c, h22, hrow⟩ := hJ.f 22 (hall 22 (by decide))
    simp only [Free.putAll, Nat.zero_add, h22]
    have HBW := Lib.hid (HB.out.trans (hJ.below.mono HB.out.size))
    have HR := Lib.hid hrow
    clear hJ hV hall h22 hrow
    generalize r 0 = r0
    generalize r 1 = r1
    generalize r 2 = r2
    generalize r 3 = r3
    generalize r 4 = r4
    generalize r 5 = r5
    generalize r 6 = r6
    generalize r 7 = r7
    generalize r 8 = r8
    generalize r 9 = r9
    generalize r 10 = r10
    generalize r 11 = r11
    generalize r 12 = r12
    generalize r 13 = r13
    generalize r 14 = r14
    generalize r 15 = r15
    generalize r 16 = r16
    generalize r 17 = r17
    generalize r 18 = r18
    generalize r 19 = r19
    generalize r 20 = r20
    generalize r 21 = r21
    simp only [Act.put, List.setIfInBounds_toArray, List.set_cons_zero, List.set_cons_succ]
    go_wp2
    go_ret
    exact ⟨A, c, rfl, HR.out, HBW.out⟩
end Go.Proofs.Ytlddglhjpiahfaa

/- Walks of package equiv's places and states. -/
namespace Go.Proofs.Ytlddglhjpiahfaa
set_option maxRecDepth 100000
open Go.RowKit Go.Shelf Go.Sort
attribute [local go_sem] Oper.semAt_some
/-- A region's operations, behind a name. -/
theorem quiet_hideE {P : Program} {C : World → Prop} {Q : Act → Prop} {l : List Oper} {a : Act} (h : ∀ ops, ops = l.toArray → wpQuiet P ops C Q l a) : wpQuiet P l.toArray C Q l a := h _ rfl
/-- All labels of a state are places of the view. -/
def LabsIn (n : Nat) (s : St.State) : Prop := ∀ l ∈ Ev.labsOf s, 0 ≤ l ∧ l < n
section
variable {n : Nat} {s : St.State} (h : LabsIn n s)
include h
theorem LabsIn.pc : 0 ≤ s.pc.l ∧ s.pc.l < n := h _ (by unfold Ev.labsOf; simp)
theorem LabsIn.code : LabIn (·.l) n s.code := fun x hx => h _ (by unfold Ev.labsOf; simp only [List.mem_append, List.mem_map]; exact .inr (.inl ⟨x, hx, rfl⟩))
theorem LabsIn.mem : LabIn (·.l) n s.mem := fun x hx => h _ (by unfold Ev.labsOf; simp only [List.mem_append, List.mem_map]; exact .inr (.inr (.inl ⟨x, hx, rfl⟩)))
theorem LabsIn.stack : LabIn (·.l) n s.stack := fun x hx => h _ (by unfold Ev.labsOf; simp only [List.mem_append, List.mem_map]; exact .inr (.inr (.inr (.inl ⟨x, hx, rfl⟩))))
theorem LabsIn.out : LabIn (·.l) n s.out := fun x hx => h _ (by unfold Ev.labsOf; simp only [List.mem_append, List.mem_map]; exact .inr (.inr (.inr (.inr ⟨x, hx, rfl⟩))))
end
theorem LabIn.take {α : Type} {lab : α → Int} {n : Nat} {l : List α} (h : LabIn lab n l) (k : Nat) : LabIn lab n (l.take k) := fun x hx => h x (List.mem_of_mem_take hx)
set_option maxRecDepth 100000 in
set_option maxHeartbeats 16000000 in
theorem places_any {A : Option Addr} {v : List Bool} {sv tv : Value} {s t : St.State} (c : Nat) (w : World) (h : Row w w.heap.size A (vbs v)) (hs : IsSt w w.heap.size sv s) (ht : IsSt w w.heap.size tv t) (hsf : Fif s) (htf : Fif t) (hsl : LabsIn v.length s) (htl : LabsIn v.length t) :
    Calls Try.prog 70 #[.slice A v.length c, sv, tv] w (Tells w (Ev.places v s t)) := by
  obtain ⟨cv, mv, stv_, ov, rfl, ⟨cA, cc, rfl, hcr, -⟩, ⟨mA, mc, rfl, hmr, -⟩, ⟨sA, sc, rfl, hsr, hsc⟩, ⟨oA, oc, rfl, hor, -⟩⟩ := hs
  obtain ⟨cv', mv', stv', ov', rfl, ⟨cB, cd, rfl, hcr', -⟩, ⟨mB, md, rfl, hmr', -⟩, ⟨sB, sd, rfl, hsr', hsd⟩, ⟨oB, od, rfl, hor', -⟩⟩ := ht
  unfold stv
  have hp1 := hsl.pc
  have hp2 := htl.pc
  have hs1 := hsl.stack
  have hs2 := htl.stack
  have hf1 := hsf.2.2.1
  have hf2 := htf.2.2.1
  have hpl : Ev.places v s t = if Ev.at_ v s.pc.l = true then (if Ev.at_ v t.pc.l = true then decide (s.pc = t.pc) && Ev.alike (Ev.seenS v) s.stack t.stack else false)
    else if Ev.at_ v t.pc.l = true then false else Ev.alike (Ev.seenS v) (Ev.crop v s.stack) (Ev.crop v t.stack) := rfl
  rw [hpl]
  obtain ⟨⟨av, al⟩, acode, amem, astack, aout⟩ := s
  obtain ⟨⟨bv, bl⟩, bcode, bmem, bstack, bout⟩ := t
  dsimp only at hcr hmr hsr hsc hor hcr' hmr' hsr' hsd hor' hp1 hp2 hs1 hs2 hf1 hf2 ⊢
  obtain ⟨ad, ka, rfl, hadb, rfl, hka, hca⟩ := vbs_at h hp1
  obtain ⟨_, kb, he, -, rfl, hkb, hcb⟩ := vbs_at h hp2
  injection he with he
  subst he
  have h1 := fun (a b : List St.Slot) (P Q : Option Addr) cp cq W (hb : Below w.heap.size w W) (hr1 : Row W W.heap.size P (fcells svs a)) (hr2 : Row W W.heap.size Q (fcells svs b)) (hl1 : LabIn (·.l) v.length a) (hl2 : LabIn (·.l) v.length b) (hn : a.length ≤ 1000000) => alikeS_any (A := some ad) c cp cq W ((h.below hb).more hb.size) hr1 hr2 hl1 hl2 hn
  have hcr1 := fun W (hb : Below w.heap.size w W) => crop_any (A := some ad) (B := sA) c sc W ((h.below hb).more hb.size) ((hsr.below hb).more hb.size) hs1 (by omega) hsc
  have hcr2 := fun W (hb : Below w.heap.size w W) => crop_any (A := some ad) (B := sB) c sd W ((h.below hb).more hb.size) ((hsr'.below hb).more hb.size) hs2 (by omega) hsd
  obtain ⟨W0, hW0⟩ : ∃ W0, (w.alloc (.cells #[.int .i64 av, .int .i64 (ka : Nat), .slice cA acode.length cc, .slice mA amem.length mc, .slice sA astack.length sc, .slice oA aout.length oc] 32)).alloc (.cells #[.int .i64 bv, .int .i64 (kb : Nat), .slice cB bcode.length cd, .slice mB bmem.length md, .slice sB bstack.length sd, .slice oB bout.length od] 32) = W0 := ⟨_, rfl⟩
  have hb0 : Below w.heap.size w W0 := hW0 ▸ ((Below.refl _ w).alloc (Nat.le_refl _) _).alloc (by simp) _
  have hk0 : Blk W0 w.heap.size 32 #[.int .i64 av, .int .i64 (ka : Nat), .slice cA acode.length cc, .slice mA amem.length mc, .slice sA astack.length sc, .slice oA aout.length oc] := hW0 ▸ (Blk.new _ _ _).alloc _
  have hk1 : Blk W0 (w.heap.size + 1) 32 #[.int .i64 bv, .int .i64 (kb : Nat), .slice cB bcode.length cd, .slice mB bmem.length md, .slice sB bstack.length sd, .slice oB bout.length od] := by
    rw [← hW0]; exact Blk.new' _ _ _ _ (by simp)
  have hca0 := (hb0.cell (p := ad.add ka) (by rw [add_block]; exact hadb)).trans hca
  have hcb0 := (hb0.cell (p := ad.add kb) (by rw [add_block]; exact hadb)).trans hcb
  have heq := fun w => run_at_eql ⟨av, (ka : Nat)⟩ ⟨bv, (kb : Nat)⟩ w
  dsimp only at heq
  have HAL := Lib.hid h1
  have HC1 := Lib.hid hcr1
  have HC2 := Lib.hid hcr2
  have HB0 := Lib.hid hb0
  have HK0 := Lib.hid hk0
  have HK1 := Lib.hid hk1
  have HSA := Lib.hid hsr
  have HSB := Lib.hid hsr'
  have HS1 := Lib.hid hs1
  have HS2 := Lib.hid hs2
  have hdp : decide ((⟨av, (ka : Nat)⟩ : St.Atom) = ⟨bv, (kb : Nat)⟩) = decide ((⟨av, (ka : Nat)⟩ : St.Atom) = ⟨bv, (kb : Nat)⟩) := rfl
  have x0 : W0.cell? ⟨w.heap.size, 0, none⟩ = some (.int .i64 av) := hk0.cell 0
  have x1 : W0.cell? ⟨w.heap.size, 1, none⟩ = some (.int .i64 (ka : Nat)) := hk0.cell 1
  have x4 : W0.cell? ⟨w.heap.size, 4, none⟩ = some (.slice sA astack.length sc) := hk0.cell 4
  have y0 : W0.cell? ⟨w.heap.size + 1, 0, none⟩ = some (.int .i64 bv) := hk1.cell 0
  have y1 : W0.cell? ⟨w.heap.size + 1, 1, none⟩ = some (.int .i64 (kb : Nat)) := hk1.cell 1
  have y4 : W0.cell? ⟨w.heap.size + 1, 4, none⟩ = some (.slice sB bstack.length sd) := hk1.cell 4
  have hvb : ad.block < W0.heap.size := Nat.lt_of_lt_of_le hadb hb0.size
  clear h hb0 hk0 hk1 hcr hmr hsr hor hcr' hmr' hsr' hor' hs1 hs2 hp1 hp2 h1 hcr1 hcr2 hpl hsf htf hsl htl hca hcb hdp
  generalize Ev.at_ v ((ka : Nat) : Int) = here at *
  generalize Ev.at_ v ((kb : Nat) : Int) = there at *
  generalize decide ((⟨av, (ka : Nat)⟩ : St.Atom) = ⟨bv, (kb : Nat)⟩) = pq at *
  cases here
  · cases there
    · rw [if_neg (by decide), if_neg (by decide)]
      have hfin := fun (P Q : Option Addr) cp cq W (hb : Below w.heap.size w W) (hr1 : Row W W.heap.size P (fcells svs (Ev.crop v astack))) (hr2 : Row W W.heap.size Q (fcells svs (Ev.crop v bstack))) => HAL.out _ _ P Q cp cq W hb hr1 hr2 (HS1.out.take _) (HS2.out.take _) (by rw [Ev.crop_len]; have := Ev.cropN_le v astack; omega)
      simp only [Ev.crop_len] at hfin
      unfold howS at hfin
      generalize Ev.alike (Ev.seenS v) (Ev.crop v astack) (Ev.crop v bstack) = ans at *
      generalize Ev.crop v astack = ra at *
      generalize Ev.crop v bstack = rb at *
      generalize Ev.cropN v astack = na at *
      generalize Ev.cropN v bstack = nb at *
      have HFIN := Lib.hid hfin
      have HHOW := Lib.hid (fun W => howS_any W)
      unfold howS at HHOW
      clear hfin
      go_enter Try.func70, Try.ntmps70
      go_wp2_with (fail)
      go_quiet (fail)
      go_wp2_with (fail)
      have hd := below_drawn (Below.refl W0.heap.size W0) nq
      obtain ⟨W1, hW1⟩ : ∃ W1, W0.drewN nq = W1 := ⟨_, rfl⟩
      rw [hW1] at hd ⊢
      have hb1 := HB0.out.trans (hd.mono HB0.out.size)
      have hk0 := HK0.out.below hd HK0.out.lt
      have hk1 := HK1.out.below hd HK1.out.lt
      have HB1 := Lib.hid hb1
      have HKA := Lib.hid hk0
      have HKB := Lib.hid hk1
      clear hW0 hW1 x0 x1 x4 y0 y1 y4 hca0 hcb0 heq hd hb1
      have x4 : W1.cell? ⟨w.heap.size, 4, none⟩ = some (.slice sA astack.length sc) := hk0.cell 4
      have y4 : W1.cell? ⟨w.heap.size + 1, 4, none⟩ = some (.slice sB bstack.length sd) := hk1.cell 4
      clear hk0 hk1
      refine Free.region_seq [4, 8, 9, 10] [3, 7] 10 (fun W' => W'.cell? ⟨w.heap.size, 4, none⟩ = some (.slice sA astack.length sc) ∧ W'.cell? ⟨w.heap.size + 1, 4, none⟩ = some (.slice sB bstack.length sd)) (by kernel_rfl) (by kernel_rfl) (by kernel_rfl) (by kernel_rfl) (⟨x4, y4⟩) (fun ops hops => ?_)
      clear hops
      iterate 4
        refine Free.Seq.quiet (v := ?_) (a' := ?_) rfl rfl (fun W' hW' => ?_) ?_ ?_
        rotate_left 2
        · first | obtain ⟨s0, s1⟩ := hW' rfl | skip
          go_simp
          try with_reducible rfl
        · simp only [Act.put, List.setIfInBounds_toArray, List.set_cons_zero, List.set_cons_succ]
          try with_reducible rfl
      refine Free.Seq.loud_ rfl (.inl rfl) (fun K hK => ?_)
      go_simp
      refine (HC1.out W1.drew HB1.out.drew).mono ?_
      rintro e w2 ⟨P, cp, rfl, hr2, hb2⟩
      have hb2 := (Below.refl _ W1).drew.trans hb2
      have hB2 := HB1.out.trans (hb2.mono HB1.out.size)
      have ha2 := HKA.out.below hb2 HKA.out.lt
      have hb2' := HKB.out.below hb2 HKB.out.lt
      have HB2 := Lib.hid hB2
      have HR2 := Lib.hid hr2
      have HKA2 := Lib.hid ha2
      have HKB2 := Lib.hid hb2'
      refine hK.out _ _ rfl (fun _ => ⟨ha2.cell 4, hb2'.cell 4⟩) ?_
      clear hK K hb2 hB2 ha2 hb2' hr2
      iterate 3
        refine Free.Seq.quiet (v := ?_) (a' := ?_) rfl rfl (fun W' hW' => ?_) ?_ ?_
        rotate_left 2
        · first | obtain ⟨s0, s1⟩ := hW' rfl | skip
          go_simp
          try with_reducible rfl
        · simp only [Act.put, List.setIfInBounds_toArray, List.set_cons_zero, List.set_cons_succ]
          try with_reducible rfl
      refine Free.Seq.loud_ rfl (.inl rfl) (fun K hK => ?_)
      go_simp
      refine (HC2.out w2 HB2.out).mono ?_
      rintro e w3 ⟨Q, cq, rfl, hr3, hb3⟩
      have HB3 := Lib.hid (HB2.out.trans (hb3.mono HB2.out.size))
      have HR2b := Lib.hid ((HR2.out.below hb3).more hb3.size)
      have HR3 := Lib.hid hr3
      have ha3 := HKA2.out.below hb3 HKA2.out.lt
      have hb3' := HKB2.out.below hb3 HKB2.out.lt
      have HKA3 := Lib.hid ha3
      have HKB3 := Lib.hid hb3'
      refine hK.out _ _ rfl (fun _ => ⟨ha3.cell 4, hb3'.cell 4⟩) ?_
      clear hK K hb3 hr3 ha3 hb3' HR2
      refine Free.Seq.loud_ rfl (.inl rfl) (fun K hK => ?_)
      go_simp
      refine (HHOW.out w3).mono ?_
      rintro e w4 ⟨rfl, hb4⟩
      have HB4 := Lib.hid (HB3.out.trans (hb4.mono HB3.out.size))
      have HR4a := Lib.hid ((HR2b.out.below hb4).more hb4.size)
      have HR4b := Lib.hid ((HR3.out.below hb4).more hb4.size)
      have ha4 := HKA3.out.below hb4 HKA3.out.lt
      have hb4' := HKB3.out.below hb4 HKB3.out.lt
      refine hK.out _ _ rfl (fun _ => ⟨ha4.cell 4, hb4'.cell 4⟩) ?_
      clear hK K hb4 ha4 hb4'
      refine Free.Seq.loud_ rfl (.inl rfl) (fun K hK => ?_)
      go_simp
      refine (HFIN.out P Q cp cq w4 HB4.out HR4a.out HR4b.out).mono ?_
      rintro e w5 ⟨rfl, hb5⟩
      have HB5 := Lib.hid (HB4.out.trans (hb5.mono HB4.out.size))
      refine hK.out _ _ rfl (fun h => absurd h (by decide)) ?_
      clear hK K hb5
      iterate 1
        refine Free.Seq.quiet (v := ?_) (a' := ?_) rfl rfl (fun W' hW' => ?_) ?_ ?_
        rotate_left 2
        · skip
          go_simp
          try with_reducible rfl
        · simp only [Act.put, List.setIfInBounds_toArray, List.set_cons_zero, List.set_cons_succ]
          try with_reducible rfl
      refine Free.Seq.nil_ ?_
      clear x4 y4
      go_wp2
      go_ret
      exact ⟨rfl, HB5.out⟩
    · go_enter Try.func70, Try.ntmps70
      go_wp2_with (fail)
      go_quiet (fail)
      all_goals go_wp2
      go_ret
      exact ⟨by simp, below_drawn HB0.out _⟩
  · cases there
    · go_enter Try.func70, Try.ntmps70
      go_wp2_with (fail)
      go_quiet (fail)
      all_goals go_wp2
      go_ret
      exact ⟨by simp, below_drawn HB0.out _⟩
    · rw [if_pos rfl, if_pos rfl]
      have hfin := fun W (hb : Below w.heap.size w W) => HAL.out astack bstack sA sB sc sd W hb ((HSA.out.below hb).more hb.size) ((HSB.out.below hb).more hb.size) HS1.out HS2.out (by omega)
      unfold howS at hfin
      generalize Ev.alike (Ev.seenS v) astack bstack = ans at *
      have HHOW := Lib.hid (fun W => howS_any W)
      unfold howS at HHOW
      have HFIN := Lib.hid hfin
      clear hfin
      cases pq
      all_goals
        go_enter Try.func70, Try.ntmps70
        go_wp2_with (fail)
        go_quiet (fail)
        go_wp2_with (fail)
        have hd := below_drawn (Below.refl W0.heap.size W0) nq
        obtain ⟨W1, hW1⟩ : ∃ W1, W0.drewN nq = W1 := ⟨_, rfl⟩
        rw [hW1] at hd ⊢
        have hb1 := HB0.out.trans (hd.mono HB0.out.size)
        have hk0 := HK0.out.below hd HK0.out.lt
        have hk1 := HK1.out.below hd HK1.out.lt
        have HB1 := Lib.hid hb1
        have HF1 := Lib.hid (fun W (hb : Below W1.heap.size W1 W) => HFIN.out W (hb1.trans (hb.mono hb1.size)))
        clear hW0 hW1 x0 x1 x4 y0 y1 y4 hca0 hcb0 hd hb1
        have x0 : W1.cell? ⟨w.heap.size, 0, none⟩ = some (.int .i64 av) := hk0.cell 0
        have x1 : W1.cell? ⟨w.heap.size, 1, none⟩ = some (.int .i64 (ka : Nat)) := hk0.cell 1
        have x4 : W1.cell? ⟨w.heap.size, 4, none⟩ = some (.slice sA astack.length sc) := hk0.cell 4
        have y0 : W1.cell? ⟨w.heap.size + 1, 0, none⟩ = some (.int .i64 bv) := hk1.cell 0
        have y1 : W1.cell? ⟨w.heap.size + 1, 1, none⟩ = some (.int .i64 (kb : Nat)) := hk1.cell 1
        have y4 : W1.cell? ⟨w.heap.size + 1, 4, none⟩ = some (.slice sB bstack.length sd) := hk1.cell 4
        clear hk0 hk1
        have r0 := fun d os => cell_regrown x0 d os
        have r1 := fun d os => cell_regrown x1 d os
        have r2 := fun d os => cell_regrown x4 d os
        have r3 := fun d os => cell_regrown y0 d os
        have r4 := fun d os => cell_regrown y1 d os
        have r5 := fun d os => cell_regrown y4 d os
        refine wp_region_quiet_below (by kernel_rfl) (by kernel_rfl) ?_
        refine quiet_hideE fun ops hops => ?_
        have hy5 : (ops[5]?.bind fun x => x.dst) = some 31 := by rw [hops]; rfl
        clear hops
        repeat (quiet_step (first | (go_at_call 30; with_reducible exact Calls.regrown_of (HHOW.out _)) | (go_at_call 58; with_reducible exact Calls.regrown_of (HF1.out _ (below_regrown _ _ _)))))
        refine wpQuiet_nil ?_
        rintro _ ⟨⟨d9, os9⟩, rfl⟩
        have HB9 := Lib.hid (HB1.out.trans ((below_regrown W1 d9 os9).mono HB1.out.size))
        clear r0 r1 r2 r3 r4 r5 x0 x1 x4 y0 y1 y4
        generalize grow (redrawn W1 d9) os9 = w9 at *
        go_wp2
        go_ret
        exact ⟨by simp, HB9.out⟩
end Go.Proofs.Ytlddglhjpiahfaa

/- law12's alive. -/
namespace Go.Proofs.Ytlddglhjpiahfaa
set_option maxRecDepth 100000
open Go.RowKit Go.Shelf Go.Sort
attribute [local go_sem] Oper.semAt_some
theorem e12_look0 : Ev.lookN bNames8 bUp8 0 [1, 1] = 0 := by decide +kernel
theorem e12_look1 : Ev.lookN bNames8 bUp8 1 [1, 1] = 0 := by decide +kernel
theorem e12_al0 : Ev.alike (Ev.seenA (Ev.viewL bUp8 0)) [⟨1, 1⟩] [⟨2, 1⟩] = true := by decide +kernel
theorem e12_al1 : Ev.alike (Ev.seenA (Ev.viewL bUp8 1)) [⟨1, 1⟩] [⟨2, 1⟩] = false := by decide +kernel
set_option maxRecDepth 100000 in
set_option maxHeartbeats 8000000 in
theorem alive12_any (w : World) : Calls Try.prog 17 #[] w (Tells w true) := by
  have hlat := alive8_lat w
  obtain ⟨Wa, hWa⟩ : ∃ Wa : World, ((w.alloc (.cells #[.string ⟨#[97]⟩, .string ⟨#[98]⟩] 9)).alloc (.cells #[.int .u32 3, .int .u32 2] 92)).alloc (.cells #[.slice (some ⟨w.heap.size, 0, none⟩) 2 2, .slice (some ⟨w.heap.size + 1, 0, none⟩) 2 2] 25) = Wa := ⟨_, rfl⟩
  have hBa : Below w.heap.size w Wa := by rw [← hWa]; exact (((Below.refl _ w).alloc (Nat.le_refl _) _).alloc (by simp) _).alloc (by simp; omega) _
  have hsa : Wa.heap.size = w.heap.size + 3 := by rw [← hWa]; simp
  have hla : Blk Wa (w.heap.size + 1 + 1) 25 #[.slice (some ⟨w.heap.size, 0, none⟩) 2 2, .slice (some ⟨w.heap.size + 1, 0, none⟩) 2 2] := by rw [← hWa]; exact Blk.new' _ _ _ _ (by simp)
  rw [hWa, ← hsa] at hlat
  have hat := fun (o : Int) (W : World) (hb : Below Wa.heap.size Wa W) =>
    Atoms_any (a := [⟨1, 1⟩]) (b := [⟨2, 1⟩]) (B := some ⟨W.heap.size, 0, none⟩) (D := some ⟨W.heap.size + 1, 0, none⟩) o 1 1 ((W.alloc (.cells #[.int .i64 1, .int .i64 1] 27)).alloc (.cells #[.int .i64 2, .int .i64 1] 27))
      ((hlat.below (hb.trans (((Below.refl _ W).alloc hb.size _).alloc (by have := hb.size; simp; omega) _))).more (by have := hb.size; simp; omega))
      (((Blk.new W 27 #[.int .i64 1, .int .i64 1]).alloc _).row.more (by simp))
      ((Blk.new' (W.alloc (.cells #[.int .i64 1, .int .i64 1] 27)) 27 #[.int .i64 2, .int .i64 1] (W.heap.size + 1) (by simp)).row.more (by simp))
      (by decide) (by decide)
  have h0 := hat 0
  have h1 := hat 1
  simp only [List.map_cons, List.map_nil, List.cons_append, List.nil_append, e12_look0, e12_look1, e12_al0, e12_al1] at h0 h1
  rw [show Ev.told 0 true = true from rfl] at h0
  rw [show Ev.told 0 false = false from rfl] at h1
  have H0 := Lib.hid h0
  have H1 := Lib.hid h1
  have HB := Lib.hid hBa
  have HL := Lib.hid hla
  have l0 : Wa.cell? ⟨w.heap.size + 1 + 1, 0, none⟩ = some (.slice (some ⟨w.heap.size, 0, none⟩) 2 2) := hla.cell 0
  have l1 : Wa.cell? ⟨w.heap.size + 1 + 1, 1, none⟩ = some (.slice (some ⟨w.heap.size + 1, 0, none⟩) 2 2) := hla.cell 1
  clear hlat hBa hsa hla hat h0 h1
  go_enter Try.func17, Try.ntmps17
  go_wp2_with (fail)
  refine (H0.out Wa (Below.refl _ _)).mono ?_
  rintro e w1 ⟨rfl, hb1⟩
  have hb1 := (((Below.refl _ Wa).alloc (Nat.le_refl _) (.cells #[.int .i64 1, .int .i64 1] 27)).alloc (by simp) (.cells #[.int .i64 2, .int .i64 1] 27)).trans (hb1.mono (by simp; omega))
  have hl1 := HL.out.below hb1 HL.out.lt
  have HB1 := Lib.hid hb1
  clear l0 l1
  have l0 : w1.cell? ⟨w.heap.size + 1 + 1, 0, none⟩ = some (.slice (some ⟨w.heap.size, 0, none⟩) 2 2) := hl1.cell 0
  have l1 : w1.cell? ⟨w.heap.size + 1 + 1, 1, none⟩ = some (.slice (some ⟨w.heap.size + 1, 0, none⟩) 2 2) := hl1.cell 1
  clear hb1 hl1
  go_wp2_with (fail)
  refine (H1.out w1 HB1.out).mono ?_
  rintro e w2 ⟨rfl, hb2⟩
  have hb2 := (((Below.refl _ w1).alloc (Nat.le_refl _) (.cells #[.int .i64 1, .int .i64 1] 27)).alloc (by simp) (.cells #[.int .i64 2, .int .i64 1] 27)).trans (hb2.mono (by simp; omega))
  have HB2 := Lib.hid (HB.out.trans ((HB1.out.trans (hb2.mono HB1.out.size)).mono HB.out.size))
  clear hb2 l0 l1
  go_wp2
  go_ret
  exact ⟨rfl, HB2.out⟩
end Go.Proofs.Ytlddglhjpiahfaa
