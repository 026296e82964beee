/- Package pick: sums (its iterator), total, picked, mayBe. -/
import Derived.Test.YtmgaaejghfgbnaaPicP
import Derived.Test.YtmgaaejghfgbnaaDrwS
import Derived.Test.YtmgaaejghfgbnaaPairs
namespace Go.Proofs.Ytmgaaejghfgbnaa
set_option maxRecDepth 100000
open Go.RowKit Go.Shelf
attribute [local go_sem] Oper.semAt_some

/-- The sums that the iterator hands over. -/
def Pk.sums (l : List Int) : List Int := (List.range l.length).map fun k => Pk.sum (l.take (k + 1))
theorem Pk.sums_take {l : List Int} {k : Nat} (h : k < l.length) : (Pk.sums l).take (k + 1) = (Pk.sums l).take k ++ [Pk.sum (l.take (k + 1))] := by
  rw [List.take_add_one]
  simp [Pk.sums, h]
theorem Pk.sums_get {l : List Int} {k : Nat} (h : k < l.length) : (Pk.sums l)[k]? = some (Pk.sum (l.take (k + 1))) := by simp [Pk.sums, h]
theorem Pk.sums_length (l : List Int) : (Pk.sums l).length = l.length := by simp [Pk.sums]
theorem Pk.sums_last {l : List Int} : (Pk.sums l).getLast?.getD 0 = Pk.sum l := by
  rw [List.getLast?_eq_getElem?, Pk.sums_length]
  by_cases h : l.length = 0
  · have : l = [] := List.eq_nil_of_length_eq_zero h
    subst this
    rfl
  · rw [Pk.sums_get (by omega), Nat.sub_add_cancel (by omega), List.take_length]
    rfl

theorem sums14_any (A : Option Addr) (n c : Nat) (w : World) :
    Calls Try.prog 33 #[.slice A n c] w fun e w' => e = .returned (.func (.func 40) #[] #[.pointer (some ⟨w.heap.size, 0, none⟩)]) ∧ w.alloc (.cells #[.slice A n c] 22) = w' := by
  have hmf : ∀ (fn : Fn) (first cap : Array Value) (w : World), (Instr.makeFunc fn first cap).run Try.prog w = .ok (.func fn first cap) w := fun _ _ _ _ => rfl
  go_enter Try.func33, Try.ntmps33
  go_wp2
  go_ret
  exact ⟨rfl, rfl⟩

abbrev senc (x : Int) : Array Value := #[.int .i64 x]

set_option maxRecDepth 100000 in
set_option maxHeartbeats 2000000 in
theorem sums14_stops (N Bn n₀ n c : Nat) {A : Option Addr} {l : List Int} (hN : 1 ≤ N) (w : World) (hBn : Bn < w.heap.size) (hn₀ : n₀ ≤ w.heap.size) (hc : w.cell? ⟨Bn, 0, none⟩ = some (.slice A n c)) (h : Row w n₀ A (ints l)) (hn : l.length = n) (hg : Pk.good l = true) (hl : n ≤ 1000) :
    SeqStopsK Fence.wide N Try.prog 40 #[.pointer (some ⟨Bn, 0, none⟩)] senc (Below n₀) (fun xs => xs = Pk.sums l) (fun pre => pre <+: Pk.sums l) n w := fun lx J Jx W hW hJ hJx hY h0 => by
  have hcW : W.cell? ⟨Bn, 0, none⟩ = some (.slice A n c) := (hW.cell (p := ⟨Bn, 0, none⟩) hBn).trans hc
  have hrow : Row W n₀ A (ints l) := h.below (hW.mono hn₀)
  have HROW := Lib.hid hrow
  have HN := Lib.hid hn
  have HG := Lib.hid hg
  clear h hrow hn hg hc hW
  refine callsIn_of_wp Try.func40 rfl trivial ?_ rfl
  simp only [Try.ntmps40, List.size_toArray, List.length_cons, List.length_nil, Nat.reduceAdd, Nat.reduceSub, Array.replicate_succ, Array.replicate_zero, List.push_toArray, List.append_toArray, List.nil_append, List.cons_append]
  gi_wp2
  gi_loopw [3, 8] (fun s i wr => ∃ (k : Nat), k ≤ n ∧ i = .int .i64 k ∧ s = .int .i64 (Pk.sum (l.take k)) ∧ J ((Pk.sums l).take k) wr ∧ Hid (Below n₀ W wr)) (fun _ i _ => n - (intOf i).toNat)
  case atStart => exact ⟨0, Nat.zero_le _, rfl, rfl, h0, Lib.hid (Below.refl _ _)⟩
  case round =>
    obtain ⟨k, hk, rfl, rfl, hj, HB⟩ := hrel
    by_cases hlt : k < n
    · have hlk : k < l.length := by rw [HN.out]; exact hlt
      obtain ⟨ad, hA, hb, c0⟩ := irow_at (HROW.out.below HB.out) hlk
      have hx : l[k]? = some (l[k]'hlk) := List.getElem?_eq_getElem _
      subst hA
      have hgx := Pk.good_of HG.out (List.mem_of_getElem? hx)
      have htk := Pk.sums_take hlk
      obtain ⟨fn, tmps, assign, body, hy, hR⟩ := hY _ (Pk.sum (l.take (k + 1))) wr hj (by rw [List.length_take, Pk.sums_length]; omega)
      rw [← htk] at hR
      generalize l[k]'hlk = x at *
      have hs := Pk.sum_step hx
      have hlow := Pk.sum_low (Pk.good_take HG.out k)
      rw [List.length_take, HN.out] at hlow
      obtain ⟨s1, hs1⟩ : ∃ s1, Pk.sum (l.take (k + 1)) = s1 := ⟨_, rfl⟩
      rw [hs1] at hs hy
      obtain ⟨s0, hs0⟩ : ∃ s0, Pk.sum (l.take k) = s0 := ⟨_, rfl⟩
      rw [hs0] at hs hlow ⊢
      have hw : wrap64 (s0 + x) = s1 := by unfold wrap64; omega
      have HS1 := Lib.hid hs1
      have HTK := Lib.hid htk
      dsimp only [senc] at hy
      clear hx hgx hs hlow hs0 hs1 htk h0 hY
      gi_wp2
      refine hR.mono ?_
      rintro e W3 (⟨rfl, hJ3, hk3⟩ | ⟨rfl, hJx3⟩)
      · gi_wp2
        go_roundw
        case rel => exact ⟨k + 1, by omega, by go_num, by rw [HS1.out], hJ3, Lib.hid (HB.out.trans hk3)⟩
        case measure => simp [intOf]; omega
      · gi_wp2
        refine bodyPost_ret (results_none rfl _ _ _) rfl ?_
        exact ⟨⟨_, rfl⟩, .inr ⟨_, List.take_prefix _ _, hJx3⟩⟩
    · obtain rfl : k = n := by omega
      have hall : (Pk.sums l).take k = Pk.sums l := List.take_of_length_le (by rw [Pk.sums_length, HN.out]; exact Nat.le_refl _)
      gi_wp2
      go_end0
      exact ⟨⟨_, rfl⟩, .inl ⟨_, hall, hj⟩⟩

set_option maxRecDepth 100000 in
set_option maxHeartbeats 2000000 in
theorem total14_any {A : Option Addr} {l : List Int} (n c : Nat) (w : World) (h : Row w w.heap.size A (ints l)) (hn : l.length = n) (hg : Pk.good l = true) (hl : n ≤ 1000) :
    Calls Try.prog 20 #[.slice A n c] w fun e w' => e = .returned (.int .i64 (Pk.sum l)) ∧ Below w.heap.size w w' := by
  have hwf : ∀ f, Fence.wide.fn f := fun _ => trivial
  have HR := Lib.hid h
  have HN := Lib.hid hn
  have HG := Lib.hid hg
  clear h hn hg
  refine (callsIn_wide (n := 3)).1 ?_
  refine callsIn_of_wp_marks Try.func20 rfl trivial ?_ rfl
  simp only [Try.ntmps20, List.size_toArray, List.length_cons, List.length_nil, Nat.reduceAdd, Nat.reduceSub, Array.replicate_succ, Array.replicate_zero, List.push_toArray, List.append_toArray, List.nil_append, List.cons_append]
  gi_wp2_with (gi_at_call 33; refine (callsIn_wide.2 (sums14_any A n c _)).mono ?_; rintro e w' ⟨rfl, rfl⟩)
  have b0 := Box.new w (.int .i64 0) 3
  have b1 := Box.new (w.alloc (.cells #[.int .i64 0] 3)) (.slice A n c) 22
  rw [World.size_alloc] at b1
  have hB0 : Below w.heap.size w ((w.alloc (.cells #[.int .i64 0] 3)).alloc (.cells #[.slice A n c] 22)) := ((Below.refl _ w).alloc (Nat.le_refl _) _).alloc (by simp) _
  refine wpIn_rangeFunc_ownF rfl (by decide) (gf := 40) (lb := #[.pointer (some ⟨w.heap.size + 1, 0, none⟩)]) rfl trivial (enters_of Try.func40 (by kernel_rfl) rfl)
    (sums14_stops _ (w.heap.size + 1) w.heap.size n c (by decide) _ (by simp) (by simp; omega) b1.1 (HR.out.below hB0) HN.out HG.out hl) Below.trans (fun W lw o o' hlw hlo hoc how => belowK_b (w := w) (Nat.le_refl _) W lw o o' (by simp at hlw; omega) hlo hoc how) (Below.refl _ _) (fun _ => rfl)
    (fun pre W => Box W w.heap.size (.int .i64 (pre.getLast?.getD 0)) ∧ Below w.heap.size w W)
    (fun _ _ _ => False)
    (OwnFrom.and (Own.from (fun s A B row hs hg hr => hs.kept hg hr) _) (ownFrom_below (Nat.le_refl _) (by simp; omega)))
    (fun _ _ _ _ _ hs _ _ => hs)
    ⟨b0.alloc _, hB0⟩
    (fun x => { tmps := #[.slice A n c, undef, .int .i64 0, .pointer (some ⟨w.heap.size, 0, none⟩), .int .i64 x, .slice A n c, .func (.func 40) #[] #[.pointer (some ⟨w.heap.size + 1, 0, none⟩)], .int .i64 x, undef, undef], defers := [] }) ?assign ?body ?done ?stop
  case assign =>
    intro l x W K hK
    gi_wp2
    exact hK
  case body =>
    rintro lr pre x W ⟨⟨hc0, hf0⟩, hB⟩ hlen
    clear b0 b1 hB0 hlen
    gi_wp2
    refine ⟨KeepsOthers.setCell _ _ _, (Below.refl _ _).setCell (p := ⟨w.heap.size, 0, none⟩) (Nat.le_refl _) _, ?_, hB.setCell (p := ⟨w.heap.size, 0, none⟩) (Nat.le_refl _) _⟩
    rw [List.getLast?_concat]
    exact Box.set_ ⟨hc0, hf0⟩ _
  case done =>
    rintro D xs W hD rfl ⟨hb, hB⟩ hK
    rw [Pk.sums_last] at hb
    obtain ⟨hc0, hf0⟩ := hb
    clear b0 b1
    gi_wp2
    refine ⟨by simp, .inl ⟨_, _, rfl, run_takeDeferred hK, ?_⟩⟩
    exact ⟨_, results_tmp rfl _ _ _, rfl, hB.trans (belowK_b (w := w) (Nat.le_refl _) W D _ _ (by simp at hD; omega) hK rfl rfl)⟩
  case stop =>
    rintro D c pre W _ _ h _
    exact h.elim

theorem Pk.picked {l q : List Int} {x y : Int} (hpre : q ++ [y] <+: Pk.sums l) (hq : ∀ z ∈ q, z ≤ x) (hy : x < y) : Pk.picks l x = q.length ∧ q.length < l.length := by
  have hlen := hpre.length_le
  rw [Pk.sums_length, List.length_append, List.length_singleton] at hlen
  have hget : ∀ j, j < q.length + 1 → (q ++ [y])[j]? = some (Pk.sum (l.take (j + 1))) := fun j hj => by
    rw [← Pk.sums_get (l := l) (k := j) (by omega)]
    obtain ⟨r, hr⟩ := hpre
    rw [← hr, List.getElem?_append_left (l₁ := q ++ [y]) (by simp; omega)]
  refine ⟨Pk.picks_at (by omega) (fun j hj => ?_) ?_, by omega⟩
  · have := hget j (by omega)
    rw [List.getElem?_append_left hj] at this
    exact hq _ (List.mem_of_getElem? this)
  · have := hget q.length (by omega)
    rw [List.getElem?_append_right (Nat.le_refl _), Nat.sub_self] at this
    simp at this
    omega
theorem Pk.not_all {l : List Int} {x : Int} (hg : Pk.good l = true) (h0 : 0 ≤ x) (hx : x < Pk.sum l) (h : ∀ z ∈ Pk.sums l, z ≤ x) : False := by
  obtain ⟨h1, -, h3⟩ := Pk.picks_spec hg h0 hx
  have := h _ (List.mem_of_getElem? (Pk.sums_get h1))
  omega

set_option maxRecDepth 100000 in
set_option maxHeartbeats 2000000 in
theorem picked14_any {A : Option Addr} {l : List Int} (n c : Nat) (x : Int) (w : World) (h : Row w w.heap.size A (ints l)) (hn : l.length = n) (hg : Pk.good l = true) (hl : n ≤ 1000) (h0 : 0 ≤ x) (hx : x < Pk.sum l) :
    Calls Try.prog 21 #[.slice A n c, .int .i64 x] w fun e w' => e = .returned (.int .i64 (Pk.picks l x : Nat)) ∧ Below w.heap.size w w' := by
  have hwf : ∀ f, Fence.wide.fn f := fun _ => trivial
  have HR := Lib.hid h
  have HN := Lib.hid hn
  have HG := Lib.hid hg
  have HX := Lib.hid (And.intro h0 hx)
  clear h hn hg h0 hx
  refine (callsIn_wide (n := 3)).1 ?_
  refine callsIn_of_wp_marks Try.func21 rfl trivial ?_ rfl
  simp only [Try.ntmps21, List.size_toArray, List.length_cons, List.length_nil, Nat.reduceAdd, Nat.reduceSub, Array.replicate_succ, Array.replicate_zero, List.push_toArray, List.append_toArray, List.nil_append, List.cons_append]
  gi_wp2_with (gi_at_call 33; refine (callsIn_wide.2 (sums14_any A n c _)).mono ?_; rintro e w' ⟨rfl, rfl⟩)
  have b0 := Box.new w (.int .i64 x) 3
  have b1 := Box.new (w.alloc (.cells #[.int .i64 x] 3)) (.int .i64 0) 3
  have b2 := Box.new ((w.alloc (.cells #[.int .i64 x] 3)).alloc (.cells #[.int .i64 0] 3)) (.slice A n c) 22
  simp only [World.size_alloc] at b1 b2
  have hB0 : Below w.heap.size w (((w.alloc (.cells #[.int .i64 x] 3)).alloc (.cells #[.int .i64 0] 3)).alloc (.cells #[.slice A n c] 22)) := (((Below.refl _ w).alloc (Nat.le_refl _) _).alloc (by simp) _).alloc (by simp; omega) _
  refine wpIn_rangeFunc_ownF rfl (by decide) (gf := 40) (lb := #[.pointer (some ⟨w.heap.size + 1 + 1, 0, none⟩)]) rfl trivial (enters_of Try.func40 (by kernel_rfl) rfl)
    (sums14_stops _ (w.heap.size + 1 + 1) w.heap.size n c (by decide) _ (by simp) (by simp; omega) b2.1 (HR.out.below hB0) HN.out HG.out hl) Below.trans (fun W lw o o' hlw hlo hoc how => belowK_b (w := w) (Nat.le_refl _) W lw o o' (by simp at hlw; omega) hlo hoc how) (Below.refl _ _) (fun _ => rfl)
    (fun pre W => ((∀ z ∈ pre, z ≤ x) ∧ Box W w.heap.size (.int .i64 x) ∧ Box W (w.heap.size + 1) (.int .i64 (pre.length : Int))) ∧ Below w.heap.size w W)
    (fun c pre W => (c = .exit 0 ∧ ∃ q y, pre = q ++ [y] ∧ (∀ z ∈ q, z ≤ x) ∧ x < y ∧ Box W (w.heap.size + 1) (.int .i64 (q.length : Int))) ∧ Below w.heap.size w W)
    (OwnFrom.and (Own.from (fun s A B row hs hg hr => ⟨hs.1, hs.2.1.kept hg hr, hs.2.2.kept hg hr⟩) _) (ownFrom_below (Nat.le_refl _) (by simp; omega)))
    (fun c => OwnFrom.and (Own.from (fun s A B row hs hg hr => ⟨hs.1, by obtain ⟨q, y, h1, h2, h3, h4⟩ := hs.2; exact ⟨q, y, h1, h2, h3, h4.kept hg hr⟩⟩) _) (ownFrom_below (Nat.le_refl _) (by simp; omega)))
    ⟨⟨by simp, (b0.alloc _).alloc _, b1.alloc _⟩, hB0⟩
    (fun y => { tmps := #[.slice A n c, .int .i64 x, undef, .pointer (some ⟨w.heap.size, 0, none⟩), .int .i64 0, .pointer (some ⟨w.heap.size + 1, 0, none⟩), .int .i64 y, .slice A n c, .func (.func 40) #[] #[.pointer (some ⟨w.heap.size + 1 + 1, 0, none⟩)], .int .i64 y, undef, undef, undef, undef, undef, undef], defers := [] }) ?assign ?body ?done ?stop
  case assign =>
    intro l x W K hK
    gi_wp2
    exact hK
  case body =>
    rintro lr pre y W ⟨⟨hall, ⟨hc0, hf0⟩, ⟨hc1, hf1⟩⟩, hB⟩ hlen
    have HALL := Lib.hid hall
    have HLEN := Lib.hid hlen
    clear b0 b1 b2 hB0 hlen hall
    by_cases hxy : x < y
    · have hgt : decide (y > x) = true := decide_eq_true hxy
      have HXY := Lib.hid hxy
      clear hxy
      gi_wp2
      exact ⟨KeepsOthers.refl _, ⟨rfl, pre, y, rfl, HALL.out, HXY.out, hc1, hf1⟩, hB⟩
    · have hgt : decide (y > x) = false := decide_eq_false hxy
      have HXY := Lib.hid hxy
      have hw : wrap64 ((pre.length : Int) + 1) = (pre.length : Int) + 1 := by have := HLEN.out; unfold wrap64; omega
      clear hxy
      gi_wp2
      refine ⟨KeepsOthers.setCell _ _ _, (Below.refl _ _).setCell (p := ⟨w.heap.size + 1, 0, none⟩) (by simp) _, ⟨fun z hz => ?_, Box.other (p := ⟨w.heap.size + 1, 0, none⟩) ⟨hc0, hf0⟩ (by simp) _, ?_⟩, hB.setCell (p := ⟨w.heap.size + 1, 0, none⟩) (by simp) _⟩
      · rcases List.mem_append.1 hz with hz | hz
        · exact HALL.out z hz
        · have := HXY.out
          rw [List.mem_singleton.1 hz]
          omega
      · have e : (((pre ++ [y]).length : Nat) : Int) = (pre.length : Int) + 1 := by simp
        rw [e]
        exact Box.set_ ⟨hc1, hf1⟩ _
  case done =>
    rintro D xs W hD rfl ⟨⟨hall, -⟩, -⟩ hK
    exact (Pk.not_all HG.out HX.out.1 HX.out.2 hall).elim
  case stop =>
    rintro D c pre W hD hpre ⟨⟨rfl, q, y, rfl, hq, hxy, hb⟩, hB⟩ hK
    obtain ⟨hpk, hql⟩ := Pk.picked hpre hq hxy
    have HPK := Lib.hid hpk
    obtain ⟨hc1, hf1⟩ := hb
    clear b0 b1 b2 hB0 hq hxy hpk hpre
    gi_wp2
    refine ⟨by simp, .inl ⟨_, _, rfl, run_takeDeferred hK, ?_⟩⟩
    exact ⟨_, results_tmp rfl _ _ _, by rw [HPK.out]; rfl, hB.trans (belowK_b (w := w) (Nat.le_refl _) W D _ _ (by simp at hD; omega) hK rfl rfl)⟩

theorem mayBe14_any {A : Option Addr} {l : List Int} (n c : Nat) (w : World) (h : Row w w.heap.size A (ints l)) (hn : l.length = n) (hn9 : n ≤ 1000000) :
    Calls Try.prog 18 #[.slice A n c] w fun e w' => e = .returned (.bool (Pk.right l)) ∧ Below w.heap.size w w' := by
  obtain ⟨res, hres⟩ : ∃ res, Pk.right l = res := ⟨_, rfl⟩
  rw [hres]
  have hsum := fun (hg : Pk.good l = true) (hl : n ≤ 1000) => total14_any (A := A) n c w h hn hg hl
  have H := Lib.hid h
  have HN := Lib.hid hn
  have HRES := Lib.hid hres
  have HSUM := Lib.hid hsum
  have HB0 := Lib.hid (Below.refl w.heap.size w)
  clear h hn hres hsum
  by_cases h20 : n ≤ 20
  · have hgt : decide ((n : Int) > 20) = false := decide_eq_false (by omega)
    go_enter Try.func18, Try.ntmps18
    go_wp2
    go_loopw [10] (fun i wr => ∃ (k : Nat), k ≤ n ∧ i = .int .i64 k ∧ Hid (Pk.good (l.take k) = true) ∧ wr = w) (fun i _ => n - (intOf i).toNat)
    case atStart => exact ⟨0, Nat.zero_le _, rfl, Lib.hid rfl, rfl⟩
    case round =>
      obtain ⟨k, hk, rfl, HK, hwr⟩ := hrel
      obtain rfl := hwr.symm
      by_cases hlt : k < n
      · obtain ⟨ad, hA, hb, c0⟩ := irow_at H.out (show k < l.length by rw [HN.out]; exact hlt)
        have hx : l[k]? = some (l[k]'(by rw [HN.out]; exact hlt)) := List.getElem?_eq_getElem _
        subst hA
        generalize l[k]'(by rw [HN.out]; exact hlt) = x at *
        by_cases hgx : 0 ≤ x ∧ x ≤ 100
        · have HK2 : Hid (Pk.good (l.take (k + 1)) = true) := Lib.hid (by
            rw [List.take_add_one, hx, Option.toList_some]
            unfold Pk.good at *
            rw [List.all_append, HK.out]
            simp
            exact hgx)
          have h1 : decide (x < 0) = false := decide_eq_false (by omega)
          have h2 : decide (x > 100) = false := decide_eq_false (by omega)
          clear hx hgx
          go_wp2
          go_roundw
          case rel => exact ⟨k + 1, by omega, by go_num, HK2, trivial⟩
          case measure => simp [intOf]; omega
        · have hbad : res = false := by
            rw [← HRES.out]
            by_cases e : Pk.right l = true
            · exact absurd (Pk.good_of (Pk.right_good e).1 (List.mem_of_getElem? hx)) hgx
            · simpa using e
          have HBAD := Lib.hid hbad
          clear hx hbad
          by_cases h0 : x < 0
          · have h1 : decide (x < 0) = true := decide_eq_true h0
            clear hgx h0
            go_wp2
            go_ret
            exact ⟨by rw [HBAD.out]; rfl, HB0.out⟩
          · have h1 : decide (x < 0) = false := decide_eq_false h0
            have h2 : decide (x > 100) = true := decide_eq_true (by omega)
            clear hgx h0
            go_wp2
            go_ret
            exact ⟨by rw [HBAD.out]; rfl, HB0.out⟩
      · obtain rfl : k = n := by omega
        have hg : Pk.good l = true := by
          have h := HK.out
          rwa [List.take_of_length_le (by rw [HN.out]; exact Nat.le_refl _)] at h
        have hr : res = decide (0 < Pk.sum l) := by
          rw [← HRES.out]
          unfold Pk.right
          rw [hg, HN.out, Bool.true_and]
          refine decide_eq_decide.2 ⟨fun h => h.2.2, fun h => ⟨?_, h20, h⟩⟩
          rcases Nat.eq_zero_or_pos k with e | e
          · have : l = [] := List.eq_nil_of_length_eq_zero (HN.out.trans e)
            subst this
            simp [Pk.sum] at h
          · exact e
        have HT := Lib.hid (HSUM.out hg (by omega))
        subst hr
        clear hg
        go_wp2_with (fail)
        refine HT.out.mono ?_
        rintro e w2 ⟨rfl, hb⟩
        go_wp2
        go_ret
        exact ⟨rfl, hb⟩
  · have hgt : decide ((n : Int) > 20) = true := decide_eq_true (by omega)
    have hbad : res = false := by
      rw [← HRES.out]
      unfold Pk.right
      rw [HN.out, decide_eq_false (by omega), Bool.and_false]
    subst hbad
    go_enter Try.func18, Try.ntmps18
    go_wp2
    go_ret
    exact ⟨rfl, HB0.out⟩
end Go.Proofs.Ytmgaaejghfgbnaa
