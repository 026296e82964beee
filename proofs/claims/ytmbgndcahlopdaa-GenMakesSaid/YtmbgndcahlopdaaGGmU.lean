/- The law GenMakes (by gen_gmu.py). -/
import Derived.Test.YtmbgndcahlopdaaGGmI
import Derived.Test.YtmbgndcahlopdaaGGnA
import Derived.Test.YtmbgndcahlopdaaGGnJ
import Derived.Test.YtmbgndcahlopdaaGDrwC
import Derived.Test.YtmbgndcahlopdaaGCodE
namespace Go.Proofs.Ytmbgndcahlopdaa
set_option maxRecDepth 100000
open Go.RowKit Go.Shelf
attribute [local go_sem] Oper.semAt_some

abbrev p3U (B : Nat) (t3 : TypeId) (c1 c2 c3 n2 n3 : Array Value) : P3 := ⟨B, B, B + 1, B + 1 + 1, 25, 28, t3, c1, c2, c3, n2, n3, 11, 14, 12, 1⟩
def afU (q : P3) (x : Value) (k : Nat) (v : Value) (W : World) : Prop := match k with
  | 1 => LatAt q v W
  | 3 => v = x
  | _ => True
theorem afU.k3 {q : P3} {x : Value} (k : Nat) (v : Value) (W W' : World) (h : afU q x k v W) (hk : K3 q W W') : afU q x k v W' := by
  unfold afU at h ⊢
  split
  · exact LatAt.k3 h hk
  · exact h
  · trivial
theorem ap3U (B : Nat) (t3 : TypeId) (c1 c2 c3 n2 n3 : Array Value) : Ap3 (p3U B t3 c1 c2 c3 n2 n3) := by
  constructor <;> dsimp only [p3U] <;> omega
theorem IsLat.form_ofU {w : World} {B : Nat} {v : Value} {names : List ByteArray} {up : List Nat} (h : IsLat w B v names up) : ∃ (A A' : Option Addr) (c c' : Nat), v = .agg #[.slice A names.length c, .slice A' up.length c'] := by
  obtain ⟨⟨A, A', c, c', e, -, -⟩, -, -, -⟩ := h
  exact ⟨A, A', c, c', e⟩
/-- A state that is owned. -/
theorem isSt_ownU {W : World} {B : Nat} {s : St.State} {cv mv sv : Value} (ho : s.out = []) (h1 : W.ownsRow B 66 3 cv s.code.length (fcells ivs s.code)) (h2 : W.ownsRow B 34 2 mv s.mem.length (fcells avs s.mem)) (h3 : W.ownsRow B 70 3 sv s.stack.length (fcells svs s.stack)) :
    IsSt W W.heap.size (.agg #[.int .i64 s.pc.v, .int .i64 s.pc.l, cv, mv, sv, .slice none 0 0]) s := by
  obtain ⟨A1, c1, rfl⟩ := ownT_slice h1
  obtain ⟨A2, c2, rfl⟩ := ownT_slice h2
  obtain ⟨A3, c3, rfl⟩ := ownT_slice h3
  refine ⟨_, _, _, .slice none 0 0, rfl, ⟨A1, c1, rfl, (ownT_row h1).1, (ownT_row h1).2⟩, ⟨A2, c2, rfl, (ownT_row h2).1, (ownT_row h2).2⟩, ⟨A3, c3, rfl, (ownT_row h3).1, (ownT_row h3).2⟩, ?_⟩
  rw [ho]
  exact ⟨none, 0, rfl, Row.nil, Nat.le_refl _⟩
/-- How many there are of each, where a state may be. -/
theorem small_ofU {k : Nat} {p : Gn.Sp} {s : St.State} (hF : Gn.Fits k p) (h : Gn.hasB k p s = true) : SmallS s ∧ s.out = [] := by
  unfold Gn.hasB at h
  simp only [Bool.and_eq_true, decide_eq_true_eq] at h
  obtain ⟨⟨-, h1, h2, h3, h4⟩, -⟩ := h
  have a1 := hF.c1
  have a2 := hF.m1
  have a3 := hF.s1
  exact ⟨⟨by omega, by omega, by omega, by omega⟩, List.length_eq_zero_iff.1 h4⟩
set_option maxHeartbeats 32000000 in
theorem genMakes_any {A B Q LA LG : Option Addr} {names : List ByteArray} {up : List Nat} {list log : List Int} (c e f lc gc : Nat) (i : Int) (p : Gn.Sp) (w : World) (hN : Row w w.heap.size A (strs names)) (hU : Ups w w.heap.size B up) (hc : names.length ≤ c) (he : up.length ≤ e) (hm : c ≤ maxLen) (hm2 : e ≤ maxLen) (hsz : ∀ s ∈ names, s.size ≤ maxLen)
    (hQ : Row w w.heap.size Q (ints p.ws)) (hf : p.ws.length ≤ f) (hLA : Row w w.heap.size LA (ints list)) (hLG : Row w w.heap.size LG (ints log)) (hlc : list.length ≤ lc) (hgc : log.length ≤ gc) (hi : i < 9223372036854775808) :
    Calls Try.prog 3 #[.agg #[.slice A names.length c, .slice B up.length e], spv p Q f, .agg #[.slice LA list.length lc, .int .i64 i, .slice LG log.length gc]] w (Tells w true) := by
  obtain ⟨code, mem, stack, val, ws⟩ := p
  unfold spv
  dsimp only at hQ hf ⊢
  obtain ⟨n0, hn0⟩ : ∃ n, list.length = n := ⟨_, rfl⟩
  obtain ⟨g0, hg0⟩ : ∃ n, log.length = n := ⟨_, rfl⟩
  obtain ⟨m0, hm0⟩ : ∃ m, ws.length = m := ⟨_, rfl⟩
  rw [hn0] at hlc
  rw [hg0] at hgc
  obtain ⟨n, hmin⟩ : ∃ n : Nat, min (n0 : Int) 503 = (n : Int) := ⟨min n0 503, by omega⟩
  obtain ⟨g, hming⟩ : ∃ g : Nat, min (g0 : Int) 2003 = (g : Int) := ⟨min g0 2003, by omega⟩
  obtain ⟨m, hmin2⟩ : ∃ m : Nat, min (m0 : Int) 16 = (m : Int) := ⟨min m0 16, by omega⟩
  obtain ⟨lst, hlst⟩ : ∃ l, list.take n = l := ⟨_, rfl⟩
  obtain ⟨lg, hlg⟩ : ∃ l, log.take g = l := ⟨_, rfl⟩
  obtain ⟨wss, hwss⟩ : ∃ l, ws.take m = l := ⟨_, rfl⟩
  have hln : lst.length = n := by rw [← hlst, List.length_take]; omega
  have hgn : lg.length = g := by rw [← hlg, List.length_take]; omega
  have hwn : wss.length = m := by rw [← hwss, List.length_take]; omega
  have hL2 : Row w w.heap.size LA (ints lst) := by have h := hLA.take n; rw [← hlst]; simpa [ints, List.map_take] using h
  have hG2 : Row w w.heap.size LG (ints lg) := by have h := hLG.take g; rw [← hlg]; simpa [ints, List.map_take] using h
  have hQ2 : Row w w.heap.size Q (ints wss) := by have h := hQ.take m; rw [← hwss]; simpa [ints, List.map_take] using h
  have hdr := fun W => drawsD_any (A := LA) (L := LG) n0 lc g0 gc n g i W hmin hming hlc hgc
  rw [hn0, hg0, hm0]
  have hmf : m ≤ f := by omega
  have hm16 : m ≤ 16 := by omega
  have hn5 : n ≤ 503 := by omega
  have hg2 : g ≤ 2003 := by omega
  obtain ⟨W0, hW0⟩ : ∃ W0, ((w.alloc (.cells #[.slice A names.length c, .slice B up.length e] 25)).alloc (.cells #[.int .i64 code, .int .i64 mem, .int .i64 stack, .int .i64 val, .slice Q m0 f] 28)).alloc (.cells #[.slice LA n0 lc, .int .i64 i, .slice LG g0 gc] 30) = W0 := ⟨_, rfl⟩
  have hb : Below w.heap.size w W0 := hW0 ▸ (((Below.refl _ w).alloc (Nat.le_refl _) _).alloc (by simp) _).alloc (by simp; omega) _
  have hp0 : Blk W0 w.heap.size 25 #[.slice A names.length c, .slice B up.length e] := hW0 ▸ ((Blk.new w 25 #[.slice A names.length c, .slice B up.length e]).alloc _).alloc _
  have hp1 : Blk W0 (w.heap.size + 1) 28 #[.int .i64 code, .int .i64 mem, .int .i64 stack, .int .i64 val, .slice Q m0 f] := by
    have h1 := (Blk.new (w.alloc (.cells #[.slice A names.length c, .slice B up.length e] 25)) 28 #[.int .i64 code, .int .i64 mem, .int .i64 stack, .int .i64 val, .slice Q m0 f]).alloc (.cells #[.slice LA n0 lc, .int .i64 i, .slice LG g0 gc] 30)
    rw [World.size_alloc] at h1
    rw [← hW0]; exact h1
  have hp2 : Blk W0 (w.heap.size + 1 + 1) 30 #[.slice LA n0 lc, .int .i64 i, .slice LG g0 gc] := by
    have h1 := Blk.new ((w.alloc (.cells #[.slice A names.length c, .slice B up.length e] 25)).alloc (.cells #[.int .i64 code, .int .i64 mem, .int .i64 stack, .int .i64 val, .slice Q m0 f] 28)) 30 #[.slice LA n0 lc, .int .i64 i, .slice LG g0 gc]
    rw [World.size_alloc, World.size_alloc] at h1
    rw [← hW0]; exact h1
  have hz0 : W0.heap.size = w.heap.size + 3 := by rw [← hW0]; simp
  have HFEW := Lib.hid fun (W : World) (hW : Below w.heap.size w W) => few_any w.heap.size c e W hW.size (hN.below hW) (hU.below hW) hc he hm hm2 hsz
  have HCUT := Lib.hid hdr
  have HB := Lib.hid hb
  have HP0 := Lib.hid hp0
  have HP1 := Lib.hid hp1
  have HP2 := Lib.hid hp2
  have HZ0 := Lib.hid hz0
  have HWN := Lib.hid hwn
  have HLN := Lib.hid hln
  have HGN := Lib.hid hgn
  have HQ2 := Lib.hid hQ2
  have HL2 := Lib.hid hL2
  have HG2 := Lib.hid hG2
  have HM := Lib.hid (And.intro hmf hm16)
  have HNG := Lib.hid (And.intro hn5 (And.intro hg2 hi))
  have HSZ0 := Lib.hid hb.size
  have HALIVE := Lib.hid fun (W : World) => alive15_any W
  have HAP := Lib.hid (ap3U w.heap.size 30 #[.slice A names.length c, .slice B up.length e] #[.int .i64 code, .int .i64 mem, .int .i64 stack, .int .i64 val, .slice Q m0 f] #[.slice LA n0 lc, .int .i64 i, .slice LG g0 gc] #[.int .i64 code, .int .i64 mem, .int .i64 stack, .int .i64 val, .slice Q m f] #[.slice LA n lc, .int .i64 i, .slice LG g gc])
  clear hdr hN hU hc he hm hm2 hsz hQ hf hm0 hwss hwn hQ2 hb hp0 hp1 hp2 hz0 hm16 hLA hLG hlc hgc hn0 hg0 hlst hlg hln hgn hL2 hG2 hn5 hg2 hmin hming hi
  go_enter Try.func3, Try.ntmps3
  go_wp2_with (fail)
  refine Free.region_each (by kernel_rfl) (by kernel_rfl)
    (fun k => ([some (.agg #[.slice A names.length c, .slice B up.length e]), none, some (.agg #[.slice LA n0 lc, .int .i64 i, .slice LG g0 gc]), none, some (.pointer (some ⟨w.heap.size + 1, 4, none⟩)), some (.slice Q m0 f), some (.pointer (some ⟨w.heap.size + 1, 4, none⟩)), some (.slice Q m0 f), some (.int .i64 (m0 : Int)), some (.int .i64 (m : Int)), some (.slice Q m f), none, none, some (.pointer (some ⟨w.heap.size + 1, 4, none⟩)), none] : List (Option Value)).getD k none)
    (F3 (afU (p3U w.heap.size 30 #[.slice A names.length c, .slice B up.length e] #[.int .i64 code, .int .i64 mem, .int .i64 stack, .int .i64 val, .slice Q m0 f] #[.slice LA n0 lc, .int .i64 i, .slice LG g0 gc] #[.int .i64 code, .int .i64 mem, .int .i64 stack, .int .i64 val, .slice Q m f] #[.slice LA n lc, .int .i64 i, .slice LG g gc]) (.agg #[.slice LA n lc, .int .i64 i, .slice LG g gc])) W0 (p3U w.heap.size 30 #[.slice A names.length c, .slice B up.length e] #[.int .i64 code, .int .i64 mem, .int .i64 stack, .int .i64 val, .slice Q m0 f] #[.slice LA n0 lc, .int .i64 i, .slice LG g0 gc] #[.int .i64 code, .int .i64 mem, .int .i64 stack, .int .i64 val, .slice Q m f] #[.slice LA n lc, .int .i64 i, .slice LG g gc])) (fun _ => undef) ?_ ?_ ?_
  · exact F3.start _ HP0.out HP1.out HP2.out
  · refine ⟨?_, ?_, ?_, ?_, ?_, ?_, ?_, ?_, ?_, ?_, ?_, ?_, ?_, ?_, ?_, trivial⟩
    · refine Free.step_val _ rfl rfl fun done r W ρ hρ hcst hfun hJ hV hC hd hdeps => ?_
      have e0 : ρ (.tmp 3) = .pointer (some ⟨w.heap.size, 0, none⟩) := by rw [hρ]; rfl
      have hz : Blk W (w.heap.size) 25 #[.slice A names.length c, .slice B up.length e] := hJ.x1.1 (Free.not_done hC 11 0 rfl (by decide) hd)
      have c0 := hz.cell 0
      have c1 := hz.cell 1
      clear hρ
      refine ⟨?_, hJ.made afU.k3 (show (11 : Nat) ≠ 0 by decide) (show (14 : Nat) ≠ 0 by decide) (show (12 : Nat) ≠ 0 by decide) (fun h => absurd (show (0 : Nat) = 1 from h) (by decide)) HSZ0.out (Below.refl _ _) trivial⟩
      go_simp
    · refine Free.step_any rfl rfl fun done r W ρ hρ hcst hfun hJ hV hC hd hdeps => ?_
      have e0 : ρ (.tmp 12) = .agg #[.slice A names.length c, .slice B up.length e] := by rw [hρ]; exact hV 0 _ (hdeps 0 (by decide)) rfl
      have hsz := hJ.size
      have hz0 := HZ0.out
      have hbw : Below w.heap.size w W := HB.out.trans hJ.below
      clear hρ
      go_simp
      exact (HFEW.out W hbw).mono fun e9 w' ⟨v, nm, u, he, hl, hb⟩ => ⟨_, he, hJ.made afU.k3 (show (11 : Nat) ≠ 1 by decide) (show (14 : Nat) ≠ 1 by decide) (show (12 : Nat) ≠ 1 by decide) (fun _ => Free.not_done hC 11 1 rfl (by decide) hd) HSZ0.out hb (LatAt.of_few (q := (p3U w.heap.size 30 #[.slice A names.length c, .slice B up.length e] #[.int .i64 code, .int .i64 mem, .int .i64 stack, .int .i64 val, .slice Q m0 f] #[.slice LA n0 lc, .int .i64 i, .slice LG g0 gc] #[.int .i64 code, .int .i64 mem, .int .i64 stack, .int .i64 val, .slice Q m f] #[.slice LA n lc, .int .i64 i, .slice LG g gc])) hl (show w.heap.size ≤ w.heap.size ∧ w.heap.size < W.heap.size by omega) (show w.heap.size ≤ w.heap.size + 1 ∧ w.heap.size + 1 < W.heap.size by omega) (show w.heap.size ≤ w.heap.size + 1 + 1 ∧ w.heap.size + 1 + 1 < W.heap.size by omega))⟩
    · refine Free.step_val _ rfl rfl fun done r W ρ hρ hcst hfun hJ hV hC hd hdeps => ?_
      have e0 : ρ (.tmp 5) = .pointer (some ⟨w.heap.size + 1 + 1, 0, none⟩) := by rw [hρ]; rfl
      have hz : Blk W (w.heap.size + 1 + 1) 30 #[.slice LA n0 lc, .int .i64 i, .slice LG g0 gc] := hJ.x3.1 (Free.not_done hC 12 2 rfl (by decide) hd)
      have c0 := hz.cell 0
      have c1 := hz.cell 1
      have c2 := hz.cell 2
      clear hρ
      refine ⟨?_, hJ.made afU.k3 (show (11 : Nat) ≠ 2 by decide) (show (14 : Nat) ≠ 2 by decide) (show (12 : Nat) ≠ 2 by decide) (fun h => absurd (show (2 : Nat) = 1 from h) (by decide)) HSZ0.out (Below.refl _ _) trivial⟩
      go_simp
    · refine Free.step_any rfl rfl fun done r W ρ hρ hcst hfun hJ hV hC hd hdeps => ?_
      have e0 : ρ (.tmp 14) = .agg #[.slice LA n0 lc, .int .i64 i, .slice LG g0 gc] := by rw [hρ]; exact hV 2 _ (hdeps 2 (by decide)) rfl
      clear hρ
      go_simp
      exact (HCUT.out W).mono fun e9 w' ⟨he, hb⟩ => ⟨_, he, hJ.made afU.k3 (show (11 : Nat) ≠ 3 by decide) (show (14 : Nat) ≠ 3 by decide) (show (12 : Nat) ≠ 3 by decide) (fun h => absurd (show (3 : Nat) = 1 from h) (by decide)) HSZ0.out hb rfl⟩
    · refine Free.step_val _ rfl rfl fun done r W ρ hρ hcst hfun hJ hV hC hd hdeps => ?_
      have e0 : ρ (.tmp 4) = .pointer (some ⟨w.heap.size + 1, 0, none⟩) := by rw [hρ]; rfl
      clear hρ
      refine ⟨?_, hJ.made afU.k3 (show (11 : Nat) ≠ 4 by decide) (show (14 : Nat) ≠ 4 by decide) (show (12 : Nat) ≠ 4 by decide) (fun h => absurd (show (4 : Nat) = 1 from h) (by decide)) HSZ0.out (Below.refl _ _) trivial⟩
      go_simp
    · refine Free.step_val _ rfl rfl fun done r W ρ hρ hcst hfun hJ hV hC hd hdeps => ?_
      have e0 : ρ (.tmp 16) = .pointer (some ⟨w.heap.size + 1, 4, none⟩) := by rw [hρ]; exact hV 4 _ (hdeps 4 (by decide)) rfl
      have hz : Blk W (w.heap.size + 1) 28 #[.int .i64 code, .int .i64 mem, .int .i64 stack, .int .i64 val, .slice Q m0 f] := hJ.x2.1 (Free.not_done hC 14 5 rfl (by decide) hd)
      have c0 := hz.cell 4
      clear hρ
      refine ⟨?_, hJ.made afU.k3 (show (11 : Nat) ≠ 5 by decide) (show (14 : Nat) ≠ 5 by decide) (show (12 : Nat) ≠ 5 by decide) (fun h => absurd (show (5 : Nat) = 1 from h) (by decide)) HSZ0.out (Below.refl _ _) trivial⟩
      go_simp
    · refine Free.step_val _ rfl rfl fun done r W ρ hρ hcst hfun hJ hV hC hd hdeps => ?_
      have e0 : ρ (.tmp 4) = .pointer (some ⟨w.heap.size + 1, 0, none⟩) := by rw [hρ]; rfl
      clear hρ
      refine ⟨?_, hJ.made afU.k3 (show (11 : Nat) ≠ 6 by decide) (show (14 : Nat) ≠ 6 by decide) (show (12 : Nat) ≠ 6 by decide) (fun h => absurd (show (6 : Nat) = 1 from h) (by decide)) HSZ0.out (Below.refl _ _) trivial⟩
      go_simp
    · refine Free.step_val _ rfl rfl fun done r W ρ hρ hcst hfun hJ hV hC hd hdeps => ?_
      have e0 : ρ (.tmp 18) = .pointer (some ⟨w.heap.size + 1, 4, none⟩) := by rw [hρ]; exact hV 6 _ (hdeps 6 (by decide)) rfl
      have hz : Blk W (w.heap.size + 1) 28 #[.int .i64 code, .int .i64 mem, .int .i64 stack, .int .i64 val, .slice Q m0 f] := hJ.x2.1 (Free.not_done hC 14 7 rfl (by decide) hd)
      have c0 := hz.cell 4
      clear hρ
      refine ⟨?_, hJ.made afU.k3 (show (11 : Nat) ≠ 7 by decide) (show (14 : Nat) ≠ 7 by decide) (show (12 : Nat) ≠ 7 by decide) (fun h => absurd (show (7 : Nat) = 1 from h) (by decide)) HSZ0.out (Below.refl _ _) trivial⟩
      go_simp
    · refine Free.step_val _ rfl rfl fun done r W ρ hρ hcst hfun hJ hV hC hd hdeps => ?_
      have e0 : ρ (.tmp 19) = .slice Q m0 f := by rw [hρ]; exact hV 7 _ (hdeps 7 (by decide)) rfl
      clear hρ
      refine ⟨?_, hJ.made afU.k3 (show (11 : Nat) ≠ 8 by decide) (show (14 : Nat) ≠ 8 by decide) (show (12 : Nat) ≠ 8 by decide) (fun h => absurd (show (8 : Nat) = 1 from h) (by decide)) HSZ0.out (Below.refl _ _) trivial⟩
      go_simp
    · refine Free.step_val _ rfl rfl fun done r W ρ hρ hcst hfun hJ hV hC hd hdeps => ?_
      have e0 : ρ (.tmp 20) = .int .i64 (m0 : Int) := by rw [hρ]; exact hV 8 _ (hdeps 8 (by decide)) rfl
      clear hρ
      refine ⟨?_, hJ.made afU.k3 (show (11 : Nat) ≠ 9 by decide) (show (14 : Nat) ≠ 9 by decide) (show (12 : Nat) ≠ 9 by decide) (fun h => absurd (show (9 : Nat) = 1 from h) (by decide)) HSZ0.out (Below.refl _ _) trivial⟩
      go_simp
    · refine Free.step_val _ rfl rfl fun done r W ρ hρ hcst hfun hJ hV hC hd hdeps => ?_
      have e0 : ρ (.tmp 17) = .slice Q m0 f := by rw [hρ]; exact hV 5 _ (hdeps 5 (by decide)) rfl
      have e1 : ρ (.tmp 21) = .int .i64 (m : Int) := by rw [hρ]; exact hV 9 _ (hdeps 9 (by decide)) rfl
      clear hρ
      refine ⟨?_, hJ.made afU.k3 (show (11 : Nat) ≠ 10 by decide) (show (14 : Nat) ≠ 10 by decide) (show (12 : Nat) ≠ 10 by decide) (fun h => absurd (show (10 : Nat) = 1 from h) (by decide)) HSZ0.out (Below.refl _ _) trivial⟩
      go_simp
    · refine Free.step_any rfl rfl fun done r W ρ hρ hcst hfun hJ hV hC hd hdeps => ?_
      have e0 : ρ (.tmp 3) = .pointer (some ⟨w.heap.size, 0, none⟩) := by rw [hρ]; rfl
      have e1 : ρ (.tmp 13) = r 1 := by rw [hρ]; rfl
      have hl : LatAt (p3U w.heap.size 30 #[.slice A names.length c, .slice B up.length e] #[.int .i64 code, .int .i64 mem, .int .i64 stack, .int .i64 val, .slice Q m0 f] #[.slice LA n0 lc, .int .i64 i, .slice LG g0 gc] #[.int .i64 code, .int .i64 mem, .int .i64 stack, .int .i64 val, .slice Q m f] #[.slice LA n lc, .int .i64 i, .slice LG g gc]) (r 1) W := hJ.f 1 (hdeps 1 (by decide))
      obtain ⟨NA, nn, nc, UA, un, uc, h2⟩ := hl.two
      rw [h2] at e1
      obtain ⟨hz, hset⟩ := hJ.set1 afU.k3 HAP.out hd (fun _ _ => trivial) h2
      have hz : Blk W (w.heap.size) 25 #[.slice A names.length c, .slice B up.length e] := hz
      obtain ⟨X1, eX1⟩ : ∃ U, W.setCell ⟨w.heap.size, 0, none⟩ (.slice NA nn nc) = U := ⟨_, rfl⟩
      obtain ⟨X2, eX2⟩ : ∃ U, X1.setCell ⟨w.heap.size, 1, none⟩ (.slice UA un uc) = U := ⟨_, rfl⟩
      have k1 := eX1 ▸ hz.set_ 0 (.slice NA nn nc)
      have f0 := hz.frozen 0
      have g0 := hz.cell 0
      have f1 := k1.frozen 1
      have g1 := k1.cell 1
      have hf := hset X2 (eX2 ▸ k1.set_ 1 (.slice UA un uc)) (fun k hk => by rw [← eX2, ← eX1]; exact (Below.heap_setCell _ _ _ k hk).trans (Below.heap_setCell _ _ _ k hk)) (fun B V hB hb => by rw [← eX2, ← eX1]; exact (hb.setCell (p := ⟨w.heap.size, 0, none⟩) hB _).setCell (p := ⟨w.heap.size, 1, none⟩) hB _)
      clear hρ h2 hset hz hl k1
      go_simp
      exact hf
    · refine Free.step_any rfl rfl fun done r W ρ hρ hcst hfun hJ hV hC hd hdeps => ?_
      have ep : ρ (.tmp 5) = .pointer (some ⟨w.heap.size + 1 + 1, 0, none⟩) := by rw [hρ]; rfl
      have eq : ρ (.tmp 15) = r 3 := by rw [hρ]; rfl
      have h2 : r 3 = .agg #[.slice LA n lc, .int .i64 i, .slice LG g gc] := hJ.f 3 (hdeps 3 (by decide))
      rw [h2] at eq
      obtain ⟨hz, hset⟩ := hJ.set3 afU.k3 HAP.out hd (fun _ _ => trivial)
      have hz : Blk W (w.heap.size + 1 + 1) 30 #[.slice LA n0 lc, .int .i64 i, .slice LG g0 gc] := hz
      obtain ⟨X0, X1, X2, e0, e1, e2, f0, f1, f2, g0, g1, g2, -, -, -, HZ, HH, HBL⟩ := n3_steps hz (.slice LA n lc) (.int .i64 i) (.slice LG g gc)
      have hf := hset X2 HZ.out HH.out HBL.out
      clear hρ h2 hset hz
      go_simp
      exact hf
    · refine Free.step_val _ rfl rfl fun done r W ρ hρ hcst hfun hJ hV hC hd hdeps => ?_
      have e0 : ρ (.tmp 4) = .pointer (some ⟨w.heap.size + 1, 0, none⟩) := by rw [hρ]; rfl
      clear hρ
      refine ⟨?_, hJ.made afU.k3 (show (11 : Nat) ≠ 13 by decide) (show (14 : Nat) ≠ 13 by decide) (show (12 : Nat) ≠ 13 by decide) (fun h => absurd (show (13 : Nat) = 1 from h) (by decide)) HSZ0.out (Below.refl _ _) trivial⟩
      go_simp
    · refine Free.step_any rfl rfl fun done r W ρ hρ hcst hfun hJ hV hC hd hdeps => ?_
      have e0 : ρ (.tmp 23) = .pointer (some ⟨w.heap.size + 1, 4, none⟩) := by rw [hρ]; exact hV 13 _ (hdeps 13 (by decide)) rfl
      have e1 : ρ (.tmp 22) = .slice Q m f := by rw [hρ]; exact hV 10 _ (hdeps 10 (by decide)) rfl
      obtain ⟨hz, hset⟩ := hJ.set2 afU.k3 HAP.out hd (fun _ _ => trivial)
      have hz : Blk W (w.heap.size + 1) 28 #[.int .i64 code, .int .i64 mem, .int .i64 stack, .int .i64 val, .slice Q m0 f] := hz
      obtain ⟨X1, eX1⟩ : ∃ U, W.setCell ⟨w.heap.size + 1, 4, none⟩ (.slice Q m f) = U := ⟨_, rfl⟩
      have f0 := hz.frozen 4
      have g0 := hz.cell 4
      have hf := hset X1 (eX1 ▸ hz.set_ 4 (.slice Q m f)) (fun k hk => by rw [← eX1]; exact Below.heap_setCell _ _ _ k hk) (fun B V hB hb => by rw [← eX1]; exact hb.setCell (p := ⟨w.heap.size + 1, 4, none⟩) hB _)
      clear hρ hset hz
      go_simp
      exact hf
  · intro done r X hall hJ hV
    obtain ⟨cl, ev, hx0⟩ := hJ.x1.2 (hall 11 (by decide))
    have hx1 := hJ.x2.2 (hall 14 (by decide))
    have hx2 := hJ.x3.2 (hall 12 (by decide))
    have hl : LatAt (p3U w.heap.size 30 #[.slice A names.length c, .slice B up.length e] #[.int .i64 code, .int .i64 mem, .int .i64 stack, .int .i64 val, .slice Q m0 f] #[.slice LA n0 lc, .int .i64 i, .slice LG g0 gc] #[.int .i64 code, .int .i64 mem, .int .i64 stack, .int .i64 val, .slice Q m f] #[.slice LA n lc, .int .i64 i, .slice LG g gc]) (r 1) X := hJ.f 1 (hall 1 (by decide))
    have hbX := hJ.below
    simp only [Free.putAll, Nat.zero_add]
    rw [ev] at hl
    clear hJ hV hall ev
    generalize r 0 = z0
    generalize r 1 = z1
    generalize r 2 = z2
    generalize r 3 = z3
    generalize r 4 = z4
    generalize r 5 = z5
    generalize r 6 = z6
    generalize r 7 = z7
    generalize r 8 = z8
    generalize r 9 = z9
    generalize r 10 = z10
    generalize r 11 = z11
    generalize r 12 = z12
    generalize r 13 = z13
    generalize r 14 = z14
    try clear r done
    obtain ⟨nm, u, hl⟩ := hl
    obtain ⟨NA, UA, c1, c2, e1⟩ := (hl X (K3.refl _ _)).form_ofU
    injection e1 with e1
    subst e1
    have hx0 : Blk X w.heap.size 25 #[.slice NA nm.length c1, .slice UA u.length c2] := hx0
    have hx1 : Blk X (w.heap.size + 1) 28 #[.int .i64 code, .int .i64 mem, .int .i64 stack, .int .i64 val, .slice Q m f] := hx1
    have hx2 : Blk X (w.heap.size + 1 + 1) 30 #[.slice LA n lc, .int .i64 i, .slice LG g gc] := hx2
    have hbX : Below w.heap.size w X := HB.out.trans hbX
    have HX0 := Lib.hid hx0
    have HX1 := Lib.hid hx1
    have HX2 := Lib.hid hx2
    have HBX := Lib.hid hbX
    have HBS := Lib.hid hbX.size
    have HLX := Lib.hid fun (W : World) (hW : Below X.heap.size X W) => hl W (K3.below hW)
    have hrow : ∀ (A : Option Addr) (l : List Int), Row w w.heap.size A (ints l) → ∀ W, Below X.heap.size X W → Row W w.heap.size A (ints l) := fun A l h W hW => (h.below HBX.out).below (hW.mono HBX.out.size)
    have HROW := Lib.hid hrow
    have hm6 : wss.length ≤ 1000000 := by have := HWN.out; have := HM.out.2; omega
    have hmf2 : wss.length ≤ f := by have := HWN.out; have := HM.out.1; omega
    have hmay := fun W hW => rMay15_any (names := nm) (up := u) (A := Q) ⟨code, mem, stack, val, wss⟩ f W (HLX.out W hW) ((HROW.out Q wss HQ2.out W hW).more (Nat.le_trans HBS.out hW.size)) hm6
    rw [← Gn.chk_may] at hmay
    have HRT := Lib.hid fun (W : World) => rRight13_any (A := LA) (L := LG) n lc g gc i W
    obtain ⟨ck, hck⟩ : ∃ ck, Gn.chkN nm u ⟨code, mem, stack, val, wss⟩ = ck := ⟨_, rfl⟩
    rw [hck] at hmay
    have hst : ∃ er rr, er ≠ 0 ∧ Calls Try.prog 7 #[.agg #[.slice NA nm.length c1, .slice UA u.length c2], .agg #[.int .i64 code, .int .i64 mem, .int .i64 stack, .int .i64 val, .slice Q m f], .agg #[.slice LA n lc, .int .i64 i, .slice LG g gc]] X (GotG X w.heap.size er n lst rr) ∧ ((ck ≠ 0 ∧ er = ck ∧ rr = none) ∨ (ck = 0 ∧ ¬ Dr.right n i g = true ∧ er = 1 ∧ rr = none) ∨ (ck = 0 ∧ Dr.right n i g = true ∧ er = 8 ∧ rr = Gn.state lst u.length ⟨code, mem, stack, val, wss⟩ ⟨i.toNat, lg⟩)) := by
      have hr := fun (A : Option Addr) (l : List Int) (h : Row w w.heap.size A (ints l)) => (HROW.out A l h X (Below.refl _ _))
      have hwn : (⟨code, mem, stack, val, wss⟩ : Gn.Sp).ws.length = m := HWN.out
      by_cases hz : ck = 0
      · by_cases hrt : Dr.right n i g = true
        · have hi0 : 0 ≤ i := by
            unfold Dr.right at hrt
            have := of_decide_eq_true hrt
            omega
          have h := gState_good (names := nm) (up := u) (A := LA) (L := LG) (Q := Q) (list := lst) (log := lg) n lc g gc f ⟨code, mem, stack, val, wss⟩ X (HLX.out X (Below.refl _ _)) ((hr Q wss HQ2.out).more HBS.out) hm6 hmf2 (hck.trans hz) HBS.out (RowX.of_low (hr Q wss HQ2.out) (Nat.le_refl _) HBS.out) (RowX.of_low (hr LA lst HL2.out) (Nat.le_refl _) HBS.out) (RowX.of_low (hr LG lg HG2.out) (Nat.le_refl _) HBS.out) HLN.out HGN.out i.toNat (by have := HNG.out.2.2; omega) (by rw [Int.toNat_of_nonneg hi0]; exact hrt)
          rw [Int.toNat_of_nonneg hi0] at h
          unfold spv at h
          rw [hwn] at h
          exact ⟨8, _, by decide, h, .inr (.inr ⟨hz, hrt, rfl, rfl⟩)⟩
        · have h := gState_bad (names := nm) (up := u) (A := LA) (L := LG) (Q := Q) (list := lst) (log := lg) n lc g gc f i ⟨code, mem, stack, val, wss⟩ X (HLX.out X (Below.refl _ _)) ((hr Q wss HQ2.out).more HBS.out) hm6 hmf2 (hck.trans hz) ((hr LA lst HL2.out).more HBS.out) ((hr LG lg HG2.out).more HBS.out) HLN.out HGN.out HNG.out.2.2 hrt
          unfold spv at h
          rw [hwn] at h
          exact ⟨1, none, by decide, h, .inr (.inl ⟨hz, hrt, rfl, rfl⟩)⟩
      · have h := gState_chk (names := nm) (up := u) (A := LA) (L := LG) (Q := Q) n lc g gc f i ⟨code, mem, stack, val, wss⟩ X (HLX.out X (Below.refl _ _)) ((hr Q wss HQ2.out).more HBS.out) hm6 hmf2 (by rw [hck]; exact hz)
        unfold spv at h
        rw [hwn, hck] at h
        exact ⟨ck, none, hz, h, .inl ⟨hz, rfl, rfl⟩⟩
    unfold spv at hmay
    rw [show (⟨code, mem, stack, val, wss⟩ : Gn.Sp).ws.length = m from HWN.out] at hmay
    dsimp only at hmay
    obtain ⟨er, rr, her, hst, hcases⟩ := hst
    have HST := Lib.hid hst
    have HER := Lib.hid her
    have HCA := Lib.hid hcases
    have HCK := Lib.hid hck
    have HMAY := Lib.hid hmay
    have l0 := (HX0.out.below (Below.refl _ _) HX0.out.lt).cell 0
    have l1 := (HX0.out.below (Below.refl _ _) HX0.out.lt).cell 1
    have x0 := (HX1.out.below (Below.refl _ _) HX1.out.lt).cell 0
    have x1 := (HX1.out.below (Below.refl _ _) HX1.out.lt).cell 1
    have x2 := (HX1.out.below (Below.refl _ _) HX1.out.lt).cell 2
    have x3 := (HX1.out.below (Below.refl _ _) HX1.out.lt).cell 3
    have x4 := (HX1.out.below (Below.refl _ _) HX1.out.lt).cell 4
    have y0 := (HX2.out.below (Below.refl _ _) HX2.out.lt).cell 0
    have y1 := (HX2.out.below (Below.refl _ _) HX2.out.lt).cell 1
    have y2 := (HX2.out.below (Below.refl _ _) HX2.out.lt).cell 2
    clear hx0 hx1 hx2 hbX hl hrow hm6 hmf2 hst her hcases hck hmay hmin2 hmf
    go_wp2_with (fail)
    refine HST.out.mono ?_
    rintro e9 w1 hgot
    obtain ⟨v, rfl, ⟨dv, sv, rfl, hD, hS⟩, hb1⟩ := hgot.tup HBS.out
    clear hgot HST
    obtain ⟨A1, n1, k1, i1, L1, n2, k2, rfl⟩ := hD.three
    obtain ⟨j1, j2, A3, n3, k3, A4, n4, k4, A5, n5, k5, rfl⟩ := hS.six
    have hb7 := Blk.new w1 30 #[.slice none 0 0, .int .i64 0, .slice none 0 0]
    obtain ⟨a7, ha7⟩ : ∃ U, w1.alloc (.cells #[.slice none 0 0, .int .i64 0, .slice none 0 0] 30) = U := ⟨_, rfl⟩
    rw [ha7] at hb7
    have hz7 : a7.heap.size = w1.heap.size + 1 := by rw [← ha7]; simp
    obtain ⟨a8, ha8⟩ : ∃ U, a7.alloc (.cells #[.int .i64 0, .int .i64 0, .slice none 0 0, .slice none 0 0, .slice none 0 0, .slice none 0 0] 39) = U := ⟨_, rfl⟩
    have hb7' : Blk a8 w1.heap.size 30 #[.slice none 0 0, .int .i64 0, .slice none 0 0] := ha8 ▸ hb7.alloc _
    have hb8 : Blk a8 a7.heap.size 39 #[.int .i64 0, .int .i64 0, .slice none 0 0, .slice none 0 0, .slice none 0 0, .slice none 0 0] := ha8 ▸ Blk.new _ _ _
    obtain ⟨X1, X2, X3, d0, d1, d2, f0, f1, f2, q0, q1, q2, -, -, -, HZ, HH, HBL⟩ := n3_steps hb7' (.slice A1 n1 k1) (.int .i64 i1) (.slice L1 n2 k2)
    have hb8' : Blk X3 a7.heap.size 39 #[.int .i64 0, .int .i64 0, .slice none 0 0, .slice none 0 0, .slice none 0 0, .slice none 0 0] := (HH.out _ (by omega)).trans hb8
    obtain ⟨Y1, Y2, Y3, Y4, Y5, Y6, d3, d4, d5, d6, d7, d8, f3, f4, f5, f6, f7, f8, q3, q4, q5, q6, q7, q8, -, -, -, -, -, -, HZ2, HH2, HBL2⟩ := n6_steps13 hb8' (.int .i64 j1) (.int .i64 j2) (.slice A3 n3 k3) (.slice A4 n4 k4) (.slice A5 n5 k5) (.slice none 0 0)
    have hbY : Below w1.heap.size w1 Y6 := HBL2.out _ _ (by omega) (HBL.out _ _ (Nat.le_refl _) (ha8 ▸ (show Below w1.heap.size w1 a7 from ha7 ▸ (Below.refl _ w1).alloc (Nat.le_refl _) _).alloc (by omega) _))
    have hbx : Below X.heap.size X Y6 := hb1.trans (hbY.mono hb1.size)
    have hD := hD.kb (Kb.below w.heap.size hbY)
    have hS := hS.kb (Kb.below w.heap.size hbY)
    have HDX : Hid (Blk Y6 w1.heap.size 30 #[.slice A1 n1 k1, .int .i64 i1, .slice L1 n2 k2]) := Lib.hid ((HH2.out _ (by omega)).trans HZ.out)
    have HSX : Hid (Blk Y6 a7.heap.size 39 #[.int .i64 j1, .int .i64 j2, .slice A3 n3 k3, .slice A4 n4 k4, .slice A5 n5 k5, .slice none 0 0]) := HZ2
    have HD := Lib.hid hD
    have HS := Lib.hid hS
    have HB1 := Lib.hid hbx
    clear hD hS hbY hb7 hb8 hb7' hb8' HZ HZ2 HH HH2 HBL HBL2 hz7 l0 l1 x0 x1 x2 x3 x4 y0 y1 y2 hb1
    have l0 := (HX0.out.below hbx HX0.out.lt).cell 0
    have l1 := (HX0.out.below hbx HX0.out.lt).cell 1
    have x0 := (HX1.out.below hbx HX1.out.lt).cell 0
    have x1 := (HX1.out.below hbx HX1.out.lt).cell 1
    have x2 := (HX1.out.below hbx HX1.out.lt).cell 2
    have x3 := (HX1.out.below hbx HX1.out.lt).cell 3
    have x4 := (HX1.out.below hbx HX1.out.lt).cell 4
    have y0 := (HX2.out.below hbx HX2.out.lt).cell 0
    have y1 := (HX2.out.below hbx HX2.out.lt).cell 1
    have y2 := (HX2.out.below hbx HX2.out.lt).cell 2
    clear hbx
    go_wp2_with (fail)
    refine (HMAY.out Y6 HB1.out).mono ?_
    rintro e9 w2 ⟨rfl, hb2⟩
    have hb2' := HB1.out.trans (hb2.mono HB1.out.size)
    have HB2 := Lib.hid hb2'
    have HBY2 := Lib.hid hb2
    clear l0 l1 x0 x1 x2 x3 x4 y0 y1 y2 HMAY ha7 ha8 d0 d1 d2 d3 d4 d5 d6 d7 d8 f0 f1 f2 f3 f4 f5 f6 f7 f8 q0 q1 q2 q3 q4 q5 q6 q7 q8
    have l0 := (HX0.out.below hb2' HX0.out.lt).cell 0
    have l1 := (HX0.out.below hb2' HX0.out.lt).cell 1
    have x0 := (HX1.out.below hb2' HX1.out.lt).cell 0
    have x1 := (HX1.out.below hb2' HX1.out.lt).cell 1
    have x2 := (HX1.out.below hb2' HX1.out.lt).cell 2
    have x3 := (HX1.out.below hb2' HX1.out.lt).cell 3
    have x4 := (HX1.out.below hb2' HX1.out.lt).cell 4
    have y0 := (HX2.out.below hb2' HX2.out.lt).cell 0
    have y1 := (HX2.out.below hb2' HX2.out.lt).cell 1
    have y2 := (HX2.out.below hb2' HX2.out.lt).cell 2
    clear hb2 hb2'
    obtain ⟨hsd, hss⟩ : (∀ W, Below w2.heap.size w2 W → rr = none → Calls Try.prog 11 #[.agg #[.slice A1 n1 k1, .int .i64 i1, .slice L1 n2 k2], .agg #[.slice none 0 0, .int .i64 0, .slice none 0 0]] W (Tells W true)) ∧ (∀ W, Below w2.heap.size w2 W → rr = none → Calls Try.prog 12 #[.agg #[.int .i64 j1, .int .i64 j2, .slice A3 n3 k3, .slice A4 n4 k4, .slice A5 n5 k5, .slice none 0 0], .agg #[.int .i64 0, .int .i64 0, .slice none 0 0, .slice none 0 0, .slice none 0 0, .slice none 0 0]] W (Tells W true)) := by
      refine ⟨fun W hW h => ?_, fun W hW h => ?_⟩
      · subst h
        have hD : Value.agg #[.slice A1 n1 k1, .int .i64 i1, .slice L1 n2 k2] = .agg zD := HD.out
        rw [hD]
        exact rSame13_any (l1 := []) (l2 := []) (g1 := []) (g2 := []) 0 0 0 0 0 0 0 0 0 0 W Row.nil Row.nil Row.nil Row.nil rfl rfl rfl rfl (by decide) (by decide) (by decide) (by decide)
      · subst h
        have hS : Value.agg #[.int .i64 j1, .int .i64 j2, .slice A3 n3 k3, .slice A4 n4 k4, .slice A5 n5 k5, .slice none 0 0] = .agg zS := HS.out
        rw [hS]
        have hz : IsSt W W.heap.size (.agg zS) ⟨⟨0, 0⟩, [], [], [], []⟩ := ⟨_, _, _, _, rfl, ⟨none, 0, rfl, Row.nil, Nat.le_refl _⟩, ⟨none, 0, rfl, Row.nil, Nat.le_refl _⟩, ⟨none, 0, rfl, Row.nil, Nat.le_refl _⟩, ⟨none, 0, rfl, Row.nil, Nat.le_refl _⟩⟩
        have h := rSame9_any W hz hz ⟨by decide, by decide, by decide, by decide⟩ ⟨by decide, by decide, by decide, by decide⟩
        rw [sameB_iff.2 rfl] at h
        exact h
    have HSD := Lib.hid hsd
    have HSS := Lib.hid hss
    clear hsd hss
    rcases HCA.out with ⟨hz, he, hr⟩ | ⟨hz, hrt, he, hr⟩ | ⟨hz, hrt, he, hr⟩
    · subst he
      subst hr
      have hz1 : ((er : Int) == 0) = false := by rw [beq_eq_false_iff_ne]; omega
      have hz2 : ((er : Int) != 0) = true := by rw [bne_iff_ne]; omega
      rw [show errN er none = er from rfl]
      go_wp2_with (fail)
      refine (HALIVE.out w2).mono ?_
      rintro e9 w3 ⟨rfl, hb3⟩
      have hb3 : Below w2.heap.size w2 w3 := hb3
      have HB3 := Lib.hid hb3
      have hby := HBY2.out.trans (hb3.mono HBY2.out.size)
      have u0 := (HDX.out.below hby HDX.out.lt).cell 0
      have u1 := (HDX.out.below hby HDX.out.lt).cell 1
      have u2 := (HDX.out.below hby HDX.out.lt).cell 2
      clear hby hb3
      go_wp2_with (fail)
      refine (HSD.out w3 HB3.out (by first | trivial | rfl)).mono ?_
      rintro e9 w4 ⟨rfl, hb4⟩
      have hb4 := HB3.out.trans (hb4.mono HB3.out.size)
      have HB4 := Lib.hid hb4
      have hby := HBY2.out.trans (hb4.mono HBY2.out.size)
      have v0 := (HSX.out.below hby HSX.out.lt).cell 0
      have v1 := (HSX.out.below hby HSX.out.lt).cell 1
      have v2 := (HSX.out.below hby HSX.out.lt).cell 2
      have v3 := (HSX.out.below hby HSX.out.lt).cell 3
      have v4 := (HSX.out.below hby HSX.out.lt).cell 4
      have v5 := (HSX.out.below hby HSX.out.lt).cell 5
      clear hby hb4 u0 u1 u2
      go_wp2_with (fail)
      refine (HSS.out w4 HB4.out (by first | trivial | rfl)).mono ?_
      rintro e9 w5 ⟨rfl, hb5⟩
      have HB5 := Lib.hid (HBX.out.trans ((HB2.out.trans ((HB4.out.trans (hb5.mono HB4.out.size)).mono HB2.out.size)).mono HBX.out.size))
      clear hb5 v0 v1 v2 v3 v4 v5
      go_wp2
      go_ret
      exact ⟨rfl, HB5.out⟩
    · subst hz
      subst he
      subst hr
      rw [show errN 1 none = 1 from rfl]
      have HRF := Lib.hid (HRT.out w2)
      rw [show Dr.right n i g = false by simpa using hrt] at HRF
      clear hrt
      go_wp2_with (fail)
      refine HRF.out.mono ?_
      rintro e9 wq ⟨rfl, hbq⟩
      have HBQ := Lib.hid hbq
      clear hbq l0 l1 x0 x1 x2 x3 x4 y0 y1 y2
      go_wp2_with (fail)
      refine (HALIVE.out wq).mono ?_
      rintro e9 w3 ⟨rfl, hb3⟩
      have hb3 : Below w2.heap.size w2 w3 := HBQ.out.trans (hb3.mono HBQ.out.size)
      have HB3 := Lib.hid hb3
      have hby := HBY2.out.trans (hb3.mono HBY2.out.size)
      have u0 := (HDX.out.below hby HDX.out.lt).cell 0
      have u1 := (HDX.out.below hby HDX.out.lt).cell 1
      have u2 := (HDX.out.below hby HDX.out.lt).cell 2
      clear hby hb3
      go_wp2_with (fail)
      refine (HSD.out w3 HB3.out (by first | trivial | rfl)).mono ?_
      rintro e9 w4 ⟨rfl, hb4⟩
      have hb4 := HB3.out.trans (hb4.mono HB3.out.size)
      have HB4 := Lib.hid hb4
      have hby := HBY2.out.trans (hb4.mono HBY2.out.size)
      have v0 := (HSX.out.below hby HSX.out.lt).cell 0
      have v1 := (HSX.out.below hby HSX.out.lt).cell 1
      have v2 := (HSX.out.below hby HSX.out.lt).cell 2
      have v3 := (HSX.out.below hby HSX.out.lt).cell 3
      have v4 := (HSX.out.below hby HSX.out.lt).cell 4
      have v5 := (HSX.out.below hby HSX.out.lt).cell 5
      clear hby hb4 u0 u1 u2
      go_wp2_with (fail)
      refine (HSS.out w4 HB4.out (by first | trivial | rfl)).mono ?_
      rintro e9 w5 ⟨rfl, hb5⟩
      have HB5 := Lib.hid (HBX.out.trans ((HB2.out.trans ((HB4.out.trans (hb5.mono HB4.out.size)).mono HB2.out.size)).mono HBX.out.size))
      clear hb5 v0 v1 v2 v3 v4 v5
      go_wp2
      go_ret
      exact ⟨rfl, HB5.out⟩
    · subst hz
      subst he
      obtain ⟨ee, hee⟩ : ∃ x, errN 8 rr = x := ⟨_, rfl⟩
      rw [hee]
      have HEE := Lib.hid hee
      clear hee
      have HRF := Lib.hid (HRT.out w2)
      rw [hrt] at HRF
      have hrr := hrt
      unfold Dr.right at hrr
      have hrr := of_decide_eq_true hrr
      have HRD := Lib.hid hrr
      clear hrt hrr
      go_wp2_with (fail)
      refine HRF.out.mono ?_
      rintro e9 wq ⟨rfl, hbq⟩
      have HBQ := Lib.hid hbq
      have hbq2 := HB2.out.trans (hbq.mono HB2.out.size)
      have HBX3 := Lib.hid hbq2
      have hF := Gn.fits_of (len_of_checkN (Gn.chk_zero HCK.out).1).1 (Gn.chk_zero HCK.out).2
      have hk8 := (len_of_checkN (Gn.chk_zero HCK.out).1).2
      have hr2 := fun (A : Option Addr) (l : List Int) (h : Row w w.heap.size A (ints l)) => ((HROW.out A l h wq hbq2).more (Nat.le_trans HBS.out hbq2.size))
      have hi0 := HRD.out.2.2
      have hst := rState15_any (N := NA) (U := UA) (A := LA) (L := LG) (W := Q) (list := lst) (log := lg) nm.length u.length c1 c2 n lc gc i.toNat f ⟨code, mem, stack, val, wss⟩ wq (hr2 LA lst HL2.out) (hr2 LG lg HG2.out) HLN.out HRD.out.1 (by rw [HGN.out]; exact HRD.out.2.1) hF (by omega) (hr2 Q wss HQ2.out) (by show wss.length ≤ f; have := HWN.out; have := HM.out.1; omega)
      rw [Int.toNat_of_nonneg hi0, HGN.out] at hst
      unfold spv at hst
      rw [show (⟨code, mem, stack, val, wss⟩ : Gn.Sp).ws.length = m from HWN.out] at hst
      dsimp only at hst
      have HSTR := Lib.hid hst
      clear hbq hst hr2 hi0 hF hk8 l0 l1 x0 x1 x2 x3 x4 y0 y1 y2
      have l0 := (HX0.out.below hbq2 HX0.out.lt).cell 0
      have l1 := (HX0.out.below hbq2 HX0.out.lt).cell 1
      have x0 := (HX1.out.below hbq2 HX1.out.lt).cell 0
      have x1 := (HX1.out.below hbq2 HX1.out.lt).cell 1
      have x2 := (HX1.out.below hbq2 HX1.out.lt).cell 2
      have x3 := (HX1.out.below hbq2 HX1.out.lt).cell 3
      have x4 := (HX1.out.below hbq2 HX1.out.lt).cell 4
      have y0 := (HX2.out.below hbq2 HX2.out.lt).cell 0
      have y1 := (HX2.out.below hbq2 HX2.out.lt).cell 1
      have y2 := (HX2.out.below hbq2 HX2.out.lt).cell 2
      clear hbq2
      have HRR := Lib.hid hr
      clear hr
      go_wp2_with (fail)
      refine HSTR.out.mono ?_
      rintro e9 w3 hgs
      clear HSTR l0 l1 x0 x1 x2 x3 x4 y0 y1 y2
      cases rr with
      | none =>
        rw [← HRR.out] at hgs
        obtain ⟨rfl, hb3⟩ := hgs
        obtain rfl : 8 = ee := HEE.out
        obtain ⟨a9, ha9⟩ : ∃ U, w3.alloc (.cells #[.slice none 0 0, .int .i64 0, .slice none 0 0, .int .i64 0, .int .i64 0, .slice none 0 0, .slice none 0 0, .slice none 0 0, .slice none 0 0, .int .i64 8] 49) = U := ⟨_, rfl⟩
        have hn : Blk a9 w3.heap.size 49 #[.slice none 0 0, .int .i64 0, .slice none 0 0, .int .i64 0, .int .i64 0, .slice none 0 0, .slice none 0 0, .slice none 0 0, .slice none 0 0, .int .i64 8] := ha9 ▸ Blk.new _ _ _
        have sA : (w3.alloc (.cells #[.slice none 0 0, .int .i64 0, .slice none 0 0, .int .i64 0, .int .i64 0, .slice none 0 0, .slice none 0 0, .slice none 0 0, .slice none 0 0, .int .i64 0] 49)).setRow w3.heap.size #[.slice none 0 0, .int .i64 0, .slice none 0 0, .int .i64 0, .int .i64 0, .slice none 0 0, .slice none 0 0, .slice none 0 0, .slice none 0 0, .int .i64 8] = a9 := (World.setRow_alloc_new w3 _ _ _).trans ha9
        have bA := Lib.hid (Blk.new w3 49 #[.slice none 0 0, .int .i64 0, .slice none 0 0, .int .i64 0, .int .i64 0, .slice none 0 0, .slice none 0 0, .slice none 0 0, .slice none 0 0, .int .i64 0])
        have hb9 : Below w3.heap.size w3 a9 := ha9 ▸ (Below.refl _ w3).alloc (Nat.le_refl _) _
        have hbz := (HBQ.out.trans (hb3.mono HBQ.out.size)).trans (hb9.mono (Nat.le_trans HBQ.out.size hb3.size))
        have HBZ := Lib.hid hbz
        have HN := Lib.hid hn
        have HSD2 := Lib.hid fun (W : World) (hW : Below w2.heap.size w2 W) => HSD.out W hW (by first | trivial | rfl)
        have HSS2 := Lib.hid fun (W : World) (hW : Below w2.heap.size w2 W) => HSS.out W hW (by first | trivial | rfl)
        clear HRR HSD HSS HD HS
        clear hb3 hb9 hbz hn ha9
        go_wp2_with (refine wpList_store_rowTo rfl 49 (.tmp 11) (.tmp 63) rfl rfl (w3.heap.size) #[.slice none 0 0, .int .i64 0, .slice none 0 0, .int .i64 0, .int .i64 0, .slice none 0 0, .slice none 0 0, .slice none 0 0, .slice none 0 0, .int .i64 8] rfl rfl 49 _ bA.out Try.sizeS15 rfl (by kernel_rfl) ?_)
        refine (HALIVE.out a9).mono ?_
        rintro e9 w4 ⟨rfl, hb4⟩
        have hb4' := HBZ.out.trans (hb4.mono HBZ.out.size)
        have HB4 := Lib.hid hb4'
        have HA4 := Lib.hid hb4
        have hby := HBY2.out.trans (hb4'.mono HBY2.out.size)
        have u0 := (HDX.out.below hby HDX.out.lt).cell 0
        have u1 := (HDX.out.below hby HDX.out.lt).cell 1
        have u2 := (HDX.out.below hby HDX.out.lt).cell 2
        have t0 := (HN.out.below hb4 HN.out.lt).cell 0
        have t1 := (HN.out.below hb4 HN.out.lt).cell 1
        have t2 := (HN.out.below hb4 HN.out.lt).cell 2
        have t9 := (HN.out.below hb4 HN.out.lt).cell 9
        clear hb4 hb4' hby sA bA
        go_wp2_with (fail)
        refine (HSD2.out w4 HB4.out).mono ?_
        rintro e9 w5 ⟨rfl, hb5⟩
        have hb5' := HB4.out.trans (hb5.mono HB4.out.size)
        have HB5 := Lib.hid hb5'
        have hby := HBY2.out.trans (hb5'.mono HBY2.out.size)
        have hb59 := HA4.out.trans (hb5.mono HA4.out.size)
        have v0 := (HSX.out.below hby HSX.out.lt).cell 0
        have v1 := (HSX.out.below hby HSX.out.lt).cell 1
        have v2 := (HSX.out.below hby HSX.out.lt).cell 2
        have v3 := (HSX.out.below hby HSX.out.lt).cell 3
        have v4 := (HSX.out.below hby HSX.out.lt).cell 4
        have v5 := (HSX.out.below hby HSX.out.lt).cell 5
        have t3 := (HN.out.below hb59 HN.out.lt).cell 3
        have t4 := (HN.out.below hb59 HN.out.lt).cell 4
        have t5 := (HN.out.below hb59 HN.out.lt).cell 5
        have t6 := (HN.out.below hb59 HN.out.lt).cell 6
        have t7 := (HN.out.below hb59 HN.out.lt).cell 7
        have t8 := (HN.out.below hb59 HN.out.lt).cell 8
        clear hby hb5 hb5' hb59 u0 u1 u2 t0 t1 t2 t9
        go_wp2_with (fail)
        refine (HSS2.out w5 HB5.out).mono ?_
        rintro e9 w6 ⟨rfl, hb6⟩
        have HB6 := Lib.hid (HBX.out.trans ((HB2.out.trans ((HB5.out.trans (hb6.mono HB5.out.size)).mono HB2.out.size)).mono HBX.out.size))
        clear hb6 v0 v1 v2 v3 v4 v5 t3 t4 t5 t6 t7 t8
        go_wp2
        go_ret
        exact ⟨rfl, HB6.out⟩
      | some sd =>
        obtain ⟨s, d⟩ := sd
        rw [← HRR.out] at hgs
        obtain ⟨LB, db, cv, mv, sv, rfl, og, oc, om, os, hb3⟩ := hgs
        obtain ⟨cA, cc, rfl⟩ := ownT_slice oc
        obtain ⟨mA, mc, rfl⟩ := ownT_slice om
        obtain ⟨sA9, sc, rfl⟩ := ownT_slice os
        obtain rfl : 0 = ee := HEE.out
        have hF2 := Gn.fits_of (len_of_checkN (Gn.chk_zero HCK.out).1).1 (Gn.chk_zero HCK.out).2
        have hin := Gn.state_in lst hF2 _ _ _ HRR.out.symm
        obtain ⟨hsm, hout⟩ := small_ofU hF2 hin
        obtain ⟨A9, q9, L9, p9, eD, hra, hrl, hl9⟩ := HD.out
        obtain ⟨cv9, mv9, sv9, eS, o1, o2, o3⟩ := HS.out
        obtain ⟨a9, ha9⟩ : ∃ U, w3.alloc (.cells #[.slice LA n lc, .int .i64 (d.i : Int), .slice LB d.log.length db, .int .i64 s.pc.v, .int .i64 s.pc.l, .slice cA s.code.length cc, .slice mA s.mem.length mc, .slice sA9 s.stack.length sc, .slice none 0 0, .int .i64 0] 49) = U := ⟨_, rfl⟩
        have hn : Blk a9 w3.heap.size 49 #[.slice LA n lc, .int .i64 (d.i : Int), .slice LB d.log.length db, .int .i64 s.pc.v, .int .i64 s.pc.l, .slice cA s.code.length cc, .slice mA s.mem.length mc, .slice sA9 s.stack.length sc, .slice none 0 0, .int .i64 0] := ha9 ▸ Blk.new _ _ _
        have sA : (w3.alloc (.cells #[.slice none 0 0, .int .i64 0, .slice none 0 0, .int .i64 0, .int .i64 0, .slice none 0 0, .slice none 0 0, .slice none 0 0, .slice none 0 0, .int .i64 0] 49)).setRow w3.heap.size #[.slice LA n lc, .int .i64 (d.i : Int), .slice LB d.log.length db, .int .i64 s.pc.v, .int .i64 s.pc.l, .slice cA s.code.length cc, .slice mA s.mem.length mc, .slice sA9 s.stack.length sc, .slice none 0 0, .int .i64 0] = a9 := (World.setRow_alloc_new w3 _ _ _).trans ha9
        have bA := Lib.hid (Blk.new w3 49 #[.slice none 0 0, .int .i64 0, .slice none 0 0, .int .i64 0, .int .i64 0, .slice none 0 0, .slice none 0 0, .slice none 0 0, .slice none 0 0, .int .i64 0])
        have hb9 : Below w3.heap.size w3 a9 := ha9 ▸ (Below.refl _ w3).alloc (Nat.le_refl _) _
        have hbz := (HBQ.out.trans (hb3.mono HBQ.out.size)).trans (hb9.mono (Nat.le_trans HBQ.out.size hb3.size))
        have HBZ := Lib.hid hbz
        have HN := Lib.hid hn
        have hiu := isSt_ownU hout o1 o2 o3
        have hiv := isSt_ownU hout oc om os
        have hnl := HRD.out.1
        have HSD2 := Lib.hid fun (W : World) (hW : Below a9.heap.size a9 W) (hW2 : Below w2.heap.size w2 W) => (show Calls Try.prog 11 #[.agg #[.slice A1 n1 k1, .int .i64 i1, .slice L1 n2 k2], .agg #[.slice LA n lc, .int .i64 (d.i : Int), .slice LB d.log.length db]] W (Tells W true) from by
          have hyW := HBY2.out.trans (hW2.mono HBY2.out.size)
          have hqa := (HROW.out LA lst HL2.out W (HB2.out.trans (hW2.mono HB2.out.size))).more (Nat.le_trans HBS.out (Nat.le_trans HB2.out.size hW2.size))
          have h := rSame13_any (l1 := lst) (l2 := lst) (g1 := d.log) (g2 := d.log) n n d.log.length d.log.length q9 lc p9 db (d.i : Int) (d.i : Int) W ((hra.move (Mv.below _ hyW)).row) hqa ((hrl.move (Mv.below _ hyW)).row) (((ownT_row og).1.below (hb9.trans (hW.mono hb9.size))).more (Nat.le_trans hb9.size hW.size)) HLN.out HLN.out rfl rfl (by omega) (by omega) (by omega) (by omega)
          rw [show decide ((d.i : Int) = (d.i : Int) ∧ lst = lst ∧ d.log = d.log) = true from decide_eq_true ⟨rfl, rfl, rfl⟩, ← eD] at h
          exact h)
        have HSS2 := Lib.hid fun (W : World) (hW : Below a9.heap.size a9 W) (hW2 : Below w2.heap.size w2 W) => (show Calls Try.prog 12 #[.agg #[.int .i64 j1, .int .i64 j2, .slice A3 n3 k3, .slice A4 n4 k4, .slice A5 n5 k5, .slice none 0 0], .agg #[.int .i64 s.pc.v, .int .i64 s.pc.l, .slice cA s.code.length cc, .slice mA s.mem.length mc, .slice sA9 s.stack.length sc, .slice none 0 0]] W (Tells W true) from by
          have hyW := HBY2.out.trans (hW2.mono HBY2.out.size)
          have h := rSame9_any W ((hiu.below hyW).more hyW.size) ((hiv.below (hb9.trans (hW.mono hb9.size))).more (Nat.le_trans hb9.size hW.size)) hsm hsm
          rw [sameB_iff.2 (rfl : s = s), ← eS] at h
          exact h)
        clear HRR HSD HSS HD HS og oc om os hF2 hin hsm hout eD hra hrl hl9 eS o1 o2 o3 hiu hiv hnl
        clear hb3 hb9 hbz hn ha9
        go_wp2_with (refine wpList_store_rowTo rfl 49 (.tmp 11) (.tmp 63) rfl rfl (w3.heap.size) #[.slice LA n lc, .int .i64 (d.i : Int), .slice LB d.log.length db, .int .i64 s.pc.v, .int .i64 s.pc.l, .slice cA s.code.length cc, .slice mA s.mem.length mc, .slice sA9 s.stack.length sc, .slice none 0 0, .int .i64 0] rfl rfl 49 _ bA.out Try.sizeS15 rfl (by kernel_rfl) ?_)
        refine (HALIVE.out a9).mono ?_
        rintro e9 w4 ⟨rfl, hb4⟩
        have hb4' := HBZ.out.trans (hb4.mono HBZ.out.size)
        have HB4 := Lib.hid hb4'
        have HA4 := Lib.hid hb4
        have hby := HBY2.out.trans (hb4'.mono HBY2.out.size)
        have u0 := (HDX.out.below hby HDX.out.lt).cell 0
        have u1 := (HDX.out.below hby HDX.out.lt).cell 1
        have u2 := (HDX.out.below hby HDX.out.lt).cell 2
        have t0 := (HN.out.below hb4 HN.out.lt).cell 0
        have t1 := (HN.out.below hb4 HN.out.lt).cell 1
        have t2 := (HN.out.below hb4 HN.out.lt).cell 2
        have t9 := (HN.out.below hb4 HN.out.lt).cell 9
        clear hb4 hb4' hby sA bA
        go_wp2_with (fail)
        refine (HSD2.out w4 HA4.out HB4.out).mono ?_
        rintro e9 w5 ⟨rfl, hb5⟩
        have hb5' := HB4.out.trans (hb5.mono HB4.out.size)
        have HB5 := Lib.hid hb5'
        have hby := HBY2.out.trans (hb5'.mono HBY2.out.size)
        have hb59 := HA4.out.trans (hb5.mono HA4.out.size)
        have v0 := (HSX.out.below hby HSX.out.lt).cell 0
        have v1 := (HSX.out.below hby HSX.out.lt).cell 1
        have v2 := (HSX.out.below hby HSX.out.lt).cell 2
        have v3 := (HSX.out.below hby HSX.out.lt).cell 3
        have v4 := (HSX.out.below hby HSX.out.lt).cell 4
        have v5 := (HSX.out.below hby HSX.out.lt).cell 5
        have t3 := (HN.out.below hb59 HN.out.lt).cell 3
        have t4 := (HN.out.below hb59 HN.out.lt).cell 4
        have t5 := (HN.out.below hb59 HN.out.lt).cell 5
        have t6 := (HN.out.below hb59 HN.out.lt).cell 6
        have t7 := (HN.out.below hb59 HN.out.lt).cell 7
        have t8 := (HN.out.below hb59 HN.out.lt).cell 8
        have HA5 := Lib.hid hb59
        clear hby hb5 hb5' hb59 u0 u1 u2 t0 t1 t2 t9
        go_wp2_with (fail)
        refine (HSS2.out w5 HA5.out HB5.out).mono ?_
        rintro e9 w6 ⟨rfl, hb6⟩
        have HB6 := Lib.hid (HBX.out.trans ((HB2.out.trans ((HB5.out.trans (hb6.mono HB5.out.size)).mono HB2.out.size)).mono HBX.out.size))
        clear hb6 v0 v1 v2 v3 v4 v5 t3 t4 t5 t6 t7 t8
        go_wp2
        go_ret
        exact ⟨rfl, HB6.out⟩
end Go.Proofs.Ytmbgndcahlopdaa
