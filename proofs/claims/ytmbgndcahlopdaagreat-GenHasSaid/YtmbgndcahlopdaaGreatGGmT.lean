/- The law GenHas (by gen_gmt.py). -/
import Derived.Test.YtmbgndcahlopdaaGreatGGmI
import Derived.Test.YtmbgndcahlopdaaGreatGGnA
import Derived.Test.YtmbgndcahlopdaaGreatGGnB
import Derived.Test.YtmbgndcahlopdaaGreatGStpR
import Derived.Test.YtmbgndcahlopdaaGreatGCodE
namespace Go.Proofs.YtmbgndcahlopdaaGreat
set_option maxRecDepth 100000
open Go.RowKit Go.Shelf
attribute [local go_sem] Oper.semAt_some

abbrev p3 (B : Nat) (t3 : TypeId) (c1 c2 c3 n2 n3 : Array Value) : P3 := ⟨B, B, B + 1, B + 1 + 1, 25, 28, t3, c1, c2, c3, n2, n3, 11, 14, 12, 1⟩
def afT (q : P3) (x : Value) (k : Nat) (v : Value) (W : World) : Prop := match k with
  | 1 => LatAt q v W
  | 3 => v = x
  | _ => True
theorem afT.k3 {q : P3} {x : Value} (k : Nat) (v : Value) (W W' : World) (h : afT q x k v W) (hk : K3 q W W') : afT q x k v W' := by
  unfold afT at h ⊢
  split
  · exact LatAt.k3 h hk
  · exact h
  · trivial
theorem ap3 (B : Nat) (t3 : TypeId) (c1 c2 c3 n2 n3 : Array Value) : Ap3 (p3 B t3 c1 c2 c3 n2 n3) := by
  constructor <;> dsimp only [p3] <;> omega
theorem IsLat.form_ofT {w : World} {B : Nat} {v : Value} {names : List ByteArray} {up : List Nat} (h : IsLat w B v names up) : ∃ (A A' : Option Addr) (c c' : Nat), v = .agg #[.slice A names.length c, .slice A' up.length c'] := by
  obtain ⟨⟨A, A', c, c', e, -, -⟩, -, -, -⟩ := h
  exact ⟨A, A', c, c', e⟩
set_option maxHeartbeats 32000000 in
theorem genHas_any {A B Q : Option Addr} {names : List ByteArray} {up : List Nat} {s0 : St.State} {cA mA sA oA : Option Addr} {cc mc sc oc : Nat} (c e f : Nat) (p : Gn.Sp) (w : World) (hN : Row w w.heap.size A (strs names)) (hU : Ups w w.heap.size B up) (hc : names.length ≤ c) (he : up.length ≤ e) (hm : c ≤ maxLen) (hm2 : e ≤ maxLen) (hsz : ∀ s ∈ names, s.size ≤ maxLen)
    (hQ : Row w w.heap.size Q (ints p.ws)) (hf : p.ws.length ≤ f) (hst : StIn w w.heap.size s0 cA cc mA mc sA sc oA oc) :
    Calls Tryz.prog 3 #[.agg #[.slice A names.length c, .slice B up.length e], spv p Q f, incv s0 cA cc mA mc sA sc oA oc] w (Tells w true) := by
  have hcut := fun W => scut_any10 W hst
  have his := fun W (hb : Below w.heap.size w W) => ((hst.cut.below hb).more hb.size).isSt
  have HSM := Lib.hid (cutS_small s0)
  rw [incv_cut] at his hcut
  obtain ⟨s, hs⟩ : ∃ a, cutS s0 = a := ⟨_, rfl⟩
  rw [hs] at his HSM
  unfold incv at hcut ⊢
  generalize s0.pc.v = pv at *
  generalize s0.pc.l = pl at *
  obtain ⟨kc, hkc⟩ : ∃ k, s0.code.length = k := ⟨_, rfl⟩
  obtain ⟨km, hkm⟩ : ∃ k, s0.mem.length = k := ⟨_, rfl⟩
  obtain ⟨ks, hks⟩ : ∃ k, s0.stack.length = k := ⟨_, rfl⟩
  obtain ⟨ko, hko⟩ : ∃ k, s0.out.length = k := ⟨_, rfl⟩
  rw [hkc, hkm, hks, hko] at hcut his ⊢
  generalize min 15 kc = nc at *
  generalize min 15 km = nm_ at *
  generalize min 15 ks = ns at *
  generalize min 15 ko = no at *
  obtain ⟨code, mem, stack, val, ws⟩ := p
  unfold spv
  dsimp only at hQ hf ⊢
  obtain ⟨m0, hm0⟩ : ∃ m, ws.length = m := ⟨_, rfl⟩
  obtain ⟨m, hmin2⟩ : ∃ m : Nat, min (m0 : Int) 16 = (m : Int) := ⟨min m0 16, by omega⟩
  obtain ⟨wss, hwss⟩ : ∃ l, ws.take m = l := ⟨_, rfl⟩
  have hwn : wss.length = m := by rw [← hwss, List.length_take]; omega
  have hQ2 : Row w w.heap.size Q (ints wss) := by have h := hQ.take m; rw [← hwss]; simpa [ints, List.map_take] using h
  rw [hm0]
  have hmf : m ≤ f := by omega
  have hm16 : m ≤ 16 := by omega
  obtain ⟨W0, hW0⟩ : ∃ W0, ((w.alloc (.cells #[.slice A names.length c, .slice B up.length e] 25)).alloc (.cells #[.int .i64 code, .int .i64 mem, .int .i64 stack, .int .i64 val, .slice Q m0 f] 28)).alloc (.cells #[.int .i64 pv, .int .i64 pl, .slice cA kc cc, .slice mA km mc, .slice sA ks sc, .slice oA ko oc] 35) = W0 := ⟨_, rfl⟩
  have hb : Below w.heap.size w W0 := hW0 ▸ (((Below.refl _ w).alloc (Nat.le_refl _) _).alloc (by simp) _).alloc (by simp; omega) _
  have hp0 : Blk W0 w.heap.size 25 #[.slice A names.length c, .slice B up.length e] := hW0 ▸ ((Blk.new w 25 #[.slice A names.length c, .slice B up.length e]).alloc _).alloc _
  have hp1 : Blk W0 (w.heap.size + 1) 28 #[.int .i64 code, .int .i64 mem, .int .i64 stack, .int .i64 val, .slice Q m0 f] := by
    have h1 := (Blk.new (w.alloc (.cells #[.slice A names.length c, .slice B up.length e] 25)) 28 #[.int .i64 code, .int .i64 mem, .int .i64 stack, .int .i64 val, .slice Q m0 f]).alloc (.cells #[.int .i64 pv, .int .i64 pl, .slice cA kc cc, .slice mA km mc, .slice sA ks sc, .slice oA ko oc] 35)
    rw [World.size_alloc] at h1
    rw [← hW0]; exact h1
  have hp2 : Blk W0 (w.heap.size + 1 + 1) 35 #[.int .i64 pv, .int .i64 pl, .slice cA kc cc, .slice mA km mc, .slice sA ks sc, .slice oA ko oc] := by
    have h1 := Blk.new ((w.alloc (.cells #[.slice A names.length c, .slice B up.length e] 25)).alloc (.cells #[.int .i64 code, .int .i64 mem, .int .i64 stack, .int .i64 val, .slice Q m0 f] 28)) 35 #[.int .i64 pv, .int .i64 pl, .slice cA kc cc, .slice mA km mc, .slice sA ks sc, .slice oA ko oc]
    rw [World.size_alloc, World.size_alloc] at h1
    rw [← hW0]; exact h1
  have hz0 : W0.heap.size = w.heap.size + 3 := by rw [← hW0]; simp
  have HFEW := Lib.hid fun (W : World) (hW : Below w.heap.size w W) => few_any w.heap.size c e W hW.size (hN.below hW) (hU.below hW) hc he hm hm2 hsz
  have HCUT := Lib.hid hcut
  have HIS := Lib.hid his
  have HB := Lib.hid hb
  have HP0 := Lib.hid hp0
  have HP1 := Lib.hid hp1
  have HP2 := Lib.hid hp2
  have HZ0 := Lib.hid hz0
  have HWN := Lib.hid hwn
  have HQ2 := Lib.hid hQ2
  have HM := Lib.hid (And.intro hmf hm16)
  have HSZ0 := Lib.hid hb.size
  have HALIVE := Lib.hid fun (W : World) => alive15_any W
  have HAP := Lib.hid (ap3 w.heap.size 35 #[.slice A names.length c, .slice B up.length e] #[.int .i64 code, .int .i64 mem, .int .i64 stack, .int .i64 val, .slice Q m0 f] #[.int .i64 pv, .int .i64 pl, .slice cA kc cc, .slice mA km mc, .slice sA ks sc, .slice oA ko oc] #[.int .i64 code, .int .i64 mem, .int .i64 stack, .int .i64 val, .slice Q m f] #[.int .i64 pv, .int .i64 pl, .slice cA nc cc, .slice mA nm_ mc, .slice sA ns sc, .slice oA no oc])
  clear hcut his hs hkc hkm hks hko hst hN hU hc he hm hm2 hsz hQ hf hm0 hwss hwn hQ2 hb hp0 hp1 hp2 hz0 hm16
  go_enter Tryz.func3, Tryz.ntmps3
  go_wp2_with (fail)
  refine Free.region_each (by kernel_rfl) (by kernel_rfl)
    (fun k => ([some (.agg #[.slice A names.length c, .slice B up.length e]), none, some (.agg #[.int .i64 pv, .int .i64 pl, .slice cA kc cc, .slice mA km mc, .slice sA ks sc, .slice oA ko oc]), none, some (.pointer (some ⟨w.heap.size + 1, 4, none⟩)), some (.slice Q m0 f), some (.pointer (some ⟨w.heap.size + 1, 4, none⟩)), some (.slice Q m0 f), some (.int .i64 (m0 : Int)), some (.int .i64 (m : Int)), some (.slice Q m f), none, none, some (.pointer (some ⟨w.heap.size + 1, 4, none⟩)), none] : List (Option Value)).getD k none)
    (F3 (afT (p3 w.heap.size 35 #[.slice A names.length c, .slice B up.length e] #[.int .i64 code, .int .i64 mem, .int .i64 stack, .int .i64 val, .slice Q m0 f] #[.int .i64 pv, .int .i64 pl, .slice cA kc cc, .slice mA km mc, .slice sA ks sc, .slice oA ko oc] #[.int .i64 code, .int .i64 mem, .int .i64 stack, .int .i64 val, .slice Q m f] #[.int .i64 pv, .int .i64 pl, .slice cA nc cc, .slice mA nm_ mc, .slice sA ns sc, .slice oA no oc]) (.agg #[.int .i64 pv, .int .i64 pl, .slice cA nc cc, .slice mA nm_ mc, .slice sA ns sc, .slice oA no oc])) W0 (p3 w.heap.size 35 #[.slice A names.length c, .slice B up.length e] #[.int .i64 code, .int .i64 mem, .int .i64 stack, .int .i64 val, .slice Q m0 f] #[.int .i64 pv, .int .i64 pl, .slice cA kc cc, .slice mA km mc, .slice sA ks sc, .slice oA ko oc] #[.int .i64 code, .int .i64 mem, .int .i64 stack, .int .i64 val, .slice Q m f] #[.int .i64 pv, .int .i64 pl, .slice cA nc cc, .slice mA nm_ mc, .slice sA ns sc, .slice oA no oc])) (fun _ => undef) ?_ ?_ ?_
  · exact F3.start _ HP0.out HP1.out HP2.out
  · refine ⟨?_, ?_, ?_, ?_, ?_, ?_, ?_, ?_, ?_, ?_, ?_, ?_, ?_, ?_, ?_, trivial⟩
    · refine Free.step_val _ rfl rfl fun done r W ρ hρ hcst hfun hJ hV hC hd hdeps => ?_
      have e0 : ρ (.tmp 3) = .pointer (some ⟨w.heap.size, 0, none⟩) := by rw [hρ]; rfl
      have hz : Blk W (w.heap.size) 25 #[.slice A names.length c, .slice B up.length e] := hJ.x1.1 (Free.not_done hC 11 0 rfl (by decide) hd)
      have c0 := hz.cell 0
      have c1 := hz.cell 1
      clear hρ
      refine ⟨?_, hJ.made afT.k3 (show (11 : Nat) ≠ 0 by decide) (show (14 : Nat) ≠ 0 by decide) (show (12 : Nat) ≠ 0 by decide) (fun h => absurd (show (0 : Nat) = 1 from h) (by decide)) HSZ0.out (Below.refl _ _) trivial⟩
      go_simp
    · refine Free.step_any rfl rfl fun done r W ρ hρ hcst hfun hJ hV hC hd hdeps => ?_
      have e0 : ρ (.tmp 10) = .agg #[.slice A names.length c, .slice B up.length e] := by rw [hρ]; exact hV 0 _ (hdeps 0 (by decide)) rfl
      have hsz := hJ.size
      have hz0 := HZ0.out
      have hbw : Below w.heap.size w W := HB.out.trans hJ.below
      clear hρ
      go_simp
      exact (HFEW.out W hbw).mono fun e9 w' ⟨v, nm, u, he, hl, hb⟩ => ⟨_, he, hJ.made afT.k3 (show (11 : Nat) ≠ 1 by decide) (show (14 : Nat) ≠ 1 by decide) (show (12 : Nat) ≠ 1 by decide) (fun _ => Free.not_done hC 11 1 rfl (by decide) hd) HSZ0.out hb (LatAt.of_few (q := (p3 w.heap.size 35 #[.slice A names.length c, .slice B up.length e] #[.int .i64 code, .int .i64 mem, .int .i64 stack, .int .i64 val, .slice Q m0 f] #[.int .i64 pv, .int .i64 pl, .slice cA kc cc, .slice mA km mc, .slice sA ks sc, .slice oA ko oc] #[.int .i64 code, .int .i64 mem, .int .i64 stack, .int .i64 val, .slice Q m f] #[.int .i64 pv, .int .i64 pl, .slice cA nc cc, .slice mA nm_ mc, .slice sA ns sc, .slice oA no oc])) hl (show w.heap.size ≤ w.heap.size ∧ w.heap.size < W.heap.size by omega) (show w.heap.size ≤ w.heap.size + 1 ∧ w.heap.size + 1 < W.heap.size by omega) (show w.heap.size ≤ w.heap.size + 1 + 1 ∧ w.heap.size + 1 + 1 < W.heap.size by omega))⟩
    · refine Free.step_val _ rfl rfl fun done r W ρ hρ hcst hfun hJ hV hC hd hdeps => ?_
      have e0 : ρ (.tmp 5) = .pointer (some ⟨w.heap.size + 1 + 1, 0, none⟩) := by rw [hρ]; rfl
      have hz : Blk W (w.heap.size + 1 + 1) 35 #[.int .i64 pv, .int .i64 pl, .slice cA kc cc, .slice mA km mc, .slice sA ks sc, .slice oA ko oc] := hJ.x3.1 (Free.not_done hC 12 2 rfl (by decide) hd)
      have c0 := hz.cell 0
      have c1 := hz.cell 1
      have c2 := hz.cell 2
      have c3 := hz.cell 3
      have c4 := hz.cell 4
      have c5 := hz.cell 5
      clear hρ
      refine ⟨?_, hJ.made afT.k3 (show (11 : Nat) ≠ 2 by decide) (show (14 : Nat) ≠ 2 by decide) (show (12 : Nat) ≠ 2 by decide) (fun h => absurd (show (2 : Nat) = 1 from h) (by decide)) HSZ0.out (Below.refl _ _) trivial⟩
      go_simp
    · refine Free.step_any rfl rfl fun done r W ρ hρ hcst hfun hJ hV hC hd hdeps => ?_
      have e0 : ρ (.tmp 12) = .agg #[.int .i64 pv, .int .i64 pl, .slice cA kc cc, .slice mA km mc, .slice sA ks sc, .slice oA ko oc] := by rw [hρ]; exact hV 2 _ (hdeps 2 (by decide)) rfl
      clear hρ
      go_simp
      exact (HCUT.out W).mono fun e9 w' ⟨he, hb⟩ => ⟨_, he, hJ.made afT.k3 (show (11 : Nat) ≠ 3 by decide) (show (14 : Nat) ≠ 3 by decide) (show (12 : Nat) ≠ 3 by decide) (fun h => absurd (show (3 : Nat) = 1 from h) (by decide)) HSZ0.out hb rfl⟩
    · refine Free.step_val _ rfl rfl fun done r W ρ hρ hcst hfun hJ hV hC hd hdeps => ?_
      have e0 : ρ (.tmp 4) = .pointer (some ⟨w.heap.size + 1, 0, none⟩) := by rw [hρ]; rfl
      clear hρ
      refine ⟨?_, hJ.made afT.k3 (show (11 : Nat) ≠ 4 by decide) (show (14 : Nat) ≠ 4 by decide) (show (12 : Nat) ≠ 4 by decide) (fun h => absurd (show (4 : Nat) = 1 from h) (by decide)) HSZ0.out (Below.refl _ _) trivial⟩
      go_simp
    · refine Free.step_val _ rfl rfl fun done r W ρ hρ hcst hfun hJ hV hC hd hdeps => ?_
      have e0 : ρ (.tmp 14) = .pointer (some ⟨w.heap.size + 1, 4, none⟩) := by rw [hρ]; exact hV 4 _ (hdeps 4 (by decide)) rfl
      have hz : Blk W (w.heap.size + 1) 28 #[.int .i64 code, .int .i64 mem, .int .i64 stack, .int .i64 val, .slice Q m0 f] := hJ.x2.1 (Free.not_done hC 14 5 rfl (by decide) hd)
      have c0 := hz.cell 4
      clear hρ
      refine ⟨?_, hJ.made afT.k3 (show (11 : Nat) ≠ 5 by decide) (show (14 : Nat) ≠ 5 by decide) (show (12 : Nat) ≠ 5 by decide) (fun h => absurd (show (5 : Nat) = 1 from h) (by decide)) HSZ0.out (Below.refl _ _) trivial⟩
      go_simp
    · refine Free.step_val _ rfl rfl fun done r W ρ hρ hcst hfun hJ hV hC hd hdeps => ?_
      have e0 : ρ (.tmp 4) = .pointer (some ⟨w.heap.size + 1, 0, none⟩) := by rw [hρ]; rfl
      clear hρ
      refine ⟨?_, hJ.made afT.k3 (show (11 : Nat) ≠ 6 by decide) (show (14 : Nat) ≠ 6 by decide) (show (12 : Nat) ≠ 6 by decide) (fun h => absurd (show (6 : Nat) = 1 from h) (by decide)) HSZ0.out (Below.refl _ _) trivial⟩
      go_simp
    · refine Free.step_val _ rfl rfl fun done r W ρ hρ hcst hfun hJ hV hC hd hdeps => ?_
      have e0 : ρ (.tmp 16) = .pointer (some ⟨w.heap.size + 1, 4, none⟩) := by rw [hρ]; exact hV 6 _ (hdeps 6 (by decide)) rfl
      have hz : Blk W (w.heap.size + 1) 28 #[.int .i64 code, .int .i64 mem, .int .i64 stack, .int .i64 val, .slice Q m0 f] := hJ.x2.1 (Free.not_done hC 14 7 rfl (by decide) hd)
      have c0 := hz.cell 4
      clear hρ
      refine ⟨?_, hJ.made afT.k3 (show (11 : Nat) ≠ 7 by decide) (show (14 : Nat) ≠ 7 by decide) (show (12 : Nat) ≠ 7 by decide) (fun h => absurd (show (7 : Nat) = 1 from h) (by decide)) HSZ0.out (Below.refl _ _) trivial⟩
      go_simp
    · refine Free.step_val _ rfl rfl fun done r W ρ hρ hcst hfun hJ hV hC hd hdeps => ?_
      have e0 : ρ (.tmp 17) = .slice Q m0 f := by rw [hρ]; exact hV 7 _ (hdeps 7 (by decide)) rfl
      clear hρ
      refine ⟨?_, hJ.made afT.k3 (show (11 : Nat) ≠ 8 by decide) (show (14 : Nat) ≠ 8 by decide) (show (12 : Nat) ≠ 8 by decide) (fun h => absurd (show (8 : Nat) = 1 from h) (by decide)) HSZ0.out (Below.refl _ _) trivial⟩
      go_simp
    · refine Free.step_val _ rfl rfl fun done r W ρ hρ hcst hfun hJ hV hC hd hdeps => ?_
      have e0 : ρ (.tmp 18) = .int .i64 (m0 : Int) := by rw [hρ]; exact hV 8 _ (hdeps 8 (by decide)) rfl
      clear hρ
      refine ⟨?_, hJ.made afT.k3 (show (11 : Nat) ≠ 9 by decide) (show (14 : Nat) ≠ 9 by decide) (show (12 : Nat) ≠ 9 by decide) (fun h => absurd (show (9 : Nat) = 1 from h) (by decide)) HSZ0.out (Below.refl _ _) trivial⟩
      go_simp
    · refine Free.step_val _ rfl rfl fun done r W ρ hρ hcst hfun hJ hV hC hd hdeps => ?_
      have e0 : ρ (.tmp 15) = .slice Q m0 f := by rw [hρ]; exact hV 5 _ (hdeps 5 (by decide)) rfl
      have e1 : ρ (.tmp 19) = .int .i64 (m : Int) := by rw [hρ]; exact hV 9 _ (hdeps 9 (by decide)) rfl
      clear hρ
      refine ⟨?_, hJ.made afT.k3 (show (11 : Nat) ≠ 10 by decide) (show (14 : Nat) ≠ 10 by decide) (show (12 : Nat) ≠ 10 by decide) (fun h => absurd (show (10 : Nat) = 1 from h) (by decide)) HSZ0.out (Below.refl _ _) trivial⟩
      go_simp
    · refine Free.step_any rfl rfl fun done r W ρ hρ hcst hfun hJ hV hC hd hdeps => ?_
      have e0 : ρ (.tmp 3) = .pointer (some ⟨w.heap.size, 0, none⟩) := by rw [hρ]; rfl
      have e1 : ρ (.tmp 11) = r 1 := by rw [hρ]; rfl
      have hl : LatAt (p3 w.heap.size 35 #[.slice A names.length c, .slice B up.length e] #[.int .i64 code, .int .i64 mem, .int .i64 stack, .int .i64 val, .slice Q m0 f] #[.int .i64 pv, .int .i64 pl, .slice cA kc cc, .slice mA km mc, .slice sA ks sc, .slice oA ko oc] #[.int .i64 code, .int .i64 mem, .int .i64 stack, .int .i64 val, .slice Q m f] #[.int .i64 pv, .int .i64 pl, .slice cA nc cc, .slice mA nm_ mc, .slice sA ns sc, .slice oA no oc]) (r 1) W := hJ.f 1 (hdeps 1 (by decide))
      obtain ⟨NA, nn, nc, UA, un, uc, h2⟩ := hl.two
      rw [h2] at e1
      obtain ⟨hz, hset⟩ := hJ.set1 afT.k3 HAP.out hd (fun _ _ => trivial) h2
      have hz : Blk W (w.heap.size) 25 #[.slice A names.length c, .slice B up.length e] := hz
      obtain ⟨X1, eX1⟩ : ∃ U, W.setCell ⟨w.heap.size, 0, none⟩ (.slice NA nn nc) = U := ⟨_, rfl⟩
      obtain ⟨X2, eX2⟩ : ∃ U, X1.setCell ⟨w.heap.size, 1, none⟩ (.slice UA un uc) = U := ⟨_, rfl⟩
      have k1 := eX1 ▸ hz.set_ 0 (.slice NA nn nc)
      have f0 := hz.frozen 0
      have g0 := hz.cell 0
      have f1 := k1.frozen 1
      have g1 := k1.cell 1
      have hf := hset X2 (eX2 ▸ k1.set_ 1 (.slice UA un uc)) (fun k hk => by rw [← eX2, ← eX1]; exact (Below.heap_setCell _ _ _ k hk).trans (Below.heap_setCell _ _ _ k hk)) (fun B V hB hb => by rw [← eX2, ← eX1]; exact (hb.setCell (p := ⟨w.heap.size, 0, none⟩) hB _).setCell (p := ⟨w.heap.size, 1, none⟩) hB _)
      clear hρ h2 hset hz hl k1
      go_simp
      exact hf
    · refine Free.step_any rfl rfl fun done r W ρ hρ hcst hfun hJ hV hC hd hdeps => ?_
      have ep : ρ (.tmp 5) = .pointer (some ⟨w.heap.size + 1 + 1, 0, none⟩) := by rw [hρ]; rfl
      have eq : ρ (.tmp 13) = r 3 := by rw [hρ]; rfl
      have h2 : r 3 = .agg #[.int .i64 pv, .int .i64 pl, .slice cA nc cc, .slice mA nm_ mc, .slice sA ns sc, .slice oA no oc] := hJ.f 3 (hdeps 3 (by decide))
      rw [h2] at eq
      obtain ⟨hz, hset⟩ := hJ.set3 afT.k3 HAP.out hd (fun _ _ => trivial)
      have hz : Blk W (w.heap.size + 1 + 1) 35 #[.int .i64 pv, .int .i64 pl, .slice cA kc cc, .slice mA km mc, .slice sA ks sc, .slice oA ko oc] := hz
      obtain ⟨X0, X1, X2, X3, X4, X5, e0, e1, e2, e3, e4, e5, f0, f1, f2, f3, f4, f5, g0, g1, g2, g3, g4, g5, -, -, -, -, -, -, HZ, HH, HBL⟩ := n6_steps13 hz (.int .i64 pv) (.int .i64 pl) (.slice cA nc cc) (.slice mA nm_ mc) (.slice sA ns sc) (.slice oA no oc)
      have hf := hset X5 HZ.out HH.out HBL.out
      clear hρ h2 hset hz
      go_simp
      exact hf
    · refine Free.step_val _ rfl rfl fun done r W ρ hρ hcst hfun hJ hV hC hd hdeps => ?_
      have e0 : ρ (.tmp 4) = .pointer (some ⟨w.heap.size + 1, 0, none⟩) := by rw [hρ]; rfl
      clear hρ
      refine ⟨?_, hJ.made afT.k3 (show (11 : Nat) ≠ 13 by decide) (show (14 : Nat) ≠ 13 by decide) (show (12 : Nat) ≠ 13 by decide) (fun h => absurd (show (13 : Nat) = 1 from h) (by decide)) HSZ0.out (Below.refl _ _) trivial⟩
      go_simp
    · refine Free.step_any rfl rfl fun done r W ρ hρ hcst hfun hJ hV hC hd hdeps => ?_
      have e0 : ρ (.tmp 21) = .pointer (some ⟨w.heap.size + 1, 4, none⟩) := by rw [hρ]; exact hV 13 _ (hdeps 13 (by decide)) rfl
      have e1 : ρ (.tmp 20) = .slice Q m f := by rw [hρ]; exact hV 10 _ (hdeps 10 (by decide)) rfl
      obtain ⟨hz, hset⟩ := hJ.set2 afT.k3 HAP.out hd (fun _ _ => trivial)
      have hz : Blk W (w.heap.size + 1) 28 #[.int .i64 code, .int .i64 mem, .int .i64 stack, .int .i64 val, .slice Q m0 f] := hz
      obtain ⟨X1, eX1⟩ : ∃ U, W.setCell ⟨w.heap.size + 1, 4, none⟩ (.slice Q m f) = U := ⟨_, rfl⟩
      have f0 := hz.frozen 4
      have g0 := hz.cell 4
      have hf := hset X1 (eX1 ▸ hz.set_ 4 (.slice Q m f)) (fun k hk => by rw [← eX1]; exact Below.heap_setCell _ _ _ k hk) (fun B V hB hb => by rw [← eX1]; exact hb.setCell (p := ⟨w.heap.size + 1, 4, none⟩) hB _)
      clear hρ hset hz
      go_simp
      exact hf
  · intro done r X hall hJ hV
    obtain ⟨cl, ev, hx0⟩ := hJ.x1.2 (hall 11 (by decide))
    have hx1 := hJ.x2.2 (hall 14 (by decide))
    have hx2 := hJ.x3.2 (hall 12 (by decide))
    have hl : LatAt (p3 w.heap.size 35 #[.slice A names.length c, .slice B up.length e] #[.int .i64 code, .int .i64 mem, .int .i64 stack, .int .i64 val, .slice Q m0 f] #[.int .i64 pv, .int .i64 pl, .slice cA kc cc, .slice mA km mc, .slice sA ks sc, .slice oA ko oc] #[.int .i64 code, .int .i64 mem, .int .i64 stack, .int .i64 val, .slice Q m f] #[.int .i64 pv, .int .i64 pl, .slice cA nc cc, .slice mA nm_ mc, .slice sA ns sc, .slice oA no oc]) (r 1) X := hJ.f 1 (hall 1 (by decide))
    have hbX := hJ.below
    simp only [Free.putAll, Nat.zero_add]
    rw [ev] at hl
    clear hJ hV hall ev
    generalize r 0 = z0
    generalize r 1 = z1
    generalize r 2 = z2
    generalize r 3 = z3
    generalize r 4 = z4
    generalize r 5 = z5
    generalize r 6 = z6
    generalize r 7 = z7
    generalize r 8 = z8
    generalize r 9 = z9
    generalize r 10 = z10
    generalize r 11 = z11
    generalize r 12 = z12
    generalize r 13 = z13
    generalize r 14 = z14
    try clear r done
    obtain ⟨nm, u, hl⟩ := hl
    obtain ⟨NA, UA, c1, c2, e1⟩ := (hl X (K3.refl _ _)).form_ofT
    injection e1 with e1
    subst e1
    have hx0 : Blk X w.heap.size 25 #[.slice NA nm.length c1, .slice UA u.length c2] := hx0
    have hx1 : Blk X (w.heap.size + 1) 28 #[.int .i64 code, .int .i64 mem, .int .i64 stack, .int .i64 val, .slice Q m f] := hx1
    have hx2 : Blk X (w.heap.size + 1 + 1) 35 #[.int .i64 pv, .int .i64 pl, .slice cA nc cc, .slice mA nm_ mc, .slice sA ns sc, .slice oA no oc] := hx2
    have hbX : Below w.heap.size w X := HB.out.trans hbX
    have HX0 := Lib.hid hx0
    have HX1 := Lib.hid hx1
    have HX2 := Lib.hid hx2
    have HBX := Lib.hid hbX
    have HLX := Lib.hid fun (W : World) (hW : Below X.heap.size X W) => hl W (K3.below hW)
    have HQX := Lib.hid fun (W : World) (hW : Below X.heap.size X W) => ((HQ2.out.below HBX.out).below (hW.mono HBX.out.size)).more (Nat.le_trans HBX.out.size hW.size)
    have HSX := Lib.hid fun (W : World) (hW : Below X.heap.size X W) => HIS.out W (HBX.out.trans (hW.mono HBX.out.size))
    have hm6 : wss.length ≤ 1000000 := by have := HWN.out; have := HM.out.2; omega
    have hmf2 : wss.length ≤ f := by have := HWN.out; have := HM.out.1; omega
    have hhas := fun W hW => gHas_any (names := nm) (up := u) (Q := Q) ⟨code, mem, stack, val, wss⟩ f W (HLX.out W hW) (HQX.out W hW) hm6 hmf2 (HSX.out W hW) HSM.out
    have hmay := fun W hW => rMay15_any (names := nm) (up := u) (A := Q) ⟨code, mem, stack, val, wss⟩ f W (HLX.out W hW) (HQX.out W hW) hm6
    have hgr := fun W hW => gRight15_any (A := Q) ⟨code, mem, stack, val, wss⟩ f W (HQX.out W hW) hm6 hmf2
    have hrr := fun W hW => rRight15_any (A := Q) ⟨code, mem, stack, val, wss⟩ f W (HQX.out W hW) hm6
    have hrh := fun (hz : Gn.chkN nm u ⟨code, mem, stack, val, wss⟩ = 0) W hW => rHas15_any (names := nm) (up := u) (A := Q) ⟨code, mem, stack, val, wss⟩ f W (HLX.out W hW) (HQX.out W hW) (HSX.out W hW) HSM.out ⟨(Gn.fits_of (len_of_checkN (Gn.chk_zero hz).1).1 (Gn.chk_zero hz).2).v0, (Gn.fits_of (len_of_checkN (Gn.chk_zero hz).1).1 (Gn.chk_zero hz).2).v1⟩ (Gn.fits_of (len_of_checkN (Gn.chk_zero hz).1).1 (Gn.chk_zero hz).2).len
    unfold HasP at hhas
    rw [← Gn.chk_may] at hmay
    unfold spv at hhas hmay hgr hrr hrh
    rw [show (⟨code, mem, stack, val, wss⟩ : Gn.Sp).ws.length = m from HWN.out] at hhas hmay hgr hrr hrh
    dsimp only at hhas hmay hgr hrr hrh
    generalize Gn.chkN nm u ⟨code, mem, stack, val, wss⟩ = ck at *
    generalize Gn.spB ⟨code, mem, stack, val, wss⟩ = bp at *
    generalize Gn.hasB u.length ⟨code, mem, stack, val, wss⟩ s = hb at *
    have HHAS := Lib.hid hhas
    have HMAY := Lib.hid hmay
    have HGR := Lib.hid hgr
    have HRR := Lib.hid hrr
    have HRH := Lib.hid hrh
    have l0 := (HX0.out.below (Below.refl _ _) HX0.out.lt).cell 0
    have l1 := (HX0.out.below (Below.refl _ _) HX0.out.lt).cell 1
    have x0 := (HX1.out.below (Below.refl _ _) HX1.out.lt).cell 0
    have x1 := (HX1.out.below (Below.refl _ _) HX1.out.lt).cell 1
    have x2 := (HX1.out.below (Below.refl _ _) HX1.out.lt).cell 2
    have x3 := (HX1.out.below (Below.refl _ _) HX1.out.lt).cell 3
    have x4 := (HX1.out.below (Below.refl _ _) HX1.out.lt).cell 4
    have y0 := (HX2.out.below (Below.refl _ _) HX2.out.lt).cell 0
    have y1 := (HX2.out.below (Below.refl _ _) HX2.out.lt).cell 1
    have y2 := (HX2.out.below (Below.refl _ _) HX2.out.lt).cell 2
    have y3 := (HX2.out.below (Below.refl _ _) HX2.out.lt).cell 3
    have y4 := (HX2.out.below (Below.refl _ _) HX2.out.lt).cell 4
    have y5 := (HX2.out.below (Below.refl _ _) HX2.out.lt).cell 5
    clear hx0 hx1 hx2 hbX hl hhas hmay hgr hrr hrh hm6 hmf2 hmin2 hmf
    go_wp2_with (fail)
    refine (HHAS.out X (Below.refl _ _)).mono ?_
    rintro e9 w1 ⟨rfl, hb1⟩
    have HB1 := Lib.hid hb1
    clear l0 l1 x0 x1 x2 x3 x4 y0 y1 y2 y3 y4 y5 HHAS
    have l0 := (HX0.out.below hb1 HX0.out.lt).cell 0
    have l1 := (HX0.out.below hb1 HX0.out.lt).cell 1
    have x0 := (HX1.out.below hb1 HX1.out.lt).cell 0
    have x1 := (HX1.out.below hb1 HX1.out.lt).cell 1
    have x2 := (HX1.out.below hb1 HX1.out.lt).cell 2
    have x3 := (HX1.out.below hb1 HX1.out.lt).cell 3
    have x4 := (HX1.out.below hb1 HX1.out.lt).cell 4
    have y0 := (HX2.out.below hb1 HX2.out.lt).cell 0
    have y1 := (HX2.out.below hb1 HX2.out.lt).cell 1
    have y2 := (HX2.out.below hb1 HX2.out.lt).cell 2
    have y3 := (HX2.out.below hb1 HX2.out.lt).cell 3
    have y4 := (HX2.out.below hb1 HX2.out.lt).cell 4
    have y5 := (HX2.out.below hb1 HX2.out.lt).cell 5
    clear hb1
    go_wp2_with (fail)
    refine (HMAY.out w1 HB1.out).mono ?_
    rintro e9 w2 ⟨rfl, hb2⟩
    have hb2 : Below X.heap.size X w2 := HB1.out.trans (hb2.mono HB1.out.size)
    have HB2 := Lib.hid hb2
    clear l0 l1 x0 x1 x2 x3 x4 y0 y1 y2 y3 y4 y5 HMAY
    have l0 := (HX0.out.below hb2 HX0.out.lt).cell 0
    have l1 := (HX0.out.below hb2 HX0.out.lt).cell 1
    have x0 := (HX1.out.below hb2 HX1.out.lt).cell 0
    have x1 := (HX1.out.below hb2 HX1.out.lt).cell 1
    have x2 := (HX1.out.below hb2 HX1.out.lt).cell 2
    have x3 := (HX1.out.below hb2 HX1.out.lt).cell 3
    have x4 := (HX1.out.below hb2 HX1.out.lt).cell 4
    have y0 := (HX2.out.below hb2 HX2.out.lt).cell 0
    have y1 := (HX2.out.below hb2 HX2.out.lt).cell 1
    have y2 := (HX2.out.below hb2 HX2.out.lt).cell 2
    have y3 := (HX2.out.below hb2 HX2.out.lt).cell 3
    have y4 := (HX2.out.below hb2 HX2.out.lt).cell 4
    have y5 := (HX2.out.below hb2 HX2.out.lt).cell 5
    have HS := Lib.hid (And.intro x0 (And.intro x1 (And.intro x2 (And.intro x3 x4))))
    clear hb2 l0 l1 x0 x1 x2 x3 x4 y0 y1 y2 y3 y4 y5
    go_wp2_with (fail)
    refine Free.region_seq [1, 3, 6] [0, 2] 3 (fun W' => W'.cell? ⟨w.heap.size + 1, 0, none⟩ = some (.int .i64 code) ∧ W'.cell? ⟨w.heap.size + 1, 1, none⟩ = some (.int .i64 mem) ∧ W'.cell? ⟨w.heap.size + 1, 2, none⟩ = some (.int .i64 stack) ∧ W'.cell? ⟨w.heap.size + 1, 3, none⟩ = some (.int .i64 val) ∧ W'.cell? ⟨w.heap.size + 1, 4, none⟩ = some (.slice Q m f)) (by kernel_rfl) (by kernel_rfl) (by kernel_rfl) (by kernel_rfl) (HS.out) (fun ops hops => ?_)
    have HOPS := Lib.hid hops
    clear hops
    iterate 1
      refine Free.Seq.quiet (v := ?_) (a' := ?_) rfl rfl (fun W' hW' => ?_) ?_ ?_
      rotate_left 2
      · first | obtain ⟨s0, s1, s2, s3, s4⟩ := hW' rfl | skip
        go_simp
        try with_reducible rfl
      · simp only [Act.put, List.setIfInBounds_toArray, List.set_cons_zero, List.set_cons_succ]
        try with_reducible rfl
    refine Free.Seq.loud_ rfl (.inl rfl) (fun K hK => ?_)
    go_simp
    refine (HGR.out w2.drew HB2.out.drew).mono ?_
    rintro e9 w3 ⟨rfl, hb3⟩
    have hb3 : Below X.heap.size X w3 := HB2.out.drew.trans (hb3.mono HB2.out.size)
    have HB3 := Lib.hid hb3
    have HS3 := Lib.hid (And.intro ((HX1.out.below hb3 HX1.out.lt).cell 0) (And.intro ((HX1.out.below hb3 HX1.out.lt).cell 1) (And.intro ((HX1.out.below hb3 HX1.out.lt).cell 2) (And.intro ((HX1.out.below hb3 HX1.out.lt).cell 3) ((HX1.out.below hb3 HX1.out.lt).cell 4)))))
    refine hK.out _ _ rfl (fun _ => HS3.out) ?_
    clear hK K hb3 HS
    iterate 1
      refine Free.Seq.quiet (v := ?_) (a' := ?_) rfl rfl (fun W' hW' => ?_) ?_ ?_
      rotate_left 2
      · first | obtain ⟨s0, s1, s2, s3, s4⟩ := hW' rfl | skip
        go_simp
        try with_reducible rfl
      · simp only [Act.put, List.setIfInBounds_toArray, List.set_cons_zero, List.set_cons_succ]
        try with_reducible rfl
    refine Free.Seq.loud_ rfl (.inl rfl) (fun K hK => ?_)
    go_simp
    refine (HRR.out w3 HB3.out).mono ?_
    rintro e9 w4 ⟨rfl, hb4⟩
    have HB4 := Lib.hid (HB3.out.trans (hb4.mono HB3.out.size))
    clear hb4 HS3
    refine hK.out _ _ rfl (fun h => absurd h (by decide)) ?_
    clear hK K
    iterate 2
      refine Free.Seq.quiet (v := ?_) (a' := ?_) rfl rfl (fun W' hW' => ?_) ?_ ?_
      rotate_left 2
      · skip
        go_simp
        try with_reducible rfl
      · simp only [Act.put, List.setIfInBounds_toArray, List.set_cons_zero, List.set_cons_succ]
        try with_reducible rfl
    have hbb : (bp != bp) = false := by simp
    refine Free.Seq.loud_ rfl (.inr (by rw [HOPS.out]; rfl)) (fun K hK => ?_)
    rw [if_pos (show Region.wanted _ _ = true by rw [HOPS.out]; rfl)]
    go_simp
    refine (HALIVE.out w4).mono ?_
    rintro e9 w5 ⟨rfl, hb5⟩
    have hb5 : Below X.heap.size X w5 := HB4.out.trans (hb5.mono HB4.out.size)
    have HB5 := Lib.hid hb5
    refine hK.out _ _ rfl (fun h => absurd h (by decide)) ?_
    clear hK K
    iterate 1
      refine Free.Seq.quiet (v := ?_) (a' := ?_) rfl (by rw [HOPS.out]; rfl) (fun W' hW' => ?_) ?_ ?_
      rotate_left 2
      · skip
        go_simp
        try with_reducible rfl
      · simp only [Act.put, List.setIfInBounds_toArray, List.set_cons_zero, List.set_cons_succ]
        try with_reducible rfl
    iterate 1
      refine Free.Seq.quiet (v := ?_) (a' := ?_) rfl rfl (fun W' hW' => ?_) ?_ ?_
      rotate_left 2
      · skip
        go_simp
        try with_reducible rfl
      · simp only [Act.put, List.setIfInBounds_toArray, List.set_cons_zero, List.set_cons_succ]
        try with_reducible rfl
    refine Free.Seq.nil_ ?_
    have l0 := (HX0.out.below hb5 HX0.out.lt).cell 0
    have l1 := (HX0.out.below hb5 HX0.out.lt).cell 1
    have x0 := (HX1.out.below hb5 HX1.out.lt).cell 0
    have x1 := (HX1.out.below hb5 HX1.out.lt).cell 1
    have x2 := (HX1.out.below hb5 HX1.out.lt).cell 2
    have x3 := (HX1.out.below hb5 HX1.out.lt).cell 3
    have x4 := (HX1.out.below hb5 HX1.out.lt).cell 4
    have y0 := (HX2.out.below hb5 HX2.out.lt).cell 0
    have y1 := (HX2.out.below hb5 HX2.out.lt).cell 1
    have y2 := (HX2.out.below hb5 HX2.out.lt).cell 2
    have y3 := (HX2.out.below hb5 HX2.out.lt).cell 3
    have y4 := (HX2.out.below hb5 HX2.out.lt).cell 4
    have y5 := (HX2.out.below hb5 HX2.out.lt).cell 5
    clear hb5 HB4 HB3 HGR HRR HALIVE
    by_cases hz : ck = 0
    · subst hz
      have HRG := Lib.hid (HRH.out (by first | trivial | rfl) w5 HB5.out)
      rw [show decide ((0 : Nat) = 0) = true from rfl, Bool.true_and]
      go_wp2_with (fail)
      refine HRG.out.mono ?_
      rintro e9 w6 ⟨rfl, hb6⟩
      have HB6 := Lib.hid (HBX.out.trans ((HB5.out.trans (hb6.mono HB5.out.size)).mono HBX.out.size))
      clear hb6 l0 l1 x0 x1 x2 x3 x4 y0 y1 y2 y3 y4 y5
      go_wp2
      go_ret
      exact ⟨by simp, HB6.out⟩
    · have hz1 : ((ck : Int) != 0) = true := by rw [bne_iff_ne]; omega
      rw [show decide (ck = 0) = false from decide_eq_false hz, Bool.false_and]
      have HB6 := Lib.hid (HBX.out.trans (HB5.out.mono HBX.out.size))
      clear HRH
      go_wp2
      go_ret
      exact ⟨by simp, HB6.out⟩
end Go.Proofs.YtmbgndcahlopdaaGreat
