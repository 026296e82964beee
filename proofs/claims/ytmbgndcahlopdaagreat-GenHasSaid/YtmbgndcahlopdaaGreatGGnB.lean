/- The reference of stage 15: Has (by gen_gnb.py). -/
import Derived.Test.YtmbgndcahlopdaaGreatGGnA
import Derived.Test.YtmbgndcahlopdaaGreatGCodE
import Derived.Test.YtmbgndcahlopdaaGreatGDrwC
namespace Go.Proofs.YtmbgndcahlopdaaGreat
set_option maxRecDepth 100000
open Go.RowKit Go.Shelf
attribute [local go_sem] Oper.semAt_some

theorem Gn.hasB_eight (k : Nat) (p : Gn.Sp) (s : St.State) : Gn.hasB k p s = (St.rightB k s && (decide ((s.code.length : Int) ≤ p.code) && (decide ((s.mem.length : Int) ≤ p.mem) && (decide ((s.stack.length : Int) ≤ p.stack) && (decide (s.out.length = 0) && (s.code.all (Gn.insB p) && (s.mem.all (fun x => Gn.nearB p x.v) && s.stack.all (Gn.slotB p)))))))) := by
  unfold Gn.hasB
  rw [Bool.eq_iff_iff]
  simp only [Bool.and_eq_true, decide_eq_true_eq]
  constructor
  · rintro ⟨⟨a, ⟨b1, b2, b3, b4⟩⟩, ⟨⟨d1, d2⟩, d3⟩⟩; exact ⟨a, b1, b2, b3, b4, d1, d2, d3⟩
  · rintro ⟨a, b1, b2, b3, b4, d1, d2, d3⟩; exact ⟨⟨a, ⟨b1, b2, b3, b4⟩⟩, ⟨⟨d1, d2⟩, d3⟩⟩
theorem all_take {α : Type} {f : α → Bool} {l : List α} {k : Nat} {x : α} (h : (l.take k).all f = true) (hx : l[k]? = some x) (hf : f x = true) : (l.take (k + 1)).all f = true := by
  rw [List.take_add_one, hx, Option.toList_some, List.all_append, h]
  simp [hf]
theorem all_not {α : Type} {f : α → Bool} {l : List α} {k : Nat} {x : α} (hx : l[k]? = some x) (hf : f x = false) : l.all f = false := by
  rw [List.all_eq_false]
  exact ⟨x, List.mem_of_getElem? hx, by rw [hf]; decide⟩
set_option maxHeartbeats 16000000 in
theorem rHas15_any {v sv : Value} {names : List ByteArray} {up : List Nat} {s : St.State} {A : Option Addr} (p : Gn.Sp) (c : Nat) (w : World) (h : IsLat w w.heap.size v names up) (hp : Row w w.heap.size A (ints p.ws)) (hs : IsSt w w.heap.size sv s) (hsm : SmallS s) (hv : 0 ≤ p.val ∧ p.val ≤ 20) (hw13 : p.ws.length = 13) :
    Calls Tryz.prog 11 #[v, spv p A c, sv] w (Tells w (Gn.hasB up.length p s)) := by
  rw [Gn.hasB_eight]
  have hrt := fun W (hW : Below w.heap.size w W) => rRight9_any W ((h.below hW).more hW.size) ((hs.below hW).more hW.size) hsm
  have hnr := fun (n : Int) (W : World) => rNear15_any (A := A) p c n W hv
  have hop : St.rightB up.length s = true → ∀ x ∈ s.code, 0 ≤ x.op ∧ x.op < 13 := fun hr x hx => by
    unfold St.rightB Cd.rightB at hr
    simp only [Bool.and_eq_true] at hr
    have h1 := List.all_eq_true.1 hr.1.1.1.1.2 x hx
    unfold Cd.inB at h1
    split at h1
    · omega
    · have := of_decide_eq_true h1; omega
  obtain ⟨hs1, hs2, hs3, hs4⟩ := hsm
  obtain ⟨⟨N, U, c1, c2, rfl, -, -⟩, -, -, -⟩ := h
  obtain ⟨cv, mv, stv_, ov, rfl, ⟨cA, cc, rfl, hcr, hcc⟩, ⟨mA, mc, rfl, hmr, hmc⟩, ⟨sA, sc, rfl, hsr, hsc⟩, ⟨oA, oc, rfl, hor, hoc⟩⟩ := hs
  obtain ⟨⟨sv0, sl0⟩, Lc, Lm, Ls, Lo⟩ := s
  obtain ⟨code, mem, stack, val, ws⟩ := p
  unfold stv at hrt ⊢
  unfold spv at hnr ⊢
  dsimp only at hrt hnr hop hp hw13 hcr hmr hsr hs1 hs2 hs3 hs4 ⊢
  have hibs : ∀ x, Gn.insB ⟨code, mem, stack, val, ws⟩ x = (decide (ws.getD x.op.toNat 0 ≠ 0) && (decide (x.op ≠ 1) || Gn.nearB ⟨code, mem, stack, val, ws⟩ x.n)) := fun _ => rfl
  have hsbs : ∀ x, Gn.slotB ⟨code, mem, stack, val, ws⟩ x = (x.ret || Gn.nearB ⟨code, mem, stack, val, ws⟩ x.v) := fun _ => rfl
  generalize Gn.insB ⟨code, mem, stack, val, ws⟩ = ib at *
  generalize Gn.slotB ⟨code, mem, stack, val, ws⟩ = sb at *
  generalize Gn.nearB ⟨code, mem, stack, val, ws⟩ = nb at *
  obtain ⟨b0, hb0⟩ : ∃ b, St.rightB up.length ⟨⟨sv0, sl0⟩, Lc, Lm, Ls, Lo⟩ = b := ⟨_, rfl⟩
  rw [hb0] at hrt hop ⊢
  generalize names.length = n1 at *
  generalize up.length = n2 at *
  obtain ⟨kc, hkc⟩ : ∃ k, Lc.length = k := ⟨_, rfl⟩
  obtain ⟨km, hkm⟩ : ∃ k, Lm.length = k := ⟨_, rfl⟩
  obtain ⟨ks, hks⟩ : ∃ k, Ls.length = k := ⟨_, rfl⟩
  obtain ⟨ko, hko⟩ : ∃ k, Lo.length = k := ⟨_, rfl⟩
  obtain ⟨wn, hwn⟩ : ∃ k, ws.length = k := ⟨_, rfl⟩
  rw [hkc, hkm, hks, hko] at hrt ⊢
  rw [hwn] at hnr hw13 ⊢
  rw [hkc] at hs1
  rw [hkm] at hs2
  rw [hks] at hs3
  rw [hko] at hs4
  obtain ⟨res, hres⟩ : ∃ r, (b0 && (decide ((kc : Int) ≤ code) && (decide ((km : Int) ≤ mem) && (decide ((ks : Int) ≤ stack) && (decide (ko = 0) && (Lc.all ib && (Lm.all (fun x => nb x.v) && Ls.all sb))))))) = r := ⟨_, rfl⟩
  rw [hres]
  have G0 : Hid (b0 = false → res = false) := Lib.hid fun h => by rw [← hres, h]; rfl
  have G1 : Hid (¬ (kc : Int) ≤ code → res = false) := Lib.hid fun h => by rw [← hres, decide_eq_false h]; simp
  have G2 : Hid (¬ (km : Int) ≤ mem → res = false) := Lib.hid fun h => by rw [← hres, decide_eq_false h]; simp
  have G3 : Hid (¬ (ks : Int) ≤ stack → res = false) := Lib.hid fun h => by rw [← hres, decide_eq_false h]; simp
  have G4 : Hid (¬ ko = 0 → res = false) := Lib.hid fun h => by rw [← hres, decide_eq_false h]; simp
  have G5 : Hid (Lc.all ib = false → res = false) := Lib.hid fun h => by rw [← hres, h]; simp
  have G6 : Hid (Lm.all (fun x => nb x.v) = false → res = false) := Lib.hid fun h => by rw [← hres, h]; simp
  have G7 : Hid (Ls.all sb = false → res = false) := Lib.hid fun h => by rw [← hres, h]; simp
  have GT : Hid (b0 = true → (kc : Int) ≤ code → (km : Int) ≤ mem → (ks : Int) ≤ stack → ko = 0 → Lc.all ib = true → Lm.all (fun x => nb x.v) = true → Ls.all sb = true → res = true) := Lib.hid fun h0 h1 h2 h3 h4 h5 h6 h7 => by
    rw [← hres, h0, decide_eq_true h1, decide_eq_true h2, decide_eq_true h3, decide_eq_true h4, h5, h6, h7]
    rfl
  have hb := (((Below.refl _ w).alloc (Nat.le_refl _) (.cells #[.slice N n1 c1, .slice U n2 c2] 25)).alloc (by simp) (.cells #[.int .i64 code, .int .i64 mem, .int .i64 stack, .int .i64 val, .slice A wn c] 28)).alloc (by simp; omega) (.cells #[.int .i64 sv0, .int .i64 sl0, .slice cA kc cc, .slice mA km mc, .slice sA ks sc, .slice oA ko oc] 35)
  obtain ⟨W0, hW0⟩ : ∃ W0, ((w.alloc (.cells #[.slice N n1 c1, .slice U n2 c2] 25)).alloc (.cells #[.int .i64 code, .int .i64 mem, .int .i64 stack, .int .i64 val, .slice A wn c] 28)).alloc (.cells #[.int .i64 sv0, .int .i64 sl0, .slice cA kc cc, .slice mA km mc, .slice sA ks sc, .slice oA ko oc] 35) = W0 := ⟨_, rfl⟩
  have hp0 : Blk W0 w.heap.size 25 #[.slice N n1 c1, .slice U n2 c2] := hW0 ▸ ((Blk.new w 25 #[.slice N n1 c1, .slice U n2 c2]).alloc _).alloc _
  have hp1 : Blk W0 (w.heap.size + 1) 28 #[.int .i64 code, .int .i64 mem, .int .i64 stack, .int .i64 val, .slice A wn c] := by
    have h1 := (Blk.new (w.alloc (.cells #[.slice N n1 c1, .slice U n2 c2] 25)) 28 #[.int .i64 code, .int .i64 mem, .int .i64 stack, .int .i64 val, .slice A wn c]).alloc (.cells #[.int .i64 sv0, .int .i64 sl0, .slice cA kc cc, .slice mA km mc, .slice sA ks sc, .slice oA ko oc] 35)
    rw [World.size_alloc] at h1
    rw [← hW0]; exact h1
  have hp2 : Blk W0 (w.heap.size + 1 + 1) 35 #[.int .i64 sv0, .int .i64 sl0, .slice cA kc cc, .slice mA km mc, .slice sA ks sc, .slice oA ko oc] := by
    have h1 := Blk.new ((w.alloc (.cells #[.slice N n1 c1, .slice U n2 c2] 25)).alloc (.cells #[.int .i64 code, .int .i64 mem, .int .i64 stack, .int .i64 val, .slice A wn c] 28)) 35 #[.int .i64 sv0, .int .i64 sl0, .slice cA kc cc, .slice mA km mc, .slice sA ks sc, .slice oA ko oc]
    rw [World.size_alloc, World.size_alloc] at h1
    rw [← hW0]; exact h1
  rw [hW0] at hb
  have a0 := hp0.cell 0
  have a1 := hp0.cell 1
  have t0 := hp2.cell 0
  have t1 := hp2.cell 1
  have t2 := hp2.cell 2
  have t3 := hp2.cell 3
  have t4 := hp2.cell 4
  have t5 := hp2.cell 5
  have HB := Lib.hid hb
  have HP1 := Lib.hid hp1
  have HP2 := Lib.hid hp2
  have HRT := Lib.hid hrt
  have HNR := Lib.hid hnr
  have HOP := Lib.hid hop
  have HWR := Lib.hid hp
  have HWN := Lib.hid (And.intro hwn hw13)
  have HCR := Lib.hid (And.intro hcr hkc)
  have HMR := Lib.hid (And.intro hmr hkm)
  have HSR := Lib.hid (And.intro hsr hks)
  have HIB := Lib.hid hibs
  have HSB := Lib.hid hsbs
  clear hb hp0 hp1 hp2 hrt hnr hop hp hwn hcr hkc hmr hkm hsr hks hko hibs hsbs hres hb0 hcc hmc hsc hoc hor hw13
  cases b0 with
  | false =>
    go_enter Tryz.func11, Tryz.ntmps11
    go_wp2_with (fail)
    refine (HRT.out _ HB.out).mono ?_
    rintro e w1 ⟨rfl, hb1⟩
    have hq1 := HP1.out.below hb1 HP1.out.lt
    have hq2 := HP2.out.below hb1 HP2.out.lt
    have HBW := Lib.hid (HB.out.trans (hb1.mono HB.out.size))
    have s0 := hq1.cell 0
    have s1 := hq1.cell 1
    have s2 := hq1.cell 2
    have u2 := hq2.cell 2
    have u3 := hq2.cell 3
    have u4 := hq2.cell 4
    have u5 := hq2.cell 5
    have HQ1 := Lib.hid hq1
    have HQ2 := Lib.hid hq2
    clear hq1 hq2 hb1 HRT HP1 HP2 HB a0 a1 t0 t1 t2 t3 t4 t5 hW0
    go_wp2
    go_ret
    exact ⟨by rw [G0.out (by first | rfl | trivial)]; rfl, HBW.out⟩
  | true =>
    by_cases h1 : (kc : Int) ≤ code
    · have e1 : decide ((kc : Int) > code) = false := decide_eq_false (by omega)
      by_cases h2 : (km : Int) ≤ mem
      · have e2 : decide ((km : Int) > mem) = false := decide_eq_false (by omega)
        by_cases h3 : (ks : Int) ≤ stack
        · have e3 : decide ((ks : Int) > stack) = false := decide_eq_false (by omega)
          by_cases h4 : ko = 0
          · have e4 : decide (0 < ko) = false := decide_eq_false (by omega)
            have H14 := Lib.hid (And.intro h1 (And.intro h2 (And.intro h3 h4)))
            clear h1 h2 h3 h4
            go_enter Tryz.func11, Tryz.ntmps11
            go_wp2_with (fail)
            refine (HRT.out _ HB.out).mono ?_
            rintro e w1 ⟨rfl, hb1⟩
            have hq1 := HP1.out.below hb1 HP1.out.lt
            have hq2 := HP2.out.below hb1 HP2.out.lt
            have HBW := Lib.hid (HB.out.trans (hb1.mono HB.out.size))
            have s0 := hq1.cell 0
            have s1 := hq1.cell 1
            have s2 := hq1.cell 2
            have u2 := hq2.cell 2
            have u3 := hq2.cell 3
            have u4 := hq2.cell 4
            have u5 := hq2.cell 5
            have HQ1 := Lib.hid hq1
            have HQ2 := Lib.hid hq2
            clear hq1 hq2 hb1 HRT HP1 HP2 HB a0 a1 t0 t1 t2 t3 t4 t5 hW0
            go_wp2
            go_loopw [50] (fun i wr => ∃ (k : Nat), k ≤ kc ∧ i = .int .i64 k ∧ Hid ((Lc.take k).all ib = true) ∧ Hid (Below w1.heap.size w1 wr)) (fun i _ => kc - (intOf i).toNat)
            case atStart => exact ⟨0, Nat.zero_le _, rfl, Lib.hid rfl, Lib.hid (Below.refl _ _)⟩
            case round =>
              obtain ⟨k, hk, rfl, HK, HBR⟩ := hrel
              by_cases hlt : k < kc
              · have hbw := HBW.out.trans (HBR.out.mono HBW.out.size)
                obtain ⟨ad, x, hA, hbk, hx, d0, d1, d2⟩ := inrow_at ((HCR.out.1.below hbw).more hbw.size) (show k < Lc.length by rw [HCR.out.2]; exact hlt)
                subst hA
                have hxo := HOP.out (by first | rfl | trivial) x (List.mem_of_getElem? hx)
                obtain ⟨op, hop⟩ : ∃ op : Nat, x.op = (op : Int) := ⟨x.op.toNat, by omega⟩
                have hopn : op < wn := by have := HWN.out; omega
                have hopl : op < ws.length := by have := HWN.out; omega
                obtain ⟨wd, hWA, hwb, dw⟩ := irow_at ((HWR.out.below hbw).more hbw.size) hopl
                subst hWA
                have hxi := HIB.out x
                rw [hop, Int.toNat_natCast, List.getD_eq_getElem?_getD, List.getElem?_eq_getElem hopl, Option.getD_some] at hxi
                obtain ⟨wv, hwv⟩ : ∃ wv, ws[op]'hopl = wv := ⟨_, rfl⟩
                rw [hwv] at hxi dw
                rw [hop] at d0
                have q1 := HQ1.out.below HBR.out HQ1.out.lt
                have q10 := q1.cell 0
                have q11 := q1.cell 1
                have q12 := q1.cell 2
                have q13 := q1.cell 3
                have q14 := q1.cell 4
                obtain ⟨xn, hxn⟩ : ∃ a, x.n = a := ⟨_, rfl⟩
                obtain ⟨xl, hxl⟩ : ∃ a, x.l = a := ⟨_, rfl⟩
                rw [hxn] at hxi d1
                rw [hxl] at d2
                have hone : decide ((op : Int) ≠ 1) = decide (op ≠ 1) := by rw [decide_eq_decide]; omega
                rw [hone] at hxi
                obtain ⟨WA, hWA⟩ : ∃ WA, wr.alloc (.cells #[.int .i64 (op : Int), .int .i64 xn, .int .i64 xl] 58) = WA := ⟨_, rfl⟩
                have hab : Below wr.heap.size wr WA := hWA ▸ (Below.refl _ wr).alloc (Nat.le_refl _) _
                have hka : Blk WA wr.heap.size 58 #[.int .i64 (op : Int), .int .i64 xn, .int .i64 xl] := hWA ▸ Blk.new _ _ _
                have HBA := Lib.hid (HBR.out.trans (hab.mono HBR.out.size))
                have k0 := hka.cell 0
                have k1 := hka.cell 1
                have k2 := hka.cell 2
                have qa := q1.below hab q1.lt
                have v0 := qa.cell 0
                have v1 := qa.cell 1
                have v2 := qa.cell 2
                have v3 := qa.cell 3
                have v4 := qa.cell 4
                have dwa := (hab.cell (p := wd.add op) (by rw [add_block]; exact hwb)).trans dw
                have HX := Lib.hid hx
                have HXI := Lib.hid hxi
                clear hx hxi q1 s0 s1 s2 u2 u3 u4 u5 hxo hop hone hxn hxl hwv hopl hka qa hab
                by_cases hw0 : wv = 0
                · subst hw0
                  have HF := Lib.hid (G5.out (all_not HX.out (by rw [HXI.out]; simp)))
                  have HBF := Lib.hid (HBW.out.trans (HBA.out.mono HBW.out.size))
                  go_wp2
                  go_ret
                  exact ⟨by rw [HF.out]; rfl, HBF.out⟩
                · have hz : (wv == (0 : Int)) = false := by rw [beq_eq_false_iff_ne]; exact hw0
                  by_cases ho : op = 1
                  · have hWA : wr.alloc (.cells #[.int .i64 1, .int .i64 xn, .int .i64 xl] 58) = WA := by rw [← hWA, ho]; rfl
                    have k0 : WA.cell? ⟨wr.heap.size, 0, none⟩ = some (.int .i64 1) := by rw [k0, ho]; rfl
                    subst ho
                    have dwb : WA.cell? ⟨wd.block, wd.off + 1, none⟩ = some (.int .i64 wv) := dwa
                    obtain ⟨nv, hnv⟩ : ∃ b, nb xn = b := ⟨_, rfl⟩
                    have hnc := HNR.out xn WA
                    rw [hnv] at hnc
                    have HNC := Lib.hid hnc
                    have HNV := Lib.hid hnv
                    clear hnc hnv
                    cases nv with
                    | true =>
                      go_wp2_with (fail)
                      refine HNC.out.mono ?_
                      rintro e w2 ⟨rfl, hb2⟩
                      have HBN := Lib.hid (HBA.out.trans (hb2.mono HBA.out.size))
                      clear hb2 HNC
                      go_wp2
                      go_roundw
                      case rel => exact ⟨k + 1, by omega, by go_num, Lib.hid (all_take HK.out HX.out (by rw [HXI.out, HNV.out]; simp [hw0])), HBN⟩
                      case measure => simp [intOf]; omega
                    | false =>
                      have HF := Lib.hid (G5.out (all_not HX.out (by rw [HXI.out, HNV.out]; simp)))
                      go_wp2_with (fail)
                      refine HNC.out.mono ?_
                      rintro e w2 ⟨rfl, hb2⟩
                      have HBF := Lib.hid (HBW.out.trans ((HBA.out.trans (hb2.mono HBA.out.size)).mono HBW.out.size))
                      clear hb2 HNC
                      go_wp2
                      go_ret
                      exact ⟨by rw [HF.out]; rfl, HBF.out⟩
                  · have ho1 : ((op : Int) == 1) = false := by rw [beq_eq_false_iff_ne]; omega
                    have HK9 := Lib.hid (all_take HK.out HX.out (by rw [HXI.out]; simp [hw0, ho]))
                    clear ho
                    go_wp2
                    go_roundw
                    case rel => exact ⟨k + 1, by omega, by go_num, HK9, HBA⟩
                    case measure => simp [intOf]; omega
              · obtain rfl : k = kc := by omega
                have hall1 : Lc.all ib = true := by
                  have h := HK.out
                  rwa [List.take_of_length_le (by rw [HCR.out.2]; exact Nat.le_refl _)] at h
                have HALL1 := Lib.hid hall1
                have r1 := HQ2.out.below HBR.out HQ2.out.lt
                have r13 := r1.cell 3
                clear r1 hall1 s0 s1 s2 u2 u3 u4 u5
                go_wp2
                go_loopw [77] (fun i wr => ∃ (k : Nat), k ≤ km ∧ i = .int .i64 k ∧ Hid ((Lm.take k).all (fun x => nb x.v) = true) ∧ Hid (Below w1.heap.size w1 wr)) (fun i _ => km - (intOf i).toNat)
                case atStart => exact ⟨0, Nat.zero_le _, rfl, Lib.hid rfl, Lib.hid HBR.out⟩
                case round =>
                  obtain ⟨k, hk, rfl, HK2, HBR2⟩ := hrel
                  by_cases hlt : k < km
                  · have hbw := HBW.out.trans (HBR2.out.mono HBW.out.size)
                    obtain ⟨ad, x, hA, hbk, hx, d0, d1⟩ := arow_at ((HMR.out.1.below hbw).more hbw.size) (show k < Lm.length by rw [HMR.out.2]; exact hlt)
                    subst hA
                    have q1 := HQ1.out.below HBR2.out HQ1.out.lt
                    have q10 := q1.cell 0
                    have q11 := q1.cell 1
                    have q12 := q1.cell 2
                    have q13 := q1.cell 3
                    have q14 := q1.cell 4
                    obtain ⟨xv, hxv⟩ : ∃ a, x.v = a := ⟨_, rfl⟩
                    obtain ⟨xl, hxl⟩ : ∃ a, x.l = a := ⟨_, rfl⟩
                    rw [hxv] at d0
                    rw [hxl] at d1
                    obtain ⟨WA, hWA⟩ : ∃ WA, wr.alloc (.cells #[.int .i64 xv, .int .i64 xl] 30) = WA := ⟨_, rfl⟩
                    have hab : Below wr.heap.size wr WA := hWA ▸ (Below.refl _ wr).alloc (Nat.le_refl _) _
                    have hka : Blk WA wr.heap.size 30 #[.int .i64 xv, .int .i64 xl] := hWA ▸ Blk.new _ _ _
                    have HBA := Lib.hid (HBR2.out.trans (hab.mono HBR2.out.size))
                    have k0 := hka.cell 0
                    have k1 := hka.cell 1
                    have qa := q1.below hab q1.lt
                    have v0 := qa.cell 0
                    have v1 := qa.cell 1
                    have v2 := qa.cell 2
                    have v3 := qa.cell 3
                    have v4 := qa.cell 4
                    have HX := Lib.hid hx
                    have HXV := Lib.hid hxv
                    clear hx q1 hxv hxl hka qa hab
                    obtain ⟨nv, hnv⟩ : ∃ b, nb xv = b := ⟨_, rfl⟩
                    have hnc := HNR.out xv WA
                    rw [hnv] at hnc
                    have HNC := Lib.hid hnc
                    have HNV := Lib.hid hnv
                    clear hnc hnv
                    cases nv with
                    | true =>
                      go_wp2_with (fail)
                      refine HNC.out.mono ?_
                      rintro e w2 ⟨rfl, hb2⟩
                      have HBN := Lib.hid (HBA.out.trans (hb2.mono HBA.out.size))
                      clear hb2 HNC
                      go_wp2
                      go_roundw
                      case rel => exact ⟨k + 1, by omega, by go_num, Lib.hid (all_take HK2.out HX.out (by rw [HXV.out]; exact HNV.out)), HBN⟩
                      case measure => simp [intOf]; omega
                    | false =>
                      have HF := Lib.hid (G6.out (all_not (f := fun x => nb x.v) HX.out (by rw [HXV.out]; exact HNV.out)))
                      go_wp2_with (fail)
                      refine HNC.out.mono ?_
                      rintro e w2 ⟨rfl, hb2⟩
                      have HBF := Lib.hid (HBW.out.trans ((HBA.out.trans (hb2.mono HBA.out.size)).mono HBW.out.size))
                      clear hb2 HNC
                      go_wp2
                      go_ret
                      exact ⟨by rw [HF.out]; rfl, HBF.out⟩
                  · obtain rfl : k = km := by omega
                    have hall2 : Lm.all (fun x => nb x.v) = true := by
                      have h := HK2.out
                      rwa [List.take_of_length_le (by rw [HMR.out.2]; exact Nat.le_refl _)] at h
                    have HALL2 := Lib.hid hall2
                    have r1 := HQ2.out.below HBR2.out HQ2.out.lt
                    have r14 := r1.cell 4
                    clear r1 hall2 r13
                    go_wp2
                    go_loopw [90] (fun i wr => ∃ (k : Nat), k ≤ ks ∧ i = .int .i64 k ∧ Hid ((Ls.take k).all sb = true) ∧ Hid (Below w1.heap.size w1 wr)) (fun i _ => ks - (intOf i).toNat)
                    case atStart => exact ⟨0, Nat.zero_le _, rfl, Lib.hid rfl, Lib.hid HBR2.out⟩
                    case round =>
                      obtain ⟨k, hk, rfl, HK3, HBR3⟩ := hrel
                      by_cases hlt : k < ks
                      · have hbw := HBW.out.trans (HBR3.out.mono HBW.out.size)
                        obtain ⟨ad, x, hA, hbk, hx, d0, d1, d2⟩ := srow_at ((HSR.out.1.below hbw).more hbw.size) (show k < Ls.length by rw [HSR.out.2]; exact hlt)
                        subst hA
                        have hxi := HSB.out x
                        have q1 := HQ1.out.below HBR3.out HQ1.out.lt
                        have q10 := q1.cell 0
                        have q11 := q1.cell 1
                        have q12 := q1.cell 2
                        have q13 := q1.cell 3
                        have q14 := q1.cell 4
                        obtain ⟨xr, hxr⟩ : ∃ a, x.ret = a := ⟨_, rfl⟩
                        obtain ⟨xv, hxv⟩ : ∃ a, x.v = a := ⟨_, rfl⟩
                        obtain ⟨xl, hxl⟩ : ∃ a, x.l = a := ⟨_, rfl⟩
                        rw [hxr, hxv] at hxi
                        rw [hxr] at d0
                        rw [hxv] at d1
                        rw [hxl] at d2
                        obtain ⟨WA, hWA⟩ : ∃ WA, wr.alloc (.cells #[.bool xr, .int .i64 xv, .int .i64 xl] 61) = WA := ⟨_, rfl⟩
                        have hab : Below wr.heap.size wr WA := hWA ▸ (Below.refl _ wr).alloc (Nat.le_refl _) _
                        have hka : Blk WA wr.heap.size 61 #[.bool xr, .int .i64 xv, .int .i64 xl] := hWA ▸ Blk.new _ _ _
                        have HBA := Lib.hid (HBR3.out.trans (hab.mono HBR3.out.size))
                        have k0 := hka.cell 0
                        have k1 := hka.cell 1
                        have k2 := hka.cell 2
                        have qa := q1.below hab q1.lt
                        have v0 := qa.cell 0
                        have v1 := qa.cell 1
                        have v2 := qa.cell 2
                        have v3 := qa.cell 3
                        have v4 := qa.cell 4
                        have HX := Lib.hid hx
                        have HXI := Lib.hid hxi
                        clear hx hxi q1 hxr hxv hxl hka qa hab
                        cases xr with
                        | true =>
                          go_wp2
                          go_roundw
                          case rel => exact ⟨k + 1, by omega, by go_num, Lib.hid (all_take HK3.out HX.out (by rw [HXI.out]; simp)), HBA⟩
                          case measure => simp [intOf]; omega
                        | false =>
                          obtain ⟨nv, hnv⟩ : ∃ b, nb xv = b := ⟨_, rfl⟩
                          have hnc := HNR.out xv WA
                          rw [hnv] at hnc
                          have HNC := Lib.hid hnc
                          have HNV := Lib.hid hnv
                          clear hnc hnv
                          cases nv with
                          | true =>
                            go_wp2_with (fail)
                            refine HNC.out.mono ?_
                            rintro e w2 ⟨rfl, hb2⟩
                            have HBN := Lib.hid (HBA.out.trans (hb2.mono HBA.out.size))
                            clear hb2 HNC
                            go_wp2
                            go_roundw
                            case rel => exact ⟨k + 1, by omega, by go_num, Lib.hid (all_take HK3.out HX.out (by rw [HXI.out, HNV.out]; simp)), HBN⟩
                            case measure => simp [intOf]; omega
                          | false =>
                            have HF := Lib.hid (G7.out (all_not HX.out (by rw [HXI.out, HNV.out]; simp)))
                            go_wp2_with (fail)
                            refine HNC.out.mono ?_
                            rintro e w2 ⟨rfl, hb2⟩
                            have HBF := Lib.hid (HBW.out.trans ((HBA.out.trans (hb2.mono HBA.out.size)).mono HBW.out.size))
                            clear hb2 HNC
                            go_wp2
                            go_ret
                            exact ⟨by rw [HF.out]; rfl, HBF.out⟩
                      · obtain rfl : k = ks := by omega
                        have hall3 : Ls.all sb = true := by
                          have h := HK3.out
                          rwa [List.take_of_length_le (by rw [HSR.out.2]; exact Nat.le_refl _)] at h
                        have HF := Lib.hid (GT.out (by first | rfl | trivial) H14.out.1 H14.out.2.1 H14.out.2.2.1 H14.out.2.2.2 HALL1.out HALL2.out hall3)
                        have HBF := Lib.hid (HBW.out.trans (HBR3.out.mono HBW.out.size))
                        clear hall3
                        go_wp2
                        go_ret
                        exact ⟨by rw [HF.out]; rfl, HBF.out⟩
          · have e9 : decide (0 < ko) = true := decide_eq_true (by omega)
            have HF := Lib.hid (G4.out h4)
            go_enter Tryz.func11, Tryz.ntmps11
            go_wp2_with (fail)
            refine (HRT.out _ HB.out).mono ?_
            rintro e w1 ⟨rfl, hb1⟩
            have hq1 := HP1.out.below hb1 HP1.out.lt
            have hq2 := HP2.out.below hb1 HP2.out.lt
            have HBW := Lib.hid (HB.out.trans (hb1.mono HB.out.size))
            have s0 := hq1.cell 0
            have s1 := hq1.cell 1
            have s2 := hq1.cell 2
            have u2 := hq2.cell 2
            have u3 := hq2.cell 3
            have u4 := hq2.cell 4
            have u5 := hq2.cell 5
            have HQ1 := Lib.hid hq1
            have HQ2 := Lib.hid hq2
            clear hq1 hq2 hb1 HRT HP1 HP2 HB a0 a1 t0 t1 t2 t3 t4 t5 hW0
            go_wp2
            go_ret
            exact ⟨by rw [HF.out]; rfl, HBW.out⟩
        · have e9 : decide ((ks : Int) > stack) = true := decide_eq_true (by omega)
          have HF := Lib.hid (G3.out h3)
          go_enter Tryz.func11, Tryz.ntmps11
          go_wp2_with (fail)
          refine (HRT.out _ HB.out).mono ?_
          rintro e w1 ⟨rfl, hb1⟩
          have hq1 := HP1.out.below hb1 HP1.out.lt
          have hq2 := HP2.out.below hb1 HP2.out.lt
          have HBW := Lib.hid (HB.out.trans (hb1.mono HB.out.size))
          have s0 := hq1.cell 0
          have s1 := hq1.cell 1
          have s2 := hq1.cell 2
          have u2 := hq2.cell 2
          have u3 := hq2.cell 3
          have u4 := hq2.cell 4
          have u5 := hq2.cell 5
          have HQ1 := Lib.hid hq1
          have HQ2 := Lib.hid hq2
          clear hq1 hq2 hb1 HRT HP1 HP2 HB a0 a1 t0 t1 t2 t3 t4 t5 hW0
          go_wp2
          go_ret
          exact ⟨by rw [HF.out]; rfl, HBW.out⟩
      · have e9 : decide ((km : Int) > mem) = true := decide_eq_true (by omega)
        have HF := Lib.hid (G2.out h2)
        go_enter Tryz.func11, Tryz.ntmps11
        go_wp2_with (fail)
        refine (HRT.out _ HB.out).mono ?_
        rintro e w1 ⟨rfl, hb1⟩
        have hq1 := HP1.out.below hb1 HP1.out.lt
        have hq2 := HP2.out.below hb1 HP2.out.lt
        have HBW := Lib.hid (HB.out.trans (hb1.mono HB.out.size))
        have s0 := hq1.cell 0
        have s1 := hq1.cell 1
        have s2 := hq1.cell 2
        have u2 := hq2.cell 2
        have u3 := hq2.cell 3
        have u4 := hq2.cell 4
        have u5 := hq2.cell 5
        have HQ1 := Lib.hid hq1
        have HQ2 := Lib.hid hq2
        clear hq1 hq2 hb1 HRT HP1 HP2 HB a0 a1 t0 t1 t2 t3 t4 t5 hW0
        go_wp2
        go_ret
        exact ⟨by rw [HF.out]; rfl, HBW.out⟩
    · have e9 : decide ((kc : Int) > code) = true := decide_eq_true (by omega)
      have HF := Lib.hid (G1.out h1)
      go_enter Tryz.func11, Tryz.ntmps11
      go_wp2_with (fail)
      refine (HRT.out _ HB.out).mono ?_
      rintro e w1 ⟨rfl, hb1⟩
      have hq1 := HP1.out.below hb1 HP1.out.lt
      have hq2 := HP2.out.below hb1 HP2.out.lt
      have HBW := Lib.hid (HB.out.trans (hb1.mono HB.out.size))
      have s0 := hq1.cell 0
      have s1 := hq1.cell 1
      have s2 := hq1.cell 2
      have u2 := hq2.cell 2
      have u3 := hq2.cell 3
      have u4 := hq2.cell 4
      have u5 := hq2.cell 5
      have HQ1 := Lib.hid hq1
      have HQ2 := Lib.hid hq2
      clear hq1 hq2 hb1 HRT HP1 HP2 HB a0 a1 t0 t1 t2 t3 t4 t5 hW0
      go_wp2
      go_ret
      exact ⟨by rw [HF.out]; rfl, HBW.out⟩
end Go.Proofs.YtmbgndcahlopdaaGreat
