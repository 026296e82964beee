/- The reference's Parse of a program (by gen_codrp.py). -/
import Derived.Deep.Cut
import Derived.Test.YtipbilmnknmhmaaDoorGCodF
import Derived.Test.YtipbilmnknmhmaaDoorGCodK
import Derived.Test.YtipbilmnknmhmaaDoorGRefO
import Derived.Test.YtipbilmnknmhmaaDoorGPub
namespace Go.Proofs.YtipbilmnknmhmaaDoor
set_option maxRecDepth 100000
open Go.RowKit Go.Shelf Go.Sort
attribute [local go_sem] Oper.semAt_some

/-- What the reference's Parse answers. -/
def RPRes8 (w : World) (r : List Cd.In × Int × Nat) (e : Ending) (w' : World) : Prop :=
  ∃ x, e = .returned (.agg #[x, .int .i64 r.2.1, .int .i64 (r.2.2 : Nat)]) ∧ IsIns w' w'.heap.size x r.1 ∧ Below w.heap.size w w'
/-- A row of numbers is kept where a block that begins with a row is written. -/
theorem IsIns.keepT {W Wz : World} {v : Value} {l : List Cd.In} {g : Nat} {t : TypeId} {B : Option Addr} {m d : Nat} {u1 u2 a b c : Value} (h : IsIns W W.heap.size v l) (hk : Blk W g t #[.slice B m d, u1, u2]) (e : (((W.setCell ⟨g, 0, none⟩ a).setCell ⟨g, 1, none⟩ b).setCell ⟨g, 2, none⟩ c) = Wz) : IsIns Wz Wz.heap.size v l := by
  obtain ⟨A, cc, ev, hr, hc⟩ := h
  have hsz : W.heap.size = Wz.heap.size := by rw [← e]; simp [World.setCell]
  have hh : ∀ k, k ≠ g → Wz.heap[k]? = W.heap[k]? := fun k hk => by
    rw [← e, Below.heap_setCell _ _ _ k hk, Below.heap_setCell _ _ _ k hk, Below.heap_setCell _ _ _ k hk]
  refine ⟨A, cc, ev, fun hn => ?_, hc⟩
  obtain ⟨ad, ea, hb, hcl⟩ := hr hn
  have hlen : 0 < l.length := by
    rcases Nat.eq_zero_or_pos l.length with h0 | h0
    · exact absurd (by rw [List.eq_nil_of_length_eq_zero h0]; rfl) hn
    · exact h0
  have hat := icells_at l 0 l[0] (List.getElem?_eq_getElem hlen)
  have hne : ad.block ≠ g := fun hg => by
    obtain ⟨ab, ao, as_⟩ := ad
    dsimp only at hg
    subst hg
    have g0 := hcl 0 _ hat.1
    have g1 := hcl 1 _ hat.2.1
    have g2 := hcl 2 _ hat.2.2
    unfold Blk at hk
    unfold World.cell? Addr.add at g0 g1 g2
    simp only [hk, if_true, if_neg (show ¬ (1 : Nat) = 0 by decide), if_neg (show ¬ (2 : Nat) = 0 by decide)] at g0 g1 g2
    split at g0
    · cases g0
    · rcases ao with _ | ao
      · injection g0 with g0
        cases g0
      · simp at g2
  refine ⟨ad, ea, by omega, fun j u hu => ?_⟩
  have := hcl j u hu
  unfold World.cell? at this ⊢
  rw [add_block] at this ⊢
  rw [hh _ hne]
  exact this
set_option maxHeartbeats 16000000 in
theorem rParse8_any {v : Value} {names : List ByteArray} {up : List Nat} (s : ByteArray) (hs : s.size ≤ maxLen) (w : World) (hla : IsLat w w.heap.size v names up) :
    Calls Tryd.prog 7 #[v, .string s] w (RPRes8 w (Cd.parse names up s.data.toList)) := by
  obtain ⟨⟨N, U, c1, c2, rfl, hN, hU⟩, hsh, hfew, hcaps⟩ := id hla
  obtain ⟨r, hr⟩ : ∃ r, Cd.parse names up s.data.toList = r := ⟨_, rfl⟩
  rw [hr]
  obtain ⟨W0, hW0⟩ : ∃ W0, (w.alloc (.cells #[.slice N names.length c1, .slice U up.length c2] 25)).alloc (.cells #[.slice none 0 0, .int .i64 0, .int .i64 0] 32) = W0 := ⟨_, rfl⟩
  have hb0 : Below w.heap.size w W0 := hW0 ▸ two_new w _ _
  have hl0 : Blk W0 w.heap.size 25 #[.slice N names.length c1, .slice U up.length c2] := hW0 ▸ (Blk.new w _ _).alloc _
  have hk0 : Blk W0 (w.heap.size + 1) 32 #[.slice none 0 0, .int .i64 0, .int .i64 0] := by
    rw [← hW0]
    have := Blk.new (w.alloc (.cells #[.slice N names.length c1, .slice U up.length c2] 25)) 32 #[.slice none 0 0, .int .i64 0, .int .i64 0]
    simp only [World.size_alloc] at this
    exact this
  have hck := rCheck_any W0 ((hla.below hb0).more hb0.size)
  rw [← check_same] at hck
  obtain ⟨n, hn⟩ : ∃ n, checkN names up = n := ⟨_, rfl⟩
  rw [hn] at hck
  unfold Cd.parse at hr
  rw [hn] at hr
  have HLA := Lib.hid hla
  have HCK := Lib.hid hck
  have BK0 := Lib.hid hk0
  have BL0 := Lib.hid hl0
  have BB0 := Lib.hid hb0
  have s0 : W0.cell? ⟨w.heap.size, 0, none⟩ = some (.slice N names.length c1) := hl0.cell 0
  have s1 : W0.cell? ⟨w.heap.size, 1, none⟩ = some (.slice U up.length c2) := hl0.cell 1
  have HLX := Lib.hid (fun W => rLex_any s W hs)
  clear hla hN hU hsh hfew hcaps hck hk0 hl0 hb0 hn hs
  by_cases hz : n = 0
  · subst hz
    rw [if_pos rfl] at hr
    obtain ⟨⟨l, a, er⟩, hlex⟩ : ∃ r, Lx.lex s.data.toList = r := ⟨_, rfl⟩
    rw [hlex] at hr HLX
    have HCK : Hid (Calls Tryd.prog 14 #[.agg #[.slice N names.length c1, .slice U up.length c2]] W0 fun e w' => e = .returned (.int .i64 0) ∧ Below W0.heap.size W0 w') := HCK
    by_cases her : er = 0
    · subst her
      obtain ⟨hfine, h0, h200, ha⟩ := Tb.lex_fine hlex
      obtain ⟨⟨o, q, e2⟩, hfr⟩ : ∃ r, Cd.fromP names up.length l 13 [] 0 = r := ⟨_, rfl⟩
      have hq := Cd.fromP_lt hfine names up.length 13 [] 0 h0
      rw [hfr] at hq
      dsimp only at hq
      unfold Cd.parseL at hr
      rw [if_pos rfl, hfr] at hr
      unfold Cd.endP at hr
      dsimp only at hr
      have hcall : ∀ W A c, Row W W.heap.size A (tcells l) → Below w.heap.size w W → Calls Tryd.prog 16 #[.agg #[.slice N names.length c1, .slice U up.length c2], .slice A l.length c, .int .i64 0] W (RFRes W (o, q, e2)) := fun W A c hr hb => by
        have := rFrom8_any c 0 W ((HLA.out.below hb).more hb.size) hr hfine h0 (by omega)
        rw [hfr] at this
        exact this
      have HFC := Lib.hid hcall
      have HQ := Lib.hid hq
      have hlb : (l.length : Int) ≤ 100000 := by omega
      have HLX : Hid (∀ W, Calls Tryd.prog 15 #[.string s] W fun e w' => ∃ v, e = .returned (.agg #[v, .int .i64 (a : Int), .int .i64 0]) ∧ IsToks w' w'.heap.size v l ∧ Below W.heap.size W w') := HLX
      clear hfr hfine hcall ha hq hlex h0 h200
      by_cases h2 : e2 = 0
      · subst h2
        rw [if_pos rfl] at hr
        have HFC : Hid (∀ W A c, Row W W.heap.size A (tcells l) → Below w.heap.size w W → Calls Tryd.prog 16 #[.agg #[.slice N names.length c1, .slice U up.length c2], .slice A l.length c, .int .i64 0] W fun e w' => ∃ x, e = .returned (.agg #[x, .int .i64 (q : Int), .int .i64 0]) ∧ IsIns w' w'.heap.size x o ∧ Below W.heap.size W w') := HFC
        by_cases hk : (Tb.tok l q).kind = 0
        · rw [if_pos hk] at hr
          have HRR := Lib.hid hr.symm
          clear hr
          go_enter Tryd.func7, Tryd.ntmps7
          go_wp2_with (fail)
          refine HCK.out.mono ?_
          rintro e w1 ⟨rfl, hb1⟩
          dsimp only
          have BK1 := Lib.hid (BK0.out.below hb1 BK0.out.lt)
          have BL1 := Lib.hid (BL0.out.below hb1 BL0.out.lt)
          have BB1 := Lib.hid (BB0.out.trans (hb1.mono BB0.out.size))
          have b0 := BL1.out.cell 0
          have b1 := BL1.out.cell 1
          clear hb1 s0 s1 HCK BK0 BL0 BB0
          go_wp2_with (fail)
          refine (HLX.out _).mono ?_
          rintro e w2 ⟨v2, rfl, ⟨A, ct, rfl, hr2, -⟩, hb2⟩
          dsimp only
          have hbk2 := BK1.out.below hb2 BK1.out.lt
          have hlt2 := BL1.out.below hb2 BL1.out.lt
          have hbb2 := BB1.out.trans (hb2.mono BB1.out.size)
          obtain ⟨W3, hW3⟩ : ∃ W3, w2.alloc (.cells #[.slice A l.length ct, .int .i64 (a : Int), .int .i64 0] 46) = W3 := ⟨_, rfl⟩
          have hal : Below w2.heap.size w2 W3 := hW3 ▸ (Below.refl _ w2).alloc (Nat.le_refl _) _
          have hx3 : Blk W3 w2.heap.size 46 #[.slice A l.length ct, .int .i64 (a : Int), .int .i64 0] := hW3 ▸ Blk.new w2 _ _
          have hbk3 := hbk2.below hal hbk2.lt
          have hlt3 := hlt2.below hal hlt2.lt
          have hbb3 := hbb2.trans (hal.mono hbb2.size)
          have hr3 := (hr2.below hal).more hal.size
          have BK3 := Lib.hid hbk3
          have BL3 := Lib.hid hlt3
          have BB3 := Lib.hid hbb3
          have BX3 := Lib.hid hx3
          have HR3 := Lib.hid hr3
          have m0 : w2.cell? ⟨w.heap.size, 0, none⟩ = some (.slice N names.length c1) := hlt2.cell 0
          have m1 : w2.cell? ⟨w.heap.size, 1, none⟩ = some (.slice U up.length c2) := hlt2.cell 1
          have mlt : w.heap.size < w2.heap.size := hlt2.lt
          have HW3 := Lib.hid hW3
          have hfrm := HFC.out W3 A ct hr3 hbb3
          have HFM := Lib.hid hfrm
          clear hb2 hbk2 hlt2 hbb2 hal hx3 hbk3 hlt3 hbb3 hr2 hr3 hfrm b0 b1 hW3
          go_wp2_with (fail)
          rw [HW3.out]
          refine HFM.out.mono ?_
          rintro e w4 ⟨v4, rfl, hiv, hb4⟩
          dsimp only
          obtain ⟨A4, c4, rfl, hr4, hc4⟩ := hiv
          have hbk4 := BK3.out.below hb4 BK3.out.lt
          have hx4 := BX3.out.below hb4 BX3.out.lt
          have hbb4 := BB3.out.trans (hb4.mono BB3.out.size)
          have hr5 := (HR3.out.below hb4).more hb4.size
          obtain ⟨W5, hW5⟩ : ∃ W5, w4.alloc (.cells #[.slice A4 o.length c4, .int .i64 (q : Int), .int .i64 0] 32) = W5 := ⟨_, rfl⟩
          have hal : Below w4.heap.size w4 W5 := hW5 ▸ (Below.refl _ w4).alloc (Nat.le_refl _) _
          have hc5 : Blk W5 w4.heap.size 32 #[.slice A4 o.length c4, .int .i64 (q : Int), .int .i64 0] := hW5 ▸ Blk.new w4 _ _
          have BK := Lib.hid (hbk4.below hal hbk4.lt)
          have BB := Lib.hid (hbb4.trans (hal.mono hbb4.size))
          have hx5 := hx4.below hal hx4.lt
          have HI5 : Hid (IsIns W5 W5.heap.size (.slice A4 o.length c4) o) := Lib.hid ⟨A4, c4, rfl, (hr4.below hal).more hal.size, hc4⟩
          have hrow := (hr5.below hal).more hal.size
          obtain ⟨ad, rfl, hbl, k0', k2'⟩ := itok_at hrow HQ.out
          have x0 : W5.cell? ⟨w2.heap.size, 0, none⟩ = some (.slice (some ad) l.length ct) := hx5.cell 0
          have d0 : W5.cell? ⟨w4.heap.size, 0, none⟩ = some (.slice A4 o.length c4) := hc5.cell 0
          have d1 : W5.cell? ⟨w4.heap.size, 1, none⟩ = some (.int .i64 (q : Int)) := hc5.cell 1
          have d2 : W5.cell? ⟨w4.heap.size, 2, none⟩ = some (.int .i64 0) := hc5.cell 2
          have hqq := HQ.out
          have HW5 := Lib.hid hW5
          clear hb4 hbk4 hx4 hbb4 hr5 hal hc5 hx5 hr4 hc4 hrow m0 m1 mlt HFM BK3 BL3 BB3 BX3 HR3 HW3 hW5
          go_upto_region 8 with (fail)
          rw [HW5.out]
          clear HW5
          rw [hk] at k0'
          obtain ⟨pq, hpq⟩ : ∃ pq, (Tb.tok l q).pos = pq := ⟨_, rfl⟩
          rw [hpq] at k2'
          have HKK := Lib.hid hk
          clear hk hpq
          have hrz : r = (o, 0, 0) := HRR.out
          have HRZ := Lib.hid hrz
          obtain ⟨Wz, hWz⟩ : ∃ Wz, (((W5.setCell ⟨w.heap.size + 1, 0, none⟩ (.slice A4 o.length c4)).setCell ⟨w.heap.size + 1, 1, none⟩ (.int .i64 0)).setCell ⟨w.heap.size + 1, 2, none⟩ (.int .i64 0)) = Wz := ⟨_, rfl⟩
          have hz : Blk Wz (w.heap.size + 1) 32 #[.slice A4 o.length c4, .int .i64 0, .int .i64 0] := hWz ▸ (((BK.out.set_ 0 _).set_ 1 _).set_ 2 _)
          have hbz : Below w.heap.size w Wz := hWz ▸ (((BB.out.setCell (p := ⟨w.heap.size + 1, 0, none⟩) (Nat.le_succ _) _).setCell (p := ⟨w.heap.size + 1, 1, none⟩) (Nat.le_succ _) _).setCell (p := ⟨w.heap.size + 1, 2, none⟩) (Nat.le_succ _) _)
          have hiz : IsIns Wz Wz.heap.size (.slice A4 o.length c4) ((o, 0, 0)).1 := IsIns.keepT HI5.out BK.out hWz
          have z0 : W5.cell? ⟨w.heap.size + 1, 0, none⟩ = some (.slice none 0 0) := BK.out.cell 0
          have z1 : W5.cell? ⟨w.heap.size + 1, 1, none⟩ = some (.int .i64 0) := BK.out.cell 1
          have z2 : W5.cell? ⟨w.heap.size + 1, 2, none⟩ = some (.int .i64 0) := BK.out.cell 2
          have k0 : W5.frozen? ⟨w.heap.size + 1, 0, none⟩ = false := BK.out.frozen 0
          have k1 : W5.frozen? ⟨w.heap.size + 1, 1, none⟩ = false := BK.out.frozen 1
          have k2 : W5.frozen? ⟨w.heap.size + 1, 2, none⟩ = false := BK.out.frozen 2
          have q0 : Wz.cell? ⟨w.heap.size + 1, 0, none⟩ = some (.slice A4 o.length c4) := hz.cell 0
          have q1 : Wz.cell? ⟨w.heap.size + 1, 1, none⟩ = some (.int .i64 0) := hz.cell 1
          have q2 : Wz.cell? ⟨w.heap.size + 1, 2, none⟩ = some (.int .i64 0) := hz.cell 2
          have HBZ := Lib.hid hbz
          have HIZ := Lib.hid hiz
          clear hz hbz hiz hrz
          go_wp2
          exact bodyPost_ret (v := .agg #[.slice A4 o.length c4, .int .i64 0, .int .i64 0]) (by simp [results, Tryd.results7, go_sem, q0, q1, q2]) rfl ⟨_, (by rw [HRZ.out]; try rfl), by rw [HRZ.out]; exact HIZ.out, HBZ.out⟩
        · rw [if_neg hk] at hr
          have HRR := Lib.hid hr.symm
          have hkb : ((Tb.tok l q).kind != 0) = true := by rw [bne_iff_ne]; exact hk
          clear hr hk
          obtain ⟨kq, hkq⟩ : ∃ kq, (Tb.tok l q).kind = kq := ⟨_, rfl⟩
          obtain ⟨pq, hpq⟩ : ∃ pq, (Tb.tok l q).pos = pq := ⟨_, rfl⟩
          rw [hkq] at hkb
          have HKQ := Lib.hid hkq
          have HPQ := Lib.hid hpq
          clear hkq hpq
          go_enter Tryd.func7, Tryd.ntmps7
          go_wp2_with (fail)
          refine HCK.out.mono ?_
          rintro e w1 ⟨rfl, hb1⟩
          dsimp only
          have BK1 := Lib.hid (BK0.out.below hb1 BK0.out.lt)
          have BL1 := Lib.hid (BL0.out.below hb1 BL0.out.lt)
          have BB1 := Lib.hid (BB0.out.trans (hb1.mono BB0.out.size))
          have b0 := BL1.out.cell 0
          have b1 := BL1.out.cell 1
          clear hb1 s0 s1 HCK BK0 BL0 BB0
          go_wp2_with (fail)
          refine (HLX.out _).mono ?_
          rintro e w2 ⟨v2, rfl, ⟨A, ct, rfl, hr2, -⟩, hb2⟩
          dsimp only
          have hbk2 := BK1.out.below hb2 BK1.out.lt
          have hlt2 := BL1.out.below hb2 BL1.out.lt
          have hbb2 := BB1.out.trans (hb2.mono BB1.out.size)
          obtain ⟨W3, hW3⟩ : ∃ W3, w2.alloc (.cells #[.slice A l.length ct, .int .i64 (a : Int), .int .i64 0] 46) = W3 := ⟨_, rfl⟩
          have hal : Below w2.heap.size w2 W3 := hW3 ▸ (Below.refl _ w2).alloc (Nat.le_refl _) _
          have hx3 : Blk W3 w2.heap.size 46 #[.slice A l.length ct, .int .i64 (a : Int), .int .i64 0] := hW3 ▸ Blk.new w2 _ _
          have hbk3 := hbk2.below hal hbk2.lt
          have hlt3 := hlt2.below hal hlt2.lt
          have hbb3 := hbb2.trans (hal.mono hbb2.size)
          have hr3 := (hr2.below hal).more hal.size
          have BK3 := Lib.hid hbk3
          have BL3 := Lib.hid hlt3
          have BB3 := Lib.hid hbb3
          have BX3 := Lib.hid hx3
          have HR3 := Lib.hid hr3
          have m0 : w2.cell? ⟨w.heap.size, 0, none⟩ = some (.slice N names.length c1) := hlt2.cell 0
          have m1 : w2.cell? ⟨w.heap.size, 1, none⟩ = some (.slice U up.length c2) := hlt2.cell 1
          have mlt : w.heap.size < w2.heap.size := hlt2.lt
          have HW3 := Lib.hid hW3
          have hfrm := HFC.out W3 A ct hr3 hbb3
          have HFM := Lib.hid hfrm
          clear hb2 hbk2 hlt2 hbb2 hal hx3 hbk3 hlt3 hbb3 hr2 hr3 hfrm b0 b1 hW3
          go_wp2_with (fail)
          rw [HW3.out]
          refine HFM.out.mono ?_
          rintro e w4 ⟨v4, rfl, hiv, hb4⟩
          dsimp only
          obtain ⟨A4, c4, rfl, hr4, hc4⟩ := hiv
          have hbk4 := BK3.out.below hb4 BK3.out.lt
          have hx4 := BX3.out.below hb4 BX3.out.lt
          have hbb4 := BB3.out.trans (hb4.mono BB3.out.size)
          have hr5 := (HR3.out.below hb4).more hb4.size
          obtain ⟨W5, hW5⟩ : ∃ W5, w4.alloc (.cells #[.slice A4 o.length c4, .int .i64 (q : Int), .int .i64 0] 32) = W5 := ⟨_, rfl⟩
          have hal : Below w4.heap.size w4 W5 := hW5 ▸ (Below.refl _ w4).alloc (Nat.le_refl _) _
          have hc5 : Blk W5 w4.heap.size 32 #[.slice A4 o.length c4, .int .i64 (q : Int), .int .i64 0] := hW5 ▸ Blk.new w4 _ _
          have BK := Lib.hid (hbk4.below hal hbk4.lt)
          have BB := Lib.hid (hbb4.trans (hal.mono hbb4.size))
          have hx5 := hx4.below hal hx4.lt
          have HI5 : Hid (IsIns W5 W5.heap.size (.slice A4 o.length c4) o) := Lib.hid ⟨A4, c4, rfl, (hr4.below hal).more hal.size, hc4⟩
          have hrow := (hr5.below hal).more hal.size
          obtain ⟨ad, rfl, hbl, k0', k2'⟩ := itok_at hrow HQ.out
          have x0 : W5.cell? ⟨w2.heap.size, 0, none⟩ = some (.slice (some ad) l.length ct) := hx5.cell 0
          have d0 : W5.cell? ⟨w4.heap.size, 0, none⟩ = some (.slice A4 o.length c4) := hc5.cell 0
          have d1 : W5.cell? ⟨w4.heap.size, 1, none⟩ = some (.int .i64 (q : Int)) := hc5.cell 1
          have d2 : W5.cell? ⟨w4.heap.size, 2, none⟩ = some (.int .i64 0) := hc5.cell 2
          have hqq := HQ.out
          have HW5 := Lib.hid hW5
          clear hb4 hbk4 hx4 hbb4 hr5 hal hc5 hx5 hr4 hc4 hrow m0 m1 mlt HFM BK3 BL3 BB3 BX3 HR3 HW3 hW5
          go_upto_region 8 with (fail)
          rw [HW5.out]
          clear HW5
          rw [HKQ.out] at k0'
          rw [HPQ.out] at k2'
          have hrz : r = ([], pq, 4) := by rw [HRR.out, HPQ.out]
          have HRZ := Lib.hid hrz
          obtain ⟨Wz, hWz⟩ : ∃ Wz, (((W5.setCell ⟨w.heap.size + 1, 0, none⟩ (.slice none 0 0)).setCell ⟨w.heap.size + 1, 1, none⟩ (.int .i64 pq)).setCell ⟨w.heap.size + 1, 2, none⟩ (.int .i64 4)) = Wz := ⟨_, rfl⟩
          have hz : Blk Wz (w.heap.size + 1) 32 #[.slice none 0 0, .int .i64 pq, .int .i64 4] := hWz ▸ (((BK.out.set_ 0 _).set_ 1 _).set_ 2 _)
          have hbz : Below w.heap.size w Wz := hWz ▸ (((BB.out.setCell (p := ⟨w.heap.size + 1, 0, none⟩) (Nat.le_succ _) _).setCell (p := ⟨w.heap.size + 1, 1, none⟩) (Nat.le_succ _) _).setCell (p := ⟨w.heap.size + 1, 2, none⟩) (Nat.le_succ _) _)
          have hiz : IsIns Wz Wz.heap.size (.slice none 0 0) (([], pq, 4)).1 := IsIns.nil _ _
          have z0 : W5.cell? ⟨w.heap.size + 1, 0, none⟩ = some (.slice none 0 0) := BK.out.cell 0
          have z1 : W5.cell? ⟨w.heap.size + 1, 1, none⟩ = some (.int .i64 0) := BK.out.cell 1
          have z2 : W5.cell? ⟨w.heap.size + 1, 2, none⟩ = some (.int .i64 0) := BK.out.cell 2
          have k0 : W5.frozen? ⟨w.heap.size + 1, 0, none⟩ = false := BK.out.frozen 0
          have k1 : W5.frozen? ⟨w.heap.size + 1, 1, none⟩ = false := BK.out.frozen 1
          have k2 : W5.frozen? ⟨w.heap.size + 1, 2, none⟩ = false := BK.out.frozen 2
          have q0 : Wz.cell? ⟨w.heap.size + 1, 0, none⟩ = some (.slice none 0 0) := hz.cell 0
          have q1 : Wz.cell? ⟨w.heap.size + 1, 1, none⟩ = some (.int .i64 pq) := hz.cell 1
          have q2 : Wz.cell? ⟨w.heap.size + 1, 2, none⟩ = some (.int .i64 4) := hz.cell 2
          have HBZ := Lib.hid hbz
          have HIZ := Lib.hid hiz
          clear hz hbz hiz hrz
          go_wp2
          exact bodyPost_ret (v := .agg #[.slice none 0 0, .int .i64 pq, .int .i64 4]) (by simp [results, Tryd.results7, go_sem, q0, q1, q2]) rfl ⟨_, (by rw [HRZ.out]; try rfl), by rw [HRZ.out]; exact HIZ.out, HBZ.out⟩
      · rw [if_neg h2] at hr
        have HRR := Lib.hid hr.symm
        have h2b : ((e2 : Int) != 0) = true := by rw [bne_iff_ne]; omega
        obtain ⟨pq, hpq⟩ : ∃ pq, (Tb.tok l q).pos = pq := ⟨_, rfl⟩
        have HPQ := Lib.hid hpq
        clear hr h2 hpq
        go_enter Tryd.func7, Tryd.ntmps7
        go_wp2_with (fail)
        refine HCK.out.mono ?_
        rintro e w1 ⟨rfl, hb1⟩
        dsimp only
        have BK1 := Lib.hid (BK0.out.below hb1 BK0.out.lt)
        have BL1 := Lib.hid (BL0.out.below hb1 BL0.out.lt)
        have BB1 := Lib.hid (BB0.out.trans (hb1.mono BB0.out.size))
        have b0 := BL1.out.cell 0
        have b1 := BL1.out.cell 1
        clear hb1 s0 s1 HCK BK0 BL0 BB0
        go_wp2_with (fail)
        refine (HLX.out _).mono ?_
        rintro e w2 ⟨v2, rfl, ⟨A, ct, rfl, hr2, -⟩, hb2⟩
        dsimp only
        have hbk2 := BK1.out.below hb2 BK1.out.lt
        have hlt2 := BL1.out.below hb2 BL1.out.lt
        have hbb2 := BB1.out.trans (hb2.mono BB1.out.size)
        obtain ⟨W3, hW3⟩ : ∃ W3, w2.alloc (.cells #[.slice A l.length ct, .int .i64 (a : Int), .int .i64 0] 46) = W3 := ⟨_, rfl⟩
        have hal : Below w2.heap.size w2 W3 := hW3 ▸ (Below.refl _ w2).alloc (Nat.le_refl _) _
        have hx3 : Blk W3 w2.heap.size 46 #[.slice A l.length ct, .int .i64 (a : Int), .int .i64 0] := hW3 ▸ Blk.new w2 _ _
        have hbk3 := hbk2.below hal hbk2.lt
        have hlt3 := hlt2.below hal hlt2.lt
        have hbb3 := hbb2.trans (hal.mono hbb2.size)
        have hr3 := (hr2.below hal).more hal.size
        have BK3 := Lib.hid hbk3
        have BL3 := Lib.hid hlt3
        have BB3 := Lib.hid hbb3
        have BX3 := Lib.hid hx3
        have HR3 := Lib.hid hr3
        have m0 : w2.cell? ⟨w.heap.size, 0, none⟩ = some (.slice N names.length c1) := hlt2.cell 0
        have m1 : w2.cell? ⟨w.heap.size, 1, none⟩ = some (.slice U up.length c2) := hlt2.cell 1
        have mlt : w.heap.size < w2.heap.size := hlt2.lt
        have HW3 := Lib.hid hW3
        have hfrm := HFC.out W3 A ct hr3 hbb3
        have HFM := Lib.hid hfrm
        clear hb2 hbk2 hlt2 hbb2 hal hx3 hbk3 hlt3 hbb3 hr2 hr3 hfrm b0 b1 hW3
        go_wp2_with (fail)
        rw [HW3.out]
        refine HFM.out.mono ?_
        rintro e w4 ⟨v4, rfl, hiv, hb4⟩
        dsimp only
        obtain ⟨A4, c4, rfl, hr4, hc4⟩ := hiv
        have hbk4 := BK3.out.below hb4 BK3.out.lt
        have hx4 := BX3.out.below hb4 BX3.out.lt
        have hbb4 := BB3.out.trans (hb4.mono BB3.out.size)
        have hr5 := (HR3.out.below hb4).more hb4.size
        obtain ⟨W5, hW5⟩ : ∃ W5, w4.alloc (.cells #[.slice A4 o.length c4, .int .i64 (q : Int), .int .i64 (e2 : Int)] 32) = W5 := ⟨_, rfl⟩
        have hal : Below w4.heap.size w4 W5 := hW5 ▸ (Below.refl _ w4).alloc (Nat.le_refl _) _
        have hc5 : Blk W5 w4.heap.size 32 #[.slice A4 o.length c4, .int .i64 (q : Int), .int .i64 (e2 : Int)] := hW5 ▸ Blk.new w4 _ _
        have BK := Lib.hid (hbk4.below hal hbk4.lt)
        have BB := Lib.hid (hbb4.trans (hal.mono hbb4.size))
        have hx5 := hx4.below hal hx4.lt
        have HI5 : Hid (IsIns W5 W5.heap.size (.slice A4 o.length c4) o) := Lib.hid ⟨A4, c4, rfl, (hr4.below hal).more hal.size, hc4⟩
        have hrow := (hr5.below hal).more hal.size
        obtain ⟨ad, rfl, hbl, k0', k2'⟩ := itok_at hrow HQ.out
        have x0 : W5.cell? ⟨w2.heap.size, 0, none⟩ = some (.slice (some ad) l.length ct) := hx5.cell 0
        have d0 : W5.cell? ⟨w4.heap.size, 0, none⟩ = some (.slice A4 o.length c4) := hc5.cell 0
        have d1 : W5.cell? ⟨w4.heap.size, 1, none⟩ = some (.int .i64 (q : Int)) := hc5.cell 1
        have d2 : W5.cell? ⟨w4.heap.size, 2, none⟩ = some (.int .i64 (e2 : Int)) := hc5.cell 2
        have hqq := HQ.out
        have HW5 := Lib.hid hW5
        clear hb4 hbk4 hx4 hbb4 hr5 hal hc5 hx5 hr4 hc4 hrow m0 m1 mlt HFM BK3 BL3 BB3 BX3 HR3 HW3 hW5
        go_upto_region 8 with (fail)
        rw [HW5.out]
        clear HW5
        rw [HPQ.out] at k2'
        clear k0'
        have hrz : r = ([], pq, e2) := by rw [HRR.out, HPQ.out]
        have HRZ := Lib.hid hrz
        obtain ⟨Wz, hWz⟩ : ∃ Wz, (((W5.setCell ⟨w.heap.size + 1, 0, none⟩ (.slice none 0 0)).setCell ⟨w.heap.size + 1, 1, none⟩ (.int .i64 pq)).setCell ⟨w.heap.size + 1, 2, none⟩ (.int .i64 (e2 : Int))) = Wz := ⟨_, rfl⟩
        have hz : Blk Wz (w.heap.size + 1) 32 #[.slice none 0 0, .int .i64 pq, .int .i64 (e2 : Int)] := hWz ▸ (((BK.out.set_ 0 _).set_ 1 _).set_ 2 _)
        have hbz : Below w.heap.size w Wz := hWz ▸ (((BB.out.setCell (p := ⟨w.heap.size + 1, 0, none⟩) (Nat.le_succ _) _).setCell (p := ⟨w.heap.size + 1, 1, none⟩) (Nat.le_succ _) _).setCell (p := ⟨w.heap.size + 1, 2, none⟩) (Nat.le_succ _) _)
        have hiz : IsIns Wz Wz.heap.size (.slice none 0 0) (([], pq, e2)).1 := IsIns.nil _ _
        have z0 : W5.cell? ⟨w.heap.size + 1, 0, none⟩ = some (.slice none 0 0) := BK.out.cell 0
        have z1 : W5.cell? ⟨w.heap.size + 1, 1, none⟩ = some (.int .i64 0) := BK.out.cell 1
        have z2 : W5.cell? ⟨w.heap.size + 1, 2, none⟩ = some (.int .i64 0) := BK.out.cell 2
        have k0 : W5.frozen? ⟨w.heap.size + 1, 0, none⟩ = false := BK.out.frozen 0
        have k1 : W5.frozen? ⟨w.heap.size + 1, 1, none⟩ = false := BK.out.frozen 1
        have k2 : W5.frozen? ⟨w.heap.size + 1, 2, none⟩ = false := BK.out.frozen 2
        have q0 : Wz.cell? ⟨w.heap.size + 1, 0, none⟩ = some (.slice none 0 0) := hz.cell 0
        have q1 : Wz.cell? ⟨w.heap.size + 1, 1, none⟩ = some (.int .i64 pq) := hz.cell 1
        have q2 : Wz.cell? ⟨w.heap.size + 1, 2, none⟩ = some (.int .i64 (e2 : Int)) := hz.cell 2
        have HBZ := Lib.hid hbz
        have HIZ := Lib.hid hiz
        clear hz hbz hiz hrz
        go_wp2
        exact bodyPost_ret (v := .agg #[.slice none 0 0, .int .i64 pq, .int .i64 (e2 : Int)]) (by simp [results, Tryd.results7, go_sem, q0, q1, q2]) rfl ⟨_, (by rw [HRZ.out]; try rfl), by rw [HRZ.out]; exact HIZ.out, HBZ.out⟩
    · unfold Cd.parseL at hr
      rw [if_neg her] at hr
      dsimp only at hr
      have HRR := Lib.hid hr.symm
      have heb : ((er : Int) != 0) = true := by rw [bne_iff_ne]; omega
      clear hr her hlex
      go_enter Tryd.func7, Tryd.ntmps7
      go_wp2_with (fail)
      refine HCK.out.mono ?_
      rintro e w1 ⟨rfl, hb1⟩
      dsimp only
      have BK1 := Lib.hid (BK0.out.below hb1 BK0.out.lt)
      have BL1 := Lib.hid (BL0.out.below hb1 BL0.out.lt)
      have BB1 := Lib.hid (BB0.out.trans (hb1.mono BB0.out.size))
      have b0 := BL1.out.cell 0
      have b1 := BL1.out.cell 1
      clear hb1 s0 s1 HCK BK0 BL0 BB0
      go_wp2_with (fail)
      refine (HLX.out _).mono ?_
      rintro e w2 ⟨v2, rfl, ⟨A, ct, rfl, hr2, -⟩, hb2⟩
      dsimp only
      have hbk2 := BK1.out.below hb2 BK1.out.lt
      have hbb2 := BB1.out.trans (hb2.mono BB1.out.size)
      obtain ⟨W3, hW3⟩ : ∃ W3, w2.alloc (.cells #[.slice A l.length ct, .int .i64 (a : Int), .int .i64 (er : Int)] 46) = W3 := ⟨_, rfl⟩
      have hal : Below w2.heap.size w2 W3 := hW3 ▸ (Below.refl _ w2).alloc (Nat.le_refl _) _
      have hx3 : Blk W3 w2.heap.size 46 #[.slice A l.length ct, .int .i64 (a : Int), .int .i64 (er : Int)] := hW3 ▸ Blk.new w2 _ _
      have BK := Lib.hid (hbk2.below hal hbk2.lt)
      have BB := Lib.hid (hbb2.trans (hal.mono hbb2.size))
      have y1 : W3.cell? ⟨w2.heap.size, 1, none⟩ = some (.int .i64 (a : Int)) := hx3.cell 1
      have y2 : W3.cell? ⟨w2.heap.size, 2, none⟩ = some (.int .i64 (er : Int)) := hx3.cell 2
      clear hb2 hbk2 hbb2 hal hx3 hr2 b0 b1
      have hrz : r = ([], (a : Int), er) := HRR.out
      have HRZ := Lib.hid hrz
      obtain ⟨Wz, hWz⟩ : ∃ Wz, (((W3.setCell ⟨w.heap.size + 1, 0, none⟩ (.slice none 0 0)).setCell ⟨w.heap.size + 1, 1, none⟩ (.int .i64 (a : Int))).setCell ⟨w.heap.size + 1, 2, none⟩ (.int .i64 (er : Int))) = Wz := ⟨_, rfl⟩
      have hz : Blk Wz (w.heap.size + 1) 32 #[.slice none 0 0, .int .i64 (a : Int), .int .i64 (er : Int)] := hWz ▸ (((BK.out.set_ 0 _).set_ 1 _).set_ 2 _)
      have hbz : Below w.heap.size w Wz := hWz ▸ (((BB.out.setCell (p := ⟨w.heap.size + 1, 0, none⟩) (Nat.le_succ _) _).setCell (p := ⟨w.heap.size + 1, 1, none⟩) (Nat.le_succ _) _).setCell (p := ⟨w.heap.size + 1, 2, none⟩) (Nat.le_succ _) _)
      have hiz : IsIns Wz Wz.heap.size (.slice none 0 0) (([], (a : Int), er)).1 := IsIns.nil _ _
      have z0 : W3.cell? ⟨w.heap.size + 1, 0, none⟩ = some (.slice none 0 0) := BK.out.cell 0
      have z1 : W3.cell? ⟨w.heap.size + 1, 1, none⟩ = some (.int .i64 0) := BK.out.cell 1
      have z2 : W3.cell? ⟨w.heap.size + 1, 2, none⟩ = some (.int .i64 0) := BK.out.cell 2
      have k0 : W3.frozen? ⟨w.heap.size + 1, 0, none⟩ = false := BK.out.frozen 0
      have k1 : W3.frozen? ⟨w.heap.size + 1, 1, none⟩ = false := BK.out.frozen 1
      have k2 : W3.frozen? ⟨w.heap.size + 1, 2, none⟩ = false := BK.out.frozen 2
      have q0 : Wz.cell? ⟨w.heap.size + 1, 0, none⟩ = some (.slice none 0 0) := hz.cell 0
      have q1 : Wz.cell? ⟨w.heap.size + 1, 1, none⟩ = some (.int .i64 (a : Int)) := hz.cell 1
      have q2 : Wz.cell? ⟨w.heap.size + 1, 2, none⟩ = some (.int .i64 (er : Int)) := hz.cell 2
      have HBZ := Lib.hid hbz
      have HIZ := Lib.hid hiz
      clear hz hbz hiz hrz
      go_wp2
      exact bodyPost_ret (v := .agg #[.slice none 0 0, .int .i64 (a : Int), .int .i64 (er : Int)]) (by simp [results, Tryd.results7, go_sem, q0, q1, q2]) rfl ⟨_, (by rw [HRZ.out]; try rfl), by rw [HRZ.out]; exact HIZ.out, HBZ.out⟩
  · rw [if_neg hz] at hr
    have HRR := Lib.hid hr.symm
    have heb : ((n : Int) != 0) = true := by rw [bne_iff_ne]; omega
    clear hr hz
    go_enter Tryd.func7, Tryd.ntmps7
    go_wp2_with (fail)
    refine HCK.out.mono ?_
    rintro e w1 ⟨rfl, hb1⟩
    dsimp only
    have hbk1 := BK0.out.below hb1 BK0.out.lt
    have BK := Lib.hid hbk1
    have BB := Lib.hid (BB0.out.trans (hb1.mono BB0.out.size))
    clear hb1 hbk1
    have hrz : r = ([], 0, n) := HRR.out
    have HRZ := Lib.hid hrz
    obtain ⟨Wz, hWz⟩ : ∃ Wz, (((w1.setCell ⟨w.heap.size + 1, 0, none⟩ (.slice none 0 0)).setCell ⟨w.heap.size + 1, 1, none⟩ (.int .i64 0)).setCell ⟨w.heap.size + 1, 2, none⟩ (.int .i64 (n : Int))) = Wz := ⟨_, rfl⟩
    have hz : Blk Wz (w.heap.size + 1) 32 #[.slice none 0 0, .int .i64 0, .int .i64 (n : Int)] := hWz ▸ (((BK.out.set_ 0 _).set_ 1 _).set_ 2 _)
    have hbz : Below w.heap.size w Wz := hWz ▸ (((BB.out.setCell (p := ⟨w.heap.size + 1, 0, none⟩) (Nat.le_succ _) _).setCell (p := ⟨w.heap.size + 1, 1, none⟩) (Nat.le_succ _) _).setCell (p := ⟨w.heap.size + 1, 2, none⟩) (Nat.le_succ _) _)
    have hiz : IsIns Wz Wz.heap.size (.slice none 0 0) (([], 0, n)).1 := IsIns.nil _ _
    have z0 : w1.cell? ⟨w.heap.size + 1, 0, none⟩ = some (.slice none 0 0) := BK.out.cell 0
    have z1 : w1.cell? ⟨w.heap.size + 1, 1, none⟩ = some (.int .i64 0) := BK.out.cell 1
    have z2 : w1.cell? ⟨w.heap.size + 1, 2, none⟩ = some (.int .i64 0) := BK.out.cell 2
    have k0 : w1.frozen? ⟨w.heap.size + 1, 0, none⟩ = false := BK.out.frozen 0
    have k1 : w1.frozen? ⟨w.heap.size + 1, 1, none⟩ = false := BK.out.frozen 1
    have k2 : w1.frozen? ⟨w.heap.size + 1, 2, none⟩ = false := BK.out.frozen 2
    have q0 : Wz.cell? ⟨w.heap.size + 1, 0, none⟩ = some (.slice none 0 0) := hz.cell 0
    have q1 : Wz.cell? ⟨w.heap.size + 1, 1, none⟩ = some (.int .i64 0) := hz.cell 1
    have q2 : Wz.cell? ⟨w.heap.size + 1, 2, none⟩ = some (.int .i64 (n : Int)) := hz.cell 2
    have HBZ := Lib.hid hbz
    have HIZ := Lib.hid hiz
    clear hz hbz hiz hrz
    go_wp2
    exact bodyPost_ret (v := .agg #[.slice none 0 0, .int .i64 0, .int .i64 (n : Int)]) (by simp [results, Tryd.results7, go_sem, q0, q1, q2]) rfl ⟨_, (by rw [HRZ.out]; try rfl), by rw [HRZ.out]; exact HIZ.out, HBZ.out⟩
end Go.Proofs.YtipbilmnknmhmaaDoor
