/- Walks of the law's few and alive. -/
import Derived.Test.YtkndaljfjceipaaRulN
import Derived.Test.YtkndaljfjceipaaRulH
import Derived.Test.YtkndaljfjceipaaLexG
import Derived.KernelRfl
namespace Go.Proofs.Ytkndaljfjceipaa
open Go.RowKit Go.Shelf

def cutR (t : Lx.Tk) : Lx.Tk := ⟨t.kind, t.text.extract 0 (min t.text.size 20), t.pos⟩
def fewR (l : List Lx.Tk) : List Lx.Tk := (l.take 150).map cutR
theorem fewR_length (l : List Lx.Tk) : (fewR l).length = min l.length 150 := by unfold fewR; rw [List.length_map, List.length_take, Nat.min_comm]
theorem fewR_take {l : List Lx.Tk} {k : Nat} {t : Lx.Tk} (h : l[k]? = some t) (hk : k < min l.length 150) : (fewR l).take (k + 1) = (fewR l).take k ++ [cutR t] := by
  rw [List.take_add_one]
  congr 1
  unfold fewR
  rw [List.getElem?_map, List.getElem?_take, if_pos (by omega), h]
  rfl
theorem cells_newR {w : World} {g : Nat} (xs : List Value) (t : TypeId) (h : w.heap.size = g) : ∀ j u, xs[j]? = some u → (w.alloc (.cells xs.toArray t)).cell? ((⟨g, 0, none⟩ : Addr).add j) = some u := h ▸ cells_new w xs t
def FewR (w : World) (v : Value) (l : List Lx.Tk) (wr : World) : Prop := wr.ownsRow w.heap.size 36 3 v l.length (tcells l) ∧ Below w.heap.size w wr
theorem FewR.step {w : World} {v v' : Value} {l : List Lx.Tk} {t : Lx.Tk} {wr w' : World} {o o2 : Obj} (h : FewR w v l wr) (hown : w'.ownsRow w.heap.size 36 3 v' (l.length + 1) (tcells l ++ [.int .i64 t.kind, .string t.text, .int .i64 t.pos]))
    (hg : ((wr.alloc o).alloc o2).grownBy w' v.ownBlock) : FewR w v' (l ++ [t]) w' := by
  obtain ⟨h1, h2⟩ := h
  refine ⟨?_, ?_⟩
  · rw [tcells_snoc, List.length_append]; exact hown
  · have := h2.size
    exact ((h2.alloc h2.size o).alloc (by simp; omega) o2).grown hg (by simp; omega) (fun k he => (h1.lt k he).1)
/-- What few answers. -/
def FewRes (w : World) (l : List Lx.Tk) (e : Ending) (w' : World) : Prop := ∃ v, e = .returned v ∧ IsToks w' w'.heap.size v l ∧ Below w.heap.size w w'
set_option maxRecDepth 100000 in
set_option maxHeartbeats 4000000 in
theorem rFew_any {A : Option Addr} (c : Nat) (l : List Lx.Tk) (w : World) (h : Row w w.heap.size A (tcells l)) (hc : l.length ≤ c) (hm : c ≤ maxLen) (hs : ∀ t ∈ l, t.text.size ≤ maxLen) :
    Calls Try.prog 11 #[.slice A l.length c] w (FewRes w (fewR l)) := by
  obtain ⟨i0, hi, hz0, hz1, hz2⟩ := info_parts Try.infoTok
  have H := Lib.hid h
  have HS := Lib.hid hs
  clear h hs
  unfold maxLen at hm
  obtain ⟨N, hN⟩ : ∃ N, min l.length 150 = N := ⟨_, rfl⟩
  have hmin : min (l.length : Int) 150 = (N : Int) := by omega
  have hmax : max (N : Int) 0 = (N : Int) := by omega
  have hN1 : N ≤ l.length := by omega
  have hN2 : N ≤ 150 := by omega
  have HN := Lib.hid hN
  have HF : Hid ((fewR l).length = N) := by unfold Hid; rw [fewR_length, hN]
  clear hN
  go_enter Try.func11, Try.ntmps11
  go_wp2
  go_loopw [3, 12] (fun v i wr => ∃ k : Nat, k ≤ N ∧ i = .int .i64 k ∧ Hid (FewR w v ((fewR l).take k) wr)) (fun _ i _ => N - (intOf i).toNat)
  case atStart => exact ⟨0, Nat.zero_le _, rfl, World.ownsRow_nil _ _ _ _, Below.refl _ _⟩
  case round =>
    obtain ⟨k, hk, rfl, HI⟩ := hrel
    by_cases hlt : k < N
    · obtain ⟨ad, t, rfl, -, ht, c0, c1, c2⟩ := trow_at (H.out.below HI.out.2) (show k < l.length by omega)
      have hsz := HS.out t (List.mem_of_getElem? ht)
      have hnext := fewR_take ht (by rw [HN.out]; exact hlt)
      obtain ⟨kd, x, p⟩ := t
      dsimp only at c0 c1 c2 hsz
      unfold maxLen at hsz
      have HX := Lib.hid hnext
      have hlen : ((fewR l).take k).length = k := by rw [List.length_take, HF.out]; omega
      have hown := HI.out.1
      rw [hlen] at hown
      have hbsz := HI.out.2.size
      obtain ⟨m, hm⟩ : ∃ m, min x.size 20 = m := ⟨_, rfl⟩
      have hmin2 : min (x.size : Int) 20 = (m : Int) := by omega
      have hm1 : m ≤ x.size := by omega
      have HM := Lib.hid hm
      have HL := Lib.hid hlen
      clear hnext ht hlen hm
      go_wp2_with (at_builtin; refine wpList_append_own _ rfl _ _ 31 rfl w.heap.size 36 i0 (.agg #[.int .i64 0, .string ByteArray.empty, .int .i64 0]) 3 32 Try.underlying31 hi hz0 hz1 hz2 rfl (by decide) _ _ _ rfl ((hown.alloc _).alloc _) ⟨wr.heap.size + 1, 0, none⟩ 1 1 [.int .i64 kd, .string (x.extract 0 m), .int .i64 p] rfl rfl ?c1 ?c2 ?c3 ?c4 ?c5 ?_)
      case c1 => exact cells_newR _ _ (by simp)
      case c2 => simp [Value.oneCell']
      case c3 => unfold maxLen; omega
      case c4 => omega
      case c5 => first | omega | (simp; omega)
      intro v' w' hown' hgrow _
      have hst := HI.out.step (t := ⟨kd, x.extract 0 m, p⟩) (by rw [HL.out]; exact hown') hgrow
      have HST := Lib.hid hst
      have hx : (⟨kd, x.extract 0 m, p⟩ : Lx.Tk) = cutR ⟨kd, x, p⟩ := by unfold cutR; rw [HM.out]
      have HXX := Lib.hid hx
      clear hst hown' hgrow hown hx
      go_wp2
      go_roundw
      case rel => exact ⟨k + 1, by omega, by go_num, by rw [HX.out, ← HXX.out]; exact HST⟩
      case measure => simp [intOf]; omega
    · obtain rfl : k = N := by omega
      rw [List.take_of_length_le (by rw [HF.out]; exact Nat.le_refl _)] at HI
      obtain ⟨A2, c2, rfl⟩ := ownT_slice HI.out.1
      go_wp2
      go_ret
      exact ⟨_, rfl, ⟨A2, c2, rfl, (ownT_row HI.out.1).1, (ownT_row HI.out.1).2⟩, HI.out.2⟩

/- The law's alive. -/
def aliveRS : List UInt8 := [111, 110, 101, 32, 106, 111, 105, 110, 32, 116, 119, 111, 32, 60, 61, 32, 112, 99]
def aliveRL : List Lx.Tk := [⟨1, Lx.pack [111, 110, 101], (0 : Nat)⟩, ⟨1, Lx.pack [106, 111, 105, 110], (4 : Nat)⟩, ⟨1, Lx.pack [116, 119, 111], (9 : Nat)⟩, ⟨3, Lx.pack [60, 61], (13 : Nat)⟩, ⟨1, Lx.pack [112, 99], (16 : Nat)⟩, ⟨0, ByteArray.empty, (18 : Nat)⟩]
theorem aliveR_lex : Lx.lex aliveRS = (aliveRL, 0, 0) := by rfl
theorem aliveR_read : Rl.told (Rl.read aliveRL false 0) = ([9, 10, 12, 8, 5], 5, 0) := by decide +kernel
theorem aliveR_from : Rl.from_ aliveRL 0 false = ([9, 10, 12, 8, 5], 5, 0) := by
  rw [may_yes (decide_eq_true ⟨by decide, by decide, _, rfl, rfl⟩)]
  exact aliveR_read

set_option maxRecDepth 100000 in
set_option maxHeartbeats 4000000 in
theorem rAlive_any (w : World) : Calls Try.prog 8 #[] w (Tells w true) := by
  have hcall := lex_any { data := #[111, 110, 101, 32, 106, 111, 105, 110, 32, 116, 119, 111, 32, 60, 61, 32, 112, 99] } w (by decide)
  rw [show ({ data := #[111, 110, 101, 32, 106, 111, 105, 110, 32, 116, 119, 111, 32, 60, 61, 32, 112, 99] } : ByteArray).data.toList = aliveRS from rfl, aliveR_lex] at hcall
  have HC := Lib.hid hcall
  clear hcall
  go_enter Try.func8, Try.ntmps8
  go_wp2_with (fail)
  refine HC.out.mono ?_
  rintro e w1 ⟨v, rfl, ⟨A, c, hv, hrow, hcap⟩, hb⟩
  have hf := from_any c 0 false w1 hrow (by decide)
  rw [aliveR_from] at hf
  rw [← hv] at hf
  subst hv
  rw [show aliveRL.length = 6 from rfl] at hf ⊢
  have HF := Lib.hid hf
  have HB := Lib.hid hb
  clear hf hb hrow hcap
  go_wp2_with (fail)
  refine HF.out.mono ?_
  rintro e w2 ⟨v2, rfl, ⟨A2, c2, hv2, hrow2, hcap2⟩, hb2⟩
  have hB2 := HB.out.trans (hb2.mono HB.out.size)
  have hs := rSame_any (ys := [9, 10, 12, 8, 5]) c2 5 (w2.alloc (.cells #[.int .i64 9, .int .i64 10, .int .i64 12, .int .i64 8, .int .i64 5] 3)) ((hrow2.below ((Below.refl _ w2).alloc (Nat.le_refl _) _)).more (by simp)) ((Blk.new w2 3 #[.int .i64 9, .int .i64 10, .int .i64 12, .int .i64 8, .int .i64 5] : Blk (w2.alloc _) w2.heap.size 3 [Value.int .i64 9, .int .i64 10, .int .i64 12, .int .i64 8, .int .i64 5].toArray).row.more (by simp)) (by decide)
  have hB3 := hB2.alloc hB2.size (.cells #[.int .i64 9, .int .i64 10, .int .i64 12, .int .i64 8, .int .i64 5] 3)
  have HS := Lib.hid hs
  have HB3 := Lib.hid hB3
  clear hs hB3 hB2 hb2 hrow2 hcap2
  subst hv2
  go_wp2_with (fail)
  refine HS.out.mono ?_
  rintro e w3 ⟨rfl, hb3⟩
  have HB4 := Lib.hid (HB3.out.trans (hb3.mono HB3.out.size))
  clear hb3
  go_wp2
  go_ret
  exact ⟨rfl, HB4.out⟩
end Go.Proofs.Ytkndaljfjceipaa
