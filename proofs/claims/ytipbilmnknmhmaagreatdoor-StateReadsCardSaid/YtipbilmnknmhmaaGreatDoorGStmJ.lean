/- The laws' cut and alive, of states (by gen_stmj.py). -/
import Derived.Test.YtipbilmnknmhmaaGreatDoorGStmF
import Derived.Test.YtipbilmnknmhmaaGreatDoorGStmI
import Derived.Test.YtipbilmnknmhmaaGreatDoorGCodK
import Derived.Test.YtipbilmnknmhmaaGreatDoorGFree
namespace Go.Proofs.YtipbilmnknmhmaaGreatDoor
set_option maxRecDepth 100000
open Go.RowKit Go.Shelf Go.Sort
attribute [local go_sem] Oper.semAt_some
theorem fcells_take {α : Type} {f : α → List Value} {m : Nat} (hf : ∀ x, (f x).length = m) (l : List α) (n : Nat) : fcells f (l.take n) = (fcells f l).take (n * m) := by
  induction l generalizing n with
  | nil => simp [fcells]
  | cons x r ih =>
    cases n with
    | zero => simp [fcells]
    | succ n =>
      have := ih n
      have hx : (f x).length ≤ n * m + m := by rw [hf]; omega
      rw [List.take_succ_cons, show fcells f (x :: r.take n) = f x ++ fcells f (r.take n) from rfl, this, show fcells f (x :: r) = f x ++ fcells f r from rfl, Nat.succ_mul, List.take_append, List.take_of_length_le hx, hf, Nat.add_sub_cancel]
def cutS (s : St.State) : St.State := ⟨s.pc, s.code.take 15, s.mem.take 15, s.stack.take 15, s.out.take 15⟩
/-- A state as it comes in: rows, with the room behind them. -/
structure StIn (w : World) (B : Nat) (s : St.State) (cA : Option Addr) (cc : Nat) (mA : Option Addr) (mc : Nat) (sA : Option Addr) (sc : Nat) (oA : Option Addr) (oc : Nat) : Prop where
  rc : Row w B cA (icells s.code) ∧ s.code.length ≤ cc ∧ cc ≤ maxLen
  rm : Row w B mA (fcells avs s.mem) ∧ s.mem.length ≤ mc ∧ mc ≤ maxLen
  rs : Row w B sA (fcells svs s.stack) ∧ s.stack.length ≤ sc ∧ sc ≤ maxLen
  ro : Row w B oA (fcells avs s.out) ∧ s.out.length ≤ oc ∧ oc ≤ maxLen
def incv (s : St.State) (cA : Option Addr) (cc : Nat) (mA : Option Addr) (mc : Nat) (sA : Option Addr) (sc : Nat) (oA : Option Addr) (oc : Nat) : Value := .agg #[.int .i64 s.pc.v, .int .i64 s.pc.l, .slice cA s.code.length cc, .slice mA s.mem.length mc, .slice sA s.stack.length sc, .slice oA s.out.length oc]
theorem StIn.below {w w' : World} {B : Nat} {s : St.State} {cA mA sA oA : Option Addr} {cc mc sc oc : Nat} (h : StIn w B s cA cc mA mc sA sc oA oc) (hb : Below B w w') : StIn w' B s cA cc mA mc sA sc oA oc :=
  ⟨⟨h.rc.1.below hb, h.rc.2⟩, ⟨h.rm.1.below hb, h.rm.2⟩, ⟨h.rs.1.below hb, h.rs.2⟩, ⟨h.ro.1.below hb, h.ro.2⟩⟩
theorem StIn.more {w : World} {B B' : Nat} {s : St.State} {cA mA sA oA : Option Addr} {cc mc sc oc : Nat} (h : StIn w B s cA cc mA mc sA sc oA oc) (hB : B ≤ B') : StIn w B' s cA cc mA mc sA sc oA oc :=
  ⟨⟨h.rc.1.more hB, h.rc.2⟩, ⟨h.rm.1.more hB, h.rm.2⟩, ⟨h.rs.1.more hB, h.rs.2⟩, ⟨h.ro.1.more hB, h.ro.2⟩⟩
theorem StIn.cut {w : World} {B : Nat} {s : St.State} {cA mA sA oA : Option Addr} {cc mc sc oc : Nat} (h : StIn w B s cA cc mA mc sA sc oA oc) : StIn w B (cutS s) cA cc mA mc sA sc oA oc := by
  refine ⟨⟨?_, ?_, h.rc.2.2⟩, ⟨?_, ?_, h.rm.2.2⟩, ⟨?_, ?_, h.rs.2.2⟩, ⟨?_, ?_, h.ro.2.2⟩⟩
  · show Row w B cA (icells (s.code.take 15)); rw [icells_f, fcells_take ivs_len]; exact h.rc.1.take _
  · have := h.rc.2.1; show (s.code.take 15).length ≤ cc; rw [List.length_take]; omega
  · show Row w B mA (fcells avs (s.mem.take 15)); rw [fcells_take avs_len]; exact h.rm.1.take _
  · have := h.rm.2.1; show (s.mem.take 15).length ≤ mc; rw [List.length_take]; omega
  · show Row w B sA (fcells svs (s.stack.take 15)); rw [fcells_take svs_len]; exact h.rs.1.take _
  · have := h.rs.2.1; show (s.stack.take 15).length ≤ sc; rw [List.length_take]; omega
  · show Row w B oA (fcells avs (s.out.take 15)); rw [fcells_take avs_len]; exact h.ro.1.take _
  · have := h.ro.2.1; show (s.out.take 15).length ≤ oc; rw [List.length_take]; omega
theorem StIn.isSt {w : World} {B : Nat} {s : St.State} {cA mA sA oA : Option Addr} {cc mc sc oc : Nat} (h : StIn w B s cA cc mA mc sA sc oA oc) : IsSt w B (incv s cA cc mA mc sA sc oA oc) s :=
  ⟨_, _, _, _, rfl, ⟨cA, cc, rfl, h.rc.1, h.rc.2.1⟩, ⟨mA, mc, rfl, h.rm.1, h.rm.2.1⟩, ⟨sA, sc, rfl, h.rs.1, h.rs.2.1⟩, ⟨oA, oc, rfl, h.ro.1, h.ro.2.1⟩⟩
/-! alive -/
deriving instance DecidableEq for St.State
def bText9 : ByteArray := { data := #[112, 99, 32, 48, 32, 64, 32, 97, 32, 59, 32, 99, 111, 100, 101, 32, 104, 97, 108, 116, 32, 59, 32, 109, 101, 109, 32, 59, 32, 115, 116, 97, 99, 107, 32, 114, 101, 116, 32, 49, 32, 64, 32, 98, 32, 59, 32, 111, 117, 116, 32, 59] }
def bState9 : St.State := ⟨⟨0, 0⟩, [⟨12, 0, 0⟩], [], [⟨true, 1, 1⟩], []⟩
theorem bParse9 : St.parse bNames8 bUp8 bText9.data.toList = (bState9, 0, 0) := by decide +kernel
theorem bRight9 : pubS bNames8 bUp8 bState9 = true := by decide +kernel
theorem KSt.open9 {B : Nat} {w : World} {a b : Int} {cA mA sA oA : Option Addr} {cn cc mn mc sn sc on oc : Nat} {s : St.State} (h : KSt B w (.agg #[.int .i64 a, .int .i64 b, .slice cA cn cc, .slice mA mn mc, .slice sA sn sc, .slice oA on oc]) s) :
    a = s.pc.v ∧ b = s.pc.l ∧ cn = s.code.length ∧ mn = s.mem.length ∧ sn = s.stack.length ∧ on = s.out.length ∧ Row w w.heap.size sA (fcells svs s.stack) ∧ IsSt w w.heap.size (.agg #[.int .i64 a, .int .i64 b, .slice cA cn cc, .slice mA mn mc, .slice sA sn sc, .slice oA on oc]) s := by
  have hi := h.isSt
  refine ⟨?_, ?_, ?_, ?_, ?_, ?_, ?_, hi⟩ <;>
  · obtain ⟨cv, mv, sv, ov, e, ⟨A1, k1, rfl, -, -⟩, ⟨A2, k2, rfl, -, -⟩, ⟨A3, k3, rfl, hr, -⟩, ⟨A4, k4, rfl, -, -⟩⟩ := hi
    simp only [stv, Value.agg.injEq, Array.mk.injEq, List.cons.injEq, Value.int.injEq, Value.slice.injEq, true_and, and_true] at e
    obtain ⟨e0, e1, ⟨e2a, e2, -⟩, ⟨e3a, e3, -⟩, ⟨e4a, e4, -⟩, ⟨e5a, e5, -⟩⟩ := e
    first | exact e0 | exact e1 | exact e2 | exact e3 | exact e4 | exact e5 | (rw [e4a]; exact hr)
set_option maxHeartbeats 8000000 in
theorem alive9_any (w : World) (hi : Ins w) : Calls Tryz.prog 23 #[] w (Tells w true) := by
  obtain ⟨W0, hW0⟩ : ∃ W0 : World, (((w.alloc (.cells #[.string ⟨#[97]⟩, .string ⟨#[98]⟩] 9)).alloc (.cells #[.int .u32 3, .int .u32 2] 63)).alloc (.cells #[.slice (some ⟨w.heap.size, 0, none⟩) 2 2, .slice (some ⟨w.heap.size + 1, 0, none⟩) 2 2] 25)) = W0 := ⟨_, rfl⟩
  have hlat := alive8_lat w
  have hB : Below w.heap.size w W0 := by rw [← hW0]; exact (((Below.refl _ w).alloc (Nat.le_refl _) _).alloc (by simp) _).alloc (by simp; omega) _
  have hsz : W0.heap.size = w.heap.size + 3 := by rw [← hW0]; simp
  have hbl : Blk W0 (w.heap.size + 1 + 1) 25 #[.slice (some ⟨w.heap.size, 0, none⟩) 2 2, .slice (some ⟨w.heap.size + 1, 0, none⟩) 2 2] := by rw [← hW0]; exact Blk.new' _ _ _ _ (by simp)
  rw [hW0] at hlat
  rw [← hsz] at hlat
  have hp := sparse_any bText9 (by decide) W0 hlat (hi.below hB hi.lt)
  rw [bParse9] at hp
  unfold bText9 at hp
  have HP := Lib.hid hp
  have HB := Lib.hid hB
  have HBL := Lib.hid hbl
  have HW0 := Lib.hid hW0
  have HLAT := Lib.hid hlat
  have HSZ := Lib.hid hsz
  clear hp hB hbl hW0 hlat hsz hi
  go_enter Tryz.func23, Tryz.ntmps23
  go_wp2_with (fail)
  rw [HW0.out]
  refine HP.out.mono ?_
  rintro e w1 ⟨a, b, cA, cn, cc, mA, mn, mc, sA, sn, sc, oA, on, oc, rfl, hks, hb1⟩
  dsimp only at hks
  obtain ⟨rfl, rfl, rfl, rfl, rfl, rfl, hrow, hst⟩ := hks.open9
  have hal := (Below.refl _ w1).alloc (Nat.le_refl _) (.cells #[.int .i64 bState9.pc.v, .int .i64 bState9.pc.l, .slice cA bState9.code.length cc, .slice mA bState9.mem.length mc, .slice sA bState9.stack.length sc, .slice oA bState9.out.length oc] 42)
  have hbx := Blk.new w1 42 #[.int .i64 bState9.pc.v, .int .i64 bState9.pc.l, .slice cA bState9.code.length cc, .slice mA bState9.mem.length mc, .slice sA bState9.stack.length sc, .slice oA bState9.out.length oc]
  have hb2 := hb1.alloc hb1.size (.cells #[.int .i64 bState9.pc.v, .int .i64 bState9.pc.l, .slice cA bState9.code.length cc, .slice mA bState9.mem.length mc, .slice sA bState9.stack.length sc, .slice oA bState9.out.length oc] 42)
  have hrow2 := (hrow.below hal).more hal.size
  have hst2 := (hst.below hal).more hal.size
  dsimp only [bState9, List.length_cons, List.length_nil] at hal hbx hb2 hrow2 hst2 ⊢
  obtain ⟨W2, hW2⟩ : ∃ W2, w1.alloc (.cells #[.int .i64 0, .int .i64 0, .slice cA (0 + 1) cc, .slice mA 0 mc, .slice sA (0 + 1) sc, .slice oA 0 oc] 42) = W2 := ⟨_, rfl⟩
  rw [hW2] at hal hbx hb2 hrow2 hst2
  have hp1 := HBL.out.below hb2 (by rw [HSZ.out]; omega)
  have hc0 : W2.cell? ⟨w.heap.size + 1 + 1, 0, none⟩ = some (.slice (some ⟨w.heap.size, 0, none⟩) 2 2) := hp1.cell 0
  have hc1 : W2.cell? ⟨w.heap.size + 1 + 1, 1, none⟩ = some (.slice (some ⟨w.heap.size + 1, 0, none⟩) 2 2) := hp1.cell 1
  have x0 := hbx.cell 0
  have x1 := hbx.cell 1
  have x2 := hbx.cell 2
  have x3 := hbx.cell 3
  have x4 := hbx.cell 4
  have x5 := hbx.cell 5
  obtain ⟨ad, t, rfl, hadb, ht, d0, d1, d2⟩ := srow_at (k := 0) hrow2 (by decide)
  obtain rfl : (⟨true, 1, 1⟩ : St.Slot) = t := Option.some.inj ht
  have d0 : W2.cell? ad = some (.bool true) := d0
  have d1 : W2.cell? ⟨ad.block, ad.off + 1, none⟩ = some (.int .i64 1) := d1
  have d2 : W2.cell? ⟨ad.block, ad.off + 2, none⟩ = some (.int .i64 1) := d2
  have hr := sright_any (s := bState9) W2 ((HLAT.out.below hb2).more hb2.size) hst2 ⟨by decide, by decide, by decide, by decide⟩
  rw [bRight9] at hr
  have HR := Lib.hid hr
  have HB1 := Lib.hid (HB.out.trans (hb2.mono HB.out.size))
  have heq := run_sl_eql ⟨true, 1, 1⟩ ⟨true, 1, 1⟩
  rw [decide_eq_true rfl] at heq
  dsimp only at heq
  clear hr hb1 hb2 hp1 hrow hrow2 hst hst2 ht hal hbx hks
  go_wp2_with (fail)
  refine HR.out.mono ?_
  rintro e w2 ⟨rfl, hb2⟩
  go_wp2
  go_ret
  exact ⟨rfl, HB1.out.trans (hb2.mono HB1.out.size)⟩
end Go.Proofs.YtipbilmnknmhmaaGreatDoor
