/- Walks of lattice's Flows, Join, Meet, Bottom, Top. -/
import Derived.Deep.RegionWith
import Derived.Test.YtlddglhjpiahfaaGOrd
import Derived.Test.YtlddglhjpiahfaaGLat
namespace Go.Proofs.Ytlddglhjpiahfaa
set_option maxRecDepth 100000
open Go.RowKit

theorem checkN_zero {names : List ByteArray} {up : List Nat} (h : checkN names up = 0) : mayB names up = true ∧ Lat.isOrder up = true ∧ Lat.isLattice up = true := by
  unfold checkN at h
  cases h1 : mayB names up <;> rw [h1] at h <;> simp at h
  cases h2 : Lat.isOrder up <;> rw [h2] at h <;> simp at h
  cases h3 : Lat.isLattice up <;> rw [h3] at h <;> simp at h
  exact ⟨rfl, rfl, rfl⟩
theorem labN_zero {names : List ByteArray} {up : List Nat} {a b : Int} (h : labN names up a b = 0) : checkN names up = 0 ∧ (∃ a' : Nat, a = a' ∧ a' < up.length) ∧ (∃ b' : Nat, b = b' ∧ b' < up.length) := by
  unfold labN at h
  by_cases h1 : checkN names up = 0
  · rw [if_pos h1] at h
    by_cases h2 : (isLab up a && isLab up b) = true
    · simp only [Bool.and_eq_true, isLab, decide_eq_true_eq] at h2
      exact ⟨h1, ⟨a.toNat, by omega, by omega⟩, ⟨b.toNat, by omega, by omega⟩⟩
    · rw [if_neg h2] at h; omega
  · rw [if_neg h1] at h; exact absurd h h1
theorem len_of_checkN {names : List ByteArray} {up : List Nat} (h : checkN names up = 0) : 1 ≤ up.length ∧ up.length ≤ 8 := by
  have := mayB_len (checkN_zero h).1
  exact ⟨this.1, this.2.1⟩

theorem ret_bi {x y : Int} {a b : Bool} (h' : a = b) (h : x = y) : Ending.returned (.tuple #[.bool a, .int .i64 x]) = .returned (.tuple #[.bool b, .int .i64 y]) := by rw [h, h']
theorem ret_ii {x y a b : Int} (h' : a = b) (h : x = y) : Ending.returned (.tuple #[.int .i64 a, .int .i64 x]) = .returned (.tuple #[.int .i64 b, .int .i64 y]) := by rw [h, h']

def flowsR (names : List ByteArray) (up : List Nat) (a b : Int) : Bool := if labN names up a b = 0 then Lat.fl up a.toNat b.toNat else false
def topR (names : List ByteArray) (up : List Nat) : Nat := if checkN names up = 0 then Lat.leastN (Lat.turned up) (Lat.allS up.length) else 0

set_option maxHeartbeats 1000000 in
theorem Flows_any {v : Value} {names : List ByteArray} {up : List Nat} (a b : Int) (w : World) (h : IsLat w w.heap.size v names up) :
    Calls Try.prog 61 #[v, .int .i64 a, .int .i64 b] w fun e w' => e = .returned (.tuple #[.bool (flowsR names up a b), .int .i64 (labN names up a b : Nat)]) ∧ Below w.heap.size w w' := by
  have h' := h
  obtain ⟨⟨A, A', c, c', rfl, hN, hU⟩, hshort, ⟨hf1, hf2⟩, -⟩ := h'
  have hb0 : Below w.heap.size w (w.alloc (.cells #[.slice A names.length c, .slice A' up.length c'] 25)) := (Below.refl _ w).alloc (Nat.le_refl _) _
  have p0 : Blk (w.alloc (.cells #[.slice A names.length c, .slice A' up.length c'] 25)) w.heap.size 25 #[.slice A names.length c, .slice A' up.length c'] := Blk.new _ _ _
  have HP0 := Lib.hid p0
  have hch := checkLabels_any a b _ (h.boxed (.cells #[.slice A names.length c, .slice A' up.length c'] 25))
  have HR : Hid (flowsR names up a b = if labN names up a b = 0 then Lat.fl up a.toNat b.toNat else false) := rfl
  clear p0 h
  obtain ⟨n, hn⟩ : ∃ n, labN names up a b = n := ⟨_, rfl⟩
  rw [hn] at hch
  have HN := Lib.hid hn
  rw [hn]
  clear hn
  by_cases hz : n = 0
  · subst hz
    obtain ⟨hz1, ⟨a, rfl, ha⟩, ⟨b, rfl, hb⟩⟩ := labN_zero HN.out
    obtain ⟨l1, l2⟩ := len_of_checkN hz1
    have HCH := Lib.hid hch
    clear hch hz1
    go_enter Try.func61, Try.ntmps61
    go_wp2_with (go_at_call 86; refine HCH.out.mono ?_)
    rintro e w1 ⟨rfl, hb1⟩
    have hp1 := HP0.out.below hb1 (by simp)
    have hbw1 : Below w.heap.size w w1 := hb0.trans (hb1.mono (by simp))
    have hc1 : w1.cell? ⟨w.heap.size, 1, none⟩ = some (.slice A' up.length c') := by rw [hp1.cell]; rfl
    have hfl := flows_any c' a b w1 (hU.below hbw1) ha (by omega)
    have HFL := Lib.hid hfl
    clear hfl hb1 HCH
    go_wp2_with (go_at_call 76; refine HFL.out.mono ?_)
    rintro e w2 ⟨rfl, rfl⟩
    go_wp2
    go_ret2
    exact ⟨ret_bi (by rw [HR.out, HN.out]; simp) rfl, hbw1⟩
  · have hz1 : ((n : Int) == 0) = false := by rw [beq_eq_false_iff_ne]; omega
    have hz2 : ((n : Int) != 0) = true := by rw [bne_iff_ne]; omega
    have HCH := Lib.hid hch
    clear hch
    go_enter Try.func61, Try.ntmps61
    go_wp2_with (go_at_call 86; refine HCH.out.mono ?_)
    rintro e w1 ⟨rfl, hb1⟩
    go_wp2
    go_ret2
    exact ⟨ret_bi (by rw [HR.out, HN.out, if_neg hz]) rfl, hb0.trans (hb1.mono (by simp))⟩

set_option maxHeartbeats 2000000 in
theorem Top_any {v : Value} {names : List ByteArray} {up : List Nat} (w : World) (h : IsLat w w.heap.size v names up) :
    Calls Try.prog 23 #[v] w fun e w' => e = .returned (.tuple #[.int .i64 (topR names up : Nat), .int .i64 (checkN names up : Nat)]) ∧ Below w.heap.size w w' := by
  have h' := h
  obtain ⟨⟨A, A', c, c', rfl, hN, hU⟩, hshort, ⟨hf1, hf2⟩, -⟩ := h'
  have hb0 : Below w.heap.size w (w.alloc (.cells #[.slice A names.length c, .slice A' up.length c'] 25)) := (Below.refl _ w).alloc (Nat.le_refl _) _
  have p0 : Blk (w.alloc (.cells #[.slice A names.length c, .slice A' up.length c'] 25)) w.heap.size 25 #[.slice A names.length c, .slice A' up.length c'] := Blk.new _ _ _
  have HP0 := Lib.hid p0
  have hch := check_any _ (h.boxed (.cells #[.slice A names.length c, .slice A' up.length c'] 25))
  have HR : Hid (topR names up = if checkN names up = 0 then Lat.leastN (Lat.turned up) (Lat.allS up.length) else 0) := rfl
  clear p0 h
  obtain ⟨n, hn⟩ : ∃ n, checkN names up = n := ⟨_, rfl⟩
  rw [hn] at hch
  have HN := Lib.hid hn
  rw [hn]
  clear hn
  by_cases hz : n = 0
  · subst hz
    obtain ⟨l1, l2⟩ := len_of_checkN HN.out
    have HCH := Lib.hid hch
    clear hch
    go_enter Try.func23, Try.ntmps23
    go_wp2_with (go_at_call 46; refine HCH.out.mono ?_)
    rintro e w1 ⟨rfl, hb1⟩
    have hp1 := HP0.out.below hb1 (by simp)
    have hbw1 : Below w.heap.size w w1 := hb0.trans (hb1.mono (by simp))
    have hlt1 := hp1.lt
    have hc1 : w1.cell? ⟨w.heap.size, 1, none⟩ = some (.slice A' up.length c') := by rw [hp1.cell]; rfl
    have hall32 : Lat.allS up.length < 4294967296 := by
      unfold Lat.allS
      have : 2 ^ up.length < 2 ^ 32 := Nat.pow_lt_pow_right (by decide) (by omega)
      omega
    have htn : ∀ W : World, Below w.heap.size w W → Blk W w.heap.size 25 #[.slice A names.length c, .slice A' up.length c'] → Calls Try.prog 48 #[.slice A' up.length c'] W fun e w' =>
        ∃ g, e = .returned (.slice (some ⟨g, 0, none⟩) up.length up.length) ∧ (∀ s, s < 4294967296 → Calls Try.prog 47 #[.slice (some ⟨g, 0, none⟩) up.length up.length, .int .u32 (s : Nat)] w' fun e w'' => e = .returned (.tuple #[.int .i64 (Lat.leastN (Lat.turned up) s : Nat), .bool (Lat.leastB (Lat.turned up) s)]) ∧ w' = w'') ∧ w'.cell? ⟨w.heap.size, 1, none⟩ = some (.slice A' up.length c') ∧ Below w.heap.size w w' := by
      intro W hW hbl
      refine (turned_any c' W ((hU.below hW).more hW.size) (by omega)).mono ?_
      rintro e w' ⟨g, rfl, hblk, hb⟩
      refine ⟨g, rfl, fun s hs => ?_, ?_, hW.trans (hb.mono hW.size)⟩
      · have := least_any up.length s w' (blk_ups hblk (turned_lt (by omega))) (by rw [Lat.turned_length]; omega) hs
        rw [Lat.turned_length] at this
        exact this
      · have := hbl.below hb hbl.lt
        rw [this.cell]; rfl
    have HTN := Lib.hid htn
    have HBW := Lib.hid hbw1
    clear htn hb1 HCH hU hN
    go_wp2_with (fail)
    go_region_with (first
      | (go_at_call 49; refine (all_any _ _ (by omega)).mono ?_; rintro e w' ⟨rfl, rfl⟩)
      | (go_at_call 48; refine (HTN.out _ HBW.out.drew hp1.drew).mono ?_; rintro e w' ⟨g, rfl, hleast, hc2, hbw2⟩)
      | (go_at_call 47; refine (hleast _ hall32).mono ?_; rintro e w' ⟨rfl, rfl⟩))
    all_goals go_wp2
    all_goals go_ret2
    all_goals exact ⟨ret_ii (by rw [HR.out, HN.out]; rfl) rfl, by first | exact hbw2 | exact hbw2.drew⟩
  · have hz1 : ((n : Int) == 0) = false := by rw [beq_eq_false_iff_ne]; omega
    have hz2 : ((n : Int) != 0) = true := by rw [bne_iff_ne]; omega
    have HCH := Lib.hid hch
    clear hch
    go_enter Try.func23, Try.ntmps23
    go_wp2_with (go_at_call 46; refine HCH.out.mono ?_)
    rintro e w1 ⟨rfl, hb1⟩
    go_wp2
    go_ret2
    exact ⟨ret_ii (by rw [HR.out, HN.out, if_neg hz]; rfl) rfl, hb0.trans (hb1.mono (by simp))⟩
end Go.Proofs.Ytlddglhjpiahfaa

/- Walks of the reference's Flows, Join, Meet. -/
namespace Go.Proofs.Ytlddglhjpiahfaa
set_option maxRecDepth 100000
open Go.RowKit

/-- What the reference's functions ask of the world: the box, and what is below it. -/
def At (w : World) (x0 x1 : Value) (W : World) : Prop := Blk W w.heap.size 25 #[x0, x1] ∧ Below w.heap.size w W
def jAll (up : List Nat) (a b c d : Nat) : Bool := !(Lat.fl up a d && Lat.fl up b d && !Lat.fl up c d)
def jOk (up : List Nat) (a b c : Nat) : Bool := Lat.fl up a c && Lat.fl up b c && (List.range up.length).all (jAll up a b c)
def rJoin (up : List Nat) (a b : Nat) : Int := match (List.range up.length).find? (jOk up a b) with | some c => (c : Int) | none => -1
def mAll (up : List Nat) (a b c d : Nat) : Bool := !(Lat.fl up d a && Lat.fl up d b && !Lat.fl up d c)
def mOk (up : List Nat) (a b c : Nat) : Bool := Lat.fl up c a && Lat.fl up c b && (List.range up.length).all (mAll up a b c)
def rMeet (up : List Nat) (a b : Nat) : Int := match (List.range up.length).find? (mOk up a b) with | some c => (c : Int) | none => -1

end Go.Proofs.Ytlddglhjpiahfaa

/- Walk of the reference's order. -/
namespace Go.Proofs.Ytlddglhjpiahfaa
set_option maxRecDepth 100000
open Go.RowKit

end Go.Proofs.Ytlddglhjpiahfaa

/- Walk of the reference's may. -/
namespace Go.Proofs.Ytlddglhjpiahfaa
set_option maxRecDepth 100000
open Go.RowKit

end Go.Proofs.Ytlddglhjpiahfaa

/- Walks of the reference's Check, Bottom, Top, and of the law's there. -/
namespace Go.Proofs.Ytlddglhjpiahfaa
set_option maxRecDepth 100000
open Go.RowKit

theorem rJoin_bd {up : List Nat} {a b : Nat} (h : 0 ≤ rJoin up a b) : ∃ c : Nat, rJoin up a b = c ∧ c < up.length ∧ jOk up a b c = true := by
  unfold rJoin at h ⊢
  cases e : (List.range up.length).find? (jOk up a b) with
  | none => rw [e] at h; simp at h
  | some c => exact ⟨c, rfl, by simpa using List.mem_of_find?_eq_some e, List.find?_some e⟩

def rBotTo (up : List Nat) : Nat → Nat
  | 0 => 0
  | k + 1 => (rMeet up (rBotTo up k) k).toNat
def rTopTo (up : List Nat) : Nat → Nat
  | 0 => 0
  | k + 1 => (rJoin up (rTopTo up k) k).toNat

end Go.Proofs.Ytlddglhjpiahfaa

/- Walks of the heights: lattice.height, lattice.Height, the reference's Height. -/
namespace Go.Proofs.Ytlddglhjpiahfaa
set_option maxRecDepth 100000
open Go.RowKit

end Go.Proofs.Ytlddglhjpiahfaa

/- The package's answers and the reference's are the same. Plain data. -/
namespace Go.Proofs.Ytlddglhjpiahfaa
set_option maxRecDepth 100000
open Lat

/-- All rows hold bits of labels alone. -/
def Rows (up : List Nat) : Prop := ∀ a, up.getD a 0 < 2 ^ up.length

theorem sub_all {x n : Nat} : sub x (allS n) = !highB x n := by
  have h2 : 0 < 2 ^ n := Nat.pow_pos (by decide)
  rw [Bool.eq_iff_iff]
  unfold highB
  simp only [Bool.not_eq_true', decide_eq_false_iff_not, Nat.not_lt, Nat.le_zero_eq]
  rw [Nat.div_eq_zero_iff]
  constructor
  · intro h
    right
    unfold sub allS at h
    rw [beq_iff_eq, Nat.and_two_pow_sub_one_eq_mod] at h
    rw [← h]
    exact Nat.mod_lt _ h2
  · intro h
    have hx : x < 2 ^ n := by rcases h with h | h <;> omega
    unfold sub allS
    rw [beq_iff_eq, Nat.and_two_pow_sub_one_eq_mod, Nat.mod_eq_of_lt hx]
theorem lt_of_sub {x n : Nat} (h : sub x (allS n) = true) : x < 2 ^ n := by
  rw [sub_all] at h
  unfold highB at h
  simp only [Bool.not_eq_true', decide_eq_false_iff_not, Nat.not_lt, Nat.le_zero_eq] at h
  rw [Nat.div_eq_zero_iff] at h
  have : 0 < 2 ^ n := Nat.pow_pos (by decide)
  rcases h with h | h <;> omega

theorem all_range {f : Nat → Bool} {n : Nat} : (List.range n).all f = true ↔ ∀ i, i < n → f i = true := by
  rw [List.all_eq_true]
  simp [List.mem_range]
theorem all_pairs {f : Nat × Nat → Bool} {n : Nat} : (pairs n).all f = true ↔ ∀ a b, a < n → b < n → f (a, b) = true := by
  rw [List.all_eq_true]
  constructor
  · intro h a b ha hb; exact h _ (mem_pairs.2 ⟨ha, hb⟩)
  · rintro h ⟨a, b⟩ hp; exact h a b (mem_pairs.1 hp).1 (mem_pairs.1 hp).2

theorem rows_of_may {names : List ByteArray} {up : List Nat} (h : mayB names up = true) : Rows up := by
  unfold mayB at h
  simp only [Bool.and_eq_true] at h
  have h1 := h.2.1
  rw [all_range] at h1
  intro a
  by_cases ha : a < up.length
  · have := h1 a ha
    unfold rowOk at this
    rw [Bool.and_eq_true] at this
    exact lt_of_sub this.1
  · rw [List.getD_eq_getElem?_getD, List.getElem?_eq_none (by omega)]
    exact Nat.pow_pos (by decide)

theorem fl_lt {up : List Nat} (h : Rows up) {a b : Nat} (hf : fl up a b = true) : b < up.length := by
  rcases Nat.lt_or_ge b up.length with hb | hb
  · exact hb
  · unfold fl at hf
    rw [Nat.testBit_lt_two_pow (Nat.lt_of_lt_of_le (h a) (Nat.pow_le_pow_right (show 2 > 0 by decide) hb))] at hf
    cases hf

theorem joinS_bit (up : List Nat) (a b c : Nat) : (joinS up a b).testBit c = (fl up a c && fl up b c) := by
  unfold joinS fl; rw [Nat.testBit_and]
theorem leastF_j {up : List Nat} (h : Rows up) (a b c : Nat) : leastF up (joinS up a b) c = jOk up a b c := by
  unfold leastF jOk
  rw [joinS_bit]
  congr 1
  rw [Bool.eq_iff_iff, all_range]
  constructor
  · intro hs d _
    unfold jAll
    cases e1 : fl up a d <;> cases e2 : fl up b d <;> simp
    exact sub_bit hs d (by rw [joinS_bit, e1, e2]; rfl)
  · intro hd
    refine sub_of_bits fun i hi => ?_
    rw [joinS_bit, Bool.and_eq_true] at hi
    have := hd i (fl_lt h hi.1)
    unfold jAll at this
    have : fl up c i = true := by simpa [hi.1, hi.2] using this
    exact this
theorem find_same {f g : Nat → Bool} {n : Nat} (h : ∀ i, i < n → f i = g i) : (List.range n).find? f = (List.range n).find? g := by
  cases e : (List.range n).find? g with
  | none =>
    rw [List.find?_eq_none] at e ⊢
    intro x hx
    rw [h x (by simpa using hx)]
    exact e x hx
  | some k =>
    have hk : k < n := by simpa using List.mem_of_find?_eq_some e
    refine find_range f n k hk (fun j hj => ?_) (by rw [h k hk]; exact List.find?_some e)
    rw [h j (by omega)]
    rw [List.find?_eq_some_iff_append] at e
    obtain ⟨_, l1, l2, hl, hno⟩ := e
    have hjm : j ∈ l1 := by
      have hlen : l1.length = k := by
        have := congrArg (fun l => l[l1.length]?) hl
        simp only [List.getElem?_append_right (Nat.le_refl _), Nat.sub_self, List.getElem?_cons_zero] at this
        have hlt : l1.length < n := by
          have := congrArg List.length hl
          simp at this
          omega
        rw [List.getElem?_range hlt] at this
        injection this
      have hj2 : (List.range n)[j]? = l1[j]? := by rw [hl, List.getElem?_append_left (by omega)]
      rw [List.getElem?_range (by omega)] at hj2
      exact List.mem_of_getElem? hj2.symm
    simpa using hno j hjm
theorem join_same {up : List Nat} (h : Rows up) (a b : Nat) : rJoin up a b = if leastB up (joinS up a b) then (leastN up (joinS up a b) : Int) else -1 := by
  unfold rJoin leastB leastN least
  rw [find_same (fun i _ => (leastF_j h a b i).symm)]
  cases (List.range up.length).find? (leastF up (joinS up a b)) <;> simp

end Go.Proofs.Ytlddglhjpiahfaa

/- The ends of a lattice are those that the reference tells. Plain data. -/
namespace Go.Proofs.Ytlddglhjpiahfaa
set_option maxRecDepth 100000
open Lat

structure Latt (up : List Nat) : Prop where
  one : 1 ≤ up.length
  few : up.length ≤ 8
  rows : Rows up
  ord : isOrder up = true
  lat : isLattice up = true
theorem latt_of {names : List ByteArray} {up : List Nat} (h : checkN names up = 0) : Latt up := by
  obtain ⟨h1, h2, h3⟩ := checkN_zero h
  have hl := len_of_checkN h
  exact ⟨hl.1, hl.2, rows_of_may h1, h2, h3⟩

section
variable {up : List Nat} (h : Latt up)
include h
theorem Latt.both {a b : Nat} (ha : a < up.length) (hb : b < up.length) : leastB up (joinS up a b) = true ∧ leastB (turned up) (joinS (turned up) a b) = true := by
  have := h.lat
  unfold isLattice at this
  rw [all_pairs] at this
  have := this a b ha hb
  unfold latOk at this
  rw [Bool.and_eq_true] at this
  exact this
theorem Latt.join {a b : Nat} (ha : a < up.length) (hb : b < up.length) : 0 ≤ rJoin up a b := by
  rw [join_same h.rows, if_pos (h.both ha hb).1]; omega
theorem Latt.join_spec {a b : Nat} (ha : a < up.length) (hb : b < up.length) : ∃ c : Nat, rJoin up a b = c ∧ c < up.length ∧ fl up a c = true ∧ fl up b c = true ∧ ∀ d, d < up.length → fl up a d = true → fl up b d = true → fl up c d = true := by
  obtain ⟨c, hc, hcl, hm⟩ := rJoin_bd (h.join ha hb)
  unfold jOk at hm
  rw [Bool.and_eq_true, Bool.and_eq_true, all_range] at hm
  refine ⟨c, hc, hcl, hm.1.1, hm.1.2, fun d hd h1 h2 => ?_⟩
  have := hm.2 d hd
  unfold jAll at this
  simpa [h1, h2] using this

theorem Latt.top_to : ∀ k, k ≤ up.length → rTopTo up k < up.length ∧ ∀ d, d < k → fl up d (rTopTo up k) = true := by
  intro k
  induction k with
  | zero => intro _; exact ⟨by simp only [rTopTo]; have := h.one; omega, fun d hd => absurd hd (Nat.not_lt_zero d)⟩
  | succ k ih =>
    intro hk
    obtain ⟨h1, h2⟩ := ih (by omega)
    obtain ⟨c, hc, hcl, hca, hcb, _⟩ := h.join_spec h1 (show k < up.length by omega)
    have e : rTopTo up (k + 1) = c := by simp only [rTopTo]; rw [hc]; simp
    rw [e]
    refine ⟨hcl, fun d hd => ?_⟩
    rcases Nat.lt_or_eq_of_le (Nat.le_of_lt_succ hd) with hd | rfl
    · exact ord_trans h.ord (by omega) h1 (h2 d hd) hca
    · exact hcb
end

theorem leastF_all {up : List Nat} {k : Nat} (hk : k < up.length) : leastF up (allS up.length) k = true ↔ ∀ d, d < up.length → fl up k d = true := by
  unfold leastF
  rw [all_bits, Bool.and_eq_true]
  constructor
  · rintro ⟨_, hs⟩ d hd
    exact sub_bit hs d (by rw [all_bits]; simpa using hd)
  · intro hd
    refine ⟨by simpa using hk, sub_of_bits fun i hi => ?_⟩
    rw [all_bits] at hi
    exact hd i (by simpa using hi)
theorem leastN_all {up : List Nat} (hanti : ∀ a b, a < up.length → b < up.length → fl up a b = true → fl up b a = true → a = b) {o : Nat} (ho : o < up.length) (hall : ∀ d, d < up.length → fl up o d = true) : leastN up (allS up.length) = o := by
  refine (least_some ho (fun j hj => ?_) ((leastF_all ho).2 hall)).1
  cases e : leastF up (allS up.length) j with
  | false => rfl
  | true =>
    have := (leastF_all (show j < up.length by omega)).1 e
    have := hanti j o (by omega) ho (this o ho) (hall j (by omega))
    omega
theorem Latt.top {up : List Nat} (h : Latt up) : leastN (turned up) (allS up.length) = rTopTo up up.length := by
  obtain ⟨h1, h2⟩ := h.top_to _ (Nat.le_refl _)
  have := leastN_all (up := turned up) (o := rTopTo up up.length) (fun a b ha hb h1 h2 => by
    rw [turned_length] at ha hb
    rw [turned_bit hb ha] at h1
    rw [turned_bit ha hb] at h2
    exact ord_anti h.ord ha hb h2 h1) (by rw [turned_length]; exact h1) (fun d hd => by
    rw [turned_length] at hd
    rw [turned_bit hd h1]
    exact h2 d hd)
  rw [turned_length] at this
  exact this
end Go.Proofs.Ytlddglhjpiahfaa
