/- Walks of package order's named and Make. -/
import Derived.Test.YtaingkjleelbfaaOrdA
import Derived.Test.YtaingkjleelbfaaFew
namespace Go.Proofs.Ytaingkjleelbfaa
open Go.RowKit Go.Shelf

def lettersB : ByteArray := ⟨#[97, 98, 99, 100, 101, 102, 103, 104]⟩
def letter (i : Nat) : ByteArray := lettersB.extract i (i + 1)
/-- The first names, made up to a. -/
def namedAt (n a : Nat) : List ByteArray := (List.range n).map fun i => if i < a then letter i else ByteArray.empty
def named (n : Nat) : List ByteArray := (List.range n).map letter
theorem named_length (n : Nat) : (named n).length = n := by simp [named]
theorem namedAt_zero (n : Nat) : namedAt n 0 = List.replicate n ByteArray.empty := by
  unfold namedAt
  rw [List.eq_replicate_iff]
  exact ⟨by simp, fun b hb => by obtain ⟨i, _, rfl⟩ := List.mem_map.1 hb; rw [if_neg (by omega)]⟩
theorem namedAt_all (n : Nat) : namedAt n n = named n := by
  unfold namedAt named
  exact List.map_congr_left fun i hi => by rw [if_pos (by simpa using hi)]
theorem namedAt_set {n a : Nat} (h : a < n) : (namedAt n a).set a (letter a) = namedAt n (a + 1) := by
  refine List.ext_getElem? fun i => ?_
  have hl : (namedAt n a).length = n := by simp [namedAt]
  rw [List.getElem?_set, hl]
  by_cases hi : a = i
  · subst hi
    rw [if_pos rfl, if_pos h]
    unfold namedAt
    rw [List.getElem?_map, List.getElem?_range h]
    simp
  · rw [if_neg hi]
    unfold namedAt
    rw [List.getElem?_map, List.getElem?_map]
    by_cases hn : i < n
    · rw [List.getElem?_range hn]
      simp only [Option.map_some, Option.some.injEq]
      by_cases h1 : i < a
      · rw [if_pos h1, if_pos (by omega)]
      · rw [if_neg h1, if_neg (by omega)]
    · simp [hn]
theorem strs_set (l : List ByteArray) (i : Nat) (x : ByteArray) : (strs l).toArray.setIfInBounds i (.string x) = (strs (l.set i x)).toArray := by
  simp [strs, List.map_set]

set_option maxRecDepth 100000 in
set_option maxHeartbeats 1000000 in
theorem named_any (n : Nat) (w : World) (hn : n ≤ 8) :
    Calls Try.prog 25 #[.int .i64 n] w fun e w' => e = .returned (.slice (some ⟨w.heap.size, 0, none⟩) n n) ∧ Blk w' w.heap.size 9 (strs (named n)).toArray ∧ Below w.heap.size w w' := by
  obtain ⟨i0, hi, hz0, hz1, hz2⟩ := info_parts Try.infoStr
  have hmk := fun W => run_make_n (P := Try.prog) 22 9 i0 (.string ByteArray.empty) Try.underlying22 hi hz0 hz1 rfl n (by rw [hz2]; omega) (by omega) W
  clear hi hz0 hz1 hz2
  go_enter Try.func25, Try.ntmps25
  go_wp2
  have hst : Blk (w.alloc (.cells (List.replicate n (.string ByteArray.empty)).toArray 9)) w.heap.size 9 (strs (namedAt n 0)).toArray := by
    rw [namedAt_zero, show strs (List.replicate n ByteArray.empty) = List.replicate n (.string ByteArray.empty) by simp [strs]]
    exact Blk.new _ _ _
  have hB := (Below.refl w.heap.size w).alloc (Nat.le_refl _) (.cells (List.replicate n (.string ByteArray.empty)).toArray 9)
  go_loopw [8] (fun i wr => ∃ a : Nat, a ≤ n ∧ i = .int .i64 a ∧ Blk wr w.heap.size 9 (strs (namedAt n a)).toArray ∧ Below w.heap.size w wr) (fun i _ => n - (intOf i).toNat)
  case atStart => exact ⟨0, Nat.zero_le _, rfl, hst, hB⟩
  case round =>
    clear hst hB
    obtain ⟨a, ha, rfl, hblk, hbw⟩ := hrel
    by_cases hlt : a < n
    · have hc : ∃ u, wr.cell? ⟨w.heap.size, a, none⟩ = some u := by
        rw [hblk.cell]; simp [strs, namedAt, hlt]
      obtain ⟨u, hc⟩ := hc
      have hfz : wr.frozen? ⟨w.heap.size, a, none⟩ = false := hblk.frozen a
      go_wp2
      go_roundw
      case rel => exact ⟨a + 1, by omega, by go_num, by rw [← namedAt_set hlt, ← strs_set]; exact hblk.set_ a _, hbw.setCell (p := ⟨w.heap.size, a, none⟩) (Nat.le_refl _) _⟩
      case measure => simp [intOf]; omega
    · obtain rfl : a = n := by omega
      rw [namedAt_all] at hblk
      go_wp2
      go_ret
      exact ⟨rfl, hblk, hbw⟩

/-- A lattice, and an error. -/
def LatRes (w : World) (n : Nat) (names : List ByteArray) (up : List Nat) (e : Ending) (w' : World) : Prop :=
  ∃ v, e = .returned (.tuple #[v, .int .i64 (n : Int)]) ∧ IsLat w' w'.heap.size v names up ∧ Below w.heap.size w w'
theorem IsLat.none_ (w : World) (B : Nat) : IsLat w B (.agg #[.slice none 0 0, .slice none 0 0]) [] [] :=
  ⟨⟨none, none, 0, 0, rfl, Row.nil, ⟨Row.nil, fun k x hx => by simp at hx⟩⟩, fun s hs => by simp at hs, ⟨by simp, by simp⟩, fun A n c A' n' c' h => by
    injection h with h; injection h with h; injection h with e1 h; injection h with e2 h
    injection e1 with _ a b; injection e2 with _ c d; omega⟩
theorem letter_size {i : Nat} : (letter i).size ≤ 1 := by
  unfold letter
  rw [ByteArray.size_extract]
  omega
theorem named_short {n : Nat} : ∀ s ∈ named n, s.size ≤ maxLen := by
  intro s hs
  obtain ⟨i, _, rfl⟩ := List.mem_map.1 hs
  have := letter_size (i := i)
  unfold maxLen
  omega
/-- A lattice out of two blocks. -/
theorem IsLat.ofBlks {w : World} {B g g' : Nat} {names : List ByteArray} {up : List Nat} {n n' c c' : Nat} (h : Blk w g 9 (strs names).toArray) (h' : Blk w g' 62 (u32s up).toArray) (hg : g < B) (hg' : g' < B) (hu : ∀ (k x : Nat), up[k]? = some x → x < 4294967296)
    (hs : ∀ s ∈ names, s.size ≤ maxLen) (hn : names.length = n) (hn' : up.length = n') (hf : n ≤ 1000 ∧ n' ≤ 1000) (hc : n ≤ c ∧ n' ≤ c') : IsLat w B (.agg #[.slice (some ⟨g, 0, none⟩) n c, .slice (some ⟨g', 0, none⟩) n' c']) names up := by
  subst hn hn'
  refine ⟨⟨_, _, c, c', rfl, h.row.more hg, ⟨h'.row.more hg', hu⟩⟩, hs, hf, fun A n c A' n' c' h => ?_⟩
  injection h with h; injection h with h; injection h with e1 h; injection h with e2 h
  injection e1 with _ a b; injection e2 with _ c d; omega

def makeN (kind : ByteArray) (n : Int) : Nat :=
  if kind = kChain then if 1 ≤ n ∧ n ≤ 8 then 0 else 1 else if kind = kPower then if 0 ≤ n ∧ n ≤ 3 then 0 else 1 else if kind = kDiam then if 1 ≤ n ∧ n ≤ 6 then 0 else 1 else 6
def makeUp (kind : ByteArray) (n : Int) : List Nat :=
  if kind = kChain then Ordr.ups chainF n.toNat else if kind = kPower then Ordr.ups powerF (2 ^ n.toNat) else Ordr.ups (diamF n.toNat) (n.toNat + 2)
def makeUpR (kind : ByteArray) (n : Int) : List Nat := if makeN kind n = 0 then makeUp kind n else []
theorem make_len {kind : ByteArray} {n : Int} (h : makeN kind n = 0) : 1 ≤ (makeUp kind n).length ∧ (makeUp kind n).length ≤ 8 := by
  unfold makeN at h
  unfold makeUp
  split
  · rename_i h1
    rw [if_pos h1] at h
    by_cases h2 : 1 ≤ n ∧ n ≤ 8
    · rw [Ordr.ups_length]; omega
    · rw [if_neg h2] at h; omega
  · rename_i h1
    rw [if_neg h1] at h
    split
    · rename_i h2
      rw [if_pos h2] at h
      by_cases h3 : 0 ≤ n ∧ n ≤ 3
      · rw [Ordr.ups_length]
        have : 2 ^ n.toNat ≤ 2 ^ 3 := Nat.pow_le_pow_right (by decide) (by omega)
        have := Nat.pow_pos (n := n.toNat) (show 0 < 2 by decide)
        omega
      · rw [if_neg h3] at h; omega
    · rename_i h2
      rw [if_neg h2] at h
      by_cases h3 : kind = kDiam
      · rw [if_pos h3] at h
        by_cases h4 : 1 ≤ n ∧ n ≤ 6
        · rw [Ordr.ups_length]; omega
        · rw [if_neg h4] at h; omega
      · rw [if_neg h3] at h; omega
theorem make_u32 {kind : ByteArray} {n : Int} (h : makeN kind n = 0) : ∀ (k x : Nat), (makeUp kind n)[k]? = some x → x < 4294967296 := by
  have hl := (make_len h).2
  unfold makeUp at hl ⊢
  split
  · rename_i h1; rw [if_pos h1, Ordr.ups_length] at hl; exact Ordr.ups_u32 (by omega)
  · rename_i h1
    rw [if_neg h1] at hl
    split
    · rename_i h2; rw [if_pos h2, Ordr.ups_length] at hl; exact Ordr.ups_u32 (by omega)
    · rename_i h2; rw [if_neg h2, Ordr.ups_length] at hl; exact Ordr.ups_u32 (by omega)
theorem ba_beq (a b : ByteArray) : (a == b) = decide (a = b) := by
  rw [Bool.eq_iff_iff, decide_eq_true_eq]
  exact MapKept.bytes_beq a b
/-- What the map says of a kind. -/
theorem look_kind (kind : ByteArray) (w : World) (r : Nat) (hb : w.heap[r]? = some (.map kindEs 3)) :
    (Instr.lookup 56 (.map (some r)) (.string kind) true).run Try.prog w =
      .ok (.tuple (if kind = kChain then #[.func (.func 46) #[] #[], .bool true] else if kind = kPower then #[.func (.func 47) #[] #[], .bool true] else if kind = kDiam then #[.func (.func 48) #[] #[], .bool true] else #[.nilFunc, .bool false])) w := by
  by_cases h1 : kind = kChain
  · rw [if_pos h1]
    subst h1
    exact run_lookup_there w _ 9 54 r 3 0 kindEs _ _ Try.underlying56 Try.underlying9 hb rfl
  · rw [if_neg h1]
    have e1 : (kind == kChain) = false := by rw [ba_beq, decide_eq_false_iff_not]; exact h1
    by_cases h2 : kind = kPower
    · rw [if_pos h2]
      subst h2
      exact run_lookup_there w _ 9 54 r 3 1 kindEs _ _ Try.underlying56 Try.underlying9 hb rfl
    · rw [if_neg h2]
      have e2 : (kind == kPower) = false := by rw [ba_beq, decide_eq_false_iff_not]; exact h2
      by_cases h3 : kind = kDiam
      · rw [if_pos h3]
        subst h3
        exact run_lookup_there w _ 9 54 r 3 2 kindEs _ _ Try.underlying56 Try.underlying9 hb rfl
      · rw [if_neg h3]
        have e3 : (kind == kDiam) = false := by rw [ba_beq, decide_eq_false_iff_not]; exact h3
        exact run_lookup_not w _ 9 54 r 3 kindEs _ _ Try.underlying56 Try.underlying9 hb (by simp [kindEs, Instr.findNow, Instr.sameNow, e1, e2, e3]) (by kernel_rfl)

def MakeRes (w : World) (ok : Bool) (l : List Nat) : Ending → World → Prop := LatRes w (if ok then 0 else 1) (if ok then named l.length else []) (if ok then l else [])
theorem MakeRes.no {w w' : World} {l : List Nat} (hb : Below w.heap.size w w') : MakeRes w false l (.returned (.tuple #[.agg #[.slice none 0 0, .slice none 0 0], .int .i64 1])) w' := ⟨_, rfl, IsLat.none_ _ _, hb⟩
theorem MakeRes.yes {w w' : World} {l : List Nat} {v : Value} (h : IsLat w' w'.heap.size v (named l.length) l) (hb : Below w.heap.size w w') : MakeRes w true l (.returned (.tuple #[v, .int .i64 0])) w' := ⟨_, rfl, h, hb⟩
set_option maxHeartbeats 1000000 in
/-- What a function of a kind answers, and what Make makes of it. -/
theorem make_of (kind : ByteArray) (n : Int) (w : World) (g : Nat) (ok : Bool) (l : List Nat) (hl : ok = true → 1 ≤ l.length ∧ l.length ≤ 8 ∧ ∀ (k x : Nat), l[k]? = some x → x < 4294967296)
    (hen : ∀ args W, (callFunc g args).run Try.prog W = .ok (.enter g args) W) (hgc : ∀ W, Calls Try.prog g #[.int .i64 n] W (Rowed W ok l))
    (hlook : ∀ W r, W.heap[r]? = some (.map kindEs 3) → (Instr.lookup 56 (.map (some r)) (.string kind) true).run Try.prog W = .ok (.tuple #[.func (.func g) #[] #[], .bool true]) W) :
    Calls Try.prog 8 #[.string kind, .int .i64 n] w (MakeRes w ok l) := by
  have hb0 : Below w.heap.size w ((w.alloc (.cells #[.slice none 0 0, .slice none 0 0] 25)).alloc (.map kindEs 3)) := ((Below.refl _ w).alloc (Nat.le_refl _) _).alloc (by simp) _
  have p0 : Blk ((w.alloc (.cells #[.slice none 0 0, .slice none 0 0] 25)).alloc (.map kindEs 3)) w.heap.size 25 #[.slice none 0 0, .slice none 0 0] := (Blk.new _ _ _).alloc _
  have hk := kinds_any (w.alloc (.cells #[.slice none 0 0, .slice none 0 0] 25))
  have hlk := hlook ((w.alloc (.cells #[.slice none 0 0, .slice none 0 0] 25)).alloc (.map kindEs 3)) (w.heap.size + 1) (by have := World.alloc_heap_new (w.alloc (.cells #[.slice none 0 0, .slice none 0 0] 25)) (.map kindEs 3); rwa [World.size_alloc] at this)
  have hgc' := hgc ((w.alloc (.cells #[.slice none 0 0, .slice none 0 0] 25)).alloc (.map kindEs 3))
  have HK := Lib.hid hk
  have P0 := Lib.hid p0
  have HL := Lib.hid hl
  clear hk hgc hlook p0 hl
  cases ok
  all_goals
    have HG := Lib.hid hgc'
    clear hgc'
    go_enter Try.func8, Try.ntmps8
    go_wp2_with (go_at_call 24; refine HK.out.mono ?_; rintro e w' ⟨rfl, rfl⟩)
    refine HG.out.mono ?_
    rintro e w1 ⟨hr, hb1⟩
    have hp1 := P0.out.below hb1 (by simp; omega)
    have hc0 : w1.cell? ⟨w.heap.size, 0, none⟩ = some (.slice none 0 0) := by rw [hp1.cell]; rfl
    have hc1 : w1.cell? ⟨w.heap.size, 1, none⟩ = some (.slice none 0 0) := by rw [hp1.cell]; rfl
    have hf0 := hp1.frozen 0
    have hf1 := hp1.frozen 1
    have hbw := hb0.trans (hb1.mono (by simp; omega))
    have hsz1 := hbw.size
    have HP1 := Lib.hid hp1
    clear hb1 HK HG hlk P0 hp1
  · simp only [Bool.false_eq_true, if_false] at hr
    subst hr
    clear HL
    go_wp2
    refine bodyPost_ret (v := .tuple #[.agg #[.slice none 0 0, .slice none 0 0], .int .i64 1]) (by simp [results, Try.results8, go_sem, hc0, hc1]) rfl (MakeRes.no ?_)
    exact (hbw.setCell (p := ⟨w.heap.size, 0, none⟩) (Nat.le_refl _) _).setCell (p := ⟨w.heap.size, 1, none⟩) (Nat.le_refl _) _
  · simp only [if_true] at hr
    obtain ⟨g', rfl, hblk⟩ := hr
    obtain ⟨h1, h8, hu⟩ := HL.out (by simp)
    have hnm := named_any l.length w1 h8
    have HNM := Lib.hid hnm
    have HU := Lib.hid hu
    have HBLK := Lib.hid hblk
    clear hnm HL hu hc0 hc1 hf0 hf1 hblk
    go_wp2_with (go_at_call 25; refine HNM.out.mono ?_)
    rintro e w2 ⟨rfl, hblk2, hb2⟩
    have hp1 := HP1.out.below hb2 HP1.out.lt
    have hc0 : w2.cell? ⟨w.heap.size, 0, none⟩ = some (.slice none 0 0) := by rw [hp1.cell]; rfl
    have hc1 : w2.cell? ⟨w.heap.size, 1, none⟩ = some (.slice none 0 0) := by rw [hp1.cell]; rfl
    have hf0 := hp1.frozen 0
    have hf1 := hp1.frozen 1
    have hbw2 := hbw.trans (hb2.mono hsz1)
    have hla : ∀ W : World, Blk W w1.heap.size 9 (strs (named l.length)).toArray → Blk W g' 62 (u32s l).toArray → IsLat W W.heap.size (.agg #[.slice (some ⟨w1.heap.size, 0, none⟩) l.length l.length, .slice (some ⟨g', 0, none⟩) l.length l.length]) (named l.length) l := fun W a b =>
      IsLat.ofBlks a b a.lt b.lt HU.out named_short (named_length _) rfl ⟨by omega, by omega⟩ ⟨Nat.le_refl _, Nat.le_refl _⟩
    have hne2 : g' ≠ w.heap.size := fun e => by have h1 := HBLK.out; have h2 := HP1.out; rw [e] at h1; unfold Blk at h1 h2; rw [h1] at h2; simp at h2
    have HB2 := Lib.hid (And.intro hblk2 (HBLK.out.below hb2 HBLK.out.lt))
    have HNE2 := Lib.hid hne2
    have hne : w1.heap.size ≠ w.heap.size := by have := HP1.out.lt; omega
    have HLA := Lib.hid hla
    have HBW2 := Lib.hid hbw2
    have HNE := Lib.hid hne
    clear hla hbw2 hb2 hblk2 hp1 hne hne2
    go_wp2
    refine bodyPost_ret (v := .tuple #[.agg #[.slice (some ⟨w1.heap.size, 0, none⟩) l.length l.length, .slice (some ⟨g', 0, none⟩) l.length l.length], .int .i64 0]) (by simp [results, Try.results8, go_sem, hc0, hc1]) rfl (MakeRes.yes ?_ ?_)
    · exact HLA.out _ ((HB2.out.1.other (p := ⟨w.heap.size, 0, none⟩) (fun e => HNE.out e.symm) _).other (p := ⟨w.heap.size, 1, none⟩) (fun e => HNE.out e.symm) _) ((HB2.out.2.other (p := ⟨w.heap.size, 0, none⟩) (fun e => HNE2.out e.symm) _).other (p := ⟨w.heap.size, 1, none⟩) (fun e => HNE2.out e.symm) _)
    · exact (HBW2.out.setCell (p := ⟨w.heap.size, 0, none⟩) (Nat.le_refl _) _).setCell (p := ⟨w.heap.size, 1, none⟩) (Nat.le_refl _) _

theorem makeRes_lat {w : World} {kind : ByteArray} {n : Int} {ok : Bool} {l : List Nat} (hok : makeN kind n = if ok then 0 else 1) (hl : makeUp kind n = l) {e : Ending} {w' : World} (h : MakeRes w ok l e w') : LatRes w (makeN kind n) (named (makeUpR kind n).length) (makeUpR kind n) e w' := by
  unfold MakeRes at h
  unfold makeUpR
  rw [hok, hl]
  cases ok
  · simpa [named] using h
  · simpa using h

set_option maxHeartbeats 1000000 in
theorem Make_any (kind : ByteArray) (n : Int) (w : World) : Calls Try.prog 8 #[.string kind, .int .i64 n] w (LatRes w (makeN kind n) (named (makeUpR kind n).length) (makeUpR kind n)) := by
  have hl := @make_len kind n
  have hu := @make_u32 kind n
  have look := fun W r => look_kind kind W r
  by_cases h1 : kind = kChain
  · have hok : makeN kind n = if decide (1 ≤ n ∧ n ≤ 8) then 0 else 1 := by unfold makeN; rw [if_pos h1]; simp
    have hup : makeUp kind n = Ordr.ups chainF n.toNat := by unfold makeUp; rw [if_pos h1]
    rw [hok] at hl hu
    rw [hup] at hl hu
    refine (make_of kind n w 46 (decide (1 ≤ n ∧ n ≤ 8)) (Ordr.ups chainF n.toNat) (fun h => ?_) Try.call46 (fun W => chain_any n W) (fun W r hb => by rw [look W r hb, if_pos h1])).mono fun e w' h => makeRes_lat hok hup h
    rw [if_pos h] at hl hu
    exact ⟨(hl rfl).1, (hl rfl).2, hu rfl⟩
  · by_cases h2 : kind = kPower
    · have hok : makeN kind n = if decide (0 ≤ n ∧ n ≤ 3) then 0 else 1 := by unfold makeN; rw [if_neg h1, if_pos h2]; simp
      have hup : makeUp kind n = Ordr.ups powerF (2 ^ n.toNat) := by unfold makeUp; rw [if_neg h1, if_pos h2]
      rw [hok] at hl hu
      rw [hup] at hl hu
      refine (make_of kind n w 47 (decide (0 ≤ n ∧ n ≤ 3)) (Ordr.ups powerF (2 ^ n.toNat)) (fun h => ?_) Try.call47 (fun W => power_any n W) (fun W r hb => by rw [look W r hb, if_neg h1, if_pos h2])).mono fun e w' h => makeRes_lat hok hup h
      rw [if_pos h] at hl hu
      exact ⟨(hl rfl).1, (hl rfl).2, hu rfl⟩
    · by_cases h3 : kind = kDiam
      · have hok : makeN kind n = if decide (1 ≤ n ∧ n ≤ 6) then 0 else 1 := by unfold makeN; rw [if_neg h1, if_neg h2, if_pos h3]; simp
        have hup : makeUp kind n = Ordr.ups (diamF n.toNat) (n.toNat + 2) := by unfold makeUp; rw [if_neg h1, if_neg h2]
        rw [hok] at hl hu
        rw [hup] at hl hu
        refine (make_of kind n w 48 (decide (1 ≤ n ∧ n ≤ 6)) (Ordr.ups (diamF n.toNat) (n.toNat + 2)) (fun h => ?_) Try.call48 (fun W => diamond_any n W) (fun W r hb => by rw [look W r hb, if_neg h1, if_neg h2, if_pos h3])).mono fun e w' h => makeRes_lat hok hup h
        rw [if_pos h] at hl hu
        exact ⟨(hl rfl).1, (hl rfl).2, hu rfl⟩
      · have hok : makeN kind n = 6 := by unfold makeN; rw [if_neg h1, if_neg h2, if_neg h3]
        have hup : makeUpR kind n = [] := by unfold makeUpR; rw [hok]; rfl
        rw [hok, hup]
        have hb0 : Below w.heap.size w ((w.alloc (.cells #[.slice none 0 0, .slice none 0 0] 25)).alloc (.map kindEs 3)) := ((Below.refl _ w).alloc (Nat.le_refl _) _).alloc (by simp) _
        have p0 : Blk ((w.alloc (.cells #[.slice none 0 0, .slice none 0 0] 25)).alloc (.map kindEs 3)) w.heap.size 25 #[.slice none 0 0, .slice none 0 0] := (Blk.new _ _ _).alloc _
        have hc0 : ((w.alloc (.cells #[.slice none 0 0, .slice none 0 0] 25)).alloc (.map kindEs 3)).cell? ⟨w.heap.size, 0, none⟩ = some (.slice none 0 0) := by rw [p0.cell]; rfl
        have hc1 : ((w.alloc (.cells #[.slice none 0 0, .slice none 0 0] 25)).alloc (.map kindEs 3)).cell? ⟨w.heap.size, 1, none⟩ = some (.slice none 0 0) := by rw [p0.cell]; rfl
        have hf0 := p0.frozen 0
        have hf1 := p0.frozen 1
        have hk := kinds_any (w.alloc (.cells #[.slice none 0 0, .slice none 0 0] 25))
        have hlk := look ((w.alloc (.cells #[.slice none 0 0, .slice none 0 0] 25)).alloc (.map kindEs 3)) (w.heap.size + 1) (by have := World.alloc_heap_new (w.alloc (.cells #[.slice none 0 0, .slice none 0 0] 25)) (.map kindEs 3); rwa [World.size_alloc] at this)
        rw [if_neg h1, if_neg h2, if_neg h3] at hlk
        have HK := Lib.hid hk
        have HB0 := Lib.hid hb0
        clear hl hu look h1 h2 h3 hok hup p0 hk hb0
        go_enter Try.func8, Try.ntmps8
        go_wp2_with (go_at_call 24; refine HK.out.mono ?_; rintro e w' ⟨rfl, rfl⟩)
        refine bodyPost_ret (v := .tuple #[.agg #[.slice none 0 0, .slice none 0 0], .int .i64 6]) (by simp [results, Try.results8, go_sem, hc0, hc1]) rfl ⟨_, rfl, IsLat.none_ _ _, ?_⟩
        exact HB0.out
end Go.Proofs.Ytaingkjleelbfaa
