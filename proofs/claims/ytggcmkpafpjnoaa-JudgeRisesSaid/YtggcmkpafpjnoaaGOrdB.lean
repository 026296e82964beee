/- Walks of package order's named and Make. -/
import Derived.Test.YtggcmkpafpjnoaaGOrdA
import Derived.Test.YtggcmkpafpjnoaaGFew
namespace Go.Proofs.Ytggcmkpafpjnoaa
set_option maxRecDepth 100000
open Go.RowKit Go.Shelf

def lettersB : ByteArray := ⟨#[97, 98, 99, 100, 101, 102, 103, 104]⟩
def letter (i : Nat) : ByteArray := lettersB.extract i (i + 1)
/-- The first names, made up to a. -/
def namedAt (n a : Nat) : List ByteArray := (List.range n).map fun i => if i < a then letter i else ByteArray.empty
def named (n : Nat) : List ByteArray := (List.range n).map letter
theorem named_length (n : Nat) : (named n).length = n := by simp [named]
theorem namedAt_zero (n : Nat) : namedAt n 0 = List.replicate n ByteArray.empty := by
  unfold namedAt
  rw [List.eq_replicate_iff]
  exact ⟨by simp, fun b hb => by obtain ⟨i, _, rfl⟩ := List.mem_map.1 hb; rw [if_neg (by omega)]⟩
theorem namedAt_all (n : Nat) : namedAt n n = named n := by
  unfold namedAt named
  exact List.map_congr_left fun i hi => by rw [if_pos (by simpa using hi)]
theorem namedAt_set {n a : Nat} (h : a < n) : (namedAt n a).set a (letter a) = namedAt n (a + 1) := by
  refine List.ext_getElem? fun i => ?_
  have hl : (namedAt n a).length = n := by simp [namedAt]
  rw [List.getElem?_set, hl]
  by_cases hi : a = i
  · subst hi
    rw [if_pos rfl, if_pos h]
    unfold namedAt
    rw [List.getElem?_map, List.getElem?_range h]
    simp
  · rw [if_neg hi]
    unfold namedAt
    rw [List.getElem?_map, List.getElem?_map]
    by_cases hn : i < n
    · rw [List.getElem?_range hn]
      simp only [Option.map_some, Option.some.injEq]
      by_cases h1 : i < a
      · rw [if_pos h1, if_pos (by omega)]
      · rw [if_neg h1, if_neg (by omega)]
    · simp [hn]
theorem strs_set (l : List ByteArray) (i : Nat) (x : ByteArray) : (strs l).toArray.setIfInBounds i (.string x) = (strs (l.set i x)).toArray := by
  simp [strs, List.map_set]

/-- A lattice, and an error. -/
def LatRes (w : World) (n : Nat) (names : List ByteArray) (up : List Nat) (e : Ending) (w' : World) : Prop :=
  ∃ v, e = .returned (.tuple #[v, .int .i64 (n : Int)]) ∧ IsLat w' w'.heap.size v names up ∧ Below w.heap.size w w'
theorem IsLat.none_ (w : World) (B : Nat) : IsLat w B (.agg #[.slice none 0 0, .slice none 0 0]) [] [] :=
  ⟨⟨none, none, 0, 0, rfl, Row.nil, ⟨Row.nil, fun k x hx => by simp at hx⟩⟩, fun s hs => by simp at hs, ⟨by simp, by simp⟩, fun A n c A' n' c' h => by
    injection h with h; injection h with h; injection h with e1 h; injection h with e2 h
    injection e1 with _ a b; injection e2 with _ c d; omega⟩
theorem letter_size {i : Nat} : (letter i).size ≤ 1 := by
  unfold letter
  rw [ByteArray.size_extract]
  omega
theorem named_short {n : Nat} : ∀ s ∈ named n, s.size ≤ maxLen := by
  intro s hs
  obtain ⟨i, _, rfl⟩ := List.mem_map.1 hs
  have := letter_size (i := i)
  unfold maxLen
  omega
/-- A lattice out of two blocks. -/
theorem IsLat.ofBlks {w : World} {B g g' : Nat} {names : List ByteArray} {up : List Nat} {n n' c c' : Nat} (h : Blk w g 9 (strs names).toArray) (h' : Blk w g' 44 (u32s up).toArray) (hg : g < B) (hg' : g' < B) (hu : ∀ (k x : Nat), up[k]? = some x → x < 4294967296)
    (hs : ∀ s ∈ names, s.size ≤ maxLen) (hn : names.length = n) (hn' : up.length = n') (hf : n ≤ 1000 ∧ n' ≤ 1000) (hc : n ≤ c ∧ n' ≤ c') : IsLat w B (.agg #[.slice (some ⟨g, 0, none⟩) n c, .slice (some ⟨g', 0, none⟩) n' c']) names up := by
  subst hn hn'
  refine ⟨⟨_, _, c, c', rfl, h.row.more hg, ⟨h'.row.more hg', hu⟩⟩, hs, hf, fun A n c A' n' c' h => ?_⟩
  injection h with h; injection h with h; injection h with e1 h; injection h with e2 h
  injection e1 with _ a b; injection e2 with _ c d; omega

def makeN (kind : ByteArray) (n : Int) : Nat :=
  if kind = kChain then if 1 ≤ n ∧ n ≤ 8 then 0 else 1 else if kind = kPower then if 0 ≤ n ∧ n ≤ 3 then 0 else 1 else if kind = kDiam then if 1 ≤ n ∧ n ≤ 6 then 0 else 1 else 6
def makeUp (kind : ByteArray) (n : Int) : List Nat :=
  if kind = kChain then Ordr.ups chainF n.toNat else if kind = kPower then Ordr.ups powerF (2 ^ n.toNat) else Ordr.ups (diamF n.toNat) (n.toNat + 2)
def makeUpR (kind : ByteArray) (n : Int) : List Nat := if makeN kind n = 0 then makeUp kind n else []
theorem make_len {kind : ByteArray} {n : Int} (h : makeN kind n = 0) : 1 ≤ (makeUp kind n).length ∧ (makeUp kind n).length ≤ 8 := by
  unfold makeN at h
  unfold makeUp
  split
  · rename_i h1
    rw [if_pos h1] at h
    by_cases h2 : 1 ≤ n ∧ n ≤ 8
    · rw [Ordr.ups_length]; omega
    · rw [if_neg h2] at h; omega
  · rename_i h1
    rw [if_neg h1] at h
    split
    · rename_i h2
      rw [if_pos h2] at h
      by_cases h3 : 0 ≤ n ∧ n ≤ 3
      · rw [Ordr.ups_length]
        have : 2 ^ n.toNat ≤ 2 ^ 3 := Nat.pow_le_pow_right (by decide) (by omega)
        have := Nat.pow_pos (n := n.toNat) (show 0 < 2 by decide)
        omega
      · rw [if_neg h3] at h; omega
    · rename_i h2
      rw [if_neg h2] at h
      by_cases h3 : kind = kDiam
      · rw [if_pos h3] at h
        by_cases h4 : 1 ≤ n ∧ n ≤ 6
        · rw [Ordr.ups_length]; omega
        · rw [if_neg h4] at h; omega
      · rw [if_neg h3] at h; omega
theorem make_u32 {kind : ByteArray} {n : Int} (h : makeN kind n = 0) : ∀ (k x : Nat), (makeUp kind n)[k]? = some x → x < 4294967296 := by
  have hl := (make_len h).2
  unfold makeUp at hl ⊢
  split
  · rename_i h1; rw [if_pos h1, Ordr.ups_length] at hl; exact Ordr.ups_u32 (by omega)
  · rename_i h1
    rw [if_neg h1] at hl
    split
    · rename_i h2; rw [if_pos h2, Ordr.ups_length] at hl; exact Ordr.ups_u32 (by omega)
    · rename_i h2; rw [if_neg h2, Ordr.ups_length] at hl; exact Ordr.ups_u32 (by omega)
theorem ba_beq (a b : ByteArray) : (a == b) = decide (a = b) := by
  rw [Bool.eq_iff_iff, decide_eq_true_eq]
  exact MapKept.bytes_beq a b
def MakeRes (w : World) (ok : Bool) (l : List Nat) : Ending → World → Prop := LatRes w (if ok then 0 else 1) (if ok then named l.length else []) (if ok then l else [])
theorem MakeRes.no {w w' : World} {l : List Nat} (hb : Below w.heap.size w w') : MakeRes w false l (.returned (.tuple #[.agg #[.slice none 0 0, .slice none 0 0], .int .i64 1])) w' := ⟨_, rfl, IsLat.none_ _ _, hb⟩
theorem MakeRes.yes {w w' : World} {l : List Nat} {v : Value} (h : IsLat w' w'.heap.size v (named l.length) l) (hb : Below w.heap.size w w') : MakeRes w true l (.returned (.tuple #[v, .int .i64 0])) w' := ⟨_, rfl, h, hb⟩
theorem makeRes_lat {w : World} {kind : ByteArray} {n : Int} {ok : Bool} {l : List Nat} (hok : makeN kind n = if ok then 0 else 1) (hl : makeUp kind n = l) {e : Ending} {w' : World} (h : MakeRes w ok l e w') : LatRes w (makeN kind n) (named (makeUpR kind n).length) (makeUpR kind n) e w' := by
  unfold MakeRes at h
  unfold makeUpR
  rw [hok, hl]
  cases ok
  · simpa [named] using h
  · simpa using h

end Go.Proofs.Ytggcmkpafpjnoaa
