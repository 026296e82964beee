/- The least edges of a lattice make it again; one of them less does not. -/
import Derived.Test.YtaingkjleelbfaaOrdI
import Derived.Test.YtaingkjleelbfaaEnds
namespace Go.Proofs.Ytaingkjleelbfaa
open Go.RowKit

namespace Ordr
open Lat
variable {up : List Nat}
/-- The least edges, by places. -/
def ne (up : List Nat) : List (Nat × Nat) := (Lat.pairs up.length).filter (isEdge up)
theorem ne_mem {p : Nat × Nat} : p ∈ ne up ↔ (p.1 < up.length ∧ p.2 < up.length) ∧ isEdge up p = true := by
  unfold ne
  rw [List.mem_filter, Lat.mem_pairs]
theorem edges_ne (up : List Nat) : edges up = (ne up).map toI := rfl
theorem isEdge_spec {a b : Nat} (h : isEdge up (a, b) = true) : a ≠ b ∧ fl up a b = true ∧ betw up a b = false := by
  unfold isEdge at h
  simp only [Bool.and_eq_true, decide_eq_true_eq, Bool.not_eq_true'] at h
  exact ⟨h.1.1, h.1.2, h.2⟩
theorem fl_of_reach (ho : isOrder up = true) {ps : List (Nat × Nat)} (hs : ∀ p ∈ ps, p ∈ ne up) {a b : Nat} (h : Reach ps a b) (ha : a < up.length) : fl up a b = true := by
  induction h with
  | refl => exact ord_refl ho ha
  | step he _ ih =>
    obtain ⟨⟨_, h2⟩, h3⟩ := ne_mem.1 (hs _ he)
    exact ord_trans ho ha h2 (isEdge_spec h3).2.1 (ih h2)
def itv (up : List Nat) (a b : Nat) : Nat := ((List.range up.length).filter fun c => fl up a c && fl up c b).length
theorem reach_of_fl (ho : isOrder up = true) : ∀ (m a b : Nat), a < up.length → b < up.length → fl up a b = true → itv up a b ≤ m → Reach (ne up) a b
  | 0, a, b, ha, hb, h, hm => by
    exfalso
    have hmem : a ∈ (List.range up.length).filter fun c => fl up a c && fl up c b := by
      rw [List.mem_filter]
      exact ⟨by simpa using ha, by rw [ord_refl ho ha, h]; rfl⟩
    have := List.length_pos_of_mem hmem
    unfold itv at hm
    omega
  | m + 1, a, b, ha, hb, h, hm => by
    by_cases hab : a = b
    · subst hab; exact .refl _
    · cases hbt : betw up a b with
      | false => exact Reach.one (ne_mem.2 ⟨⟨ha, hb⟩, by unfold isEdge; simp [hab, h, hbt]⟩)
      | true =>
        unfold betw at hbt
        rw [List.any_eq_true] at hbt
        obtain ⟨c, hc, hbc⟩ := hbt
        have hc' : c < up.length := by simpa using hc
        unfold bt at hbc
        simp only [Bool.and_eq_true, decide_eq_true_eq] at hbc
        obtain ⟨⟨⟨hca, hcb⟩, h1⟩, h2⟩ := hbc
        have i1 : itv up a c < itv up a b := by
          refine Lat.filter_lt (y := b) (fun x hx hxx => ?_) (by simpa using hb) ?_ (by rw [h, ord_refl ho hb]; rfl)
          · simp only [Bool.and_eq_true] at hxx ⊢
            exact ⟨hxx.1, ord_trans ho (by simpa using hx) hc' hxx.2 h2⟩
          · cases e : fl up b c with
            | false => simp
            | true => exact absurd (ord_anti ho hb hc' e h2) (fun e => hcb e.symm)
        have i2 : itv up c b < itv up a b := by
          refine Lat.filter_lt (y := a) (fun x hx hxx => ?_) (by simpa using ha) ?_ (by rw [h, ord_refl ho ha]; rfl)
          · simp only [Bool.and_eq_true] at hxx ⊢
            exact ⟨ord_trans ho ha hc' h1 hxx.1, hxx.2⟩
          · cases e : fl up c a with
            | false => simp
            | true => exact absurd (ord_anti ho ha hc' h1 e) (fun e => hca e.symm)
        exact (reach_of_fl ho m a c ha hc' h1 (by omega)).trans (reach_of_fl ho m c b hc' hb h2 (by omega))
theorem natE_edges (up : List Nat) : natE (edges up) = ne up := by
  rw [edges_ne]
  unfold natE
  rw [List.map_map]
  conv => rhs; rw [← List.map_id (ne up)]
  exact List.map_congr_left fun p _ => rfl
/-- The least edges make it again. -/
theorem made_ne (h : Latt up) : madeL up.length (ne up) = up := by
  refine rows_ext ups_length rfl (ups_rows _ _) (fun a => h.rows a) fun a b ha hb => ?_
  unfold madeL
  rw [ups_fl ha, Bool.eq_iff_iff, Bool.and_eq_true, decide_eq_true_eq, reachF_true]
  exact ⟨fun hr => fl_of_reach h.ord (fun _ hp => hp) hr.2 ha, fun hf => ⟨hb, reach_of_fl h.ord _ a b ha hb hf (Nat.le_refl _)⟩⟩
theorem ne_nodup (up : List Nat) : (ne up).Pairwise (fun a b => a ≠ b) := by
  unfold ne Lat.pairs Lat.upto
  refine List.Pairwise.filter _ ?_
  refine List.pairwise_map.2 ?_
  refine List.Pairwise.imp_of_mem (R := fun a b => a < b) ?_ List.pairwise_lt_range
  intro a b ha hb hne he
  injection he with e1 e2
  have h1 := Nat.div_add_mod a up.length
  have h2 := Nat.div_add_mod b up.length
  rw [e1, e2] at h1
  omega
theorem ne_inj {up : List Nat} {i k : Nat} (hi : i < (ne up).length) (hk : k < (ne up).length) (h : (ne up)[i] = (ne up)[k]) : i = k := by
  have hp := List.pairwise_iff_getElem.1 (ne_nodup up)
  rcases Nat.lt_trichotomy i k with hlt | heq | hgt
  · exact absurd h (hp i k hi hk hlt)
  · exact heq
  · exact absurd h.symm (hp k i hk hi hgt)
/-- One of them less does not. -/
theorem less_ne (h : Latt up) {k : Nat} (hk : k < (ne up).length) : madeL up.length ((ne up).eraseIdx k) ≠ up := by
  intro he
  have hp : ((ne up)[k] : Nat × Nat) ∈ ne up := List.getElem_mem hk
  obtain ⟨⟨ha, hb⟩, hie⟩ := ne_mem.1 hp
  obtain ⟨hab, hf, hbt⟩ := isEdge_spec (a := ((ne up)[k]).1) (b := ((ne up)[k]).2) hie
  have hsub : ∀ p ∈ (ne up).eraseIdx k, p ∈ ne up := fun p hp => List.mem_of_mem_eraseIdx hp
  have hnot : (ne up)[k] ∉ (ne up).eraseIdx k := by
    intro hm
    rw [List.mem_eraseIdx_iff_getElem] at hm
    obtain ⟨i, hi, hne, hval⟩ := hm
    exact hne (ne_inj hi hk hval)
  have hr : Reach ((ne up).eraseIdx k) ((ne up)[k]).1 ((ne up)[k]).2 := by
    have h1 : fl (madeL up.length ((ne up).eraseIdx k)) ((ne up)[k]).1 ((ne up)[k]).2 = true := by rw [he]; exact hf
    unfold madeL at h1
    rw [ups_fl ha, Bool.and_eq_true, reachF_true] at h1
    exact h1.2
  generalize hq : (ne up)[k] = q at *
  obtain ⟨x, y⟩ := q
  cases hr with
  | refl => exact hab rfl
  | step hs ht =>
    rename_i c
    obtain ⟨⟨_, hc⟩, hce⟩ := ne_mem.1 (hsub _ hs)
    obtain ⟨hxc, hfc, _⟩ := isEdge_spec hce
    have hcy : fl up c y = true := fl_of_reach h.ord hsub ht hc
    have hne : c ≠ y := by rintro rfl; exact hnot hs
    have hcx : c ≠ x := fun e => hxc e.symm
    have hbb : betw up x y = true := betw_true hc (by unfold bt; simp [hfc, hcy, hne, hcx])
    have hbt' : betw up x y = false := hbt
    rw [hbt'] at hbb
    cases hbb
/-- A lattice without edges has one label. -/
theorem no_edges (h : Latt up) (he : ne up = []) : up.length = 1 := by
  have h1 := h.one
  by_cases hl : up.length = 1
  · exact hl
  · exfalso
    obtain ⟨c, _, hc, h0c, h1c, _⟩ := h.join_spec (a := 0) (b := 1) (by omega) (by omega)
    have key : ∀ x, x < up.length → fl up x c = true → x = c := by
      intro x hx hf
      have := reach_of_fl h.ord _ x c hx hc hf (Nat.le_refl _)
      rw [he] at this
      cases this with
      | refl => rfl
      | step hs _ => cases hs
    have e0 := key 0 (by omega) h0c
    have e1 := key 1 (by omega) h1c
    omega
theorem ne_length (h : up.length ≤ 8) : (ne up).length ≤ 64 := by
  unfold ne
  have h1 := List.length_filter_le (isEdge up) (Lat.pairs up.length)
  have h2 : (Lat.pairs up.length).length = up.length * up.length := by simp [Lat.pairs, Lat.upto]
  have h3 : up.length * up.length ≤ 8 * 8 := Nat.mul_le_mul h h
  omega
end Ordr
theorem ofN_edges {names : List ByteArray} {up : List Nat} (h : checkN names up = 0) : ofN names (Ordr.edges up) = 0 ∧ ofNames names (Ordr.edges up) = names ∧ ofUp names (Ordr.edges up) = up := by
  have hl := latt_of h
  have hn := (mayB_len (checkN_zero h).1).2.2
  have hE : eN names.length (Ordr.edges up) = 0 := by
    unfold eN
    rw [if_pos ⟨by have := hl.one; omega, by have := hl.few; omega⟩, if_pos (by rw [Ordr.edges_ne, List.length_map]; exact Ordr.ne_length hl.few), if_pos]
    rw [List.all_eq_true]
    intro e he
    rw [Ordr.edges_ne] at he
    obtain ⟨p, hp, rfl⟩ := List.mem_map.1 he
    obtain ⟨⟨h1, h2⟩, _⟩ := Ordr.ne_mem.1 hp
    unfold edgeOk isPl Ordr.toI
    simp only [Bool.and_eq_true, decide_eq_true_eq]
    omega
  have hm : Ordr.madeL names.length (natE (Ordr.edges up)) = up := by rw [Ordr.natE_edges, hn, Ordr.made_ne hl]
  have h0 : ofN names (Ordr.edges up) = 0 := by unfold ofN; rw [if_pos hE, hm]; exact h
  refine ⟨h0, ?_, ?_⟩
  · unfold ofNames; rw [if_pos h0]
  · unfold ofUp; rw [if_pos h0, hm]
theorem natE_erase (es : List (Int × Int)) (k : Nat) : natE (es.eraseIdx k) = (natE es).eraseIdx k := by
  induction es generalizing k with
  | nil => rfl
  | cons e r ih =>
    cases k with
    | zero => rfl
    | succ k =>
      have := ih k
      unfold natE at this ⊢
      simp only [List.eraseIdx_cons_succ, List.map_cons, this]
theorem ofN_less {names : List ByteArray} {up : List Nat} (h : checkN names up = 0) {k : Nat} (hk : k < (Ordr.edges up).length) : ofN names ((Ordr.edges up).eraseIdx k) = 0 → ofUp names ((Ordr.edges up).eraseIdx k) ≠ up := by
  intro h0
  unfold ofUp
  rw [if_pos h0]
  have hl := latt_of h
  have hn := (mayB_len (checkN_zero h).1).2.2
  have : natE ((Ordr.edges up).eraseIdx k) = (Ordr.ne up).eraseIdx k := by
    rw [natE_erase, Ordr.natE_edges]
  rw [this, hn]
  exact Ordr.less_ne hl (by rw [Ordr.edges_ne, List.length_map] at hk; exact hk)
end Go.Proofs.Ytaingkjleelbfaa
