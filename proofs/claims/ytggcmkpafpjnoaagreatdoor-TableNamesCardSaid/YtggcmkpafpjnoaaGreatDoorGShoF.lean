/- Walks of takeTwo (by gen_sho.py). -/
import Derived.BigRegion
import Derived.Test.YtggcmkpafpjnoaaGreatDoorGShoB
namespace Go.Proofs.YtggcmkpafpjnoaaGreatDoor
set_option maxRecDepth 100000
open Go.RowKit Go.Shelf

theorem own_addr3 {W : World} {base n : Nat} {v : Value} {e : TypeId} {xs : List Value} (h : W.ownsRow base e 3 v n xs) (hn : 0 < n) : ∃ g cap, v = .slice (some ⟨g, 0, none⟩) n cap ∧ base ≤ g := by
  rcases h.2 with ⟨_, h0⟩ | ⟨g, cap, cur, he, hb, _⟩
  · omega
  · exact ⟨g, cap, he, hb⟩

theorem PP.cutC {R g n cap : Nat} {vl : Value} {cs ls : List Sh.Th} {x y : Sh.Th} {w : World} (h : PP R (.slice (some ⟨g, 0, none⟩) (n + 2) cap) vl (cs ++ [x] ++ [y]) ls w) (hn : cs.length = n) (ht0 : w.ownsRow (R + 1) 164 3 (.slice (some ⟨g, 0, none⟩) n cap) n ((thcells (cs ++ [x] ++ [y])).take (n * 3))) :
    PP R (.slice (some ⟨g, 0, none⟩) n cap) vl cs ls (w.setCell ⟨R, 0, none⟩ (.slice (some ⟨g, 0, none⟩) n cap)) ∧ Below R w (w.setCell ⟨R, 0, none⟩ (.slice (some ⟨g, 0, none⟩) n cap)) := by
  have ht : w.ownsRow (R + 1) 164 3 (.slice (some ⟨g, 0, none⟩) n cap) n (thcells cs) := by
    have := thcells_take cs ([x] ++ [y])
    rw [hn, ← List.append_assoc] at this
    rwa [this] at ht0
  exact ⟨⟨h.blk.set_ 0 _, ownsRow_setCell_below (by rw [hn]; exact ht) (by simp) _, ownsRow_setCell_below h.ol (by simp) _, h.apart⟩, (Below.refl R w).setCell (p := ⟨R, 0, none⟩) (Nat.le_refl R) _⟩

theorem PP.cutL {R g n cap : Nat} {vc : Value} {cs ls : List Sh.Th} {x y : Sh.Th} {w : World} (h : PP R vc (.slice (some ⟨g, 0, none⟩) (n + 2) cap) cs (ls ++ [x] ++ [y]) w) (hn : ls.length = n) (ht0 : w.ownsRow (R + 1) 168 3 (.slice (some ⟨g, 0, none⟩) n cap) n ((thcells (ls ++ [x] ++ [y])).take (n * 3))) :
    PP R vc (.slice (some ⟨g, 0, none⟩) n cap) cs ls (w.setCell ⟨R, 1, none⟩ (.slice (some ⟨g, 0, none⟩) n cap)) ∧ Below R w (w.setCell ⟨R, 1, none⟩ (.slice (some ⟨g, 0, none⟩) n cap)) := by
  have ht : w.ownsRow (R + 1) 168 3 (.slice (some ⟨g, 0, none⟩) n cap) n (thcells ls) := by
    have := thcells_take ls ([x] ++ [y])
    rw [hn, ← List.append_assoc] at this
    rwa [this] at ht0
  exact ⟨⟨h.blk.set_ 1 _, ownsRow_setCell_below h.oc (by simp) _, ownsRow_setCell_below (by rw [hn]; exact ht) (by simp) _, h.apart⟩, (Below.refl R w).setCell (p := ⟨R, 1, none⟩) (Nat.le_refl R) _⟩

def TookC (R : Nat) (vl : Value) (cs ls : List Sh.Th) (x y : Sh.Th) (w : World) (e : Ending) (w' : World) : Prop := e = .returned (.tuple #[thv x, thv y]) ∧ (∃ vc', PP R vc' vl cs ls w') ∧ Below R w w'
set_option maxHeartbeats 2000000 in
theorem takeC_any {R : Nat} {vc vl : Value} {cs ls : List Sh.Th} (x y : Sh.Th) (w : World) (h : PP R vc vl (cs ++ [x] ++ [y]) ls w) (hl : cs.length ≤ 1000000) : Calls Tryz.prog 124 #[.pointer (some ⟨R, 0, none⟩)] w (TookC R vl cs ls x y w) := by
  have hown := h.oc
  have hR := h.lt
  have c0 : w.cell? ⟨R, 0, none⟩ = some vc := by rw [h.blk.cell]; rfl
  have f0 : w.frozen? ⟨R, 0, none⟩ = false := h.blk.frozen _
  have hno : some R ≠ vc.ownBlock := fun he => by have := (hown.lt R he.symm).1; omega
  obtain ⟨n, hn⟩ : ∃ n, cs.length = n := ⟨_, rfl⟩
  have hlen : (cs ++ [x] ++ [y]).length = n + 2 := by simp [hn]
  rw [hlen] at hown
  have H := Lib.hid h
  obtain ⟨g, cap, rfl, hbg⟩ := own_addr3 hown (by omega)
  have q0 : ∀ j u, [Value.string x.s, .int .i64 x.b, .int .i64 x.d][j]? = some u → w.cell? ⟨g, n * 3 + j, none⟩ = some u := fun j u hu => own_cell3 hown (by have := thcells_at cs [y] x j u hu; rwa [hn] at this)
  have q1 : ∀ j u, [Value.string y.s, .int .i64 y.b, .int .i64 y.d][j]? = some u → w.cell? ⟨g, (n + 1) * 3 + j, none⟩ = some u := fun j u hu => own_cell3 hown (by have := thcells_at (cs ++ [x]) [] y j u hu; rw [List.append_nil, List.length_append, hn] at this; exact this)
  have a0 := q0 0 _ rfl
  have a1 := q0 1 _ rfl
  have a2 := q0 2 _ rfl
  have b0 := q1 0 _ rfl
  have b1 := q1 1 _ rfl
  have b2 := q1 2 _ rfl
  rw [Nat.add_zero] at a0 b0
  have ht := own_take3 hown (k := n) (by omega)
  have hcap : n + 2 ≤ cap := (ownT_row hown).2
  have hgl : g < w.heap.size := (hown.lt g rfl).2
  have HT := Lib.hid ht
  have HN := Lib.hid hn
  have hnb : n ≤ 1000000 := by omega
  obtain ⟨s, b, d⟩ := x
  obtain ⟨s2, bb, d2⟩ := y
  unfold TookC thv
  dsimp only at a0 a1 a2 b0 b1 b2 ⊢
  clear h hown q0 q1 ht hlen hn hl
  go_enter Tryz.func124, Tryz.ntmps124
  go_wp2
  go_region
  all_goals go_wp2
  all_goals go_region
  all_goals go_wp2
  all_goals
    go_returns
    obtain ⟨h1, h2⟩ := H.out.cutC HN.out HT.out
    have hB : Below w.heap.size (w.setCell ⟨R, 0, none⟩ (.slice (some ⟨g, 0, none⟩) n cap)) ((((w.setCell ⟨R, 0, none⟩ (.slice (some ⟨g, 0, none⟩) n cap)).alloc (Obj.cells #[.string s, .int .i64 b, .int .i64 d] 164)).alloc (Obj.cells #[.string s2, .int .i64 bb, .int .i64 d2] 164)).drew.drew) := (((Below.refl _ _).alloc (by simp) _).alloc (by simp) _).drew.drew
    exact ⟨rfl, ⟨_, h1.kept (hB.mono (by simp))⟩, h2.trans (hB.mono (by omega))⟩

def TookL (R : Nat) (vc : Value) (cs ls : List Sh.Th) (x y : Sh.Th) (w : World) (e : Ending) (w' : World) : Prop := e = .returned (.tuple #[thv x, thv y]) ∧ (∃ vl', PP R vc vl' cs ls w') ∧ Below R w w'
set_option maxHeartbeats 2000000 in
theorem takeL_any {R : Nat} {vc vl : Value} {cs ls : List Sh.Th} (x y : Sh.Th) (w : World) (h : PP R vc vl cs (ls ++ [x] ++ [y]) w) (hl : ls.length ≤ 1000000) : Calls Tryz.prog 103 #[.pointer (some ⟨R, 1, none⟩)] w (TookL R vc cs ls x y w) := by
  have hown := h.ol
  have hR := h.lt
  have c0 : w.cell? ⟨R, 1, none⟩ = some vl := by rw [h.blk.cell]; rfl
  have f0 : w.frozen? ⟨R, 1, none⟩ = false := h.blk.frozen _
  have hno : some R ≠ vl.ownBlock := fun he => by have := (hown.lt R he.symm).1; omega
  obtain ⟨n, hn⟩ : ∃ n, ls.length = n := ⟨_, rfl⟩
  have hlen : (ls ++ [x] ++ [y]).length = n + 2 := by simp [hn]
  rw [hlen] at hown
  have H := Lib.hid h
  obtain ⟨g, cap, rfl, hbg⟩ := own_addr3 hown (by omega)
  have q0 : ∀ j u, [Value.string x.s, .int .i64 x.b, .int .i64 x.d][j]? = some u → w.cell? ⟨g, n * 3 + j, none⟩ = some u := fun j u hu => own_cell3 hown (by have := thcells_at ls [y] x j u hu; rwa [hn] at this)
  have q1 : ∀ j u, [Value.string y.s, .int .i64 y.b, .int .i64 y.d][j]? = some u → w.cell? ⟨g, (n + 1) * 3 + j, none⟩ = some u := fun j u hu => own_cell3 hown (by have := thcells_at (ls ++ [x]) [] y j u hu; rw [List.append_nil, List.length_append, hn] at this; exact this)
  have a0 := q0 0 _ rfl
  have a1 := q0 1 _ rfl
  have a2 := q0 2 _ rfl
  have b0 := q1 0 _ rfl
  have b1 := q1 1 _ rfl
  have b2 := q1 2 _ rfl
  rw [Nat.add_zero] at a0 b0
  have ht := own_take3 hown (k := n) (by omega)
  have hcap : n + 2 ≤ cap := (ownT_row hown).2
  have hgl : g < w.heap.size := (hown.lt g rfl).2
  have HT := Lib.hid ht
  have HN := Lib.hid hn
  have hnb : n ≤ 1000000 := by omega
  obtain ⟨s, b, d⟩ := x
  obtain ⟨s2, bb, d2⟩ := y
  unfold TookL thv
  dsimp only at a0 a1 a2 b0 b1 b2 ⊢
  clear h hown q0 q1 ht hlen hn hl
  go_enter Tryz.func103, Tryz.ntmps103
  go_wp2
  go_region
  all_goals go_wp2
  all_goals go_region
  all_goals go_wp2
  all_goals
    go_returns
    obtain ⟨h1, h2⟩ := H.out.cutL HN.out HT.out
    have hB : Below w.heap.size (w.setCell ⟨R, 1, none⟩ (.slice (some ⟨g, 0, none⟩) n cap)) ((((w.setCell ⟨R, 1, none⟩ (.slice (some ⟨g, 0, none⟩) n cap)).alloc (Obj.cells #[.string s, .int .i64 b, .int .i64 d] 168)).alloc (Obj.cells #[.string s2, .int .i64 bb, .int .i64 d2] 168)).drew.drew) := (((Below.refl _ _).alloc (by simp) _).alloc (by simp) _).drew.drew
    exact ⟨rfl, ⟨_, h1.kept (hB.mono (by simp))⟩, h2.trans (hB.mono (by omega))⟩
end Go.Proofs.YtggcmkpafpjnoaaGreatDoor
