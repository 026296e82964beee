/- The reference's Thing of any tree, and its Text. -/
import Derived.Test.YtflagbglbhmheaaDoorShoK
namespace Go.Proofs.YtflagbglbhmheaaDoor
set_option maxRecDepth 100000
open Go.RowKit Go.Shelf

/-- xs stand in l from f on. -/
def AtL (l : List Int) (f : Nat) (xs : List Int) : Prop := ∀ j u, xs[j]? = some u → l[f + j]? = some u
section
variable {l xs ys : List Int} {f : Nat}
theorem AtL.left (h : AtL l f (xs ++ ys)) : AtL l f xs := fun j u hu => h j u (by rw [List.getElem?_append_left (List.getElem?_eq_some_iff.1 hu).1]; exact hu)
theorem AtL.right (h : AtL l f (xs ++ ys)) : AtL l (f + xs.length) ys := fun j u hu => by
  have := h (xs.length + j) u (by rw [List.getElem?_append_right (by omega), Nat.add_sub_cancel_left]; exact hu)
  rwa [← Nat.add_assoc] at this
theorem AtL.le (h : AtL l f xs) (hn : 0 < xs.length) : f + xs.length ≤ l.length := by
  have h1 := h (xs.length - 1) _ (List.getElem?_eq_getElem (by omega))
  have := (List.getElem?_eq_some_iff.1 h1).1
  omega
end
theorem post_last : ∀ t : Sh.Tree, (Sh.post t)[(Sh.post t).length - 1]? = some (Sh.top t)
  | .leaf op => rfl
  | .node op x y => by
    have e : Sh.post (.node op x y) = (Sh.post x ++ Sh.post y) ++ [op] := rfl
    rw [e, List.length_append, List.length_singleton, Nat.add_sub_cancel, List.getElem?_append_right (Nat.le_refl _), Nat.sub_self]
    rfl
theorem deep_le : ∀ t : Sh.Tree, Sh.deep t + 1 ≤ (Sh.post t).length
  | .leaf _ => Nat.le_refl _
  | .node op x y => by
    have h1 := deep_le x
    have h2 := deep_le y
    have h3 : (Sh.lowL op x).toNat ≤ 1 := by cases Sh.lowL op x <;> decide
    have h4 : (Sh.lowR op y).toNat ≤ 1 := by cases Sh.lowR op y <;> decide
    simp only [Sh.deep, Sh.post, List.length_append, List.length_cons, List.length_nil]
    omega
theorem row_get {w : World} {A : Option Addr} {l : List Int} (h : Row w w.heap.size A (ints l)) {W : World} (hb : Below w.heap.size w W) (hne : 0 < l.length) : ∃ ad, A = some ad ∧ ad.block < W.heap.size ∧ ∀ j u, l[j]? = some u → W.cell? (ad.add j) = some (.int .i64 u) := by
  obtain ⟨ad, e, hk, hc⟩ := ((h.below hb).more hb.size) (by intro e; have h1 := ints_length l; rw [e] at h1; exact absurd h1 (by simp only [List.length_nil]; omega))
  exact ⟨ad, e, hk, fun j u hu => hc j _ (by simp [ints, hu])⟩
set_option maxHeartbeats 4000000 in
theorem thing_leaf {A : Option Addr} {l : List Int} (c : Nat) (op : Int) (i : Nat) (w : World)
    (hc : ∀ W, Below w.heap.size w W → ∃ ad, A = some ad ∧ ad.block < W.heap.size ∧ W.cell? (ad.add i) = some (.int .i64 op)) (hn : i < l.length) (hop : 1 ≤ op ∧ op ≤ 13) (hlf : Sh.isLeaf op = true) :
    Calls Tryd.prog 20 #[.slice A l.length c, .int .i64 i] w (Things w (Sh.nameOf op) 0 i) := by
  have htw : ∀ W, Calls Tryd.prog 35 #[.int .i64 op] W fun e w' => e = .returned (.bool false) ∧ w' = W := fun W => by
    have := rTwo5_any op hop W
    rw [hlf] at this
    exact this
  have hwd := fun W => rWord_any op hop W
  obtain ⟨ad, rfl, hb, c0⟩ := hc w (Below.refl _ _)
  have hblk : (ad.add i).block < w.heap.size := by rw [add_block]; exact hb
  have HTW := Lib.hid htw
  have HWD := Lib.hid hwd
  generalize Sh.nameOf op = nm at *
  clear htw hwd hc hlf hop
  go_enter Tryd.func20, Tryd.ntmps20
  go_wp2_with (fail)
  refine (HTW.out _).mono ?_
  rintro e w1 ⟨rfl, rfl⟩
  go_wp2_with (fail)
  refine (HWD.out _).mono ?_
  rintro e w2 ⟨rfl, hb2⟩
  have hZ : Blk w2 w.heap.size 53 #[.string { data := #[] }, .int .i64 0, .int .i64 0] := (Blk.new w _ _).below hb2 (by simp)
  have hB : Below w.heap.size w w2 := ((Below.refl _ w).alloc (Nat.le_refl _) _).trans (hb2.mono (by simp))
  have HB := Lib.hid hB
  have z0 : w2.cell? ⟨w.heap.size, 0, none⟩ = some (.string { data := #[] }) := by rw [hZ.cell]; rfl
  have z1 : w2.cell? ⟨w.heap.size, 1, none⟩ = some (.int .i64 0) := by rw [hZ.cell]; rfl
  have z2 : w2.cell? ⟨w.heap.size, 2, none⟩ = some (.int .i64 0) := by rw [hZ.cell]; rfl
  have z3 := hZ.frozen 0
  have z4 := hZ.frozen 1
  have z5 := hZ.frozen 2
  have hS : Blk (((w2.setCell ⟨w.heap.size, 0, none⟩ (.string nm)).setCell ⟨w.heap.size, 1, none⟩ (.int .i64 0)).setCell ⟨w.heap.size, 2, none⟩ (.int .i64 i)) w.heap.size 53 #[.string nm, .int .i64 0, .int .i64 i] := ((hZ.set_ 0 _).set_ 1 _).set_ 2 _
  have HS := Lib.hid hS
  clear hb2 hZ hB hS
  go_wp2
  have r0 : (((w2.setCell ⟨w.heap.size, 0, none⟩ (.string nm)).setCell ⟨w.heap.size, 1, none⟩ (.int .i64 0)).setCell ⟨w.heap.size, 2, none⟩ (.int .i64 i)).cell? ⟨w.heap.size, 0, none⟩ = some (.string nm) := by rw [HS.out.cell]; rfl
  have r1 : (((w2.setCell ⟨w.heap.size, 0, none⟩ (.string nm)).setCell ⟨w.heap.size, 1, none⟩ (.int .i64 0)).setCell ⟨w.heap.size, 2, none⟩ (.int .i64 i)).cell? ⟨w.heap.size, 1, none⟩ = some (.int .i64 0) := by rw [HS.out.cell]; rfl
  have r2 : (((w2.setCell ⟨w.heap.size, 0, none⟩ (.string nm)).setCell ⟨w.heap.size, 1, none⟩ (.int .i64 0)).setCell ⟨w.heap.size, 2, none⟩ (.int .i64 i)).cell? ⟨w.heap.size, 2, none⟩ = some (.int .i64 i) := by rw [HS.out.cell]; rfl
  exact bodyPost_ret (v := .agg #[.string nm, .int .i64 0, .int .i64 i]) (by simp [results, Tryd.results20, go_sem, r0, r1, r2]) rfl ⟨rfl, ((HB.out.setCell (p := ⟨w.heap.size, 0, none⟩) (Nat.le_refl _) _).setCell (p := ⟨w.heap.size, 1, none⟩) (Nat.le_refl _) _).setCell (p := ⟨w.heap.size, 2, none⟩) (Nat.le_refl _) _⟩
theorem within_L {op : Int} {x : Sh.Tree} {b : Bool} (h5 : op ≠ 5) (hx : Sh.Ok b x) (f : Nat) (hs : (Sh.txt x).length ≤ 1000000) (hd : Sh.deep x ≤ 1000000) (W : World) :
    Calls Tryd.prog 37 #[.agg #[.string (Lx.pack (Sh.txt x)), .int .i64 (Sh.deep x), .int .i64 f], .int .i64 (Sh.top x), .int .i64 op, .int .i64 (Sh.binds op : Nat)] W (Things W (Lx.pack (Sh.wrapT (Sh.lowL op x) (Sh.square op) (Sh.txt x))) (Sh.deep x + (Sh.lowL op x).toNat) f) := by
  have hr := Sh.ok_range hx
  unfold Sh.lowL
  by_cases h : Sh.bt x < Sh.binds op
  · rw [decide_eq_true ⟨h5, h⟩, Sh.wrap_yes]
    exact rWithin_yes _ _ f _ op _ hr h (by rw [Lx.pack_size]; omega) (by omega) W
  · rw [decide_eq_false (fun h1 => h h1.2)]
    exact rWithin_no _ _ f _ op _ hr (by unfold Sh.bt at h; omega) W
theorem within_R {op : Int} {x : Sh.Tree} {b : Bool} (h5 : op ≠ 5) (hx : Sh.Ok b x) (f : Nat) (hs : (Sh.txt x).length ≤ 1000000) (hd : Sh.deep x ≤ 1000000) (W : World) :
    Calls Tryd.prog 37 #[.agg #[.string (Lx.pack (Sh.txt x)), .int .i64 (Sh.deep x), .int .i64 f], .int .i64 (Sh.top x), .int .i64 op, .int .i64 ((Sh.binds op : Nat) + 1)] W (Things W (Lx.pack (Sh.wrapT (Sh.lowR op x) (Sh.square op) (Sh.txt x))) (Sh.deep x + (Sh.lowR op x).toNat) f) := by
  have hr := Sh.ok_range hx
  unfold Sh.lowR
  by_cases h : Sh.bt x < Sh.binds op + 1
  · rw [decide_eq_true ⟨h5, h⟩, Sh.wrap_yes]
    exact rWithin_yes _ _ f _ op (Sh.binds op + 1) hr h (by rw [Lx.pack_size]; omega) (by omega) W
  · rw [decide_eq_false (fun h1 => h h1.2)]
    exact rWithin_no _ _ f _ op (Sh.binds op + 1) hr (by unfold Sh.bt at h; omega) W
theorem txt_sep (n : Int) (x y : Sh.Tree) : Lx.pack (Sh.txt (.node n x y)) = Lx.pack (Sh.wrapT (Sh.lowL n x) (Sh.square n) (Sh.txt x)) ++ { data := #[32] } ++ Sh.nameOf n ++ { data := #[32] } ++ Lx.pack (Sh.wrapT (Sh.lowR n y) (Sh.square n) (Sh.txt y)) := by
  rw [Sh.txt_node]
  apply ByteArray.ext
  simp [Array.append_assoc]
theorem thing_any {A : Option Addr} {l : List Int} (c : Nat) (hl : l.length ≤ 100000) : ∀ (t : Sh.Tree) (b : Bool) (f : Nat) (w : World), Sh.Ok b t → AtL l f (Sh.post t) → Row w w.heap.size A (ints l) →
    Calls Tryd.prog 20 #[.slice A l.length c, .int .i64 ((f + (Sh.post t).length - 1 : Nat) : Int)] w (Things w (Lx.pack (Sh.txt t)) (Sh.deep t) f)
  | .leaf op, b, f, w, ht, ha, h => by
    have hle := ha.le (Nat.zero_lt_one)
    have e : f + (Sh.post (.leaf op)).length - 1 = f := by show f + 1 - 1 = f; omega
    rw [e, show Sh.txt (.leaf op) = (Sh.nameOf op).data.toList from rfl, Sh.pack_name]
    have h0 : l[f]? = some op := ha 0 op rfl
    have hlen : f < l.length := (List.getElem?_eq_some_iff.1 h0).1
    exact thing_leaf c op f w (fun W hb => by
      obtain ⟨ad, e1, hk, hc⟩ := row_get h hb (by omega)
      exact ⟨ad, e1, hk, hc f op h0⟩) hlen (Sh.ok_range ht) (Sh.ok_leaf ht)
  | .node op x y, b, f, w, ht, ha, h => by
    obtain ⟨b', hx, hy⟩ := Sh.ok_sub ht
    have e : Sh.post (.node op x y) = (Sh.post x ++ Sh.post y) ++ [op] := rfl
    rw [e] at ha ⊢
    have hax : AtL l f (Sh.post x) := ha.left.left
    have hay : AtL l (f + (Sh.post x).length) (Sh.post y) := ha.left.right
    have px := Sh.post_pos x
    have py := Sh.post_pos y
    have hle := ha.le (by simp; omega)
    have hlo := ha.right 0 op rfl
    have hlx := hax _ _ (post_last x)
    have hly := hay _ _ (post_last y)
    have lx := Sh.txt_len x b' hx
    have ly := Sh.txt_len y b' hy
    have dx := deep_le x
    have dy := deep_le y
    simp only [List.length_append, List.length_cons, List.length_nil] at hle hlo ⊢
    have hcy : ∀ W, Below w.heap.size w W → Calls Tryd.prog 20 #[.slice A l.length c, .int .i64 ((f + (Sh.post x).length + (Sh.post y).length - 1 : Nat) : Int)] W (Things W (Lx.pack (Sh.txt y)) (Sh.deep y) (f + (Sh.post x).length)) :=
      fun W hb => thing_any c hl y b' _ W hy hay ((h.below hb).more hb.size)
    have hcx : ∀ W, Below w.heap.size w W → Calls Tryd.prog 20 #[.slice A l.length c, .int .i64 ((f + (Sh.post x).length - 1 : Nat) : Int)] W (Things W (Lx.pack (Sh.txt x)) (Sh.deep x) f) :=
      fun W hb => thing_any c hl x b' _ W hx hax ((h.below hb).more hb.size)
    have hcc : ∀ W, Below w.heap.size w W → ∃ ad, A = some ad ∧ ad.block < W.heap.size ∧ W.cell? (ad.add (f + ((Sh.post x).length + (Sh.post y).length))) = some (.int .i64 op) ∧ W.cell? (ad.add (f + (Sh.post x).length + (Sh.post y).length - 1)) = some (.int .i64 (Sh.top y)) ∧ W.cell? (ad.add (f + (Sh.post x).length - 1)) = some (.int .i64 (Sh.top x)) := fun W hb => by
      obtain ⟨ad, e1, hk, hc⟩ := row_get h hb (by omega)
      refine ⟨ad, e1, hk, hc _ _ (by simpa using hlo), hc _ _ ?_, hc _ _ ?_⟩
      · rw [show f + (Sh.post x).length + (Sh.post y).length - 1 = f + (Sh.post x).length + ((Sh.post y).length - 1) by omega]; exact hly
      · rw [show f + (Sh.post x).length - 1 = f + ((Sh.post x).length - 1) by omega]; exact hlx
    rw [show f + ((Sh.post x).length + (Sh.post y).length + (0 + 1)) - 1 = f + ((Sh.post x).length + (Sh.post y).length) by omega, txt_sep]
    have hwx := Sh.wrapT_len (Sh.lowL op x) (Sh.square op) (Sh.txt x)
    have hwy := Sh.wrapT_len (Sh.lowR op y) (Sh.square op) (Sh.txt y)
    by_cases h5 : op = 5
    · subst h5
      exact thing_five c (Sh.top x) (Sh.top y) _ _ _ _ f (Lx.pack (Sh.txt y)) (Lx.pack (Sh.txt x)) (Sh.deep y) (Sh.deep x) w hl hcc (by omega) (by omega) (by omega) (by omega) hcy hcx (by rw [Lx.pack_size]; omega) (by rw [Lx.pack_size]; omega) (by omega) (by omega)
    · have tL : (Sh.lowL op x).toNat ≤ 1 := by cases Sh.lowL op x <;> decide
      have tR : (Sh.lowR op y).toNat ≤ 1 := by cases Sh.lowR op y <;> decide
      exact thing_node c op (Sh.top x) (Sh.top y) _ _ _ _ f _ _ _ _ _ _ _ _ w hl hcc (by omega) (by omega) (by omega) (by omega) (Sh.ok_range ht) h5 (Sh.ok_noleaf ht) hcy hcx
        (fun W => within_L h5 hx f (by omega) (by omega) W) (fun W => within_R h5 hy _ (by omega) (by omega) W) (by rw [Lx.pack_size]; omega) (by rw [Lx.pack_size]; omega) (by omega) (by omega)
/-- The reference's Text. -/
theorem rText_any {A : Option Addr} (t : Sh.Tree) (b : Bool) (ht : Sh.Ok b t) (c : Nat) (w : World) (h : Row w w.heap.size A (ints (Sh.post t))) (hl : (Sh.post t).length ≤ 40) : Calls Tryd.prog 9 #[.slice A (Sh.post t).length c] w (Wrote w (Sh.tells (Sh.thOf t))) := by
  have hp := Sh.post_pos t
  have hth := thing_any c (by omega) t b 0 w ht (l := Sh.post t) (fun j u hu => by rw [Nat.zero_add]; exact hu) h
  obtain ⟨n, hn⟩ : ∃ n, (Sh.post t).length = n + 1 := ⟨(Sh.post t).length - 1, by omega⟩
  rw [Nat.zero_add, hn, Nat.add_sub_cancel] at hth
  rw [hn]
  unfold Sh.tells Wrote Sh.thOf
  dsimp only
  generalize Lx.pack (Sh.txt t) = s at *
  generalize Sh.deep t = d at *
  have HT := Lib.hid hth
  clear hth h
  by_cases hd : 12 < d
  · rw [if_pos hd]
    go_enter Tryd.func9, Tryd.ntmps9
    go_wp2_with (fail)
    refine HT.out.mono ?_
    rintro e w1 ⟨rfl, hb1⟩
    have HB := Lib.hid hb1
    clear hb1
    go_wp2
    go_ret2
    exact ⟨rfl, HB.out.alloc HB.out.size _⟩
  · rw [if_neg hd]
    go_enter Tryd.func9, Tryd.ntmps9
    go_wp2_with (fail)
    refine HT.out.mono ?_
    rintro e w1 ⟨rfl, hb1⟩
    have HB := Lib.hid hb1
    clear hb1
    go_wp2
    go_ret2
    exact ⟨rfl, HB.out.alloc HB.out.size _⟩
end Go.Proofs.YtflagbglbhmheaaDoor
