/- strings.TrimSuffix and strings.genSplit in this program: the library's contracts, with this program's numbers (by unlay.py); strings.SplitAfter. -/
import Derived.Shelf.Strings.Prefix
import Derived.Shelf.Strings.Split
import Derived.Test.YtdgelfjnppjbgaaGreatDoorGTurP
namespace Go.Proofs.YtdgelfjnppjbgaaGreatDoor
set_option maxRecDepth 100000
open Go.Shelf
def lays102_ren : Go.Shelf.Ren := ⟨fun | 102 => 22 | 209 => 42 | 207 => 66 | n => n, fun | 9 => 9 | 4 => 4 | 3 => 3 | n => n, fun | n => n⟩
theorem lays102 : Go.Proofs.Lays.n102 Tryz.prog lays102_ren := {
  mixed := by kernel_rfl
  f102 := Tryz.func22.trans (congrArg some (by kernel_rfl))
  f207 := Tryz.func66.trans (congrArg some (by kernel_rfl))
  f209 := Tryz.func42.trans (congrArg some (by kernel_rfl))
  t3 := Tryz.underlying3
  a3 := Tryz.isAgg3
  z3 := Tryz.sizeOf3
  v3 := Tryz.zeroValue3
  t4 := Tryz.underlying4
  a4 := Tryz.isAgg4
  z4 := Tryz.sizeOf4
  v4 := Tryz.zeroValue4
  t9 := Tryz.underlying9
  a9 := Tryz.isAgg9
  z9 := Tryz.sizeOf9
  v9 := Tryz.zeroValue9 }
open Go.RowKit Go.Lib in
theorem strings_TrimSuffix (s p : ByteArray) (w : World) (hs : s.size ≤ 9223372036854775807) :
    Calls Tryz.prog 22 #[.string s, .string p] w fun e w' => e = .returned (.string ⟨(Lib.trimSuffix s.data.toList p.data.toList).toArray⟩) ∧ w' = w := Any.strings_TrimSuffix lays102 s p w hs
def lays221_ren : Go.Shelf.Ren := ⟨fun | 221 => 41 | 268 => 64 | 138 => 65 | 143 => 55 | 195 => 92 | 197 => 93 | 218 => 94 | 219 => 77 | 260 => 120 | 217 => 104 | 225 => 105 | 224 => 106 | 267 => 107 | 266 => 133 | 314 => 134 | n => n, fun | 9 => 9 | 3 => 3 | 31 => 47 | 4 => 4 | 0 => 0 | 105 => 151 | 21 => 21 | 5 => 5 | 46 => 164 | 119 => 207 | 139 => 210 | 138 => 209 | 146 => 194 | 51 => 133 | n => n, fun | 1 => 1 | 3 => 3 | 4 => 4 | n => n⟩
theorem lays221 : Go.Proofs.Lays.n221 Tryz.prog lays221_ren := {
  mixed := by kernel_rfl
  f138 := Tryz.func65.trans (congrArg some (by kernel_rfl))
  f143 := Tryz.func55.trans (congrArg some (by kernel_rfl))
  f195 := Tryz.func92.trans (congrArg some (by kernel_rfl))
  f197 := Tryz.func93.trans (congrArg some (by kernel_rfl))
  f217 := Tryz.func104.trans (congrArg some (by kernel_rfl))
  f218 := Tryz.func94.trans (congrArg some (by kernel_rfl))
  f219 := Tryz.func77.trans (congrArg some (by kernel_rfl))
  f221 := Tryz.func41.trans (congrArg some (by kernel_rfl))
  f224 := Tryz.func106.trans (congrArg some (by kernel_rfl))
  f225 := Tryz.func105.trans (congrArg some (by kernel_rfl))
  f260 := Tryz.func120.trans (congrArg some (by kernel_rfl))
  f266 := Tryz.func133.trans (congrArg some (by kernel_rfl))
  f267 := Tryz.func107.trans (congrArg some (by kernel_rfl))
  f268 := Tryz.func64.trans (congrArg some (by kernel_rfl))
  f314 := Tryz.func134.trans (congrArg some (by kernel_rfl))
  t0 := Tryz.underlying0
  a0 := Tryz.isAgg0
  z0 := Tryz.sizeOf0
  v0 := Tryz.zeroValue0
  t3 := Tryz.underlying3
  a3 := Tryz.isAgg3
  z3 := Tryz.sizeOf3
  v3 := Tryz.zeroValue3
  t4 := Tryz.underlying4
  a4 := Tryz.isAgg4
  z4 := Tryz.sizeOf4
  v4 := Tryz.zeroValue4
  t5 := Tryz.underlying5
  a5 := Tryz.isAgg5
  z5 := Tryz.sizeOf5
  v5 := Tryz.zeroValue5
  t9 := Tryz.underlying9
  a9 := Tryz.isAgg9
  z9 := Tryz.sizeOf9
  v9 := Tryz.zeroValue9
  t21 := Tryz.underlying21
  a21 := Tryz.isAgg21
  z21 := Tryz.sizeOf21
  v21 := Tryz.zeroValue21
  t31 := Tryz.underlying47
  a31 := Tryz.isAgg47
  z31 := Tryz.sizeOf47
  v31 := Tryz.zeroValue47
  t46 := Tryz.underlying164
  a46 := Tryz.isAgg164
  z46 := Tryz.sizeOf164
  v46 := Tryz.zeroValue164
  t51 := Tryz.underlying133
  a51 := Tryz.isAgg133
  z51 := Tryz.sizeOf133
  v51 := Tryz.zeroValue133
  t105 := Tryz.underlying151
  a105 := Tryz.isAgg151
  z105 := Tryz.sizeOf151
  v105 := Tryz.zeroValue151
  t119 := Tryz.underlying207
  a119 := Tryz.isAgg207
  z119 := Tryz.sizeOf207
  t138 := Tryz.underlying209
  a138 := Tryz.isAgg209
  z138 := Tryz.sizeOf209
  v138 := Tryz.zeroValue209
  t139 := Tryz.underlying210
  a139 := Tryz.isAgg210
  z139 := Tryz.sizeOf210
  v139 := Tryz.zeroValue210
  t146 := Tryz.underlying194
  a146 := Tryz.isAgg194
  z146 := Tryz.sizeOf194
  v146 := Tryz.zeroValue194
  g1 := by kernel_rfl
  g3 := by kernel_rfl
  g4 := by kernel_rfl }
open Go.RowKit Go.Lib in
theorem strings_genSplit (s sep : ByteArray) (sv : Nat) (n : Int) (N : Nat) (m : Int) (w : World) (hs : s.size < 4294967281) (hm : w.cell? ⟨1, 0, none⟩ = some (.int .i64 m)) (h1 : 1 ≤ sep.size) (hsv : sv ≤ sep.size) (hn0 : n ≠ 0) (hn63 : n ≤ 9223372036854775807) (hN : (N : Int) = min (if n < 0 then (Lib.countB s sep : Int) + 1 else n) ((s.size : Int) + 1)) :
    Calls Tryz.prog 41 #[.string s, .string sep, .int .i64 sv, .int .i64 n] w fun e w' =>
      e = .returned (.slice (some ⟨w.heap.size, 0, none⟩) (Lib.splitB sep sv (N - 1) s).length N) ∧ w' = w.alloc (.cells (Lib.cellsOf (Lib.splitB sep sv (N - 1) s) N) 9) := Any.strings_genSplit lays221 (by kernel_rfl) s sep sv n N m w hs hm h1 hsv hn0 hn63 hN

open Go.RowKit
theorem map_pack {l : List ByteArray} {p : List (List UInt8)} (h : l.map (·.data.toList) = p) : l = p.map Lx.pack := by
  rw [← h, List.map_map]
  have e : (Lx.pack ∘ fun x : ByteArray => x.data.toList) = id := by
    funext x
    exact Lx.pack_data x
  rw [e, List.map_id]
/-- What SplitAfter makes of a table's text, but for its last line end. -/
def Lines (w : World) (xs : List Tb.Row) (e : Ending) (w' : World) : Prop :=
  e = .returned (.slice (some ⟨w.heap.size, 0, none⟩) 13 13) ∧ w' = w.alloc (.cells (((Tb.pieces xs).map Lx.pack).map Value.string).toArray 9)
set_option maxHeartbeats 2000000 in
theorem splitAfter_any {xs : List Tb.Row} (hx : ∀ x ∈ xs, x.ok) (hl : xs.length = 13) (m : Int) (w : World) (hs : (Tb.cutT xs).length ≤ 100000) (hm : w.cell? ⟨1, 0, none⟩ = some (.int .i64 m)) :
    Calls Tryz.prog 21 #[.string (Lx.pack (Tb.cutT xs)), .string { data := #[10] }] w (Lines w xs) := by
  have hne : xs ≠ [] := by rintro rfl; simp at hl
  have h10 : ∀ x ∈ xs, (10 : UInt8) ∉ Tb.rowBody x := fun x h => Tb.body_no10 (hx x h)
  have hpos := Tb.cut_pos hne
  have hcnt : Lib.countB (Lx.pack (Tb.cutT xs)) { data := #[10] } = 12 := by
    show Lib.count (Tb.cutT xs) [10] = 12
    rw [Lib.count_one, Tb.count_cut xs h10, hl]
  have hsz : (Lx.pack (Tb.cutT xs)).size = (Tb.cutT xs).length := Lx.pack_size _
  have hsp : Lib.splitB { data := #[10] } 1 12 (Lx.pack (Tb.cutT xs)) = (Tb.pieces xs).map Lx.pack := map_pack (by
    rw [Lib.splitB_data]
    show Lib.splitK [10] 1 12 (Tb.cutT xs) = _
    have := Tb.split_cut xs hne h10
    rwa [hl] at this)
  have hlen : ((Tb.pieces xs).map Lx.pack).length = 13 := by rw [List.length_map, Tb.pieces_length, hl]
  have hg := strings_genSplit (Lx.pack (Tb.cutT xs)) { data := #[10] } 1 (-1) 13 m w (by rw [hsz]; omega) hm (by decide) (by decide) (by decide) (by decide) (by rw [hcnt, hsz]; rw [if_pos (by decide)]; omega)
  have e1 : (13 : Nat) - 1 = 12 := rfl
  rw [e1, hsp, hlen] at hg
  have hfull : Lib.cellsOf ((Tb.pieces xs).map Lx.pack) 13 = (((Tb.pieces xs).map Lx.pack).map Value.string).toArray := by
    have := Lib.cellsOf_full ((Tb.pieces xs).map Lx.pack)
    rwa [hlen] at this
  rw [hfull] at hg
  have HG := Lib.hid hg
  clear hg hfull hsp hcnt hpos h10 hx hs hm hsz
  generalize Lx.pack (Tb.cutT xs) = t at *
  go_enter Tryz.func21, Tryz.ntmps21
  go_wp2_with (fail)
  refine HG.out.mono ?_
  rintro e w1 ⟨rfl, rfl⟩
  go_wp2
  go_ret
  exact ⟨rfl, by rw [List.map_map]⟩
end Go.Proofs.YtdgelfjnppjbgaaGreatDoor
