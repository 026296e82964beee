import Derived.Deep.LoopGhost
import Derived.WalkSpells
import Derived.Deep.RegionHeld3
import Derived.Lib.QuietBelow
import Derived.Test.YtjobifclmcdjcaaGreatDoorQZOrdC
import Derived.Test.YtjobifclmcdjcaaGreatDoorQZFree
set_option maxHeartbeats 64000000
set_option maxRecDepth 100000
namespace Go.Proofs.YtjobifclmcdjcaaGreatDoor
open Go.RowKit Go.Shelf
end Go.Proofs.YtjobifclmcdjcaaGreatDoor
namespace Go.Proofs.YtjobifclmcdjcaaGreatDoor
open Go.RowKit Go.Shelf Go.Sort
def Stable(F:World→Prop):Prop:=∀ W W',F W→Below W.heap.size W W'→F W'
theorem q8s{W:World}{B:Nat}{v:Value}{names:List ByteArray}{up:List Nat}(h:IsLat W B v names up):∃ A n c A' n' c',v=.agg #[.slice A n c,.slice A' n' c']:=by
 obtain⟨A,A',c,c',rfl,_⟩:=h.form;exact⟨_,_,_,_,_,_,rfl⟩
theorem Keeps.trans_{B0 b:Nat}{W W2 W3:World}(h:Keeps B0 b W W2)(k:Keeps B0 b W2 W3):Keeps B0 b W W3 :=
 ⟨Nat.le_trans h.1 k.1,fun p hp ho=>(k.2 p (Nat.lt_of_lt_of_le hp h.1) ho).trans (h.2 p hp ho)⟩
theorem Keeps.below{B0 b:Nat}{W W2:World}(h:Below W.heap.size W W2):Keeps B0 b W W2:=⟨h.size,fun _ hp _=>h.cell hp⟩
theorem Keeps.set_{B0 b:Nat}{W:World}{p:Addr}{u:Value}(h1:B0≤p.block)(h2:p.block<b):Keeps B0 b W (W.setCell p u) :=
 ⟨by simp[World.setCell],fun _ _ ho=>World.cell?_setCell_other _ _ _ _ (fun e=>by subst e;omega)⟩
theorem Keeps.mono_{B0 b b':Nat}{W W2:World}(h:Keeps B0 b W W2)(hb:b≤b'):Keeps B0 b' W W2:=⟨h.1,fun p hp ho=>h.2 p hp (by omega)⟩
section
variable {w:World} {x0 x1 y0 y1:Value} {done:Nat→Bool} {r:Nat→Value} {W:World}
theorem q14{k j:Nat}(h:j≠k):Free.upd done k j=done j:=by unfold Free.upd;rw[if_neg h]
end
structure One (w:World) (x0 x1:Value) (n1:List ByteArray) (u1:List Nat) (W:World):Prop where
 a:Blk W w.heap.size 25 #[x0,x1]
 la:IsLat W W.heap.size (.agg #[x0,x1]) n1 u1
 below:Below w.heap.size w W
theorem z41(w:World)(x0 x1:Value)(n1:List ByteArray)(u1:List Nat):Stable (One w x0 x1 n1 u1):=fun _ _ h hb =>
 ⟨h.a.below hb h.a.lt,(h.la.below hb).more hb.size,h.below.trans (hb.mono h.below.size)⟩
end Go.Proofs.YtjobifclmcdjcaaGreatDoor
