import Derived.Test.YtefimimcfkdoiaaGreatDoorGCodA
import Derived.Test.YtefimimcfkdoiaaGreatDoorGOrd
import Derived.Test.YtefimimcfkdoiaaGreatDoorGTabE
import Derived.Test.YtefimimcfkdoiaaGreatDoorGOrdC
set_option maxHeartbeats 64000000
set_option maxRecDepth 100000
namespace Go.Proofs.YtefimimcfkdoiaaGreatDoor
open Go.RowKit Go.Shelf
attribute [local go_sem] Oper.semAt_some
section
variable {R c1 c2 ct p q:Nat} {N U A:Option Addr} {names:List ByteArray} {up:List Nat} {l:List Lx.Tk} {w w':World}
end
end Go.Proofs.YtefimimcfkdoiaaGreatDoor
namespace Go.Proofs.YtefimimcfkdoiaaGreatDoor
open Go.RowKit Go.Shelf Go.Sort
attribute [local go_sem] Oper.semAt_some
structure RP where
 i:Nat
 n:Int
 x:Cd.In
 e:Nat
def rMark (l:List Lx.Tk) (t:ByteArray) (p:RP):RP:=if p.e=0 then (if Cd.isM l t p.i=true then { p with i:=p.i+1 } else { p with e:=4 }) else p
def rInt (l:List Lx.Tk) (p:RP):RP:=if p.e=0 then (if (Cd.intP l p.i).2.2=0 then { p with i:=(Cd.intP l p.i).2.1,n:=(Cd.intP l p.i).1 } else { p with i:=(Cd.intP l p.i).2.1,e:=4 }) else p
section
variable {R c1 c2 ct p q:Nat} {N U A:Option Addr} {names:List ByteArray} {up:List Nat} {l:List Lx.Tk} {w w':World}
end
theorem own_of {W W':World} {base sz n:Nat} {e:TypeId} {rv:Value} {xs:List Value} (h:W.ownsRow base e sz rv n xs) (hk:∀ g,rv.ownBlock=some g→W'.heap[g]? = W.heap[g]?):W'.ownsRow base e sz rv n xs:=by
 refine ⟨h.1,h.2.imp id fun ⟨g,cap,cur,he,hb',hh,r⟩=>⟨g,cap,cur,he,hb',(hk g (by rw [he]; rfl)).trans hh,r⟩⟩
section
variable {R Q M c1 c2 ct p q:Nat} {N U A:Option Addr} {names:List ByteArray} {up:List Nat} {l:List Lx.Tk} {rv:Value} {out:List Cd.In} {w w' W:World}
end
theorem Tryz.infoInstr:(Tryz.prog.info? 57).map (fun i=>(i.zero,i.size,i.bytes))=some (some (.agg #[.int .i64 0,.int .i64 0,.int .i64 0]),3,24):=by kernel_rfl
section
variable {R Q M c1 c2 ct p q:Nat} {N U A:Option Addr} {names:List ByteArray} {up:List Nat} {l:List Lx.Tk} {rv:Value} {out:List Cd.In} {w w' W:World}
end
end Go.Proofs.YtefimimcfkdoiaaGreatDoor
namespace Go.Proofs.YtefimimcfkdoiaaGreatDoor
open Go.RowKit Go.Shelf
def fcells {α:Type} (f:α→List Value) (l:List α):List Value:=l.flatMap f
theorem fcells_length {α:Type} {f:α→List Value} {n:Nat} (hf:∀ x,(f x).length=n) (l:List α):(fcells f l).length=l.length * n:=by
 induction l with
 | nil=>simp [fcells]
 | cons e r ih =>
  have:fcells f (e :: r)=f e++fcells f r:=rfl
  rw [this,List.length_append,hf,ih,List.length_cons,Nat.succ_mul]
  omega
theorem fcells_snoc {α:Type} (f:α→List Value) (l:List α) (t:α):fcells f (l++[t])=fcells f l++f t:=by simp [fcells]
theorem fcells_at {α:Type} {f:α→List Value} {n:Nat} (hf:∀ x,(f x).length=n):∀ (l:List α) (k:Nat) (t:α),l[k]? = some t→∀ j,j < n→(fcells f l)[k * n+j]? = (f t)[j]?
 | [],k,t,h,_,_=>by simp at h
 | e :: r,0,t,h,j,hj=>by
  simp only [List.getElem?_cons_zero,Option.some.injEq] at h
  subst h
  rw [show fcells f (e :: r)=f e++fcells f r from rfl,Nat.zero_mul,Nat.zero_add,List.getElem?_append_left (by rw [hf]; exact hj)]
 | e :: r,k+1,t,h,j,hj=>by
  have ih:=fcells_at hf r k t (by simpa using h) j hj
  rw [show fcells f (e :: r)=f e++fcells f r from rfl,List.getElem?_append_right (by rw [hf,Nat.succ_mul]; omega),hf,← ih]
  congr 1
  rw [Nat.succ_mul]
  omega
def ivs (x:Cd.In):List Value:=[.int .i64 x.op,.int .i64 x.n,.int .i64 x.l]
theorem icells_f (l:List Cd.In):icells l=fcells ivs l:=rfl
theorem ivs_len (x:Cd.In):(ivs x).length=3:=rfl
section
variable {α:Type} {f:α→List Value} {w w':World} {B B' R:Nat} {v:Value} {l:List α}
end
end Go.Proofs.YtefimimcfkdoiaaGreatDoor
