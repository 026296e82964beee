import Derived.Test.YtjobifclmcdjcaaGreatDoorQZCodA
import Derived.Test.YtjobifclmcdjcaaGreatDoorQZOrd
import Derived.Test.YtjobifclmcdjcaaGreatDoorQZTabE
import Derived.Test.YtjobifclmcdjcaaGreatDoorQZOrdC
set_option maxHeartbeats 64000000
set_option maxRecDepth 100000
namespace Go.Proofs.YtjobifclmcdjcaaGreatDoor
open Go.RowKit Go.Shelf
attribute [local go_sem] Oper.semAt_some
end Go.Proofs.YtjobifclmcdjcaaGreatDoor
namespace Go.Proofs.YtjobifclmcdjcaaGreatDoor
open Go.RowKit Go.Shelf Go.Sort
attribute [local go_sem] Oper.semAt_some
theorem j16{W W':World}{base sz n:Nat}{e:TypeId}{rv:Value}{xs:List Value}(h:W.ownsRow base e sz rv n xs)(hk:∀ g,rv.ownBlock=some g→W'.heap[g]? = W.heap[g]?):W'.ownsRow base e sz rv n xs:=by
 refine⟨h.1,h.2.imp id fun⟨g,cap,cur,he,hb',hh,r⟩=>⟨g,cap,cur,he,hb',(hk g (by rw[he];rfl)).trans hh,r⟩⟩
theorem Tryz.infoInstr:(Tryz.prog.info? 57).map (fun i=>(i.zero,i.size,i.bytes))=some (some (.agg #[.int .i64 0,.int .i64 0,.int .i64 0]),3,24):=by kernel_rfl
end Go.Proofs.YtjobifclmcdjcaaGreatDoor
namespace Go.Proofs.YtjobifclmcdjcaaGreatDoor
open Go.RowKit Go.Shelf
def fcells{α:Type}(f:α→List Value)(l:List α):List Value:=l.flatMap f
theorem q01{α:Type}{f:α→List Value}{n:Nat}(hf:∀ x,(f x).length=n)(l:List α):(fcells f l).length=l.length*n:=by
 induction l with
 | nil=>simp[fcells]
 | cons e r ih =>
  have:fcells f (e :: r)=f e++fcells f r:=rfl;rw[this,List.length_append,hf,ih,List.length_cons,Nat.succ_mul];omega
theorem z2f{α:Type}(f:α→List Value)(l:List α)(t:α):fcells f (l++[t])=fcells f l++f t:=by simp[fcells]
theorem q16{α:Type}{f:α→List Value}{n:Nat}(hf:∀ x,(f x).length=n):∀(l:List α) (k:Nat) (t:α),l[k]? = some t→∀ j,j<n→(fcells f l)[k*n+j]? = (f t)[j]?
 | [],k,t,h,_,_=>by simp at h
 | e :: r,0,t,h,j,hj=>by
  simp only[List.getElem?_cons_zero,Option.some.injEq] at h
  subst h
  rw[show fcells f (e :: r)=f e++fcells f r from rfl,Nat.zero_mul,Nat.zero_add,List.getElem?_append_left (by rw[hf];exact hj)]
 | e :: r,k+1,t,h,j,hj=>by
  have ih:=q16 hf r k t (by simpa using h) j hj
  rw[show fcells f (e :: r)=f e++fcells f r from rfl,List.getElem?_append_right (by rw[hf,Nat.succ_mul];omega),hf,←ih]
  congr 1
  rw[Nat.succ_mul]
  omega
def ivs(x:Cd.In):List Value:=[.int .i64 x.op,.int .i64 x.n,.int .i64 x.l]
theorem z8n(l:List Cd.In):icells l=fcells ivs l:=rfl
theorem z3u(x:Cd.In):(ivs x).length=3:=rfl
end Go.Proofs.YtjobifclmcdjcaaGreatDoor
