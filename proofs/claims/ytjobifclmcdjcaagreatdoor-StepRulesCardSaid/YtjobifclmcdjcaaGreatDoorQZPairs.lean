import Derived.RangeFuncNested
import Derived.RangeFuncBound
import Derived.RangeFuncCalls
import Derived.RangeFuncLeaves
import Derived.Shelf.Abstract
import Derived.Shelf.RegionOpen
import Derived.WalkKit
import Derived.OwnWalkIn
import Derived.TacticsInMore
import Derived.LoopNIn
import Derived.LoopIn
import Derived.Test.YtjobifclmcdjcaaGreatDoorChecked
import Derived.Test.YtjobifclmcdjcaaGreatDoorQZBase
import Derived.Test.YtjobifclmcdjcaaGreatDoorQZLat
set_option maxHeartbeats 64000000
set_option maxRecDepth 100000
namespace Go.Proofs.YtjobifclmcdjcaaGreatDoor
open Go.RowKit Go.Shelf
attribute [local go_sem] Oper.semAt_some
theorem q39(n:Nat)(w:World) :
  Calls Tryz.prog 101 #[.int .i64 n] w fun e w'=>e=.returned (.func (.func 140) #[] #[.pointer (some ⟨w.heap.size,0,none⟩)])∧w.alloc (.cells #[.int .i64 n] 3)=w':=by
 have hmf:∀(fn:Fn) (first cap:Array Value) (w:World),(Instr.makeFunc fn first cap).run Tryz.prog w=.ok (.func fn first cap) w:=fun _ _ _ _=>rfl
 go_enter Tryz.func101,Tryz.ntmps101;go_wp2;go_ret;exact⟨rfl,rfl⟩
abbrev PL(n:Nat):={ p:Nat×Nat // p.1<n∧p.2<n }
abbrev penc{n:Nat}(p:PL n):Array Value:=#[.int .i64 (p.1.1:Int),.int .i64 (p.1.2:Int)]
def vals{n:Nat}(l:List (PL n)):List (Nat×Nat):=l.map (·.1)
theorem q0z{n:Nat}(l:List (PL n))(p:PL n):vals (l++[p])=vals l++[p.1]:=by simp[vals]
theorem z3j{n:Nat}(l:List (PL n)):(vals l).length=l.length:=by simp[vals]
def Box(W:World)(b:Nat)(v:Value):Prop:=W.cell? ⟨b,0,none⟩=some v∧W.frozen? ⟨b,0,none⟩=false
theorem j1w{W:World}{b:Nat}{v:Value}{t:TypeId}(h:W.heap[b]? = some (.cells #[v] t)):Box W b v:=⟨by simp[World.cell?,h],by simp[World.frozen?,h]⟩
theorem Box.new(W:World)(v:Value)(t:TypeId):Box (W.alloc (.cells #[v] t)) W.heap.size v:=j1w (World.alloc_heap_new W _)
theorem Box.new'(W:World)(v:Value)(t:TypeId)(b:Nat)(h:W.heap.size=b):Box (W.alloc (.cells #[v] t)) b v:=h▸Box.new W v t
theorem Box.kept{W W':World}{b:Nat}{v:Value}{row:Option Nat}(h:Box W b v)(hg:W.grownBy W' row)(hr:∀ r,row=some r→∃ o:Obj,W.heap[r]? = some o∧o.isCells=false):Box W' b v :=
 ⟨cell_kept h.1 hg hr,(frozen_kept h.1 hg hr).trans h.2⟩
theorem Box.alloc{W:World}{b:Nat}{v:Value}(h:Box W b v)(o:Obj):Box (W.alloc o) b v:=h.kept (World.grownBy_alloc W o none) (fun r e=>by cases e)
theorem Box.below{W W':World}{b B:Nat}{v:Value}(h:Box W b v)(hb:Below B W W')(hB:b<B):Box W' b v :=
 ⟨(hb.cell (p:=⟨b,0,none⟩) hB).trans h.1,(hb.frozen (p:=⟨b,0,none⟩) hB).trans h.2⟩
theorem Box.drewN{W:World}{b:Nat}{v:Value}(h:Box W b v)(n:Nat):Box (W.drewN n) b v:=h
theorem Box.putObj{W:World}{b l:Nat}{v:Value}{o:Obj}(h:Box W b v)(o':Obj)(hl:W.heap[l]? = some o)(hc:o.isCells=false):Box (W.putObj l o') b v :=
 h.kept (grownBy_putObj' W l o') (fun r e=>by cases e;exact⟨o,hl,hc⟩)
theorem Box.set_{W:World}{b:Nat}{v:Value}(h:Box W b v)(u:Value):Box (W.setCell ⟨b,0,none⟩ u) b u :=
 ⟨World.cell?_setCell_same' _ _ _ (by rw[h.1];rfl),by rw[World.frozen?_setCell];exact h.2⟩
theorem Box.other{W:World}{b:Nat}{v:Value}(h:Box W b v){p:Addr}(hp:p.block≠b)(u:Value):Box (W.setCell p u) b v :=
 ⟨(World.cell?_setCell_other W p ⟨b,0,none⟩ u (fun e=>hp (by rw[e]))).trans h.1,by rw[World.frozen?_setCell];exact h.2⟩
def Blk(W:World)(g:Nat)(t:TypeId)(cs:Array Value):Prop:=W.heap[g]? = some (.cells cs t (0,0))
section
variable {W W':World} {g:Nat} {t:TypeId} {cs:Array Value}
theorem Blk.cell(h:Blk W g t cs)(i:Nat):W.cell? ⟨g,i,none⟩=cs[i]?:=cell_of_row W g i cs t (0,0) h
theorem Blk.frozen(h:Blk W g t cs)(i:Nat):W.frozen? ⟨g,i,none⟩=false:=by
 unfold Blk at h;simp[World.frozen?,h]
theorem Blk.new(W:World)(t:TypeId)(cs:Array Value):Blk (W.alloc (.cells cs t)) W.heap.size t cs:=World.alloc_heap_new W _
theorem Blk.kept{row:Option Nat}(h:Blk W g t cs)(hg:W.grownBy W' row)(hr:∀ r,row=some r→∃ o:Obj,W.heap[r]? = some o∧o.isCells=false):Blk W' g t cs :=
 (grownBy_keeps_cells hg hr h rfl).trans h
theorem Blk.lt(h:Blk W g t cs):g<W.heap.size:=(Array.getElem?_eq_some_iff.1 h).1
theorem Blk.alloc(h:Blk W g t cs)(o:Obj):Blk (W.alloc o) g t cs:=(Below.heap_alloc W o g h.lt).trans h
theorem Blk.below{B:Nat}(h:Blk W g t cs)(hb:Below B W W')(hg:g<B):Blk W' g t cs:=(hb.block g hg).trans h
theorem Blk.drewN(h:Blk W g t cs)(n:Nat):Blk (W.drewN n) g t cs:=h
theorem Blk.drew(h:Blk W g t cs):Blk W.drew g t cs:=h
theorem Blk.putObj{l:Nat}{o:Obj}(h:Blk W g t cs)(o':Obj)(hl:W.heap[l]? = some o)(hc:o.isCells=false):Blk (W.putObj l o') g t cs :=
 h.kept (grownBy_putObj' W l o') (fun r e=>by cases e;exact⟨o,hl,hc⟩)
theorem Blk.set_(h:Blk W g t cs)(i:Nat)(u:Value):Blk (W.setCell ⟨g,i,none⟩ u) g t (cs.setIfInBounds i u):=by
 unfold Blk at h ⊢;simp[World.setCell,Array.getElem?_modify,h]
theorem Blk.other(h:Blk W g t cs){p:Addr}(hp:p.block≠g)(u:Value):Blk (W.setCell p u) g t cs:=(Below.heap_setCell W p u g (fun e=>hp e.symm)).trans h
end
theorem Blk.row{W:World}{g:Nat}{t:TypeId}{cs:List Value}(h:Blk W g t cs.toArray):Row W (g+1) (some ⟨g,0,none⟩) cs:=fun _=>by
 refine⟨_,rfl,Nat.lt_succ_self _,fun j u hu=>?_⟩
 have e:(⟨g,0,none⟩:Addr).add j=⟨g,j,none⟩:=by unfold Addr.add;split<;>simp_all
 rw[e,h.cell]
 simpa using hu
def KeepsCell(Bn:Nat)(W W':World):Prop:=∀ v,W.cell? ⟨Bn,0,none⟩=some v→W'.cell? ⟨Bn,0,none⟩=some v
theorem q3g{Bn:Nat}{A B C:World}(h:KeepsCell Bn A B)(k:KeepsCell Bn B C):KeepsCell Bn A C:=fun v hv=>k v (h v hv)
theorem q3f{Bn:Nat}{w:World}(W:World)(l:Nat)(o o':Obj)(_:w.heap.size≤l)(h:W.heap[l]? = some o)(hc:o.isCells=false)(_:o.isWalk=false):KeepsCell Bn W (W.putObj l o') :=
 fun _ hv=>cell_kept hv (grownBy_putObj' W l o') (fun r e=>by cases e;exact⟨o,h,hc⟩)
theorem q1c{Bn B:Nat}{W W':World}(h:Below B W W')(hB:Bn<B):KeepsCell Bn W W':=fun _ hv=>(h.cell (p:=⟨Bn,0,none⟩) hB).trans hv
theorem q3h(N n Bn:Nat)(hn:n≤1000)(hN:1≤N)(w:World)(hBn:Bn<w.heap.size)(hc:w.cell? ⟨Bn,0,none⟩=some (.int .i64 n)) :
  SeqStopsK Fence.wide N Tryz.prog 140 #[.pointer (some ⟨Bn,0,none⟩)] (penc (n:=n)) (KeepsCell Bn) (fun xs=>vals xs=Lat.pairs n) (fun pre=>vals pre <+: Lat.pairs n) (n*n) w:=fun l J Jx W hW hJ hJx hY h0=>by
 have hcW:W.cell? ⟨Bn,0,none⟩=some (.int .i64 n):=(hW.cell (p:=⟨Bn,0,none⟩) hBn).trans hc
 refine callsIn_of_wp Tryz.func140 rfl trivial ?_ rfl
 simp only[Tryz.ntmps140,List.size_toArray,List.length_cons,List.length_nil,Nat.reduceAdd,Nat.reduceSub,Array.replicate_succ,Array.replicate_zero,List.push_toArray,List.append_toArray,List.nil_append,List.cons_append]
 gi_wp2
 gi_loopw [6] (fun i wr=>∃(a:Nat) (pre:List (PL n)),a≤n∧i=.int .i64 a∧vals pre=Lat.upto n (a*n)∧J pre wr∧wr.cell? ⟨Bn,0,none⟩=some (.int .i64 n)) (fun i _=>n-(intOf i).toNat)
 case atStart=>exact⟨0,[],Nat.zero_le _,rfl,by simp[Lat.upto,vals],h0,hcW⟩
 case round =>
  obtain⟨a,pre,ha,rfl,hv,hj,hcr⟩:=hrel
  have HV:=η hv
  clear hv
  by_cases hlt:a<n
  ·clear h0
   obtain⟨wo,rfl⟩:∃ wo:World,wo=wr:=⟨_,rfl⟩
   gi_wp2
   gi_loopw [10] (fun j wr=>∃(b:Nat) (pre:List (PL n)),b≤n∧j=.int .i64 b∧vals pre=Lat.upto n (a*n+b)∧J pre wr∧wr.cell? ⟨Bn,0,none⟩=some (.int .i64 n)) (fun j _=>n-(intOf j).toNat)
   case atStart=>exact⟨0,pre,Nat.zero_le _,rfl,HV.out,hj,hcr⟩
   case round =>
    obtain⟨b,pre2,hbn,rfl,hv2,hj2,hb2⟩:=hrel
    have HV2:=η hv2
    clear hv2
    by_cases hlt2:b<n
    ·obtain⟨fn,tmps,assign,body,hy,hR⟩:=hY _ ⟨(a,b),hlt,hlt2⟩ wr hj2 (by rw[←z3j,HV2.out];exact Lat.upto_lt ha hlt hlt2)
     dsimp only[penc] at hy
     gi_wp2
     refine hR.mono ?_
     rintro e W3 (⟨rfl,hJ3,hk3⟩|⟨rfl,hJx3⟩)
     ·gi_wp2
      go_roundw
      case rel=>exact⟨b+1,_,by omega,by go_num,by rw[←Nat.add_assoc,Lat.upto_succ hlt2,q0z,HV2.out],hJ3,hk3 _ hb2⟩
      case measure=>simp[intOf];omega
     ·gi_wp2
      refine bodyPost_ret (results_none rfl _ _ _) rfl ?_
      exact⟨⟨_,rfl⟩,.inr ⟨_,by rw[q0z,HV2.out];exact Lat.upto_prefix hlt hlt2,hJx3⟩⟩
    ·obtain rfl:b=n:=by omega
     gi_wp2
     go_roundw
     case rel=>exact⟨a+1,pre2,by omega,by go_num,by rw[Nat.succ_mul];exact HV2.out,hj2,hb2⟩
     case measure=>simp[intOf];omega
  ·obtain rfl:a=n:=by omega
   gi_wp2
   go_end0
   exact⟨⟨_,rfl⟩,.inl ⟨_,HV.out,hj⟩⟩
theorem ζ2{W:World}{g:Nat}{t:TypeId}{v0 v1:Value}(h:Blk W g t #[v0,v1]):W.cell? ⟨g,0,none⟩=some v0∧W.cell? ⟨g,1,none⟩=some v1:=⟨h.cell 0,h.cell 1⟩
theorem ζ3{W:World}{g:Nat}{t:TypeId}{v0 v1 v2:Value}(h:Blk W g t #[v0,v1,v2]):W.cell? ⟨g,0,none⟩=some v0∧W.cell? ⟨g,1,none⟩=some v1∧W.cell? ⟨g,2,none⟩=some v2:=⟨h.cell 0,h.cell 1,h.cell 2⟩
theorem ζ4{W:World}{g:Nat}{t:TypeId}{v0 v1 v2 v3:Value}(h:Blk W g t #[v0,v1,v2,v3]):W.cell? ⟨g,0,none⟩=some v0∧W.cell? ⟨g,1,none⟩=some v1∧W.cell? ⟨g,2,none⟩=some v2∧W.cell? ⟨g,3,none⟩=some v3:=⟨h.cell 0,h.cell 1,h.cell 2,h.cell 3⟩
theorem ζ5{W:World}{g:Nat}{t:TypeId}{v0 v1 v2 v3 v4:Value}(h:Blk W g t #[v0,v1,v2,v3,v4]):W.cell? ⟨g,0,none⟩=some v0∧W.cell? ⟨g,1,none⟩=some v1∧W.cell? ⟨g,2,none⟩=some v2∧W.cell? ⟨g,3,none⟩=some v3∧W.cell? ⟨g,4,none⟩=some v4:=⟨h.cell 0,h.cell 1,h.cell 2,h.cell 3,h.cell 4⟩
theorem ζ6{W:World}{g:Nat}{t:TypeId}{v0 v1 v2 v3 v4 v5:Value}(h:Blk W g t #[v0,v1,v2,v3,v4,v5]):W.cell? ⟨g,0,none⟩=some v0∧W.cell? ⟨g,1,none⟩=some v1∧W.cell? ⟨g,2,none⟩=some v2∧W.cell? ⟨g,3,none⟩=some v3∧W.cell? ⟨g,4,none⟩=some v4∧W.cell? ⟨g,5,none⟩=some v5:=⟨h.cell 0,h.cell 1,h.cell 2,h.cell 3,h.cell 4,h.cell 5⟩
theorem ζ7{W:World}{g:Nat}{t:TypeId}{v0 v1 v2 v3 v4 v5 v6:Value}(h:Blk W g t #[v0,v1,v2,v3,v4,v5,v6]):W.cell? ⟨g,0,none⟩=some v0∧W.cell? ⟨g,1,none⟩=some v1∧W.cell? ⟨g,2,none⟩=some v2∧W.cell? ⟨g,3,none⟩=some v3∧W.cell? ⟨g,4,none⟩=some v4∧W.cell? ⟨g,5,none⟩=some v5∧W.cell? ⟨g,6,none⟩=some v6:=⟨h.cell 0,h.cell 1,h.cell 2,h.cell 3,h.cell 4,h.cell 5,h.cell 6⟩
end Go.Proofs.YtjobifclmcdjcaaGreatDoor
