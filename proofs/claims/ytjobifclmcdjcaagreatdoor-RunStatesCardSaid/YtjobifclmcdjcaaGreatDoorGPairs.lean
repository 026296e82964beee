import Derived.RangeFuncNested
import Derived.RangeFuncBound
import Derived.RangeFuncCalls
import Derived.RangeFuncLeaves
import Derived.Shelf.Abstract
import Derived.Shelf.RegionOpen
import Derived.WalkKit
import Derived.OwnWalkIn
import Derived.TacticsInMore
import Derived.LoopNIn
import Derived.LoopIn
import Derived.Test.YtjobifclmcdjcaaGreatDoorChecked
import Derived.Test.YtjobifclmcdjcaaGreatDoorGBase
import Derived.Test.YtjobifclmcdjcaaGreatDoorGLat
set_option maxHeartbeats 64000000
set_option maxRecDepth 100000
namespace Go.Proofs.YtjobifclmcdjcaaGreatDoor
open Go.RowKit Go.Shelf
attribute [local go_sem] Oper.semAt_some
theorem q3w(n:Nat)(w:World) :
  Calls Tryz.prog 101 #[.int .i64 n] w fun e w'=>e=.returned (.func (.func 140) #[] #[.pointer (some ⟨w.heap.size,0,none⟩)])∧w.alloc (.cells #[.int .i64 n] 3)=w':=by
 have hmf:∀(fn:Fn) (first cap:Array Value) (w:World),(Instr.makeFunc fn first cap).run Tryz.prog w=.ok (.func fn first cap) w:=fun _ _ _ _=>rfl
 go_enter Tryz.func101,Tryz.ntmps101;go_wp2;go_ret;exact⟨rfl,rfl⟩
abbrev PL(n:Nat):={ p:Nat×Nat // p.1<n∧p.2<n }
abbrev penc{n:Nat}(p:PL n):Array Value:=#[.int .i64 (p.1.1:Int),.int .i64 (p.1.2:Int)]
def vals{n:Nat}(l:List (PL n)):List (Nat×Nat):=l.map (·.1)
theorem q01{n:Nat}(l:List (PL n))(p:PL n):vals (l++[p])=vals l++[p.1]:=by simp[vals]
theorem z2n{n:Nat}(l:List (PL n)):(vals l).length=l.length:=by simp[vals]
def Box(W:World)(b:Nat)(v:Value):Prop:=W.cell? ⟨b,0,none⟩=some v∧W.frozen? ⟨b,0,none⟩=false
theorem j2c{W:World}{b:Nat}{v:Value}{t:TypeId}(h:W.heap[b]? = some (.cells #[v] t)):Box W b v:=⟨by simp[World.cell?,h],by simp[World.frozen?,h]⟩
theorem Box.new(W:World)(v:Value)(t:TypeId):Box (W.alloc (.cells #[v] t)) W.heap.size v:=j2c (World.alloc_heap_new W _)
theorem Box.new'(W:World)(v:Value)(t:TypeId)(b:Nat)(h:W.heap.size=b):Box (W.alloc (.cells #[v] t)) b v:=h▸Box.new W v t
theorem Box.kept{W W':World}{b:Nat}{v:Value}{row:Option Nat}(h:Box W b v)(hg:W.grownBy W' row)(hr:∀ r,row=some r→∃ o:Obj,W.heap[r]? = some o∧o.isCells=false):Box W' b v :=
 ⟨cell_kept h.1 hg hr,(frozen_kept h.1 hg hr).trans h.2⟩
theorem Box.alloc{W:World}{b:Nat}{v:Value}(h:Box W b v)(o:Obj):Box (W.alloc o) b v:=h.kept (World.grownBy_alloc W o none) (fun r e=>by cases e)
theorem Box.below{W W':World}{b B:Nat}{v:Value}(h:Box W b v)(hb:Below B W W')(hB:b<B):Box W' b v :=
 ⟨(hb.cell (p:=⟨b,0,none⟩) hB).trans h.1,(hb.frozen (p:=⟨b,0,none⟩) hB).trans h.2⟩
theorem Box.drewN{W:World}{b:Nat}{v:Value}(h:Box W b v)(n:Nat):Box (W.drewN n) b v:=h
theorem Box.putObj{W:World}{b l:Nat}{v:Value}{o:Obj}(h:Box W b v)(o':Obj)(hl:W.heap[l]? = some o)(hc:o.isCells=false):Box (W.putObj l o') b v :=
 h.kept (grownBy_putObj' W l o') (fun r e=>by cases e;exact⟨o,hl,hc⟩)
theorem Box.set_{W:World}{b:Nat}{v:Value}(h:Box W b v)(u:Value):Box (W.setCell ⟨b,0,none⟩ u) b u :=
 ⟨World.cell?_setCell_same' _ _ _ (by rw[h.1];rfl),by rw[World.frozen?_setCell];exact h.2⟩
theorem Box.other{W:World}{b:Nat}{v:Value}(h:Box W b v){p:Addr}(hp:p.block≠b)(u:Value):Box (W.setCell p u) b v :=
 ⟨(World.cell?_setCell_other W p ⟨b,0,none⟩ u (fun e=>hp (by rw[e]))).trans h.1,by rw[World.frozen?_setCell];exact h.2⟩
def Blk(W:World)(g:Nat)(t:TypeId)(cs:Array Value):Prop:=W.heap[g]? = some (.cells cs t (0,0))
section
variable {W W':World} {g:Nat} {t:TypeId} {cs:Array Value}
theorem Blk.cell(h:Blk W g t cs)(i:Nat):W.cell? ⟨g,i,none⟩=cs[i]?:=cell_of_row W g i cs t (0,0) h
theorem Blk.frozen(h:Blk W g t cs)(i:Nat):W.frozen? ⟨g,i,none⟩=false:=by
 unfold Blk at h;simp[World.frozen?,h]
theorem Blk.new(W:World)(t:TypeId)(cs:Array Value):Blk (W.alloc (.cells cs t)) W.heap.size t cs:=World.alloc_heap_new W _
theorem Blk.kept{row:Option Nat}(h:Blk W g t cs)(hg:W.grownBy W' row)(hr:∀ r,row=some r→∃ o:Obj,W.heap[r]? = some o∧o.isCells=false):Blk W' g t cs :=
 (grownBy_keeps_cells hg hr h rfl).trans h
theorem Blk.lt(h:Blk W g t cs):g<W.heap.size:=(Array.getElem?_eq_some_iff.1 h).1
theorem Blk.alloc(h:Blk W g t cs)(o:Obj):Blk (W.alloc o) g t cs:=(Below.heap_alloc W o g h.lt).trans h
theorem Blk.below{B:Nat}(h:Blk W g t cs)(hb:Below B W W')(hg:g<B):Blk W' g t cs:=(hb.block g hg).trans h
theorem Blk.drewN(h:Blk W g t cs)(n:Nat):Blk (W.drewN n) g t cs:=h
theorem Blk.drew(h:Blk W g t cs):Blk W.drew g t cs:=h
theorem Blk.putObj{l:Nat}{o:Obj}(h:Blk W g t cs)(o':Obj)(hl:W.heap[l]? = some o)(hc:o.isCells=false):Blk (W.putObj l o') g t cs :=
 h.kept (grownBy_putObj' W l o') (fun r e=>by cases e;exact⟨o,hl,hc⟩)
theorem Blk.set_(h:Blk W g t cs)(i:Nat)(u:Value):Blk (W.setCell ⟨g,i,none⟩ u) g t (cs.setIfInBounds i u):=by
 unfold Blk at h ⊢;simp[World.setCell,Array.getElem?_modify,h]
theorem Blk.other(h:Blk W g t cs){p:Addr}(hp:p.block≠g)(u:Value):Blk (W.setCell p u) g t cs:=(Below.heap_setCell W p u g (fun e=>hp e.symm)).trans h
end
theorem Blk.row{W:World}{g:Nat}{t:TypeId}{cs:List Value}(h:Blk W g t cs.toArray):Row W (g+1) (some ⟨g,0,none⟩) cs:=fun _=>by
 refine⟨_,rfl,Nat.lt_succ_self _,fun j u hu=>?_⟩
 have e:(⟨g,0,none⟩:Addr).add j=⟨g,j,none⟩:=by unfold Addr.add;split<;>simp_all
 rw[e,h.cell]
 simpa using hu
def KeepsCell(Bn:Nat)(W W':World):Prop:=∀ v,W.cell? ⟨Bn,0,none⟩=some v→W'.cell? ⟨Bn,0,none⟩=some v
theorem q3a{Bn:Nat}{A B C:World}(h:KeepsCell Bn A B)(k:KeepsCell Bn B C):KeepsCell Bn A C:=fun v hv=>k v (h v hv)
theorem q3b{Bn:Nat}{w:World}(W:World)(l:Nat)(o o':Obj)(_:w.heap.size≤l)(h:W.heap[l]? = some o)(hc:o.isCells=false)(_:o.isWalk=false):KeepsCell Bn W (W.putObj l o') :=
 fun _ hv=>cell_kept hv (grownBy_putObj' W l o') (fun r e=>by cases e;exact⟨o,h,hc⟩)
theorem q1a{Bn B:Nat}{W W':World}(h:Below B W W')(hB:Bn<B):KeepsCell Bn W W':=fun _ hv=>(h.cell (p:=⟨Bn,0,none⟩) hB).trans hv
theorem q3d(N n Bn:Nat)(hn:n≤1000)(hN:1≤N)(w:World)(hBn:Bn<w.heap.size)(hc:w.cell? ⟨Bn,0,none⟩=some (.int .i64 n)) :
  SeqStopsK Fence.wide N Tryz.prog 140 #[.pointer (some ⟨Bn,0,none⟩)] (penc (n:=n)) (KeepsCell Bn) (fun xs=>vals xs=Lat.pairs n) (fun pre=>vals pre <+: Lat.pairs n) (n*n) w:=fun l J Jx W hW hJ hJx hY h0=>by
 have hcW:W.cell? ⟨Bn,0,none⟩=some (.int .i64 n):=(hW.cell (p:=⟨Bn,0,none⟩) hBn).trans hc
 refine callsIn_of_wp Tryz.func140 rfl trivial ?_ rfl
 simp only[Tryz.ntmps140,List.size_toArray,List.length_cons,List.length_nil,Nat.reduceAdd,Nat.reduceSub,Array.replicate_succ,Array.replicate_zero,List.push_toArray,List.append_toArray,List.nil_append,List.cons_append]
 gi_wp2
 gi_loopw [6] (fun i wr=>∃(a:Nat) (pre:List (PL n)),a≤n∧i=.int .i64 a∧vals pre=Lat.upto n (a*n)∧J pre wr∧wr.cell? ⟨Bn,0,none⟩=some (.int .i64 n)) (fun i _=>n-(intOf i).toNat)
 case atStart=>exact⟨0,[],Nat.zero_le _,rfl,by simp[Lat.upto,vals],h0,hcW⟩
 case round =>
  obtain⟨a,pre,ha,rfl,hv,hj,hcr⟩:=hrel
  have HV:=η hv
  clear hv
  by_cases hlt:a<n
  ·clear h0
   obtain⟨wo,rfl⟩:∃ wo:World,wo=wr:=⟨_,rfl⟩
   gi_wp2
   gi_loopw [10] (fun j wr=>∃(b:Nat) (pre:List (PL n)),b≤n∧j=.int .i64 b∧vals pre=Lat.upto n (a*n+b)∧J pre wr∧wr.cell? ⟨Bn,0,none⟩=some (.int .i64 n)) (fun j _=>n-(intOf j).toNat)
   case atStart=>exact⟨0,pre,Nat.zero_le _,rfl,HV.out,hj,hcr⟩
   case round =>
    obtain⟨b,pre2,hbn,rfl,hv2,hj2,hb2⟩:=hrel
    have HV2:=η hv2
    clear hv2
    by_cases hlt2:b<n
    ·obtain⟨fn,tmps,assign,body,hy,hR⟩:=hY _ ⟨(a,b),hlt,hlt2⟩ wr hj2 (by rw[←z2n,HV2.out];exact Lat.upto_lt ha hlt hlt2)
     dsimp only[penc] at hy
     gi_wp2
     refine hR.mono ?_
     rintro e W3 (⟨rfl,hJ3,hk3⟩|⟨rfl,hJx3⟩)
     ·gi_wp2
      go_roundw
      case rel=>exact⟨b+1,_,by omega,by go_num,by rw[←Nat.add_assoc,Lat.upto_succ hlt2,q01,HV2.out],hJ3,hk3 _ hb2⟩
      case measure=>simp[intOf];omega
     ·gi_wp2
      refine bodyPost_ret (results_none rfl _ _ _) rfl ?_
      exact⟨⟨_,rfl⟩,.inr ⟨_,by rw[q01,HV2.out];exact Lat.upto_prefix hlt hlt2,hJx3⟩⟩
    ·obtain rfl:b=n:=by omega
     gi_wp2
     go_roundw
     case rel=>exact⟨a+1,pre2,by omega,by go_num,by rw[Nat.succ_mul];exact HV2.out,hj2,hb2⟩
     case measure=>simp[intOf];omega
  ·obtain rfl:a=n:=by omega
   gi_wp2
   go_end0
   exact⟨⟨_,rfl⟩,.inl ⟨_,HV.out,hj⟩⟩
theorem ζ2{W:World}{g:Nat}{t:TypeId}{v0 v1:Value}(h:Blk W g t #[v0,v1]):W.cell? ⟨g,0,none⟩=some v0∧W.cell? ⟨g,1,none⟩=some v1:=⟨h.cell 0,h.cell 1⟩
theorem ζ3{W:World}{g:Nat}{t:TypeId}{v0 v1 v2:Value}(h:Blk W g t #[v0,v1,v2]):W.cell? ⟨g,0,none⟩=some v0∧W.cell? ⟨g,1,none⟩=some v1∧W.cell? ⟨g,2,none⟩=some v2:=⟨h.cell 0,h.cell 1,h.cell 2⟩
theorem ζ4{W:World}{g:Nat}{t:TypeId}{v0 v1 v2 v3:Value}(h:Blk W g t #[v0,v1,v2,v3]):W.cell? ⟨g,0,none⟩=some v0∧W.cell? ⟨g,1,none⟩=some v1∧W.cell? ⟨g,2,none⟩=some v2∧W.cell? ⟨g,3,none⟩=some v3:=⟨h.cell 0,h.cell 1,h.cell 2,h.cell 3⟩
theorem ζ5{W:World}{g:Nat}{t:TypeId}{v0 v1 v2 v3 v4:Value}(h:Blk W g t #[v0,v1,v2,v3,v4]):W.cell? ⟨g,0,none⟩=some v0∧W.cell? ⟨g,1,none⟩=some v1∧W.cell? ⟨g,2,none⟩=some v2∧W.cell? ⟨g,3,none⟩=some v3∧W.cell? ⟨g,4,none⟩=some v4:=⟨h.cell 0,h.cell 1,h.cell 2,h.cell 3,h.cell 4⟩
theorem ζ6{W:World}{g:Nat}{t:TypeId}{v0 v1 v2 v3 v4 v5:Value}(h:Blk W g t #[v0,v1,v2,v3,v4,v5]):W.cell? ⟨g,0,none⟩=some v0∧W.cell? ⟨g,1,none⟩=some v1∧W.cell? ⟨g,2,none⟩=some v2∧W.cell? ⟨g,3,none⟩=some v3∧W.cell? ⟨g,4,none⟩=some v4∧W.cell? ⟨g,5,none⟩=some v5:=⟨h.cell 0,h.cell 1,h.cell 2,h.cell 3,h.cell 4,h.cell 5⟩
theorem ζ7{W:World}{g:Nat}{t:TypeId}{v0 v1 v2 v3 v4 v5 v6:Value}(h:Blk W g t #[v0,v1,v2,v3,v4,v5,v6]):W.cell? ⟨g,0,none⟩=some v0∧W.cell? ⟨g,1,none⟩=some v1∧W.cell? ⟨g,2,none⟩=some v2∧W.cell? ⟨g,3,none⟩=some v3∧W.cell? ⟨g,4,none⟩=some v4∧W.cell? ⟨g,5,none⟩=some v5∧W.cell? ⟨g,6,none⟩=some v6:=⟨h.cell 0,h.cell 1,h.cell 2,h.cell 3,h.cell 4,h.cell 5,h.cell 6⟩
end Go.Proofs.YtjobifclmcdjcaaGreatDoor
namespace Go.Proofs.YtjobifclmcdjcaaGreatDoor
open Go.RowKit Go.Shelf
structure HoldsOn (O:Nat→Prop) (W W':World):Prop where
 os:W'.os=W.os
 tape:W'.tape=W.tape
 output:W'.output=W.output
 size:W.heap.size≤W'.heap.size
 block:∀ k,O k→W'.heap[k]? = W.heap[k]?
theorem HoldsOn.trans{O:Nat→Prop}{A B C:World}(h:HoldsOn O A B)(k:HoldsOn O B C):HoldsOn O A C :=
 ⟨k.os.trans h.os,k.tape.trans h.tape,k.output.trans h.output,Nat.le_trans h.size k.size,fun i hi=>(k.block i hi).trans (h.block i hi)⟩
theorem HoldsOn.below{O:Nat→Prop}{n:Nat}{A B:World}(h:HoldsOn O A B)(hn:∀ k,k<n→O k):Below n A B:=⟨h.os,h.tape,h.output,h.size,fun k hk=>h.block k (hn k hk)⟩
theorem HoldsOn.of_below{O:Nat→Prop}{n:Nat}{A B:World}(h:Below n A B)(hn:∀ k,O k→k<n):HoldsOn O A B:=⟨h.os,h.tape,h.output,h.size,fun k hk=>h.block k (hn k hk)⟩
theorem HoldsOn.putObj{O:Nat→Prop}(W:World){l:Nat}(o:Obj)(hl:¬O l):HoldsOn O W (W.putObj l o) :=
 ⟨rfl,rfl,rfl,by simp,fun k hk=>World.putObj_heap_other (fun e=>hl (e▸hk))⟩
theorem HoldsOn.alloc{O:Nat→Prop}(W:World)(o:Obj)(hO:∀ k,O k→k<W.heap.size):HoldsOn O W (W.alloc o) :=
 ⟨rfl,rfl,rfl,by simp,fun k hk=>Below.heap_alloc W o k (hO k hk)⟩
theorem HoldsOn.setCell{O:Nat→Prop}(W:World){p:Addr}(v:Value)(hp:¬O p.block):HoldsOn O W (W.setCell p v) :=
 ⟨rfl,rfl,rfl,by show W.heap.size≤(W.heap.modify _ _).size;rw[Array.size_modify];exact Nat.le_refl _,fun k hk=>Below.heap_setCell W p v k (fun e=>hp (e▸hk))⟩
theorem HoldsOn.grown{O:Nat→Prop}{W W':World}{row:Option Nat}(h:W.grownBy W' row)(hO:∀ k,O k→k<W.heap.size∧some k≠row):HoldsOn O W W' :=
 ⟨h.os,h.tape,h.output,h.size,fun k hk=>h.block k (hO k hk).1 (hO k hk).2⟩
theorem HoldsOn.less{O O':Nat→Prop}{W W':World}(h:HoldsOn O W W')(ho:∀ k,O' k→O k):HoldsOn O' W W':=⟨h.os,h.tape,h.output,h.size,fun k hk=>h.block k (ho k hk)⟩
theorem Blk.holds{O:Nat→Prop}{W W':World}{g:Nat}{t:TypeId}{cs:Array Value}(h:Blk W g t cs)(hh:HoldsOn O W W')(hg:O g):Blk W' g t cs:=(hh.block g hg).trans h
def Plus(O:Nat→Prop)(W W':World):Nat→Prop:=fun k=>O k∨(W.heap.size≤k∧k<W'.heap.size)
structure Stands {β:Type} (B:Nat) (t:TypeId) (J:(Nat→Prop)→β→World→Prop):Prop where
 grow:∀ {O b} {W W':World},J O b W→Below W.heap.size W W'→J (Plus O W W') b W'
 less:∀ {O O':Nat→Prop} {b W},J O b W→(∀ k,O' k→O k)→J O' b W
 set_:∀ {O b} {W:World} {g i:Nat} {cs:Array Value} (v:Value),J O b W→B≤g→O g→Blk W g t cs→J O b (W.setCell ⟨g,i,none⟩ v)
variable {F:Fence} {n:Nat} {P:Program}
def SeqHolds{α:Type}(F:Fence)(n:Nat)(P:Program)(gf:Nat)(lb:Array Value)(encs:α→Array Value)(t:TypeId)(G:List α→α→World→Prop)(S:List α→Prop)(O0:Nat→Prop)(B:Nat)(w0:World):Prop :=
 ∀(l:Nat) (J:(Nat→Prop)→List α→World→Prop) (W:World),Below w0.heap.size w0 W→B≤W.heap.size→Stands B t J →
  (∀ O pre x W1,J O pre W1→G pre x W1→(∀ k,O k→k<W1.heap.size)→YieldAt F (n-1) P l (encs x) W1 fun e W'=>e=.returned (.bool true)∧J O (pre++[x]) W'∧HoldsOn O W1 W') →
  J O0 [] W →
  CallsIn F n P gf (#[.func (.yield l) #[] #[]]++lb) W fun e W'=>(∃ v,e=.returned v)∧∃ O xs,S xs∧J O xs W'
theorem q3y{α:Type}{g:Operand}{ps:Array Tmp}{assign body:Code}{Q:Exit→Act→World→Prop}{a:Act}{w:World}(hro:F.round=none)(h1:1≤n){gf:Nat}{lb:Array Value}(hg:a.eval g=.func (.func gf) #[] lb)(hFg:F.fn gf)(eg:∀ args w,(callFunc gf args).run P w=.ok (.enter gf args) w){encs:α→Array Value}{t:TypeId}{G:List α→α→World→Prop}{S:List α→Prop}{O0:Nat→Prop}(hseq:SeqHolds F (n-1) P gf lb encs t G S O0 (w.heap.size+2) w)(hO0:∀ k,O0 k→k<w.heap.size)(hps:∀ x,(encs x).size=ps.size)(I:(Nat→Prop)→List α→World→Prop)(hI:Stands (w.heap.size+2) t I)(hIp:∀ O pre W l o o',I O pre W→w.heap.size≤l→¬O l→W.heap[l]? = some o→o.isCells=false→I O pre (W.putObj l o'))(h0:I O0 [] w)(hassign:∀(l:Nat) (O:Nat→Prop) (pre:List α) (x:α) (W:World) (K:Act→World→Prop),I O pre W→G pre x W→(∀ k,O k→k<W.heap.size) →
   (∀ a' W',KeepsOthers W W'→HoldsOn O W W' →
    (∀ l' o o',w.heap.size≤l'→¬O l'→W'.heap[l']? = some o→o.isCells=false →
     body.wpIn (F.inRound l) (n-1-1) P (fun e _ W2=>e=.normal∧KeepsOthers (W'.putObj l' o') W2∧HoldsOn O (W'.putObj l' o') W2∧I O (pre++[x]) W2) a' (W'.putObj l' o'))→K a' W') →
   assign.wpIn (F.inRound l) (n-1-1) P (Exit.then K (fun _ _ _=>False)) { tmps:=(ps.zip (encs x)).foldl (fun t (p,v)=>t.setIfInBounds p v) a.tmps,defers:=[] } W)(hdone:∀(D:Nat) (O:Nat→Prop) (xs:List α) (W:World),w.heap.size≤D→S xs→I O xs W→W.heap[D]? = some (.deferred (some []))→Q .normal { a with defers:={ target:=.collected D,args:=#[] } :: a.defers } W) :
  (Code.rangeFunc g ps assign body).wpIn F n P Q a w:=by
 refine wpIn_rangeFunc fun fn hfn=>?_
 rw[hro];obtain⟨rec,hrec⟩:∃ rec:LoopState→Loop,rec=fun st=>{ state:=st,pending:=none,fn,tmps:=a.tmps,params:=ps,assign,body,defers:=w.heap.size }:=⟨_,rfl⟩
 obtain⟨W1,hW1⟩:∃ W1,(w.alloc (.deferred (some []))).alloc (.loop (rec .ready))=W1:=⟨_,rfl⟩;have hs1:W1.heap.size=w.heap.size+2:=by rw[←hW1];simp
 have hL1:W1.heap[w.heap.size+1]? = some (.loop (rec .ready)):=by
  have h:=World.alloc_heap_new (w.alloc (.deferred (some []))) (.loop (rec .ready));rw[World.size_alloc,hW1] at h;exact h
 have hD1:W1.heap[w.heap.size]? = some (.deferred (some [])):=by
  rw[←hW1];exact(Below.heap_alloc _ _ _ (by simp)).trans (World.alloc_heap_new w _)
 have hb1:Below w.heap.size w W1:=by
  rw[←hW1];exact((Below.refl _ w).alloc (Nat.le_refl _) _).alloc (by simp) _
 have hI1:I O0 [] W1:=hI.less (hI.grow h0 hb1) (fun k hk=>.inl hk)
 refine⟨w.heap.size+1,[{ target:=.collected w.heap.size,args:=#[] }],W1,{ target:=.fn (.func gf) lb,args:=#[.func (.yield (w.heap.size+1)) #[] #[]] },W1,gf,
  #[.func (.yield (w.heap.size+1)) #[] #[]]++lb,W1,?_,?_,?_,?_,fun _=>h1,?_⟩
 ·rw[←hW1,hrec];exact run_enterLoop_outer _ _ _ _ _
 ·simp only[resolve,hg];simp[go_sem]
 ·intro f' hf';simp[Target.leads] at hf';subst hf';exact hFg
 ·simp[invoke,go_sem,eg]
 obtain⟨J,hJ⟩:∃ J:(Nat→Prop)→List α→World→Prop,J=fun O pre W=>I O pre W∧W.heap[w.heap.size+1]? = some (.loop (rec .ready))∧W.heap[w.heap.size]? = some (.deferred (some []))∧¬O (w.heap.size+1)∧¬O w.heap.size:=⟨_,rfl⟩
 have hst:Stands (w.heap.size+2) t J:=by
  subst hJ;refine⟨fun{O b W W'} h hb=>?_,fun h ho=>⟨hI.less h.1 ho,h.2.1,h.2.2.1,fun hk=>h.2.2.2.1 (ho _ hk),fun hk=>h.2.2.2.2 (ho _ hk)⟩,fun{O b W g i cs} v h hB hg hb=>?_⟩
  ·obtain⟨hi,hl,hd,ho1,ho2⟩:=h;have hlt:=(Array.getElem?_eq_some_iff.1 hl).1;refine⟨hI.grow hi hb,(hb.block _ hlt).trans hl,(hb.block _ (by omega)).trans hd,?_,?_⟩
   ·rintro(hk|⟨hk,_⟩)
    ·exact ho1 hk
    ·omega
   ·rintro(hk|⟨hk,_⟩)
    ·exact ho2 hk
    ·omega
  ·obtain⟨hi,hl,hd,ho1,ho2⟩:=h;exact⟨hI.set_ v hi hB hg hb,(Below.heap_setCell W _ v _ (by show w.heap.size+1≠g;omega)).trans hl,(Below.heap_setCell W _ v _ (by show w.heap.size≠g;omega)).trans hd,ho1,ho2⟩
 refine(hseq (w.heap.size+1) J W1 hb1 (by omega) hst ?_ (by subst hJ;exact⟨hI1,hL1,hD1,fun hk=>by have:=hO0 _ hk;omega,fun hk=>by have:=hO0 _ hk;omega⟩)).mono ?_
 ·subst hJ;rintro O pre x W ⟨hi,hl,hd,ho1,ho2⟩ hgx hOs;have hy:=run_yield (P:=P) (args:=encs x) hl (by rw[hrec];exact hps x);rw[hrec] at hy;refine⟨fn,_,assign,body,hy,roundIn_of_wpIn hfn (hassign _ O pre x W _ hi hgx hOs ?_)⟩;clear hy;intro a' Wa hko hho hround;have hla:=hko.same _ _ hl rfl;have hda:=hko.same _ _ hd rfl;refine⟨_,run_beginRound hla (by rw[hrec]),wpIn_mono (hround _ _ (.loop { rec .ready with state:=.busy }) (by omega) ho1 hla rfl) ?_⟩;rintro e a3 W3 ⟨rfl,hk3,hh3,hi3⟩;have hlt:=(Array.getElem?_eq_some_iff.1 hla).1;have hl2:(Wa.putObj (w.heap.size+1) (.loop { rec .ready with state:=.busy })).heap[w.heap.size+1]? = some (.loop { rec .ready with state:=.busy }):=World.putObj_heap_same hlt;have hl3:=hk3.same _ _ hl2 rfl;have hd3:=hk3.same _ _ ((World.putObj_heap_other (by omega)).trans hda) rfl;have hr:=run_endRound (P:=P) none hl3;rw[hrec] at hr;rw[hrec] at hl3;refine⟨_,_,hr,rfl,⟨hIp _ _ _ _ _ _ hi3 (by omega) ho1 hl3 rfl,by rw[hrec];exact World.putObj_heap_same (Array.getElem?_eq_some_iff.1 hl3).1,(World.putObj_heap_other (by omega)).trans hd3,ho1,ho2⟩,?_⟩;exact hho.trans ((HoldsOn.putObj _ _ ho1).trans (hh3.trans (HoldsOn.putObj _ _ ho1)))
 ·rintro e W2 ⟨⟨v,rfl⟩,O,xs,hS,hJx⟩;subst hJ;obtain⟨hi,hl,hd,ho1,ho2⟩:=hJx;exact⟨none,_,by have:=run_endLoop (P:=P) hl (by rw[hrec];simp);rw[hrec] at this;exact this,hdone _ O xs _ (Nat.le_refl _) hS (hIp _ _ _ _ _ _ hi (by omega) ho1 hl rfl) ((World.putObj_heap_other (by omega)).trans hd)⟩
end Go.Proofs.YtjobifclmcdjcaaGreatDoor
