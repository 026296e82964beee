import Derived.Deep.Cut
import Derived.Test.YtjobifclmcdjcaaGreatDoorGStqH
import Derived.Test.YtjobifclmcdjcaaGreatDoorGStpW
import Derived.Test.YtjobifclmcdjcaaGreatDoorGCodE
import Derived.Test.YtjobifclmcdjcaaGreatDoorGRunD
import Derived.Test.YtjobifclmcdjcaaGreatDoorGStpR
set_option maxHeartbeats 64000000
set_option maxRecDepth 100000
namespace Go.Proofs.YtjobifclmcdjcaaGreatDoor
open Go.RowKit Go.Shelf Go.Sort
attribute [local go_sem] Oper.semAt_some
theorem z3a(l:List Tb.PR):∀ x ∈ fewT l,Fits x:=fun x hx=>by
 obtain⟨y,_,rfl⟩:=List.mem_map.1 hx
 exact⟨by simp[cutR6];omega,by simp[cutR6];omega,by simp[cutR6];omega⟩
theorem z78{v tv:Value}{names:List ByteArray}{up:List Nat}{s:St.State}{RA:Option Addr}{l:List Tb.PR}(rc:Nat)(w:World)(h:IsLat w w.heap.size v names up)(hs:IsSt w w.heap.size tv s)(hsm:SmallS s)(hr:RowsIn w w.heap.size RA l)(hf:∀ x ∈ l,Fits x) :
  Calls Tryz.prog 12 #[v,.agg #[.slice RA l.length rc],tv] w fun e w'=>e=.returned (.int .i64 (chk10 names up l s:Nat))∧Below w.heap.size w w':=by
 obtain⟨⟨N,U,c1,c2,rfl,hN,hU⟩,-⟩:=id h;obtain⟨_,_,_,_,_,_,_,_,_,_,_,_,_,_,rfl,ho⟩:=q85 hs;exact z43 rc w h ho hsm hr hf
end Go.Proofs.YtjobifclmcdjcaaGreatDoor
namespace Go.Proofs.YtjobifclmcdjcaaGreatDoor
open Go.RowKit Go.Shelf
attribute [local go_sem] Oper.semAt_some
def RR(n0 B:Nat)(ob:Option Nat)(W:World)(A:Option Addr)(xs:List Value):Prop :=
 xs≠[]→∃ ad,A=some ad∧ad.block<W.heap.size∧(ad.block<n0∨(B≤ad.block∧ob≠some ad.block))∧∀ j u,xs[j]? = some u→W.cell? (ad.add j)=some u
section
variable {n0 B:Nat} {ob:Option Nat} {W X:World} {A:Option Addr} {xs:List Value}
theorem RR.row(h:RR n0 B ob W A xs):Row W W.heap.size A xs:=fun hn=>by
 obtain⟨ad,e,h1,-,h2⟩:=h hn
 exact⟨ad,e,h1,h2⟩
theorem RR.keep(h:RR n0 B ob W A xs)(hs:W.heap.size≤X.heap.size)(hk:∀ k,k<W.heap.size→(k<n0∨(B≤k∧ob≠some k))→X.heap[k]? = W.heap[k]?){ob':Option Nat}(ho:∀ k,k<W.heap.size→ob≠some k→ob'≠some k):RR n0 B ob' X A xs:=fun hn=>by
 obtain⟨ad,e,h1,h2,h3⟩:=h hn
 refine⟨ad,e,Nat.lt_of_lt_of_le h1 hs,h2.imp id (fun h=>⟨h.1,ho _ h1 h.2⟩),fun j u hu=>?_⟩
 rw[←h3 j u hu]
 refine World.cell?_of_block ?_
 rw[q0a]
 exact hk _ h1 h2
theorem RR.of_row(h:Row W n0 A xs)(hn:n0≤W.heap.size):RR n0 B ob W A xs:=fun hx=>by
 obtain⟨ad,e,h1,h2⟩:=h hx
 exact⟨ad,e,by omega,.inl h1,h2⟩
theorem RR.told{R:Option Addr}{rs:List Value}(h:RR n0 B ob W R rs)(hr:Row X X.heap.size A xs)(hl:Lies10 W.heap.size R rs A xs)(hB:B≤W.heap.size)(ho:∀ k,ob=some k→k<W.heap.size):RR n0 B ob X A xs:=fun hn=>by
 obtain⟨ad,e,h1,h2⟩:=hr hn
 refine⟨ad,e,h1,?_,h2⟩
 rcases hl ad e hn with⟨hA,hrs⟩|hA
 ·obtain⟨ad',e',-,h3,-⟩:=h hrs
  rw[←hA,e] at e'
  injection e' with e'
  subst e'
  exact h3
 ·exact .inr ⟨by omega,fun e=>by have:=ho _ e;omega⟩
end
structure ElR (n0 B:Nat) (ob:Option Nat) (W:World) (x:El):Prop where
 eq:x.val=stv x.s (.slice x.A1 x.n1 x.d1) (.slice x.A2 x.n2 x.d2) (.slice x.A3 x.n3 x.d3) (.slice x.A4 x.n4 x.d4)
 len:x.s.code.length=x.n1∧x.s.mem.length=x.n2∧x.s.stack.length=x.n3∧x.s.out.length=x.n4
 cap:x.n1≤x.d1∧x.n2≤x.d2∧x.n3≤x.d3∧x.n4≤x.d4
 code:RR n0 B ob W x.A1 (icells x.s.code)
 mem:RR n0 B ob W x.A2 (fcells avs x.s.mem)
 stack:RR n0 B ob W x.A3 (fcells svs x.s.stack)
 out:RR n0 B ob W x.A4 (fcells avs x.s.out)
section
variable {n0 B:Nat} {ob:Option Nat} {W X:World} {x:El}
theorem ElR.keep(h:ElR n0 B ob W x)(hs:W.heap.size≤X.heap.size)(hk:∀ k,k<W.heap.size→(k<n0∨(B≤k∧ob≠some k))→X.heap[k]? = W.heap[k]?){ob':Option Nat}(ho:∀ k,k<W.heap.size→ob≠some k→ob'≠some k):ElR n0 B ob' X x :=
 ⟨h.eq,h.len,h.cap,h.code.keep hs hk ho,h.mem.keep hs hk ho,h.stack.keep hs hk ho,h.out.keep hs hk ho⟩
theorem ElR.below(h:ElR n0 B ob W x)(hb:Below W.heap.size W X):ElR n0 B ob X x:=h.keep hb.size (fun k hk _=>hb.block k hk) (fun _ _ h=>h)
theorem ElR.set_(h:ElR n0 B ob W x){p:Addr}(hp:n0≤p.block∧p.block<B)(u:Value):ElR n0 B ob (W.setCell p u) x :=
 h.keep (by simp) (fun k _ hk=>Below.heap_setCell W p u k (by omega)) (fun _ _ h=>h)
theorem ElR.isSt(h:ElR n0 B ob W x):IsSt W W.heap.size x.val x.s:=by
 refine⟨_,_,_,_,h.eq,⟨x.A1,x.d1,by rw[h.len.1],h.code.row,by rw[h.len.1];exact h.cap.1⟩,⟨x.A2,x.d2,by rw[h.len.2.1],h.mem.row,by rw[h.len.2.1];exact h.cap.2.1⟩,⟨x.A3,x.d3,by rw[h.len.2.2.1],h.stack.row,by rw[h.len.2.2.1];exact h.cap.2.2.1⟩,⟨x.A4,x.d4,by rw[h.len.2.2.2],h.out.row,by rw[h.len.2.2.2];exact h.cap.2.2.2⟩⟩
end
theorem z51{n0 B:Nat}{ob:Option Nat}{W:World}{s:St.State}{a b:Int}{A1 A2 A3 A4:Option Addr}{n1 d1 n2 d2 n3 d3 n4 d4:Nat}(h:Op10 W s a b A1 n1 d1 A2 n2 d2 A3 n3 d3 A4 n4 d4)(c:Nat)(h1:RR n0 B ob W A1 (icells s.code))(h2:RR n0 B ob W A2 (fcells avs s.mem))(h3:RR n0 B ob W A3 (fcells svs s.stack))(h4:RR n0 B ob W A4 (fcells avs s.out)):ElR n0 B ob W ⟨a,b,A1,n1,d1,A2,n2,d2,A3,n3,d3,A4,n4,d4,s,c⟩:=by
 refine⟨?_,⟨h.cn,h.mn,h.sn,h.on⟩,⟨h.kc,h.km,h.ks,h.ko⟩,h1,h2,h3,h4⟩;unfold El.val stv;dsimp only;rw[h.pv,h.pl]
theorem j10{W:World}{tv:Value}{s:St.State}(h:IsSt W W.heap.size tv s)(B:Nat):∃ x:El,x.s=s∧x.val=tv∧ElR W.heap.size B none W x:=by
 obtain⟨pv,pl,cA,cN,cc,mA,mN,mc,sA,sN,sc,oA,oN,oc,rfl,ho⟩:=q85 h;exact⟨⟨pv,pl,cA,cN,cc,mA,mN,mc,sA,sN,sc,oA,oN,oc,s,0⟩,rfl,rfl,z51 ho 0 (RR.of_row ho.rc (Nat.le_refl _)) (RR.of_row ho.rm (Nat.le_refl _)) (RR.of_row ho.rs (Nat.le_refl _)) (RR.of_row ho.ro (Nat.le_refl _))⟩
theorem z2r{n0 B:Nat}{ob:Option Nat}{v:Value}{names:List ByteArray}{up:List Nat}{x:El}{RA:Option Addr}{l:List Tb.PR}(rc:Nat)(w:World)(h:IsLat w w.heap.size v names up)(hx:ElR n0 B ob w x)(hr:RowsIn w w.heap.size RA l)(hck:chk10 names up l x.s=0)(hB:B≤w.heap.size)(ho:∀ k,ob=some k→k<w.heap.size) :
  Calls Tryz.prog 15 #[v,.agg #[.slice RA l.length rc],x.val] w fun e w'=>∃ y:El,y.s=(stepF names up l x.s).1∧e=.returned (.agg #[.int .i64 y.a,.int .i64 y.b,.slice y.A1 y.n1 y.d1,.slice y.A2 y.n2 y.d2,.slice y.A3 y.n3 y.d3,.slice y.A4 y.n4 y.d4,.int .i64 ((stepF names up l x.s).2:Int)])∧ElR n0 B ob w' y∧Below w.heap.size w w':=by
 obtain⟨⟨N,U,c1,c2,rfl,hN,hU⟩,-⟩:=id h;obtain⟨a,b,A1,n1,d1,A2,n2,d2,A3,n3,d3,A4,n4,d4,s,c⟩:=x;have he:=hx.eq;unfold El.val stv at he;dsimp only at he hck;injection he with he;simp only[Array.mk.injEq,List.cons.injEq,Value.int.injEq,true_and,and_true] at he;obtain⟨rfl,rfl⟩:=he;have hop:Op10 w s s.pc.v s.pc.l A1 n1 d1 A2 n2 d2 A3 n3 d3 A4 n4 d4:=⟨rfl,rfl,hx.len.1,hx.len.2.1,hx.len.2.2.1,hx.len.2.2.2,hx.code.row,hx.mem.row,hx.stack.row,hx.out.row,hx.cap.1,hx.cap.2.1,hx.cap.2.2.1,hx.cap.2.2.2⟩
 obtain⟨p,hp⟩:∃ p:Nat,s.pc.v=(p:Int):=⟨s.pc.v.toNat,by
  have:=(Sp.right_len (q3t hck).2.2).2.2.2.2.1
  omega⟩
 unfold El.val;dsimp only;rw[hp] at hop ⊢;refine(z1s rc p w h hop hr hck).mono ?_;rintro e w' ⟨a',b',A1',n1',d1',A2',n2',d2',A3',n3',d3',A4',n4',d4',rfl,ho',hb,hl1,hl2,hl3,hl4⟩;exact⟨⟨a',b',A1',n1',d1',A2',n2',d2',A3',n3',d3',A4',n4',d4',_,0⟩,rfl,rfl,z51 ho' 0 (hx.code.told ho'.rc hl1 hB ho) (hx.mem.told ho'.rm hl2 hB ho) (hx.stack.told ho'.rs hl3 hB ho) (hx.out.told ho'.ro hl4 hB ho),hb⟩
def stq(names:List ByteArray)(up:List Nat)(l:List Tb.PR)(n:Nat)(s:St.State):List St.State:=(Rn.seq (stepF names up l) n s).map (·.1)
structure RO (w:World) (ys:List El) (v:Value) (W:World):Prop where
 own:W.ownsRow (w.heap.size+5) 35 6 v ys.length (fcells El.cells ys)
 el:∀ y ∈ ys,ElR w.heap.size (w.heap.size+5) v.ownBlock W y
 below:Below w.heap.size w W
 big:w.heap.size+5≤W.heap.size
theorem RO.keep{w W W':World}{ys:List El}{v:Value}(h:RO w ys v W)(hb:Below W.heap.size W W'):RO w ys v W' :=
 ⟨q0o h.own hb,fun y hy=>(h.el y hy).below hb,h.below.trans (hb.mono h.below.size),Nat.le_trans h.big hb.size⟩
theorem RO.set_{w W:World}{ys:List El}{v:Value}(h:RO w ys v W){p:Addr}(hp:w.heap.size≤p.block∧p.block<w.heap.size+5)(u:Value):RO w ys v (W.setCell p u) :=
 ⟨q0g h.own (fun e=>by have:=(h.own.lt _ e).1;omega) u,fun y hy=>(h.el y hy).set_ hp u,h.below.setCell hp.1 u,by simpa using h.big⟩
theorem RO.six{w W:World}{ys:List El}{v:Value}(h:RO w ys v W){g:Nat}(hp:w.heap.size≤g∧g<w.heap.size+5)(a0 a1 a2 a3 a4 a5:Value):RO w ys v ((((((W.setCell ⟨g,0,none⟩ a0).setCell ⟨g,1,none⟩ a1).setCell ⟨g,2,none⟩ a2).setCell ⟨g,3,none⟩ a3).setCell ⟨g,4,none⟩ a4).setCell ⟨g,5,none⟩ a5) :=
 (((((h.set_ (p:=⟨g,0,none⟩) hp a0).set_ (p:=⟨g,1,none⟩) hp a1).set_ (p:=⟨g,2,none⟩) hp a2).set_ (p:=⟨g,3,none⟩) hp a3).set_ (p:=⟨g,4,none⟩) hp a4).set_ (p:=⟨g,5,none⟩) hp a5
theorem ElR.six{n0 B:Nat}{ob:Option Nat}{W:World}{x:El}(h:ElR n0 B ob W x){g:Nat}(hp:n0≤g∧g<B)(a0 a1 a2 a3 a4 a5:Value):ElR n0 B ob ((((((W.setCell ⟨g,0,none⟩ a0).setCell ⟨g,1,none⟩ a1).setCell ⟨g,2,none⟩ a2).setCell ⟨g,3,none⟩ a3).setCell ⟨g,4,none⟩ a4).setCell ⟨g,5,none⟩ a5) x :=
 (((((h.set_ (p:=⟨g,0,none⟩) hp a0).set_ (p:=⟨g,1,none⟩) hp a1).set_ (p:=⟨g,2,none⟩) hp a2).set_ (p:=⟨g,3,none⟩) hp a3).set_ (p:=⟨g,4,none⟩) hp a4).set_ (p:=⟨g,5,none⟩) hp a5
theorem RO.app{w W W1 W2:World}{ys:List El}{x:El}{v v':Value}{o:Obj}(h:RO w ys v W)(hx:ElR w.heap.size (w.heap.size+5) v.ownBlock W x)(hW1:W.alloc o=W1)(hown':W2.ownsRow (w.heap.size+5) 35 6 v' (ys.length+1) (fcells El.cells ys++x.cells))(hg:W1.grownBy W2 v.ownBlock)(hwh:v'.ownBlock=v.ownBlock∨v'.ownBlock=some W1.heap.size) :
  RO w (ys++[x]) v' W2∧ElR w.heap.size (w.heap.size+5) v'.ownBlock W2 x∧∀ k,k<w.heap.size+5→W2.heap[k]? = W.heap[k]?:=by
 have ha:Below W.heap.size W W1:=by rw[←hW1];exact(Below.refl _ W).alloc (Nat.le_refl _) o
 have hlow:∀ k,v.ownBlock=some k→w.heap.size+5≤k∧k<W.heap.size:=h.own.lt;have hel:∀ y,ElR w.heap.size (w.heap.size+5) v.ownBlock W y→ElR w.heap.size (w.heap.size+5) v'.ownBlock W2 y:=fun y hy =>
  hy.keep (Nat.le_trans ha.size hg.size) (fun k hk hr=>(hg.block k (Nat.lt_of_lt_of_le hk ha.size) (fun e=>by
   have:=(hlow k e.symm).1;rcases hr with hr|⟨-,hr⟩
   ·omega
   ·exact hr e.symm)).trans (ha.block k hk)) (fun k hk hn e=>by
   rcases hwh with h1|h1
   ·rw[h1] at e;exact hn e
   ·rw[h1] at e;injection e with e;have:=ha.size;omega)
 refine⟨⟨by rw[List.length_append,q4c];exact hown',fun y hy=>?_,(h.below.trans (ha.mono h.below.size)).trans ((Below.refl _ W1).grown hg (Nat.le_trans h.below.size ha.size) (fun k e=>by have:=(hlow k e).1;omega)),Nat.le_trans h.big (Nat.le_trans ha.size hg.size)⟩,hel x hx,fun k hk=>?_⟩
 ·rcases List.mem_append.1 hy with hy|hy
  ·exact hel y (h.el y hy)
  ·rw[List.mem_singleton] at hy;subst hy;exact hel _ hx
 ·have hb:=h.big;exact(hg.block k (by have:=ha.size;omega) (fun e=>by have:=(hlow k e.symm).1;omega)).trans (ha.block k (by omega))
structure RI (w:World) (names:List ByteArray) (up:List Nat) (l:List Tb.PR) (N U RA:Option Addr) (n1 c1 n2 c2 nl rc:Nat) (s:St.State) (fuel a:Nat) (x:El) (ys:List El) (v:Value) (W:World):Prop where
 kl:Blk W w.heap.size 25 #[.slice N n1 c1,.slice U n2 c2]
 kt:Blk W (w.heap.size+1) 28 #[.slice RA nl rc]
 ks:Blk W (w.heap.size+2) 35 #[.int .i64 x.a,.int .i64 x.b,.slice x.A1 x.n1 x.d1,.slice x.A2 x.n2 x.d2,.slice x.A3 x.n3 x.d3,.slice x.A4 x.n4 x.d4]
 kz:Blk W (w.heap.size+3) 64 #[.slice none 0 0,.int .i64 0]
 kr:Blk W (w.heap.size+4) 64 #[v,.int .i64 0]
 row:RO w ys v W
 cur:ElR w.heap.size (w.heap.size+5) v.ownBlock W x
 seq:sts ys++(stq names up l (fuel-a) x.s).tail=stq names up l fuel s
 cam:Rn.came (Rn.seq (stepF names up l) (fuel-a) x.s)=Rn.came (Rn.seq (stepF names up l) fuel s)
 len:ys.length=a+1
 ok:chk10 names up l x.s=0
theorem q1n{W W':World}{g:Nat}{t:TypeId}{cs:Array Value}(h:Blk W g t cs)(he:W'.heap[g]? = W.heap[g]?):Blk W' g t cs:=he.trans h
theorem j2a{names:List ByteArray}{up:List Nat}{l:List Tb.PR}{L:List St.State}{s s' s2:St.State}{fuel a:Nat}(h:L++(stq names up l (fuel-a) s').tail=stq names up l fuel s)(ha:a<fuel)(hf:stepF names up l s'=(s2,0)) :
  (L++[s2])++(stq names up l (fuel-(a+1)) s2).tail=stq names up l fuel s:=by
 rw[←h,show fuel-a=(fuel-(a+1))+1 by omega];unfold stq;rw[Rn.seq_succ,hf,if_pos rfl];obtain⟨c,t,ht⟩:=Rn.seq_head (stepF names up l) (fuel-(a+1)) s2;dsimp only;rw[ht];simp
theorem z9r{names:List ByteArray}{up:List Nat}{l:List Tb.PR}{L:List St.State}{s s' s2:St.State}{fuel a c:Nat}(h:L++(stq names up l (fuel-a) s').tail=stq names up l fuel s)(ha:a<fuel)(hf:stepF names up l s'=(s2,c))(hc:c≠0):L=stq names up l fuel s:=by
 rw[←h,show fuel-a=(fuel-a-1)+1 by omega];unfold stq;rw[Rn.seq_succ,hf,if_neg hc];simp
theorem j2f{names:List ByteArray}{up:List Nat}{l:List Tb.PR}{s' s2:St.State}{fuel a m:Nat}(h:Rn.came (Rn.seq (stepF names up l) (fuel-a) s')=m)(ha:a<fuel)(hf:stepF names up l s'=(s2,0)):Rn.came (Rn.seq (stepF names up l) (fuel-(a+1)) s2)=m:=by
 rw[show fuel-a=(fuel-(a+1))+1 by omega,Rn.seq_succ,hf,if_pos rfl,Rn.came_cons (Rn.seq_ne _ _ _)] at h;exact h
theorem z8t{names:List ByteArray}{up:List Nat}{l:List Tb.PR}{s' s2:St.State}{fuel a m c:Nat}(h:Rn.came (Rn.seq (stepF names up l) (fuel-a) s')=m)(ha:a<fuel)(hf:stepF names up l s'=(s2,c))(hc:c≠0):c=m:=by
 rw[show fuel-a=(fuel-a-1)+1 by omega,Rn.seq_succ,hf,if_neg hc] at h;exact h
def RRuns(names:List ByteArray)(up:List Nat)(l:List Tb.PR)(s:St.State)(fuel:Nat)(w:World)(e:Ending)(w':World):Prop :=
 ∃(A:Option Addr) (ys:List El) (cap:Nat),e=.returned (.agg #[.slice A ys.length cap,.int .i64 (Rn.came (Rn.seq (stepF names up l) fuel s):Int)])∧ys.length≤cap∧StsIn w' w'.heap.size A ys∧sts ys=stq names up l fuel s∧Below w.heap.size w w'
theorem z5w{tv:Value}{names:List ByteArray}{up:List Nat}{s:St.State}{N U RA:Option Addr}{n1 c1 n2 c2:Nat}{l:List Tb.PR}(rc fuel:Nat)(w:World)(h:IsLat w w.heap.size (.agg #[.slice N n1 c1,.slice U n2 c2]) names up)(hst:IsSt w w.heap.size tv s)(hr:RowsIn w w.heap.size RA l)(hck:chk10 names up l s=0)(hfu:fuel≤40) :
  Calls Tryz.prog 26 #[.agg #[.slice N n1 c1,.slice U n2 c2],.agg #[.slice RA l.length rc],tv,.int .i64 (fuel:Int)] w (RRuns names up l s fuel w):=by
 obtain⟨x,hxs,rfl,hxr⟩:=j10 hst (w.heap.size+5);subst hxs;obtain⟨nl,hnl⟩:∃ n,l.length=n:=⟨_,rfl⟩;obtain⟨s,hs⟩:∃ t,x.s=t:=⟨_,rfl⟩;obtain⟨i0,hi,hz0,hz1,hz2⟩:=info_parts Tryz.infoSt;have HLA:=η h;have HRO:=η hr;have HNL:=η hnl;have hckx:=hck;rw[hs] at hck ⊢;rw[hnl];obtain⟨W1,hW1⟩:∃ W1,w.alloc (.cells #[.slice N n1 c1,.slice U n2 c2] 25)=W1:=⟨_,rfl⟩;have z1:W1.heap.size=w.heap.size+1:=by rw[←hW1];simp
 have k1:Blk W1 w.heap.size 25 #[.slice N n1 c1,.slice U n2 c2]:=by rw[←hW1];exact Blk.new _ _ _
 have b1:Below w.heap.size w W1:=by rw[←hW1];exact(Below.refl _ _).alloc (Nat.le_refl _) _
 obtain⟨W2,hW2⟩:∃ W2,W1.alloc (.cells #[.slice RA nl rc] 28)=W2:=⟨_,rfl⟩;have z2:W2.heap.size=w.heap.size+2:=by rw[←hW2];simp;omega
 have k2:Blk W2 (w.heap.size+1) 28 #[.slice RA nl rc]:=by rw[←hW2];exact Blk.new' _ _ _ _ z1
 have b2:Below W1.heap.size W1 W2:=by rw[←hW2];exact(Below.refl _ _).alloc (Nat.le_refl _) _
 obtain⟨W3,hW3⟩:∃ W3,W2.alloc (.cells #[.int .i64 x.a,.int .i64 x.b,.slice x.A1 x.n1 x.d1,.slice x.A2 x.n2 x.d2,.slice x.A3 x.n3 x.d3,.slice x.A4 x.n4 x.d4] 35)=W3:=⟨_,rfl⟩;have z3:W3.heap.size=w.heap.size+3:=by rw[←hW3];simp;omega
 have k3:Blk W3 (w.heap.size+2) 35 #[.int .i64 x.a,.int .i64 x.b,.slice x.A1 x.n1 x.d1,.slice x.A2 x.n2 x.d2,.slice x.A3 x.n3 x.d3,.slice x.A4 x.n4 x.d4]:=by rw[←hW3];exact Blk.new' _ _ _ _ z2
 have b3:Below W2.heap.size W2 W3:=by rw[←hW3];exact(Below.refl _ _).alloc (Nat.le_refl _) _
 obtain⟨W4,hW4⟩:∃ W4,W3.alloc (.cells #[.slice none 0 0,.int .i64 0] 64)=W4:=⟨_,rfl⟩;have z4:W4.heap.size=w.heap.size+4:=by rw[←hW4];simp;omega
 have k4:Blk W4 (w.heap.size+3) 64 #[.slice none 0 0,.int .i64 0]:=by rw[←hW4];exact Blk.new' _ _ _ _ z3
 have b4:Below W3.heap.size W3 W4:=by rw[←hW4];exact(Below.refl _ _).alloc (Nat.le_refl _) _
 obtain⟨W5,hW5⟩:∃ W5,W4.alloc (.cells #[.slice none 0 0,.int .i64 0] 64)=W5:=⟨_,rfl⟩;have z5:W5.heap.size=w.heap.size+5:=by rw[←hW5];simp;omega
 have k5:Blk W5 (w.heap.size+4) 64 #[.slice none 0 0,.int .i64 0]:=by rw[←hW5];exact Blk.new' _ _ _ _ z4
 have b5:Below W4.heap.size W4 W5:=by rw[←hW5];exact(Below.refl _ _).alloc (Nat.le_refl _) _
 have b35:Below W3.heap.size W3 W5:=b4.trans (b5.mono b4.size);have b25:Below W2.heap.size W2 W5:=b3.trans (b35.mono b3.size);have b15:Below W1.heap.size W1 W5:=b2.trans (b25.mono b2.size);have b05:Below w.heap.size w W5:=b1.trans (b15.mono b1.size);have K1:=η (k1.below b15 k1.lt);have K2:=η (k2.below b25 k2.lt);have K3:=η (k3.below b35 k3.lt);have K4:=η (k4.below b5 k4.lt);have K5:=η k5;have B5:=η b05;have Z5:=η z5;have XR:=η (hxr.below b05);have HCK:=η hck;have HS:=η hs;clear h hst hr hck hckx hnl hxr z1 z2 z3 z4 z5 k1 k2 k3 k4 k5 b1 b2 b3 b4 b5 b35 b25 b15 b05 hs;obtain⟨xa,xb,A1,m1,d1,A2,m2,d2,A3,m3,d3,A4,m4,d4,xs,xc⟩:=x;dsimp only at K3 hW3 HS;unfold El.val;dsimp only;obtain⟨s0,s1,s2,s3,s4,s5⟩:=ζ6 K3.out;have r0:W5.cell? ⟨w.heap.size+4,0,none⟩=some (.slice none 0 0):=K5.out.cell 0;have f0:=K5.out.frozen 0;have HW:=η (show(((((w.alloc (.cells #[.slice N n1 c1,.slice U n2 c2] 25)).alloc (.cells #[.slice RA nl rc] 28)).alloc (.cells #[.int .i64 xa,.int .i64 xb,.slice A1 m1 d1,.slice A2 m2 d2,.slice A3 m3 d3,.slice A4 m4 d4] 35)).alloc (.cells #[.slice none 0 0,.int .i64 0] 64)).alloc (.cells #[.slice none 0 0,.int .i64 0] 64))=W5 by rw[hW1,hW2,hW3,hW4,hW5]);clear hW1 hW2 hW3 hW4 hW5;go_enter Tryz.func26,Tryz.ntmps26;go_upto_region 2 with(fail);rw[HW.out];clear HW;go_wp2_with (at_builtin;refine wpList_append_own_at _ rfl _ _ 59 rfl (w.heap.size+5) 35 i0 (.agg #[.int .i64 0,.int .i64 0,.slice none 0 0,.slice none 0 0,.slice none 0 0,.slice none 0 0]) 6 112 Tryz.underlying59 hi hz0 hz1 hz2 rfl (by decide) _ _ _ rfl (World.ownsRow_nil _ _ _ _) ⟨W5.heap.size,0,none⟩ 1 1 [.int .i64 xa,.int .i64 xb,.slice A1 m1 d1,.slice A2 m2 d2,.slice A3 m3 d3,.slice A4 m4 d4] rfl rfl ?e1 ?e2 ?e3 ?e4 ?e5 ?_);case e1=>exact q4k _ _ _
 case e2=>simp[Value.oneCell']
 case e3=>unfold maxLen;omega
 case e4=>omega
 case e5=>have:=Z5.out;simp;omega
 intro v' w6 hown' hgrow _ hwh;have hro:RO w [] (.slice none 0 0) W5:=⟨World.ownsRow_nil _ _ _ _,fun y hy=>(nomatch hy),B5.out,by rw[Z5.out];exact Nat.le_refl _⟩;obtain⟨hr6,hx6,hsame⟩:=hro.app (x:=⟨xa,xb,A1,m1,d1,A2,m2,d2,A3,m3,d3,A4,m4,d4,xs,xc⟩) XR.out rfl hown' hgrow (by rw[World.size_alloc];exact hwh);have q1:=q1n K1.out (hsame _ (by omega));have q2:=q1n K2.out (hsame _ (by omega));have q3:=q1n K3.out (hsame _ (by omega));have q4:=q1n K4.out (hsame _ (by omega));have q5:=q1n K5.out (hsame _ (by omega));obtain⟨Av,cv,rfl⟩:=q0b hown';obtain⟨W7,hW7⟩:∃ W7,w6.setCell ⟨w.heap.size+4,0,none⟩ (.slice Av (0+1) cv)=W7:=⟨_,rfl⟩;have hri:RI w names up l N U RA n1 c1 n2 c2 nl rc s fuel 0 ⟨xa,xb,A1,m1,d1,A2,m2,d2,A3,m3,d3,A4,m4,d4,xs,xc⟩ [⟨xa,xb,A1,m1,d1,A2,m2,d2,A3,m3,d3,A4,m4,d4,xs,xc⟩] (.slice Av 1 cv) W7:=by
  rw[←hW7];refine⟨q1.other (by show w.heap.size+4≠_;omega) _,q2.other (by show w.heap.size+4≠_;omega) _,q3.other (by show w.heap.size+4≠_;omega) _,q4.other (by show w.heap.size+4≠_;omega) _,q5.set_ 0 _,hr6.set_ (p:=⟨w.heap.size+4,0,none⟩) (by show _≤w.heap.size+4∧w.heap.size+4<_;omega) _,hx6.set_ (p:=⟨w.heap.size+4,0,none⟩) (by show _≤w.heap.size+4∧w.heap.size+4<_;omega) _,?_,?_,rfl,?_⟩
  ·dsimp only;rw[Nat.sub_zero,HS.out];unfold stq sts;obtain⟨c,t,ht⟩:=Rn.seq_head (stepF names up l) fuel s;rw[ht,List.map_singleton,List.map_cons,List.tail_cons];rfl
  ·dsimp only;rw[Nat.sub_zero,HS.out]
  ·dsimp only;rw[HS.out];exact HCK.out
 have HRI:=η hri;have r0':w6.cell? ⟨w.heap.size+4,0,none⟩=some (.slice none 0 0):=q5.cell 0;have f0':=q5.frozen 0;clear hri hro hr6 hx6 hsame q1 q2 q3 q4 q5 hown' hgrow hwh K1 K2 K3 K4 K5 XR s0 s1 s2 s3 s4 s5 r0 f0 B5 Z5;go_wp2;go_loopw [10] (fun i wr=>∃(k:Nat) (x:El) (ys:List El) (Av:Option Addr) (n cv:Nat),k≤fuel∧i=.int .i64 (k:Int)∧ys.length=n∧Hid (RI w names up l N U RA n1 c1 n2 c2 nl rc s fuel k x ys (.slice Av n cv) wr)) (fun i _=>fuel-(intOf i).toNat);case atStart=>exact⟨0,_,_,_,_,_,Nat.zero_le _,rfl,rfl,HRI⟩
 case round =>
  clear HRI;obtain⟨k,⟨xa,xb,A1,m1,d1,A2,m2,d2,A3,m3,d3,A4,m4,d4,xs,xc⟩,ys,Av,n,cv,hk,rfl,hyn,HR⟩:=hrel;have HYN:=η hyn;clear hyn;by_cases hlt:k<fuel
  ·have hqt:decide ((k:Int)<(fuel:Int))=true:=decide_eq_true (by omega);have hks:=HR.out.ks;have hok:=HR.out.ok;dsimp only at hks hok;obtain⟨hnx,-,-⟩:=q7a hok;obtain⟨⟨s2,c⟩,hf⟩:∃ r,stepF names up l xs=r:=⟨_,rfl⟩;have hC:=z2r (ob:=(Value.slice Av n cv).ownBlock) (l:=l) (RA:=RA) rc wr ((HLA.out.below HR.out.row.below).more HR.out.row.below.size) HR.out.cur ((HRO.out.below HR.out.row.below).more HR.out.row.below.size) hok HR.out.row.big (fun k hk=>(HR.out.row.own.lt k hk).2);rw[HNL.out] at hC;unfold El.val at hC;dsimp only at hC;rw[hf] at hC hnx;dsimp only at hC hnx;have HC:=η hC;have HNX:=η hnx;have HF:=η hf;obtain⟨l0,l1⟩:=ζ2 HR.out.kl;have t0:wr.cell? ⟨w.heap.size+1,0,none⟩=some (.slice RA nl rc):=HR.out.kt.cell 0;have s0:wr.cell? ⟨w.heap.size+2,0,none⟩=some (.int .i64 xa):=hks.cell 0;have s1:wr.cell? ⟨w.heap.size+2,1,none⟩=some (.int .i64 xb):=hks.cell 1;have s2':wr.cell? ⟨w.heap.size+2,2,none⟩=some (.slice A1 m1 d1):=hks.cell 2;have s3:wr.cell? ⟨w.heap.size+2,3,none⟩=some (.slice A2 m2 d2):=hks.cell 3;have s4:wr.cell? ⟨w.heap.size+2,4,none⟩=some (.slice A3 m3 d3):=hks.cell 4;have s5:wr.cell? ⟨w.heap.size+2,5,none⟩=some (.slice A4 m4 d4):=hks.cell 5;clear hks hok hnx hf hC;go_wp2_with (fail);refine HC.out.mono ?_;rintro e w4 ⟨⟨ya,yb,Y1,p1,q1,Y2,p2,q2,Y3,p3,q3,Y4,p4,q4,y9,yc⟩,hy9,rfl,hyr,hb4⟩;dsimp only at hy9 ⊢;subst hy9;clear l0 l1 t0 s0 s1 s2' s3 s4 s5 HC;have hal:=(Below.refl _ w4).alloc (Nat.le_refl _) (.cells #[.int .i64 ya,.int .i64 yb,.slice Y1 p1 q1,.slice Y2 p2 q2,.slice Y3 p3 q3,.slice Y4 p4 q4,.int .i64 (c:Int)] 46);have hob:=Blk.new w4 46 #[.int .i64 ya,.int .i64 yb,.slice Y1 p1 q1,.slice Y2 p2 q2,.slice Y3 p3 q3,.slice Y4 p4 q4,.int .i64 (c:Int)];obtain⟨W5,hW5⟩:∃ W5,w4.alloc (.cells #[.int .i64 ya,.int .i64 yb,.slice Y1 p1 q1,.slice Y2 p2 q2,.slice Y3 p3 q3,.slice Y4 p4 q4,.int .i64 (c:Int)] 46)=W5:=⟨_,rfl⟩;rw[hW5] at hal hob;have hb5:=hb4.trans (hal.mono hb4.size);have hbg:w.heap.size+5≤w4.heap.size:=Nat.le_trans HR.out.row.big hb4.size;have z1:=HR.out.kl.below hb5 HR.out.kl.lt;have z2:=HR.out.kt.below hb5 HR.out.kt.lt;have z3:=HR.out.ks.below hb5 HR.out.ks.lt;have z4:=HR.out.kz.below hb5 HR.out.kz.lt;have z5:=HR.out.kr.below hb5 HR.out.kr.lt;have zr:=HR.out.row.keep hb5;have zy:=hyr.below hal;dsimp only at z3;have o6:W5.cell? ⟨w4.heap.size,6,none⟩=some (.int .i64 (c:Int)):=hob.cell 6;have r1:W5.cell? ⟨w.heap.size+4,1,none⟩=some (.int .i64 0):=z5.cell 1;have f1:=z5.frozen 1;obtain⟨W6,hW6⟩:∃ W6,W5.setCell ⟨w.heap.size+4,1,none⟩ (.int .i64 (c:Int))=W6:=⟨_,rfl⟩;have v1:=z1.other (p:=⟨w.heap.size+4,1,none⟩) (by show w.heap.size+4≠_;omega) (.int .i64 (c:Int));have v2:=z2.other (p:=⟨w.heap.size+4,1,none⟩) (by show w.heap.size+4≠_;omega) (.int .i64 (c:Int));have v3:=z3.other (p:=⟨w.heap.size+4,1,none⟩) (by show w.heap.size+4≠_;omega) (.int .i64 (c:Int));have v4:=z4.other (p:=⟨w.heap.size+4,1,none⟩) (by show w.heap.size+4≠_;omega) (.int .i64 (c:Int));have v5:Blk (W5.setCell ⟨w.heap.size+4,1,none⟩ (.int .i64 (c:Int))) (w.heap.size+4) 64 #[.slice Av n cv,.int .i64 (c:Int)]:=z5.set_ 1 _;have v6:=hob.other (p:=⟨w.heap.size+4,1,none⟩) (by show w.heap.size+4≠w4.heap.size;omega) (.int .i64 (c:Int));have vr:=zr.set_ (p:=⟨w.heap.size+4,1,none⟩) (by show _≤w.heap.size+4∧w.heap.size+4<_;omega) (.int .i64 (c:Int));have vy:=zy.set_ (p:=⟨w.heap.size+4,1,none⟩) (by show _≤w.heap.size+4∧w.heap.size+4<_;omega) (.int .i64 (c:Int));rw[hW6] at v1 v2 v3 v4 v5 v6 vr vy;have g6:W6.cell? ⟨w4.heap.size,6,none⟩=some (.int .i64 (c:Int)):=v6.cell 6;have V1:=η v1;have V2:=η v2;have V3:=η v3;have V4:=η v4;have V5:=η v5;have V6:=η v6;have VR:=η vr;have VY:=η vy;clear hal hob hb5 z1 z2 z3 z4 z5 zr zy v1 v2 v3 v4 v5 v6 vr vy hyr hb4;by_cases hc0:c=0
   ·subst hc0;rw[show((0:Nat):Int)=0 from rfl] at hW5 hW6 g6 o6 ⊢;have HW5:=η hW5;clear hW5;go_upto_region 7 with(fail);rw[HW5.out];clear HW5;have hsix:Blk W6 (w.heap.size+2) 35 #[.int .i64 xa,.int .i64 xb,.slice A1 m1 d1,.slice A2 m2 d2,.slice A3 m3 d3,.slice A4 m4 d4]:=V3.out;have x0:=hsix.cell 0;have x1:=hsix.cell 1;have x2:=hsix.cell 2;have x3:=hsix.cell 3;have x4:=hsix.cell 4;have x5:=hsix.cell 5;have e0:=hsix.frozen 0;have e1:=hsix.frozen 1;have e2:=hsix.frozen 2;have e3:=hsix.frozen 3;have e4:=hsix.frozen 4;have e5:=hsix.frozen 5;obtain⟨g0,g1,g2,g3,g4,g5,g6⟩:=ζ7 V6.out;clear g6;obtain⟨W7,hW7⟩:∃ W7,(((((W6.setCell ⟨w.heap.size+2,0,none⟩ (.int .i64 ya)).setCell ⟨w.heap.size+2,1,none⟩ (.int .i64 yb)).setCell ⟨w.heap.size+2,2,none⟩ (.slice Y1 p1 q1)).setCell ⟨w.heap.size+2,3,none⟩ (.slice Y2 p2 q2)).setCell ⟨w.heap.size+2,4,none⟩ (.slice Y3 p3 q3)).setCell ⟨w.heap.size+2,5,none⟩ (.slice Y4 p4 q4)=W7:=⟨_,rfl⟩;obtain⟨t3,-,-,-⟩:=q26 hsix (.int .i64 ya) (.int .i64 yb) (.slice Y1 p1 q1) (.slice Y2 p2 q2) (.slice Y3 p3 q3) (.slice Y4 p4 q4) hW7;have hsm:∀(g:Nat) (t:TypeId) (cs:Array Value),w.heap.size+2≠g→Blk W6 g t cs→Blk W7 g t cs:=fun g t cs hn hb=>by
     rw[←hW7];exact(((((hb.other (p:=⟨w.heap.size+2,0,none⟩) hn _).other (p:=⟨w.heap.size+2,1,none⟩) hn _).other (p:=⟨w.heap.size+2,2,none⟩) hn _).other (p:=⟨w.heap.size+2,3,none⟩) hn _).other (p:=⟨w.heap.size+2,4,none⟩) hn _).other (p:=⟨w.heap.size+2,5,none⟩) hn _
    have t1:=hsm _ _ _ (by omega) V1.out;have t2:=hsm _ _ _ (by omega) V2.out;have t4:=hsm _ _ _ (by omega) V4.out;have t5:=hsm _ _ _ (by omega) V5.out;have tr:RO w ys (.slice Av n cv) W7:=by rw[←hW7];exact VR.out.six ⟨by omega,by omega⟩ _ _ _ _ _ _
    have ty:ElR w.heap.size (w.heap.size+5) (Value.slice Av n cv).ownBlock W7 ⟨ya,yb,Y1,p1,q1,Y2,p2,q2,Y3,p3,q3,Y4,p4,q4,y9,yc⟩:=by rw[←hW7];exact VY.out.six ⟨by omega,by omega⟩ _ _ _ _ _ _
    have h0:W7.cell? ⟨w.heap.size+4,0,none⟩=some (.slice Av n cv):=t5.cell 0;have i0':W7.cell? ⟨w.heap.size+2,0,none⟩=some (.int .i64 ya):=t3.cell 0;have i1:W7.cell? ⟨w.heap.size+2,1,none⟩=some (.int .i64 yb):=t3.cell 1;have i2:W7.cell? ⟨w.heap.size+2,2,none⟩=some (.slice Y1 p1 q1):=t3.cell 2;have i3:W7.cell? ⟨w.heap.size+2,3,none⟩=some (.slice Y2 p2 q2):=t3.cell 3;have i4:W7.cell? ⟨w.heap.size+2,4,none⟩=some (.slice Y3 p3 q3):=t3.cell 4;have i5:W7.cell? ⟨w.heap.size+2,5,none⟩=some (.slice Y4 p4 q4):=t3.cell 5;have hown:=tr.own;rw[HYN.out] at hown;have hln:n=k+1:=HYN.out.symm.trans HR.out.len;have T1':=η t1;have T2':=η t2;have T3':=η t3;have T4':=η t4;have T5':=η t5;have TR:=η tr;have TY:=η ty;have HLN:=η hln;have HBG:=η tr.big;clear hsm t1 t2 t3 t4 t5 tr ty hsix V1 V2 V3 V4 V5 V6 VR VY hln;go_wp2_with (at_builtin;refine wpList_append_own_at _ rfl _ _ 59 rfl (w.heap.size+5) 35 i0 (.agg #[.int .i64 0,.int .i64 0,.slice none 0 0,.slice none 0 0,.slice none 0 0,.slice none 0 0]) 6 112 Tryz.underlying59 hi hz0 hz1 hz2 rfl (by decide) _ _ _ rfl (hown.alloc _) ⟨W7.heap.size,0,none⟩ 1 1 [.int .i64 ya,.int .i64 yb,.slice Y1 p1 q1,.slice Y2 p2 q2,.slice Y3 p3 q3,.slice Y4 p4 q4] rfl rfl ?e1 ?e2 ?e3 ?e4 ?e5 ?_);case e1=>exact q4k _ _ _
    case e2=>simp[Value.oneCell']
    case e3=>have:=HLN.out;unfold maxLen;omega
    case e4=>have:=HLN.out;omega
    case e5=>have:=HBG.out;simp;omega
    intro v' w8 hown' hgrow _ hwh;obtain⟨hr8,hx8,hsame⟩:=TR.out.app (x:=⟨ya,yb,Y1,p1,q1,Y2,p2,q2,Y3,p3,q3,Y4,p4,q4,y9,yc⟩) TY.out rfl (by rw[HYN.out];exact hown') hgrow (by rw[World.size_alloc];exact hwh);have q1':=q1n T1'.out (hsame _ (by omega));have q2':=q1n T2'.out (hsame _ (by omega));have q3':=q1n T3'.out (hsame _ (by omega));have q4':=q1n T4'.out (hsame _ (by omega));have q5':=q1n T5'.out (hsame _ (by omega));obtain⟨Bv,bv,rfl⟩:=q0b hown';obtain⟨W9,hW9⟩:∃ W9,w8.setCell ⟨w.heap.size+4,0,none⟩ (.slice Bv (n+1) bv)=W9:=⟨_,rfl⟩;have hri:RI w names up l N U RA n1 c1 n2 c2 nl rc s fuel (k+1) ⟨ya,yb,Y1,p1,q1,Y2,p2,q2,Y3,p3,q3,Y4,p4,q4,y9,yc⟩ (ys++[⟨ya,yb,Y1,p1,q1,Y2,p2,q2,Y3,p3,q3,Y4,p4,q4,y9,yc⟩]) (.slice Bv (n+1) bv) W9:=by
     rw[←hW9];refine⟨q1'.other (by show w.heap.size+4≠_;omega) _,q2'.other (by show w.heap.size+4≠_;omega) _,q3'.other (by show w.heap.size+4≠_;omega) _,q4'.other (by show w.heap.size+4≠_;omega) _,q5'.set_ 0 _,hr8.set_ (p:=⟨w.heap.size+4,0,none⟩) (by show _≤w.heap.size+4∧w.heap.size+4<_;omega) _,hx8.set_ (p:=⟨w.heap.size+4,0,none⟩) (by show _≤w.heap.size+4∧w.heap.size+4<_;omega) _,?_,?_,?_,?_⟩
     ·have h:=j2a HR.out.seq hlt HF.out;unfold sts at h ⊢;rw[List.map_append];exact h
     ·exact j2f HR.out.cam hlt HF.out
     ·rw[List.length_append,HYN.out,HLN.out];rfl
     ·exact HNX.out
    have HRI:=η hri;have hlen:(ys++[(⟨ya,yb,Y1,p1,q1,Y2,p2,q2,Y3,p3,q3,Y4,p4,q4,y9,yc⟩:El)]).length=n+1:=by rw[List.length_append,HYN.out];rfl
    have HLL:=η hlen;have r0'':w8.cell? ⟨w.heap.size+4,0,none⟩=some (.slice Av n cv):=q5'.cell 0;have f0'':=q5'.frozen 0;clear hri hlen hr8 hx8 hsame q1' q2' q3' q4' q5' hown hown' hgrow hwh;go_wp2;go_roundw;case rel=>exact⟨k+1,_,_,_,_,_,by omega,by simp,HLL.out,HRI⟩
    case measure=>simp[intOf];omega
   ·have hnz:((c:Int) != 0)=true:=by rw[bne_iff_ne];omega
    obtain⟨m,hm⟩:∃ m,Rn.came (Rn.seq (stepF names up l) fuel s)=m:=⟨_,rfl⟩;have hcm:=z8t (HR.out.cam.trans hm) hlt HF.out hc0;have hsq:=z9r HR.out.seq hlt HF.out hc0;have r0:W6.cell? ⟨w.heap.size+4,0,none⟩=some (.slice Av n cv):=V5.out.cell 0;have r1':W6.cell? ⟨w.heap.size+4,1,none⟩=some (.int .i64 (c:Int)):=V5.out.cell 1;obtain⟨e0,e1⟩:=ζ2 V4.out;have f2:=V4.out.frozen 0;have f3:=V4.out.frozen 1;obtain⟨W8,hW8⟩:∃ W8,(W6.setCell ⟨w.heap.size+3,0,none⟩ (.slice Av n cv)).setCell ⟨w.heap.size+3,1,none⟩ (.int .i64 (c:Int))=W8:=⟨_,rfl⟩;have u4:Blk ((W6.setCell ⟨w.heap.size+3,0,none⟩ (.slice Av n cv)).setCell ⟨w.heap.size+3,1,none⟩ (.int .i64 (c:Int))) (w.heap.size+3) 64 #[.slice Av n cv,.int .i64 (c:Int)]:=(V4.out.set_ 0 _).set_ 1 _;have ur:=(VR.out.set_ (p:=⟨w.heap.size+3,0,none⟩) (by show _≤w.heap.size+3∧w.heap.size+3<_;omega) (.slice Av n cv)).set_ (p:=⟨w.heap.size+3,1,none⟩) (by show _≤w.heap.size+3∧w.heap.size+3<_;omega) (.int .i64 (c:Int));rw[hW8] at u4 ur;have U4:=η u4;have UR:=η ur;have HSQ:=η hsq;have HCM:=η (hm.trans hcm.symm);clear u4 ur hsq hcm hm;go_wp2;clear hW8;have x0:W8.cell? ⟨w.heap.size+3,0,none⟩=_:=U4.out.cell 0;have x1:W8.cell? ⟨w.heap.size+3,1,none⟩=_:=U4.out.cell 1;have hown:=UR.out.own;rw[HYN.out] at hown;refine bodyPost_ret (v:=.agg #[.slice Av n cv,.int .i64 (c:Int)]) (by simp[results,Tryz.results26,go_sem,x0,x1]) rfl ⟨Av,ys,cv,by rw[HCM.out,HYN.out],by rw[HYN.out];exact(ownT_row hown).2,⟨(ownT_row hown).1,fun y hy=>(UR.out.el y hy).isSt⟩,HSQ.out,UR.out.below⟩
  ·obtain rfl:k=fuel:=by omega
   have hqt:decide ((k:Int)<(k:Int))=false:=decide_eq_false (by omega);obtain⟨m,hm⟩:∃ m,Rn.came (Rn.seq (stepF names up l) k s)=m:=⟨_,rfl⟩;have hcm:=HR.out.cam;have hsq:=HR.out.seq;rw[Nat.sub_self] at hcm hsq;have hm0:m=0:=by rw[←hm,←hcm];rfl
   have hsq':sts ys=stq names up l k s:=by
    rw[←hsq];unfold stq Rn.seq;simp
   have V5:=HR.out.kr;have V4:=HR.out.kz;have r0:wr.cell? ⟨w.heap.size+4,0,none⟩=some (.slice Av n cv):=V5.cell 0;have r1':wr.cell? ⟨w.heap.size+4,1,none⟩=some (.int .i64 0):=V5.cell 1;obtain⟨e0,e1⟩:=ζ2 V4;have f2:=V4.frozen 0;have f3:=V4.frozen 1;obtain⟨W8,hW8⟩:∃ W8,(wr.setCell ⟨w.heap.size+3,0,none⟩ (.slice Av n cv)).setCell ⟨w.heap.size+3,1,none⟩ (.int .i64 0)=W8:=⟨_,rfl⟩;have u4:Blk ((wr.setCell ⟨w.heap.size+3,0,none⟩ (.slice Av n cv)).setCell ⟨w.heap.size+3,1,none⟩ (.int .i64 0)) (w.heap.size+3) 64 #[.slice Av n cv,.int .i64 0]:=(V4.set_ 0 _).set_ 1 _;have ur:=(HR.out.row.set_ (p:=⟨w.heap.size+3,0,none⟩) (by show _≤w.heap.size+3∧w.heap.size+3<_;omega) (.slice Av n cv)).set_ (p:=⟨w.heap.size+3,1,none⟩) (by show _≤w.heap.size+3∧w.heap.size+3<_;omega) (.int .i64 0);rw[hW8] at u4 ur;have U4:=η u4;have UR:=η ur;have HSQ:=η hsq';have HM:=η (hm.trans hm0);clear u4 ur hsq hsq' hcm hm hm0 V5 V4 HR;go_wp2;clear hW8;have x0:W8.cell? ⟨w.heap.size+3,0,none⟩=_:=U4.out.cell 0;have x1:W8.cell? ⟨w.heap.size+3,1,none⟩=_:=U4.out.cell 1;have hown:=UR.out.own;rw[HYN.out] at hown;refine bodyPost_ret (v:=.agg #[.slice Av n cv,.int .i64 0]) (by simp[results,Tryz.results26,go_sem,x0,x1]) rfl ⟨Av,ys,cv,by rw[HM.out,HYN.out];rfl,by rw[HYN.out];exact(ownT_row hown).2,⟨(ownT_row hown).1,fun y hy=>(UR.out.el y hy).isSt⟩,HSQ.out,UR.out.below⟩
end Go.Proofs.YtjobifclmcdjcaaGreatDoor
namespace Go.Proofs.YtjobifclmcdjcaaGreatDoor
open Go.RowKit Go.Shelf Go.Sort
attribute [local go_sem] Oper.semAt_some
theorem q9g{A A' TA:Option Addr}{n1:List ByteArray}{u1:List Nat}{l:List Tb.PR}{s0:St.State}{cA mA sA oA:Option Addr}{cc mc sc oc:Nat}(c c' tc:Nat)(fu:Int)(w:World)(hi:Ins w)(hN:Row w w.heap.size A (strs n1))(hU:Ups w w.heap.size A' u1)(hT:RowsIn w w.heap.size TA l)(hst:StIn w w.heap.size s0 cA cc mA mc sA sc oA oc)(hc:n1.length≤c)(hc':u1.length≤c')(hm:c≤maxLen)(hm':c'≤maxLen)(hs:∀ s ∈ n1,s.size≤maxLen)(htc:l.length≤tc)(htm:tc≤maxLen) :
  Calls Tryz.prog 6 #[.agg #[.slice A n1.length c,.slice A' u1.length c'],.agg #[.slice TA l.length tc],incv s0 cA cc mA mc sA sc oA oc,.int .i64 fu] w (Tells w true):=by
 have hfa:=fun W (hW:Below w.heap.size w W)=>j01 w.heap.size c c' W hW.size (hN.below hW) (hU.below hW) hc hc' hm hm' hs
 have hft:=fun W (hW:Below w.heap.size w W)=>z2j w.heap.size tc W hW.size (hT.below hW) htc htm
 have hcut:=fun W=>z4n W hst
 have his:=fun W (hb:Below w.heap.size w W)=>((hst.cut.below hb).more hb.size).isSt
 have HSM:=η (z4k s0);have hl1:(cutS s0).code.length=min 15 s0.code.length:=by unfold cutS;simp
 have hl2:(cutS s0).mem.length=min 15 s0.mem.length:=by unfold cutS;simp
 have hl3:(cutS s0).stack.length=min 15 s0.stack.length:=by unfold cutS;simp
 have hl4:(cutS s0).out.length=min 15 s0.out.length:=by unfold cutS;simp
 have hp1:(cutS s0).pc=s0.pc:=rfl;rw[q9w] at his hcut;obtain⟨a,ha⟩:∃ a,cutS s0=a:=⟨_,rfl⟩;obtain⟨lt,hlt⟩:∃ lt,fewT l=lt:=⟨_,rfl⟩;rw[ha] at his HSM hl1 hl2 hl3 hl4 hp1;unfold Cut10 at hft;rw[hlt] at hft;have hsml:∀ x ∈ lt,Small x:=by rw[←hlt];exact z38 l
 have HFI:=η (show ∀ x ∈ lt,Fits x by rw[←hlt];exact z3a l);unfold incv at hcut ⊢;have hrc:Row w w.heap.size cA (icells a.code):=by rw[←ha];exact hst.cut.rc.1
 have hro:Row w w.heap.size oA (fcells avs a.out):=by rw[←ha];exact hst.cut.ro.1
 have hpv:a.pc.v=s0.pc.v:=by rw[hp1]
 have HRC:=η hrc;have HRO:=η hro;clear hst ha hlt hp1 hrc hro;generalize s0.pc.v=pv at *;generalize s0.pc.l=pl at *;generalize hcn:min 15 s0.code.length=cN at *;generalize hmn:min 15 s0.mem.length=mN at *;generalize hsn:min 15 s0.stack.length=sN at *;generalize hon:min 15 s0.out.length=oN at *;generalize s0.code.length=cn at *;generalize s0.mem.length=mn at *;generalize s0.stack.length=sn at *;generalize s0.out.length=on at *;clear hcn hmn hsn hon;have hb0:=((((Below.refl _ w).alloc (Nat.le_refl _) (.cells #[.slice A n1.length c,.slice A' u1.length c'] 25)).alloc (by simp) (.cells #[.slice TA l.length tc] 28)).alloc (by simp;omega) (.cells #[.int .i64 pv,.int .i64 pl,.slice cA cn cc,.slice mA mn mc,.slice sA sn sc,.slice oA on oc] 35)).drew;obtain⟨W0,hW0⟩:∃ W0,((w.alloc (.cells #[.slice A n1.length c,.slice A' u1.length c'] 25)).alloc (.cells #[.slice TA l.length tc] 28)).alloc (.cells #[.int .i64 pv,.int .i64 pl,.slice cA cn cc,.slice mA mn mc,.slice sA sn sc,.slice oA on oc] 35)=W0:=⟨_,rfl⟩;have hp0:Blk W0 w.heap.size 25 #[.slice A n1.length c,.slice A' u1.length c']:=hW0▸((Blk.new _ _ _).alloc _).alloc _;have ht0:Blk W0 (w.heap.size+1) 28 #[.slice TA l.length tc]:=by
  have h1:=(Blk.new (w.alloc (.cells #[.slice A n1.length c,.slice A' u1.length c'] 25)) 28 #[.slice TA l.length tc]).alloc (.cells #[.int .i64 pv,.int .i64 pl,.slice cA cn cc,.slice mA mn mc,.slice sA sn sc,.slice oA on oc] 35);rw[show(w.alloc (.cells #[.slice A n1.length c,.slice A' u1.length c'] 25)).heap.size=w.heap.size+1 by simp] at h1;rw[←hW0];exact h1
 have hq0:Blk W0 (w.heap.size+2) 35 #[.int .i64 pv,.int .i64 pl,.slice cA cn cc,.slice mA mn mc,.slice sA sn sc,.slice oA on oc]:=by
  have h1:=Blk.new ((w.alloc (.cells #[.slice A n1.length c,.slice A' u1.length c'] 25)).alloc (.cells #[.slice TA l.length tc] 28)) 35 #[.int .i64 pv,.int .i64 pl,.slice cA cn cc,.slice mA mn mc,.slice sA sn sc,.slice oA on oc];rw[show((w.alloc (.cells #[.slice A n1.length c,.slice A' u1.length c'] 25)).alloc (.cells #[.slice TA l.length tc] 28)).heap.size=w.heap.size+2 by simp] at h1;rw[←hW0];exact h1
 have hz0:W0.heap.size=w.heap.size+3:=by rw[←hW0];simp
 rw[hW0] at hb0;have HFA:=η hfa;have HFT:=η hft;have HCUT:=η hcut;have HIA:=η his;have HP:=η hp0;have HT:=η ht0;have HQ:=η hq0;have HB0:=η hb0;have HZ0:=η hz0;have HI:=η hi;have HSL:=η hsml;have HL:=η (show a.code.length=cN∧a.mem.length=mN∧a.stack.length=sN∧a.out.length=oN∧a.pc.v=pv from⟨hl1,hl2,hl3,hl4,hpv⟩);obtain⟨l0,l1⟩:=ζ2 hp0;have t0:W0.cell? ⟨w.heap.size+1,0,none⟩=some (.slice TA l.length tc):=ht0.cell 0;obtain⟨b0,b1,b2,b3,b4,b5⟩:=ζ6 hq0;clear hfa hft hcut his hb0 hp0 hq0 ht0 hz0 hN hU hT hc hc' hm hm' hs htc htm hi hsml hl1 hl2 hl3 hl4 hpv;go_enter Tryz.func6,Tryz.ntmps6;go_wp2_with (fail);refine Free.region_seq [1,3,5,6,7,8] [0,2,4] 5 (fun W'=>W'.cell? ⟨w.heap.size,0,none⟩=some (.slice A n1.length c)∧W'.cell? ⟨w.heap.size,1,none⟩=some (.slice A' u1.length c')∧W'.cell? ⟨w.heap.size+1,0,none⟩=some (.slice TA l.length tc)∧W'.cell? ⟨w.heap.size+2,0,none⟩=some (.int .i64 pv)∧W'.cell? ⟨w.heap.size+2,1,none⟩=some (.int .i64 pl)∧W'.cell? ⟨w.heap.size+2,2,none⟩=some (.slice cA cn cc)∧W'.cell? ⟨w.heap.size+2,3,none⟩=some (.slice mA mn mc)∧W'.cell? ⟨w.heap.size+2,4,none⟩=some (.slice sA sn sc)∧W'.cell? ⟨w.heap.size+2,5,none⟩=some (.slice oA on oc)) (by kernel_rfl) (by kernel_rfl) (by kernel_rfl) (by kernel_rfl) (⟨l0,l1,t0,b0,b1,b2,b3,b4,b5⟩) (fun ops hops=>?_);clear hops;iterate 1
  refine Free.Seq.quiet (v:=?_) (a':=?_) rfl rfl (fun W' hW'=>?_) ?_ ?_
  rotate_left 2
  ·first|obtain⟨q0,q1,q2,q3,q4,q5,q6,q7,q8⟩:=hW' rfl|skip
   go_simp;try with_reducible rfl
  ·simp only[Act.put,List.setIfInBounds_toArray,List.set_cons_zero,List.set_cons_succ];try with_reducible rfl
 refine Free.Seq.loud_ rfl (.inl rfl) (fun K hK=>?_);go_simp;refine(HFA.out _ HB0.out).mono ?_;rintro e w1 ⟨v,names,up,rfl,hlw,hb1⟩;have hlat:∀ W2,Keeps w.heap.size (w.heap.size+3) w1 W2→IsLat W2 W2.heap.size v names up:=fun W2 k=>hlw W2 (k.mono_ (by show w.heap.size+3≤W0.heap.size;rw[HZ0.out];exact Nat.le_refl _))
 obtain⟨A1,k1,c1,A2,k2,c2,rfl⟩:=j1y (hlat w1 ⟨Nat.le_refl _,fun _ _ _=>rfl⟩);have hp1:=(HP.out.drew).below hb1 HP.out.lt;have ht1:=(HT.out.drew).below hb1 HT.out.lt;have hq1:=(HQ.out.drew).below hb1 HQ.out.lt;have HB1:=η (HB0.out.trans (hb1.mono HB0.out.size));have HLAT:=η hlat
 have HP1:=η hp1;have HT1:=η ht1;have HQ1:=η hq1;refine hK.out _ _ rfl (fun _=>⟨HP1.out.cell 0,HP1.out.cell 1,HT1.out.cell 0,HQ1.out.cell 0,HQ1.out.cell 1,HQ1.out.cell 2,HQ1.out.cell 3,HQ1.out.cell 4,HQ1.out.cell 5⟩) ?_;clear hK K hb1 hlw hp1 hq1 ht1 hlat
 iterate 1
  refine Free.Seq.quiet (v:=?_) (a':=?_) rfl rfl (fun W' hW'=>?_) ?_ ?_
  rotate_left 2
  ·first|obtain⟨q0,q1,q2,q3,q4,q5,q6,q7,q8⟩:=hW' rfl|skip
   go_simp;try with_reducible rfl
  ·simp only[Act.put,List.setIfInBounds_toArray,List.set_cons_zero,List.set_cons_succ];try with_reducible rfl
 refine Free.Seq.loud_ rfl (.inl rfl) (fun K hK=>?_);go_simp;refine(HFT.out w1 HB1.out).mono ?_;rintro e w2 ⟨v2,rfl,htw,hb2⟩;have htab:∀ W2,Keeps w.heap.size (w.heap.size+3) w2 W2→IsTab W2 W2.heap.size v2 lt:=fun W2 k=>htw W2 (k.mono_ (by have:=HQ1.out.lt;omega))
 obtain⟨T1,t1,rfl,-,-⟩:=htab w2 ⟨Nat.le_refl _,fun _ _ _=>rfl⟩;obtain⟨tn,htn⟩:∃ tn,lt.length=tn:=⟨_,rfl⟩;rw[htn] at htab;have HTN:=η htn;have hp2:=HP1.out.below hb2 HP1.out.lt;have ht2:=HT1.out.below hb2 HT1.out.lt;have hq2:=HQ1.out.below hb2 HQ1.out.lt;have HB2:=η (HB1.out.trans (hb2.mono HB1.out.size));have HKB2:Hid (Keeps w.heap.size (w.heap.size+3) w1 w2):=η (Keeps.below hb2);have HTAB:=η htab;have HP2:=η hp2;have HT2:=η ht2;have HQ2:=η hq2;dsimp only;rw[htn];refine hK.out _ _ rfl (fun _=>⟨HP2.out.cell 0,HP2.out.cell 1,HT2.out.cell 0,HQ2.out.cell 0,HQ2.out.cell 1,HQ2.out.cell 2,HQ2.out.cell 3,HQ2.out.cell 4,HQ2.out.cell 5⟩) ?_;clear hK K hb2 htw hp2 hq2 ht2 htab htn;iterate 1
  refine Free.Seq.quiet (v:=?_) (a':=?_) rfl rfl (fun W' hW'=>?_) ?_ ?_
  rotate_left 2
  ·first|obtain⟨q0,q1,q2,q3,q4,q5,q6,q7,q8⟩:=hW' rfl|skip
   go_simp;try with_reducible rfl
  ·simp only[Act.put,List.setIfInBounds_toArray,List.set_cons_zero,List.set_cons_succ];try with_reducible rfl
 refine Free.Seq.loud_ rfl (.inl rfl) (fun K hK=>?_);go_simp;refine(HCUT.out w2).mono ?_;rintro e w3 ⟨rfl,hb3⟩;have hp3:=HP2.out.below hb3 HP2.out.lt;have ht3:=HT2.out.below hb3 HT2.out.lt;have hq3:=HQ2.out.below hb3 HQ2.out.lt;have HB3:=η (HB2.out.trans (hb3.mono HB2.out.size));have hkt:Keeps w.heap.size (w.heap.size+3) w2 w3:=Keeps.below hb3;have hkb:Keeps w.heap.size (w.heap.size+3) w1 w3:=HKB2.out.trans_ hkt;have i0:=hp3.cell 0;have f0:=hp3.frozen 0;have i1:=hp3.cell 1;have f1:=hp3.frozen 1;have h0:=ht3.cell 0;have e0:=ht3.frozen 0;have j0:=hq3.cell 0;have g0:=hq3.frozen 0;have j1:=hq3.cell 1;have g1:=hq3.frozen 1;have j2:=hq3.cell 2;have g2:=hq3.frozen 2;have j3:=hq3.cell 3;have g3:=hq3.frozen 3;have j4:=hq3.cell 4;have g4:=hq3.frozen 4;have j5:=hq3.cell 5;have g5:=hq3.frozen 5;refine hK.out _ _ rfl (fun h=>absurd h (by decide)) ?_;clear hK K;refine Free.Seq.loud_ rfl (.inl rfl) (fun K hK=>?_);go_simp;refine hK.out _ _ rfl (fun h=>absurd h (by decide)) ?_;clear hK K;refine Free.Seq.loud_ rfl (.inl rfl) (fun K hK=>?_);go_simp;refine hK.out _ _ rfl (fun h=>absurd h (by decide)) ?_;clear hK K;refine Free.Seq.loud_ rfl (.inl rfl) (fun K hK=>?_);go_simp;refine hK.out _ _ rfl (fun h=>absurd h (by decide)) ?_;clear hK K;refine Free.Seq.nil_ ?_;obtain⟨W3,hW3⟩:∃ W3,(((((((((w3.setCell ⟨w.heap.size,0,none⟩ (.slice A1 k1 c1)).setCell ⟨w.heap.size,1,none⟩ (.slice A2 k2 c2)).setCell ⟨w.heap.size+1,0,none⟩ (.slice T1 tn t1)).setCell ⟨w.heap.size+2,0,none⟩ (.int .i64 pv)).setCell ⟨w.heap.size+2,1,none⟩ (.int .i64 pl)).setCell ⟨w.heap.size+2,2,none⟩ (.slice cA cN cc)).setCell ⟨w.heap.size+2,3,none⟩ (.slice mA mN mc)).setCell ⟨w.heap.size+2,4,none⟩ (.slice sA sN sc)).setCell ⟨w.heap.size+2,5,none⟩ (.slice oA oN oc))=W3:=⟨_,rfl⟩;have hlw:Law10 w (.slice A1 k1 c1) (.slice A2 k2 c2) names up (.slice T1 tn t1) lt #[.int .i64 pv,.int .i64 pl,.slice cA cN cc,.slice mA mN mc,.slice sA sN sc,.slice oA oN oc] W3:=by
  rw[←hW3];exact⟨⟨(((((((((hp3).set_ 0 _).set_ 1 _).other (by show w.heap.size+1≠w.heap.size;omega) _).other (by show w.heap.size+2≠w.heap.size;omega) _).other (by show w.heap.size+2≠w.heap.size;omega) _).other (by show w.heap.size+2≠w.heap.size;omega) _).other (by show w.heap.size+2≠w.heap.size;omega) _).other (by show w.heap.size+2≠w.heap.size;omega) _).other (by show w.heap.size+2≠w.heap.size;omega) _,HLAT.out _ ((((((((((hkb).trans_ (Keeps.set_ (p:=⟨w.heap.size,0,none⟩) (by show w.heap.size≤w.heap.size;omega) (by show w.heap.size<w.heap.size+3;omega))).trans_ (Keeps.set_ (p:=⟨w.heap.size,1,none⟩) (by show w.heap.size≤w.heap.size;omega) (by show w.heap.size<w.heap.size+3;omega))).trans_ (Keeps.set_ (p:=⟨w.heap.size+1,0,none⟩) (by show w.heap.size≤w.heap.size+1;omega) (by show w.heap.size+1<w.heap.size+3;omega))).trans_ (Keeps.set_ (p:=⟨w.heap.size+2,0,none⟩) (by show w.heap.size≤w.heap.size+2;omega) (by show w.heap.size+2<w.heap.size+3;omega))).trans_ (Keeps.set_ (p:=⟨w.heap.size+2,1,none⟩) (by show w.heap.size≤w.heap.size+2;omega) (by show w.heap.size+2<w.heap.size+3;omega))).trans_ (Keeps.set_ (p:=⟨w.heap.size+2,2,none⟩) (by show w.heap.size≤w.heap.size+2;omega) (by show w.heap.size+2<w.heap.size+3;omega))).trans_ (Keeps.set_ (p:=⟨w.heap.size+2,3,none⟩) (by show w.heap.size≤w.heap.size+2;omega) (by show w.heap.size+2<w.heap.size+3;omega))).trans_ (Keeps.set_ (p:=⟨w.heap.size+2,4,none⟩) (by show w.heap.size≤w.heap.size+2;omega) (by show w.heap.size+2<w.heap.size+3;omega))).trans_ (Keeps.set_ (p:=⟨w.heap.size+2,5,none⟩) (by show w.heap.size≤w.heap.size+2;omega) (by show w.heap.size+2<w.heap.size+3;omega))),(((((((((HB3.out).setCell (p:=⟨w.heap.size,0,none⟩) (by show w.heap.size≤w.heap.size;omega) _).setCell (p:=⟨w.heap.size,1,none⟩) (by show w.heap.size≤w.heap.size;omega) _).setCell (p:=⟨w.heap.size+1,0,none⟩) (by show w.heap.size≤w.heap.size+1;omega) _).setCell (p:=⟨w.heap.size+2,0,none⟩) (by show w.heap.size≤w.heap.size+2;omega) _).setCell (p:=⟨w.heap.size+2,1,none⟩) (by show w.heap.size≤w.heap.size+2;omega) _).setCell (p:=⟨w.heap.size+2,2,none⟩) (by show w.heap.size≤w.heap.size+2;omega) _).setCell (p:=⟨w.heap.size+2,3,none⟩) (by show w.heap.size≤w.heap.size+2;omega) _).setCell (p:=⟨w.heap.size+2,4,none⟩) (by show w.heap.size≤w.heap.size+2;omega) _).setCell (p:=⟨w.heap.size+2,5,none⟩) (by show w.heap.size≤w.heap.size+2;omega) _⟩,(((((((((ht3).other (by show w.heap.size≠w.heap.size+1;omega) _).other (by show w.heap.size≠w.heap.size+1;omega) _).set_ 0 _).other (by show w.heap.size+2≠w.heap.size+1;omega) _).other (by show w.heap.size+2≠w.heap.size+1;omega) _).other (by show w.heap.size+2≠w.heap.size+1;omega) _).other (by show w.heap.size+2≠w.heap.size+1;omega) _).other (by show w.heap.size+2≠w.heap.size+1;omega) _).other (by show w.heap.size+2≠w.heap.size+1;omega) _,HTAB.out _ ((((((((((hkt).trans_ (Keeps.set_ (p:=⟨w.heap.size,0,none⟩) (by show w.heap.size≤w.heap.size;omega) (by show w.heap.size<w.heap.size+3;omega))).trans_ (Keeps.set_ (p:=⟨w.heap.size,1,none⟩) (by show w.heap.size≤w.heap.size;omega) (by show w.heap.size<w.heap.size+3;omega))).trans_ (Keeps.set_ (p:=⟨w.heap.size+1,0,none⟩) (by show w.heap.size≤w.heap.size+1;omega) (by show w.heap.size+1<w.heap.size+3;omega))).trans_ (Keeps.set_ (p:=⟨w.heap.size+2,0,none⟩) (by show w.heap.size≤w.heap.size+2;omega) (by show w.heap.size+2<w.heap.size+3;omega))).trans_ (Keeps.set_ (p:=⟨w.heap.size+2,1,none⟩) (by show w.heap.size≤w.heap.size+2;omega) (by show w.heap.size+2<w.heap.size+3;omega))).trans_ (Keeps.set_ (p:=⟨w.heap.size+2,2,none⟩) (by show w.heap.size≤w.heap.size+2;omega) (by show w.heap.size+2<w.heap.size+3;omega))).trans_ (Keeps.set_ (p:=⟨w.heap.size+2,3,none⟩) (by show w.heap.size≤w.heap.size+2;omega) (by show w.heap.size+2<w.heap.size+3;omega))).trans_ (Keeps.set_ (p:=⟨w.heap.size+2,4,none⟩) (by show w.heap.size≤w.heap.size+2;omega) (by show w.heap.size+2<w.heap.size+3;omega))).trans_ (Keeps.set_ (p:=⟨w.heap.size+2,5,none⟩) (by show w.heap.size≤w.heap.size+2;omega) (by show w.heap.size+2<w.heap.size+3;omega))),(((((((((hq3).other (by show w.heap.size≠w.heap.size+2;omega) _).other (by show w.heap.size≠w.heap.size+2;omega) _).other (by show w.heap.size+1≠w.heap.size+2;omega) _).set_ 0 _).set_ 1 _).set_ 2 _).set_ 3 _).set_ 4 _).set_ 5 _⟩
 rw[hW3];have HLW:=η hlw;clear hW3 hlw hp3 hq3 ht3 hkb hkt HB2 HB1 HB3 HB0 HLAT HTAB HKB2 HP HT HQ HP1 HT1 HQ1 HP2 HT2 HQ2 HFA HFT HCUT HZ0 hb3 l0 l1 t0 b0 b1 b2 b3 b4 b5 i0 i1 f0 f1 h0 e0 j0 j1 j2 j3 j4 j5 g0 g1 g2 g3 g4 g5 hW0
 have HRUN:Hid (∀ W,Law10 w (.slice A1 k1 c1) (.slice A2 k2 c2) names up (.slice T1 tn t1) lt #[.int .i64 pv,.int .i64 pl,.slice cA cN cc,.slice mA mN mc,.slice sA sN sc,.slice oA oN oc] W→Calls Tryz.prog 23 #[.agg #[.slice A1 k1 c1,.slice A2 k2 c2],.agg #[.slice T1 tn t1],.agg #[.int .i64 pv,.int .i64 pl,.slice cA cN cc,.slice mA mN mc,.slice sA sN sc,.slice oA oN oc],.int .i64 fu] W (Runs names up lt a fu W)):=η (fun W hW=>by
  obtain⟨A,d,he,hr,-⟩:=hW.ta;injection he with h1 h2 h3;subst h1 h3
  exact(HTN.out▸(z3k (l:=lt) (RA:=T1) t1 fu W (HI.out.below hW.one.below HI.out.lt) (Nat.lt_of_lt_of_le HI.out.lt hW.one.below.size) hW.one.la (HIA.out W hW.one.below) HSM.out hr HSL.out)))
 have HLAST:Hid (∀ W,Law10 w (.slice A1 k1 c1) (.slice A2 k2 c2) names up (.slice T1 tn t1) lt #[.int .i64 pv,.int .i64 pl,.slice cA cN cc,.slice mA mN mc,.slice sA sN sc,.slice oA oN oc] W→Calls Tryz.prog 24 #[.agg #[.slice A1 k1 c1,.slice A2 k2 c2],.agg #[.slice T1 tn t1],.agg #[.int .i64 pv,.int .i64 pl,.slice cA cN cc,.slice mA mN mc,.slice sA sN sc,.slice oA oN oc],.int .i64 fu] W (Lasts names up lt a fu W)):=η (fun W hW=>by
  obtain⟨A,d,he,hr,-⟩:=hW.ta;injection he with h1 h2 h3;subst h1 h3
  exact(HTN.out▸(z9x (l:=lt) (RA:=T1) t1 fu W (HI.out.below hW.one.below HI.out.lt) (Nat.lt_of_lt_of_le HI.out.lt hW.one.below.size) hW.one.la (HIA.out W hW.one.below) HSM.out hr HSL.out)))
 have HMY:Hid (∀ W,Law10 w (.slice A1 k1 c1) (.slice A2 k2 c2) names up (.slice T1 tn t1) lt #[.int .i64 pv,.int .i64 pl,.slice cA cN cc,.slice mA mN mc,.slice sA sN sc,.slice oA oN oc] W→Calls Tryz.prog 12 #[.agg #[.slice A1 k1 c1,.slice A2 k2 c2],.agg #[.slice T1 tn t1],.agg #[.int .i64 pv,.int .i64 pl,.slice cA cN cc,.slice mA mN mc,.slice sA sN sc,.slice oA oN oc]] W (fun e w'=>e=.returned (.int .i64 (chk10 names up lt a:Nat))∧Below W.heap.size W w')):=η (fun W hW=>by
  obtain⟨A,d,he,hr,-⟩:=hW.ta;injection he with h1 h2 h3;subst h1 h3
  exact(HTN.out▸z78 (l:=lt) (RA:=T1) t1 W hW.one.la (HIA.out W hW.one.below) HSM.out hr HFI.out))
 have HREF:Hid (∀ W (f:Nat),Law10 w (.slice A1 k1 c1) (.slice A2 k2 c2) names up (.slice T1 tn t1) lt #[.int .i64 pv,.int .i64 pl,.slice cA cN cc,.slice mA mN mc,.slice sA sN sc,.slice oA oN oc] W→chk10 names up lt a=0→f≤40→Calls Tryz.prog 26 #[.agg #[.slice A1 k1 c1,.slice A2 k2 c2],.agg #[.slice T1 tn t1],.agg #[.int .i64 pv,.int .i64 pl,.slice cA cN cc,.slice mA mN mc,.slice sA sN sc,.slice oA oN oc],.int .i64 (f:Int)] W (RRuns names up lt a f W)):=η (fun W f hW hck hf=>by
  obtain⟨A,d,he,hr,-⟩:=hW.ta;injection he with h1 h2 h3;subst h1 h3
  exact(HTN.out▸z5w (l:=lt) (RA:=T1) t1 f W hW.one.la (HIA.out W hW.one.below) hr hck hf))
 have HAL:=η (fun W (hW:Law10 w (.slice A1 k1 c1) (.slice A2 k2 c2) names up (.slice T1 tn t1) lt #[.int .i64 pv,.int .i64 pl,.slice cA cN cc,.slice mA mN mc,.slice sA sN sc,.slice oA oN oc] W)=>z2m W (HI.out.below hW.one.below HI.out.lt));have hR1:=HRUN.out W3 HLW.out;unfold Runs at hR1;obtain⟨ck,hck⟩:∃ ck,chk10 names up lt a=ck:=⟨_,rfl⟩;obtain⟨er,her⟩:∃ er,chk11 names up lt a fu=er:=⟨_,rfl⟩;obtain⟨L1,hL1⟩:∃ L,runL names up lt a fu=L:=⟨_,rfl⟩;obtain⟨m1,hm1⟩:∃ m,Rn.came L1=m:=⟨_,rfl⟩;have hLA:∀ W,Law10 w (.slice A1 k1 c1) (.slice A2 k2 c2) names up (.slice T1 tn t1) lt #[.int .i64 pv,.int .i64 pl,.slice cA cN cc,.slice mA mN mc,.slice sA sN sc,.slice oA oN oc] W→Calls Tryz.prog 24 #[.agg #[.slice A1 k1 c1,.slice A2 k2 c2],.agg #[.slice T1 tn t1],.agg #[.int .i64 pv,.int .i64 pl,.slice cA cN cc,.slice mA mN mc,.slice sA sN sc,.slice oA oN oc],.int .i64 fu] W (fun e w'=>∃ x:El,e=.returned (.tuple #[x.val,.int .i64 (m1:Int),.int .i64 (er:Int)])∧IsSt w' w'.heap.size x.val x.s∧x.s=(L1.map (·.1)).getLastD St.zero∧Below W.heap.size W w'):=fun W hW=>by
  have h:=HLAST.out W hW;unfold Lasts at h;rw[hL1,hm1,her] at h;exact h
 rw[hL1,hm1,her] at hR1;rw[hck] at HMY HREF;have HR1:=η hR1;have HLA:=η hLA;have HL1:=η hL1;have HM1:=η hm1;have HER:=η her;have HCK:=η hck;clear hR1 hLA hL1 hm1 her hck HRUN HLAST;obtain⟨l0,l1⟩:=ζ2 HLW.out.one.a;have t0:W3.cell? ⟨w.heap.size+1,0,none⟩=some (.slice T1 tn t1):=HLW.out.tb.cell 0;obtain⟨b0,b1,b2,b3,b4,b5⟩:=ζ6 HLW.out.st;go_wp2_with (fail);refine HR1.out.mono ?_;rintro e w4 ⟨XA,xs,xc,rfl,hxc,hxs,hxp,hb⟩;have hlw:=HLW.out.next hb;clear HLW;have HLW:=η hlw;have HXS:=η hxs;have HXP:=η hxp;have HXC:=η hxc;clear hb hlw hxs hxp hxc HR1;clear l0 l1 t0 b0 b1 b2 b3 b4 b5;obtain⟨l0,l1⟩:=ζ2 HLW.out.one.a;have t0:w4.cell? ⟨w.heap.size+1,0,none⟩=some (.slice T1 tn t1):=HLW.out.tb.cell 0;obtain⟨b0,b1,b2,b3,b4,b5⟩:=ζ6 HLW.out.st;have HLC:=η (HLA.out w4 HLW.out);go_wp2_with (fail);refine HLC.out.mono ?_;rintro e w5 ⟨⟨ya,yb,Y1,p1,q1,Y2,p2,q2,Y3,p3,q3,Y4,p4,q4,ys0,yc⟩,rfl,hys,hyl,hb⟩;unfold El.val at hys ⊢;dsimp only at hys hyl ⊢;have hal:=(Below.refl _ w5).alloc (Nat.le_refl _) (.cells #[.int .i64 ya,.int .i64 yb,.slice Y1 p1 q1,.slice Y2 p2 q2,.slice Y3 p3 q3,.slice Y4 p4 q4] 35);have hbx:=Blk.new w5 35 #[.int .i64 ya,.int .i64 yb,.slice Y1 p1 q1,.slice Y2 p2 q2,.slice Y3 p3 q3,.slice Y4 p4 q4];obtain⟨W5,hW5⟩:∃ W5,w5.alloc (.cells #[.int .i64 ya,.int .i64 yb,.slice Y1 p1 q1,.slice Y2 p2 q2,.slice Y3 p3 q3,.slice Y4 p4 q4] 35)=W5:=⟨_,rfl⟩;rw[hW5] at hal hbx;have hb5:=hb.trans (hal.mono hb.size);have hlw:=HLW.out.next hb5;have hxs5:=(HXS.out.below hb5).more hb5.size;have hys5:=(hys.below hal).more hal.size;clear HLW HXS;have HLW:=η hlw;have HXS:=η hxs5;have HYS:=η hys5;have HYL:=η hyl;have HYB:=η hbx;have hyw:=hbx.lt;clear hb hal hbx hb5 hlw hxs5 hys hys5 hyl HLC HLA;clear l0 l1 t0 b0 b1 b2 b3 b4 b5;obtain⟨l0,l1⟩:=ζ2 HLW.out.one.a;have t0:W5.cell? ⟨w.heap.size+1,0,none⟩=some (.slice T1 tn t1):=HLW.out.tb.cell 0;obtain⟨b0,b1,b2,b3,b4,b5⟩:=ζ6 HLW.out.st;have HMC:=η (HMY.out W5 HLW.out);go_wp2_with (fail);refine HMC.out.mono ?_;rintro e w6 ⟨rfl,hb⟩;have hlw:=HLW.out.next hb;have hxs5:=(HXS.out.below hb).more hb.size;have hys5:=(HYS.out.below hb).more hb.size;have hbx:=HYB.out.below hb HYB.out.lt;clear HLW HXS HYS HYB;have HLW:=η hlw;have HXS:=η hxs5;have HYS:=η hys5;have HYB:=η hbx;clear hb hlw hxs5 hys5 hbx HMC HMY;clear l0 l1 t0 b0 b1 b2 b3 b4 b5;by_cases hz:er=0
 ·obtain⟨fn,rfl,hfn,hck0⟩:∃ fn:Nat,fu=(fn:Int)∧fn≤40∧ck=0:=by
   have h:=HER.out;rw[hz] at h;unfold chk11 at h;rw[HCK.out] at h;split at h
   ·next h0 =>
    split at h
    ·cases h
    ·exact⟨fu.toNat,by omega,by omega,h0⟩
   ·next h0=>exact absurd h h0
  subst hz hck0;have hseq:Rn.seq (stepF names up lt) fn a=L1:=by
   have h:=HL1.out;unfold runL at h;rw[HER.out,if_pos rfl,Int.toNat_natCast] at h;exact h
  have hq1:decide ((fn:Int)<0)=false:=decide_eq_false (by omega);have hq2:decide ((40:Int)<(fn:Int))=false:=decide_eq_false (by omega);have hq3:¬((fn:Int)<0):=by omega
  have hq4:¬((40:Int)<(fn:Int)):=by omega
  have hrf:=HREF.out w6 fn HLW.out rfl hfn;unfold RRuns stq at hrf;rw[hseq,HM1.out] at hrf;have HRF:=η hrf;have HSEQ:=η hseq;clear hrf hseq HREF;obtain⟨l0,l1⟩:=ζ2 HLW.out.one.a;have t0:w6.cell? ⟨w.heap.size+1,0,none⟩=some (.slice T1 tn t1):=HLW.out.tb.cell 0;obtain⟨b0,b1,b2,b3,b4,b5⟩:=ζ6 HLW.out.st;go_wp2_with (fail);refine HRF.out.mono ?_;rintro e w7 ⟨ZA,zs,zc,rfl,hzc,hzs,hzl,hb⟩;have hal:=(Below.refl _ w7).alloc (Nat.le_refl _) (.cells #[.slice ZA zs.length zc,.int .i64 (m1:Int)] 64);have hrb:=Blk.new w7 64 #[.slice ZA zs.length zc,.int .i64 (m1:Int)];obtain⟨W8,hW8⟩:∃ W8,w7.alloc (.cells #[.slice ZA zs.length zc,.int .i64 (m1:Int)] 64)=W8:=⟨_,rfl⟩;rw[hW8] at hal hrb;have hb8:=hb.trans (hal.mono hb.size);have hlw:=HLW.out.next hb8;have hxs5:=(HXS.out.below hb8).more hb8.size;have hys5:=(HYS.out.below hb8).more hb8.size;have hzs8:=(hzs.below hal).more hal.size;have hbx:=HYB.out.below hb8 HYB.out.lt;clear HLW HXS HYS HYB;have HLW:=η hlw;have hlx:xs.length=zs.length:=by
   have h1:=congrArg List.length HXP.out;have h2:=congrArg List.length hzl;unfold sts at h2;rw[List.length_map] at h1 h2;rw[List.length_map] at h2;omega
  have hll:xs.length≤1000:=by
   have h1:=congrArg List.length HXP.out;have h2:=Rn.seq_le (stepF names up lt) fn a;rw[HSEQ.out] at h2;rw[List.length_map] at h1;omega
  have hne:zs≠[]:=by
   rintro rfl;have h2:=Rn.seq_pos (stepF names up lt) fn a;have h1:=congrArg List.length HXP.out;rw[HSEQ.out] at h2;rw[List.length_map] at h1;rw[List.length_nil] at hlx;omega
  obtain⟨z,hz⟩:∃ z,zs.getLast? = some z:=⟨zs.getLast hne,List.getLast?_eq_some_getLast hne⟩;have hzm:z ∈ zs:=List.mem_of_getLast? hz;have hsx:sts xs=sts zs:=by rw[j2e,HXP.out,hzl]
  have hcx:=q9h (n:=fn) HCK.out (HXP.out.trans HSEQ.out.symm);have hcz:∀ y ∈ zs,SmallS y.s:=fun y hy=>by
   have h1:y.s ∈ sts zs:=List.mem_map_of_mem (f:=fun(e:El)=>e.s) hy;rw[←hsx] at h1;obtain⟨y2,hy2,he⟩:=List.mem_map.1 h1;rw[←he];exact q38 (hcx y2 hy2)
  have hzy:z.s=ys0:=by
   rw[HYL.out,←hzl];unfold sts;rw[List.getLastD_eq_getLast?,List.getLast?_map,hz];rfl
  have HS1:=η (fun(W:World) (hb:Below W8.heap.size W8 W)=>z65 (xs:=xs) (ys:=zs) xc zc W ((hxs5.below hb).more hb.size) ((hzs8.below hb).more hb.size) (fun y hy=>q38 (hcx y hy)) hcz hll);rw[show sameL (sts xs) (sts zs)=true from decide_eq_true hsx] at HS1;have HLS:=η (fun(W:World) (hb:Below W8.heap.size W8 W)=>z2y (ys:=zs) zc (m1:Int) W ((hzs8.below hb).more hb.size) hz (by omega) hzc);have HSA:=η (fun(W:World) (hb:Below W8.heap.size W8 W)=>q2t (sv:=.agg #[.int .i64 ya,.int .i64 yb,.slice Y1 p1 q1,.slice Y2 p2 q2,.slice Y3 p3 q3,.slice Y4 p4 q4]) (tv:=z.val) W ((hys5.below hb).more hb.size) (((hzs8.el z hzm).below hb).more hb.size) (hzy▸hcz z hzm) (hcz z hzm));rw[hzy,show sameB ys0 ys0=true from sameB_iff.2 rfl] at HSA;obtain⟨za,zb,Z1,u1',v1',Z2,u2',v2',Z3,u3',v3',Z4,u4',v4',zst,zcm⟩:=z;unfold El.val at HLS HSA;dsimp only at HLS HSA;have hrx:=hrb.lt;obtain⟨zn,hzn⟩:∃ n,zs.length=n:=⟨_,rfl⟩;rw[hlx,hzn] at HS1;rw[hzn] at HLS hrb hW8;rw[hlx,hzn];obtain⟨y0,y1,y2,y3,y4,y5⟩:=ζ6 hbx;obtain⟨r0,r1⟩:=ζ2 hrb;have hyl9:=hbx.lt;clear hal hrb hb hb8 hlw hxs5 hys5 hzs hzs8 hbx hlx hll hne hz hzm hsx hcx hcz hzy hzn hzc hzl HRF HXP HXC HYL HSEQ;clear l0 l1 t0 b0 b1 b2 b3 b4 b5;go_wp2_with (fail);have g0:=fun d os=>cell_regrown y0 d os
  have g1:=fun d os=>cell_regrown y1 d os
  have g2:=fun d os=>cell_regrown y2 d os
  have g3:=fun d os=>cell_regrown y3 d os
  have g4:=fun d os=>cell_regrown y4 d os
  have g5:=fun d os=>cell_regrown y5 d os
  have k0:=fun d os=>cell_regrown r0 d os
  have k1':=fun d os=>cell_regrown r1 d os
  refine wp_region_quiet_below (by kernel_rfl) (by kernel_rfl) ?_;repeat (quiet_step (first|(go_at_call 25;exact Calls.regrown_of (HAL.out _ (HLW.out.next (below_regrown _ _ _))))|(go_at_call 27;exact Calls.regrown_of (HS1.out _ (below_regrown _ _ _)))|(go_at_call 28;exact Calls.regrown_of (HLS.out _ (below_regrown _ _ _)))|(go_at_call 14;exact Calls.regrown_of (HSA.out _ (below_regrown _ _ _)))))
  refine wpQuiet_nil ?_;rintro _ ⟨⟨d9,os9⟩,rfl⟩;clear g0 g1 g2 g3 g4 g5 k0 k1';have HBW:=η (HLW.out.next (below_regrown W8 d9 os9)).one.below;clear HLW;generalize grow (redrawn W8 d9) os9=w9 at *;go_wp2;go_ret;exact⟨rfl,HBW.out⟩
 ·have hlz:L1=[]:=by rw[←HL1.out];unfold runL;rw[HER.out,if_neg hz]
  subst hlz;have hx0:xs=[]:=List.map_eq_nil_iff.1 HXP.out;obtain rfl:m1=0:=by rw[←HM1.out];rfl
  have hy0:ys0=St.zero:=HYL.out;subst hx0 hy0;clear HREF HL1 HM1 HXP HXC HYL HXS;by_cases hc0:ck=0
  ·subst hc0;have hf:fu<0∨40<fu:=by
    have h:=HER.out;unfold chk11 at h;rw[HCK.out,if_pos rfl] at h;split at h
    ·assumption
    ·exact absurd h.symm hz
   obtain rfl:er=1:=by
    have h:=HER.out;unfold chk11 at h;rw[HCK.out,if_pos rfl,if_pos hf] at h;exact h.symm
   by_cases hf0:fu<0
   ·have q1':decide (fu<0)=true:=decide_eq_true hf0;go_wp2_with (fail);refine(HAL.out w6 HLW.out).mono ?_;rintro e w7 ⟨rfl,hb⟩;have hlw:=HLW.out.next hb;have hys5:=(HYS.out.below hb).more hb.size;have hbx:=HYB.out.below hb HYB.out.lt;clear HLW HYS HYB HAL;have HLW:=η hlw;have HYS:=η hys5;have HYB:=η hbx;clear hb hlw hys5 hbx;obtain⟨y0,y1,y2,y3,y4,y5⟩:=ζ6 HYB.out;have hsa:=q2t (tv:=zeroEl.val) w7 HYS.out (q28 w7) q19 q19;rw[show sameB St.zero St.zero=true from sameB_iff.2 rfl] at hsa;unfold El.val zeroEl at hsa;dsimp only at hsa;have HSA:=η hsa;clear hsa;go_wp2_with (fail);refine HSA.out.mono ?_;rintro e w8 ⟨rfl,hb⟩;have HBW:=η (HLW.out.one.below.trans (hb.mono HLW.out.one.below.size));clear hb;go_wp2;go_ret;exact⟨rfl,HBW.out⟩
   ·have hf1:40<fu:=hf.resolve_left hf0;have q1':decide (fu<0)=false:=decide_eq_false hf0;have q2':decide (40<fu)=true:=decide_eq_true hf1;go_wp2_with (fail);refine(HAL.out w6 HLW.out).mono ?_;rintro e w7 ⟨rfl,hb⟩;have hlw:=HLW.out.next hb;have hys5:=(HYS.out.below hb).more hb.size;have hbx:=HYB.out.below hb HYB.out.lt;clear HLW HYS HYB HAL;have HLW:=η hlw;have HYS:=η hys5;have HYB:=η hbx;clear hb hlw hys5 hbx;obtain⟨y0,y1,y2,y3,y4,y5⟩:=ζ6 HYB.out;have hsa:=q2t (tv:=zeroEl.val) w7 HYS.out (q28 w7) q19 q19;rw[show sameB St.zero St.zero=true from sameB_iff.2 rfl] at hsa;unfold El.val zeroEl at hsa;dsimp only at hsa;have HSA:=η hsa;clear hsa;go_wp2_with (fail);refine HSA.out.mono ?_;rintro e w8 ⟨rfl,hb⟩;have HBW:=η (HLW.out.one.below.trans (hb.mono HLW.out.one.below.size));clear hb;go_wp2;go_ret;exact⟨rfl,HBW.out⟩
  ·obtain rfl:er=ck:=by
    have h:=HER.out;unfold chk11 at h;rw[HCK.out,if_neg hc0] at h;exact h.symm
   have q1':((er:Int)==0)=false:=by rw[beq_eq_false_iff_ne];omega
   have q2':((er:Int) != 0)=true:=by rw[bne_iff_ne];omega
   go_wp2_with (fail);refine(HAL.out w6 HLW.out).mono ?_;rintro e w7 ⟨rfl,hb⟩;have hlw:=HLW.out.next hb;have hys5:=(HYS.out.below hb).more hb.size;have hbx:=HYB.out.below hb HYB.out.lt;clear HLW HYS HYB HAL;have HLW:=η hlw;have HYS:=η hys5;have HYB:=η hbx;clear hb hlw hys5 hbx;obtain⟨y0,y1,y2,y3,y4,y5⟩:=ζ6 HYB.out;have hsa:=q2t (tv:=zeroEl.val) w7 HYS.out (q28 w7) q19 q19;rw[show sameB St.zero St.zero=true from sameB_iff.2 rfl] at hsa;unfold El.val zeroEl at hsa;dsimp only at hsa;have HSA:=η hsa;clear hsa;go_wp2_with (fail);refine HSA.out.mono ?_;rintro e w8 ⟨rfl,hb⟩;have HBW:=η (HLW.out.one.below.trans (hb.mono HLW.out.one.below.size));clear hb;go_wp2;go_ret;exact⟨rfl,HBW.out⟩
end Go.Proofs.YtjobifclmcdjcaaGreatDoor
