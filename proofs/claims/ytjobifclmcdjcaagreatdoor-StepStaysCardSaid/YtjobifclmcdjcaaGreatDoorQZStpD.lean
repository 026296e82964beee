import Derived.Lib.AppendZerosOnto
import Derived.Test.YtjobifclmcdjcaaGreatDoorQZTabE
import Derived.Test.YtjobifclmcdjcaaGreatDoorQZFree
import Derived.Test.YtjobifclmcdjcaaGreatDoorQZStpA
import Derived.Test.YtjobifclmcdjcaaGreatDoorQZRulA
import Derived.Test.YtjobifclmcdjcaaGreatDoorQZCodE
import Derived.Test.YtjobifclmcdjcaaGreatDoorQZCodP
import Derived.Test.YtjobifclmcdjcaaGreatDoorQZCodA
import Derived.Test.YtjobifclmcdjcaaGreatDoorQZPub
set_option maxHeartbeats 64000000
set_option maxRecDepth 100000
namespace Go.Proofs.YtjobifclmcdjcaaGreatDoor
open Go.RowKit Go.Shelf
attribute [local go_sem] Oper.semAt_some
theorem q0u{P:Program}{ops:Array Oper}{rest:List Oper}{o:Oper}{a:Act}{w:World}{Q:Exit→Act→World→Prop}(hgd:o.guard=none)(s x:Operand)(t1 t2:TypeId)(ho:o.op=.call { callee:=.builtin .append,args:=#[s,x],argTypes:=#[t1,t2] })(v1 v2:Value)(hs:a.eval s=v1)(hx:a.eval x=v2)(v':Value)(w':World)(hr:(Builtin.append_ #[t1,t2] o.type #[v1,v2]).run P w=.ok v' w')(h:wpList P ops Q rest (a.put o.dst v') w'):wpList P ops Q (o :: rest) a w:=by
 refine wpList_plain hgd fun K hK=>?_
 unfold Oper.wp execOp;simp only[ho,resolve,invoke,builtin,Sem.run_bind,Sem.run_pure,Result.andThen_ok,List.map_toArray,List.map_cons,List.map_nil,hs,hx,hr];exact hK _ _ h
theorem Row.cellM{w:World}{B:Nat}{ad:Addr}{xs:List Value}(h:Row w B (some ad) xs){j:Nat}{u:Value}(hu:xs[j]? = some u):w.cell? (ad.add j)=some u:=by
 obtain⟨ad',e,_,hc⟩:=h (by rintro rfl;simp at hu);injection e with e;subst e;exact hc j u hu
theorem q7z{P:Program}{w:World}(base:Nat)(t ty e:TypeId)(i:TypeInfo)(z:Value)(size bytes:Nat)(ht:P.underlying t=some (.slice e))(hi:P.info? e=some i)(hz:i.zero=some z)(hsize:i.size=size)(hby:i.bytes=bytes)(hzs:z.cells.size=size)(hsz:0<size)(v:Value)(n:Nat)(xs:List Value)(hown:w.ownsRow base e size v n xs)(A:Option Addr)(m c:Nat)(news:List Value)(hn:news.length=m*size)(hA:A=none→c=0)(hr:Row w w.heap.size A news)(h1:∀ u ∈ news,u.oneCell'=true)(h63:n+m≤maxLen)(hbytes:(n+m)*bytes≤140737488355328)(hbase:base≤w.heap.size) :
  ∃ v' w',(Builtin.append_ #[t,t] ty #[v,.slice A m c]).run P w=.ok v' w'∧w'.ownsRow base e size v' (n+m) (xs++news)∧w.grownBy w' v.ownBlock∧(v'.ownBlock=v.ownBlock∨v'.ownBlock=some w.heap.size):=by
 cases A with
 | some ad =>
  obtain⟨v',w',h1,h2,h3,_,h5⟩:=run_append_own_at (P:=P) w base t ty e i z size bytes ht hi hz hsize hby hzs hsz v n xs hown ad m c news hn (fun j u hu=>Row.cellM hr hu) h1 h63 hbytes hbase;exact⟨v',w',h1,h2,h3,h5⟩
 | none =>
  have hn0:news=[]:=by
   cases news with
   | nil=>rfl
   | cons y r=>obtain⟨ad,e,_⟩:=hr (by simp);cases e
  subst hn0;have hm:m=0:=by
   rcases Nat.eq_zero_or_pos m with h|h
   ·exact h
   ·have:=Nat.mul_pos h hsz;simp at hn;omega
  subst hm;rw[hA rfl];exact⟨v,w,run_append_owned_none (P:=P) (w:=w) base t ty e i size ht hi v n xs hown,by simpa using hown,World.grownBy.refl _ _,.inl rfl⟩
section
variable {q:MB} {m:Sp.M} {x:MV} {W W':World}
theorem Mach.grown(h:Mach q m x W){l:List St.Slot}{A':Option Addr}{c':Nat}(hown:W'.ownsRow q.B 78 3 (.slice A' (m.st.stack.length+l.length) c') (m.st.stack.length+l.length) (fcells svs m.st.stack++fcells svs l))(hg:W.grownBy W' (Value.slice x.sA m.st.stack.length x.sc).ownBlock)(h5:(Value.slice A' (m.st.stack.length+l.length) c').ownBlock=(Value.slice x.sA m.st.stack.length x.sc).ownBlock∨(Value.slice A' (m.st.stack.length+l.length) c').ownBlock=some W.heap.size) :
  Mach q (m.put l) { x with sA:=A',sc:=c' } (W'.setCell ⟨q.g,6,none⟩ (.slice A' (m.st.stack.length+l.length) c'))∧Kpt q.B W (W'.setCell ⟨q.g,6,none⟩ (.slice A' (m.st.stack.length+l.length) c')):=by
 have hbl:Below q.B W W':=(Below.refl q.B W).grown hg h.le (fun k he=>(h.stack.lt k he).1);have hblk:Blk W' q.g 103 (mcells q m x):=(hg.block q.g h.lt (fun e=>q0g h.blk h.stack (by decide) e.symm)).trans h.blk;have hap:Apart (.slice A' (m.st.stack.length+l.length) c') (.slice x.gA m.args.length x.gc):=by
  rcases h5 with e|e
  ·rcases h.sg with h0|h0
   ·exact .inl (e.trans h0)
   ·exact .inr (by rw[e];exact h0)
  ·refine .inr fun e2=>?_
   rw[e] at e2;exact absurd (h.args.lt _ e2.symm).2 (Nat.lt_irrefl _)
 have hcl:(mcells q m x).setIfInBounds 6 (.slice A' (m.st.stack.length+l.length) c')=mcells q (m.put l) { x with sA:=A',sc:=c' }:=by
  unfold Sp.M.put mcells;rw[←List.length_append];rfl
 have hst:W'.ownsRow q.B 78 3 (.slice A' (m.put l).st.stack.length c') (m.put l).st.stack.length (fcells svs (m.put l).st.stack):=by
  show W'.ownsRow q.B 78 3 (.slice A' (m.st.stack++l).length c') (m.st.stack++l).length (fcells svs (m.st.stack++l));rw[List.length_append,show fcells svs (m.st.stack++l)=fcells svs m.st.stack++fcells svs l by simp[fcells]];exact hown
 have hc:=h.code.kept hg (q1m h.code h.stack (by decide));have hm:=h.mem.kept hg (q1m h.mem h.stack (by decide));have ho:=h.out.kept hg (q1m h.out h.stack (by decide));have ha:=h.args.kept hg h.sg.symm;refine⟨⟨hcl▸hblk.set_ 6 _,q0j hc (q0g hblk hc (by decide)) _,q0j hm (q0g hblk hm (by decide)) _,q0j hst (q0g hblk hst (by decide)) _,q0j ho (q0g hblk ho (by decide)) _,q0j ha (q0g hblk ha (by decide)) _,h.mo,?_,?_,h.base⟩,((Kpt.refl q.B W).grown h.stack hg h.le (.inl rfl)).setM hblk h.base 6 _⟩
 ·show Apart (.slice A' (m.st.stack++l).length c') _;rw[List.length_append];exact hap
 ·exact h.lat.below (hbl.setCell (p:=⟨q.g,6,none⟩) h.base _)
def Put(q:MB)(m:Sp.M)(x:MV)(w:World)(e:Ending)(w':World):Prop:=e=.returned (.tuple #[])∧(∃ A c,Mach q m { x with sA:=A,sc:=c } w')∧Kpt q.B w w'
theorem q7o{w:World}{l:List St.Slot}{A:Option Addr}(c:Nat)(h:Mach q m x w)(hr:Row w w.heap.size A (fcells svs l))(hA:A=none→c=0)(hl:l.length≤100)(hs:m.st.stack.length≤100) :
  Calls Tryz.prog 149 #[.pointer (some ⟨q.g,0,none⟩),.slice A l.length c] w (Put q (m.put l) x w):=by
 obtain⟨i0,hi,hz0,hz1,hz2⟩:=info_parts Tryz.infoSlot;obtain⟨v',w1,hrun,hown,hg,h5⟩:=q7z (P:=Tryz.prog) q.B 33 33 78 i0 (.agg #[.bool false,.int .i64 0,.int .i64 0]) 3 24 Tryz.underlying33 hi hz0 hz1 hz2 rfl (by decide)
  (.slice x.sA m.st.stack.length x.sc) m.st.stack.length (fcells svs m.st.stack) h.stack A l.length c (fcells svs l) (q01 q07 l) hA hr (q1x q6v l) (by unfold maxLen;omega) (by omega) h.le
 obtain⟨A1,c1,rfl⟩:=q0b hown;obtain⟨hm2,hb2⟩:=h.grown hown hg h5;have hblk:Blk w1 q.g 103 (mcells q m x):=(hg.block q.g h.lt (fun e=>q0g h.blk h.stack (by decide) e.symm)).trans h.blk;have f6:w.cell? ⟨q.g,6,none⟩=some (.slice x.sA m.st.stack.length x.sc):=h.blk.cell 6;have z6:w1.frozen? ⟨q.g,6,none⟩=false:=hblk.frozen 6;have g6:w1.cell? ⟨q.g,6,none⟩=some (.slice x.sA m.st.stack.length x.sc):=hblk.cell 6;have HRUN:=η hrun;have HM:=η hm2;have HB:=η hb2;clear hrun hown hg h5 hm2 hb2 hblk h hr;go_enter Tryz.func149,Tryz.ntmps149;go_wp2_with (at_builtin;refine q0u rfl _ _ 33 33 rfl _ _ rfl rfl _ _ HRUN.out ?_);go_end0;exact⟨rfl,⟨A1,c1,HM.out⟩,HB.out⟩
end
theorem q6w{P:Program}{w:World}{base:Nat}(t ty e:TypeId)(i:TypeInfo)(size c:Nat)(ht:P.underlying t=some (.slice e))(hi:P.info? e=some i)(v:Value)(n:Nat)(xs:List Value)(hown:w.ownsRow base e size v n xs):(Builtin.append_ #[t,t] ty #[v,.slice none 0 c]).run P w=.ok v w:=by
 rcases hown.2 with⟨rfl,rfl⟩|⟨g,cap,cur,rfl,_,_,hnc,_⟩
 ·simp[Builtin.append_,run_underlying ht,sizeOf,typeInfo,hi,Builtin.lenOf,Builtin.firstCells]
 ·simp[Builtin.append_,run_underlying ht,sizeOf,typeInfo,hi,Builtin.lenOf,Builtin.firstCells,hnc,storeCells]
theorem q1p{P:Program}{w:World}(base:Nat)(t ty e:TypeId)(i:TypeInfo)(z:Value)(size bytes:Nat)(ht:P.underlying t=some (.slice e))(hi:P.info? e=some i)(hz:i.zero=some z)(hsize:i.size=size)(hby:i.bytes=bytes)(hzs:z.cells.size=size)(hsz:0<size)(v:Value)(n:Nat)(xs:List Value)(hown:w.ownsRow base e size v n xs)(A:Option Addr)(m c:Nat)(news:List Value)(hn:news.length=m*size)(hr:Row w w.heap.size A news)(h1:∀ u ∈ news,u.oneCell'=true)(h63:n+m≤maxLen)(hbytes:(n+m)*bytes≤140737488355328)(hbase:base≤w.heap.size) :
  ∃ v' w',(Builtin.append_ #[t,t] ty #[v,.slice A m c]).run P w=.ok v' w'∧w'.ownsRow base e size v' (n+m) (xs++news)∧Below base w w'∧∀(g:Nat) (t:TypeId) (cs:Array Value),some g≠v.ownBlock→Blk w g t cs→Blk w' g t cs:=by
 cases A with
 | some ad =>
  obtain⟨v',w',h1,h2,h3,_,h5⟩:=run_append_own_at (P:=P) w base t ty e i z size bytes ht hi hz hsize hby hzs hsz v n xs hown ad m c news hn (fun j u hu=>Row.cellM hr hu) h1 h63 hbytes hbase;exact⟨v',w',h1,h2,(Below.refl base w).grown h3 hbase (fun k he=>(hown.lt k he).1),fun g t cs hg hb=>(h3.block g hb.lt hg).trans hb⟩
 | none =>
  have hn0:news=[]:=by
   cases news with
   | nil=>rfl
   | cons y r=>obtain⟨ad,e,_⟩:=hr (by simp);cases e
  subst hn0;have hm:m=0:=by
   rcases Nat.eq_zero_or_pos m with h|h
   ·exact h
   ·have:=Nat.mul_pos h hsz;simp at hn;omega
  subst hm;exact⟨v,w,q6w (P:=P) (w:=w) t ty e i size c ht hi v n xs hown,by simpa using hown,Below.refl _ _,fun _ _ _ _ h=>h⟩
theorem q2o{α:Type}(f:α→List Value)(l r:List α):fcells f (l++r)=fcells f l++fcells f r:=by simp[fcells]
theorem q7d{A:Option Addr}{l:List St.Slot}(n c:Nat)(b:Bool)(v la:Int)(w:World)(h:Row w w.heap.size A (fcells svs l))(hn:l.length=n)(hl:n≤1000) :
  Calls Tryz.prog 73 #[.slice A n c,.agg #[.bool b,.int .i64 v,.int .i64 la]] w fun e w'=>∃ A' c',e=.returned (.slice A' (n+1) c')∧w'.ownsRow w.heap.size 78 3 (.slice A' (n+1) c') (n+1) (fcells svs (l++[⟨b,v,la⟩]))∧Below w.heap.size w w':=by
 obtain⟨i0,hi,hz0,hz1,hz2⟩:=info_parts Tryz.infoSlot;have hb0:=(Below.refl _ w).alloc (Nat.le_refl _) (.cells #[.bool b,.int .i64 v,.int .i64 la] 78);have hx0:=Blk.new w 78 #[.bool b,.int .i64 v,.int .i64 la];obtain⟨W0,hW0⟩:∃ W0,w.alloc (.cells #[.bool b,.int .i64 v,.int .i64 la] 78)=W0:=⟨_,rfl⟩;rw[hW0] at hb0 hx0;have hb1:=hb0.alloc hb0.size (.cells #[] 78);have hx1:=hx0.alloc (.cells #[] 78);have hown0:=q1z W0 78 3;have hz:=hx0.lt;obtain⟨W1,hW1⟩:∃ W1,W0.alloc (.cells #[] 78)=W1:=⟨_,rfl⟩;rw[hW1] at hb1 hx1 hown0;have hs1:W0.heap.size≤W1.heap.size:=by rw[←hW1];simp
 obtain⟨v1,W2,hrun,hown,hb2,hk2⟩:=q1p (P:=Tryz.prog) W0.heap.size 33 33 78 i0 (.agg #[.bool false,.int .i64 0,.int .i64 0]) 3 24 Tryz.underlying33 hi hz0 hz1 hz2 rfl (by decide)
  _ 0 [] hown0 A n c (fcells svs l) (by rw[q01 q07,hn]) ((h.below hb1).more hb1.size) (q1x q6v l) (by unfold maxLen;omega) (by omega) hs1
 have hx2:=hk2 _ _ _ (by show some w.heap.size≠some W0.heap.size;intro e;injection e with e;omega) hx1;have hb2':=hb1.trans (hb2.mono hb0.size);rw[Nat.zero_add,List.nil_append] at hown;have x0:=hx2.cell 0;have x1:=hx2.cell 1;have x2:=hx2.cell 2;have hs2:W0.heap.size≤W2.heap.size:=Nat.le_trans hs1 hb2.size;have hb3:=hb2'.alloc hb2'.size (.cells #[.bool b,.int .i64 v,.int .i64 la] 78);have hr3:=(Blk.new W2 78 #[.bool b,.int .i64 v,.int .i64 la]).row;have hown3:=hown.alloc (.cells #[.bool b,.int .i64 v,.int .i64 la] 78);have hlt3:=(Blk.new W2 78 #[.bool b,.int .i64 v,.int .i64 la]).lt;obtain⟨W3,hW3⟩:∃ W3,W2.alloc (.cells #[.bool b,.int .i64 v,.int .i64 la] 78)=W3:=⟨_,rfl⟩;rw[hW3] at hb3 hr3 hown3 hlt3;obtain⟨v3,W4,hrun2,hown4,hb4,-⟩:=q1p (P:=Tryz.prog) W0.heap.size 33 33 78 i0 (.agg #[.bool false,.int .i64 0,.int .i64 0]) 3 24 Tryz.underlying33 hi hz0 hz1 hz2 rfl (by decide)
  _ n _ hown3 (some ⟨W2.heap.size,0,none⟩) 1 1 [.bool b,.int .i64 v,.int .i64 la] rfl (hr3.more hlt3) (by intro u hu;simp at hu;rcases hu with rfl|rfl|rfl<;>rfl) (by unfold maxLen;omega) (by omega) (by omega)
 obtain⟨A4,c4,rfl⟩:=q0b hown4;have HRUN:=η hrun;have HRUN2:=η hrun2;have HB:=η (hb3.trans (hb4.mono hb0.size));have HO:Hid (W4.ownsRow w.heap.size 78 3 (.slice A4 (n+1) c4) (n+1) (fcells svs (l++[⟨b,v,la⟩]))):=η (by rw[q2o];exact q0s hown4 hb0.size);clear hrun hrun2 hown hown0 hown3 hown4 hb0 hb1 hb2 hb3 hb4 hb2' hx0 hx1 hx2 hk2 hr3 h hs1 hs2 hlt3 hz;go_enter Tryz.func73,Tryz.ntmps73;go_wp2_with (at_builtin;first|(refine q0u rfl _ _ 33 33 rfl _ _ rfl rfl _ _ HRUN.out ?_)|(refine q0u rfl _ _ 33 33 rfl _ _ rfl rfl _ _ HRUN2.out ?_));go_ret;exact⟨A4,c4,rfl,HO.out,HB.out⟩
theorem j1b{s:St.State}{x:Cd.In}{n:Sp.Nd}{res:Int}{k:Nat}{y:St.Atom}(hk:s.mem[k]? = some y)(hv:x.op=6→0≤n.a.v):(Sp.memT s x n res)[k]? = some (if x.op=6∧(k:Int)=n.a.v then⟨n.b.v,res⟩ else y):=by
 have hlt:=(List.getElem?_eq_some_iff.1 hk).1;unfold Sp.memT;by_cases h6:x.op=6
 ·rw[if_pos h6];by_cases hka:(k:Int)=n.a.v
  ·rw[if_pos ⟨h6,hka⟩,←hka,Int.toNat_natCast,List.getElem?_set_self hlt]
  ·rw[if_neg (fun h=>hka h.2),List.getElem?_set_ne (by have:=hv h6;omega)];exact hk
 ·rw[if_neg h6,if_neg (fun h=>h6 h.1)];exact hk
theorem z3g{α:Type}{l:List α}{k:Nat}{y:α}(h:l[k]? = some y):l.take (k+1)=l.take k++[y]:=by
 rw[List.take_add_one,h];rfl
theorem z5e{pl:Int}{cA mA sA oA:Option Addr}{cN cc mN mc sN sc oN oc:Nat}{s:St.State}{xn xl:Int}{ni ar br rr:Bool}{av al bv bl rv rl n1 n2 n3:Int}{nb:Nat}(p o:Nat)(res:Int)(w:World)(h:Op10 w s (p:Int) pl cA cN cc mA mN mc sA sN sc oA oN oc)(hx:s.code[p]? = some ⟨o,xn,xl⟩)(ha:o=6→0≤av)(hm:mN≤1000) :
  Calls Tryz.prog 39 #[.agg #[.int .i64 (p:Int),.int .i64 pl,.slice cA cN cc,.slice mA mN mc,.slice sA sN sc,.slice oA oN oc],.agg #[.bool ni,.bool ar,.int .i64 av,.int .i64 al,.bool br,.int .i64 bv,.int .i64 bl,.bool rr,.int .i64 rv,.int .i64 rl,.int .i64 n1,.int .i64 n2,.int .i64 n3,.int .i64 (nb:Int)],.int .i64 res] w fun e w'=>∃ A' c',e=.returned (.slice A' mN c')∧w'.ownsRow w.heap.size 30 2 (.slice A' mN c') mN (fcells avs (Sp.memT s ⟨o,xn,xl⟩ ⟨ni,⟨ar,av,al⟩,⟨br,bv,bl⟩,⟨rr,rv,rl⟩,n1,n2,n3,nb⟩ res))∧Below w.heap.size w w':=by
 obtain⟨M,hM⟩:∃ M,Sp.memT s ⟨o,xn,xl⟩ ⟨ni,⟨ar,av,al⟩,⟨br,bv,bl⟩,⟨rr,rv,rl⟩,n1,n2,n3,nb⟩ res=M:=⟨_,rfl⟩;rw[hM];have HAT:=η (fun(k:Nat) (y:St.Atom) (hk:s.mem[k]? = some y)=>hM▸j1b (x:=⟨o,xn,xl⟩) (n:=⟨ni,⟨ar,av,al⟩,⟨br,bv,bl⟩,⟨rr,rv,rl⟩,n1,n2,n3,nb⟩) (res:=res) hk (fun e=>ha (by dsimp only at e;omega)));have HML:Hid (M.length=mN):=η (by rw[←hM,Sp.memT_length];exact h.mn);obtain⟨i0,hi,hz0,hz1,hz2⟩:=info_parts Tryz.infoAtom;have hb0:=(Below.refl _ w).alloc (Nat.le_refl _) (.cells #[.int .i64 (p:Int),.int .i64 pl,.slice cA cN cc,.slice mA mN mc,.slice sA sN sc,.slice oA oN oc] 35);have hx0:=Blk.new w 35 #[.int .i64 (p:Int),.int .i64 pl,.slice cA cN cc,.slice mA mN mc,.slice sA sN sc,.slice oA oN oc];obtain⟨Wa,hWa⟩:∃ Wa,w.alloc (.cells #[.int .i64 (p:Int),.int .i64 pl,.slice cA cN cc,.slice mA mN mc,.slice sA sN sc,.slice oA oN oc] 35)=Wa:=⟨_,rfl⟩;have hsa:Wa.heap.size=w.heap.size+1:=by rw[←hWa];simp
 rw[hWa] at hb0 hx0;have hb1:=hb0.alloc hb0.size (.cells #[.bool ni,.bool ar,.int .i64 av,.int .i64 al,.bool br,.int .i64 bv,.int .i64 bl,.bool rr,.int .i64 rv,.int .i64 rl,.int .i64 n1,.int .i64 n2,.int .i64 n3,.int .i64 (nb:Int)] 80);have hx1:=hx0.alloc (.cells #[.bool ni,.bool ar,.int .i64 av,.int .i64 al,.bool br,.int .i64 bv,.int .i64 bl,.bool rr,.int .i64 rv,.int .i64 rl,.int .i64 n1,.int .i64 n2,.int .i64 n3,.int .i64 (nb:Int)] 80);have hn1:=Blk.new Wa 80 #[.bool ni,.bool ar,.int .i64 av,.int .i64 al,.bool br,.int .i64 bv,.int .i64 bl,.bool rr,.int .i64 rv,.int .i64 rl,.int .i64 n1,.int .i64 n2,.int .i64 n3,.int .i64 (nb:Int)];rw[hsa] at hn1;obtain⟨Wb,hWb⟩:∃ Wb,Wa.alloc (.cells #[.bool ni,.bool ar,.int .i64 av,.int .i64 al,.bool br,.int .i64 bv,.int .i64 bl,.bool rr,.int .i64 rv,.int .i64 rl,.int .i64 n1,.int .i64 n2,.int .i64 n3,.int .i64 (nb:Int)] 80)=Wb:=⟨_,rfl⟩;have hsb:Wb.heap.size=w.heap.size+2:=by rw[←hWb];simp;omega
 rw[hWb] at hb1 hx1 hn1;have hb2:=hb1.alloc hb1.size (.cells #[] 30);have hx2:=hx1.alloc (.cells #[] 30);have hn2:=hn1.alloc (.cells #[] 30);have hown0:=q1z Wb 30 2;obtain⟨Wc,hWc⟩:∃ Wc,Wb.alloc (.cells #[] 30)=Wc:=⟨_,rfl⟩;rw[hWc] at hb2 hx2 hn2 hown0;have hown0:=q0s hown0 (show w.heap.size+2≤Wb.heap.size by omega);rw[hsb] at hown0;have s2c:Wc.cell? ⟨w.heap.size,3,none⟩=some (.slice mA mN mc):=hx2.cell 3;have HX0:=η hx2;have HN0:=η hn2;have HB0:=η hb2;have HO0:Hid (Wc.ownsRow (w.heap.size+2) 30 2 (.slice (some ⟨w.heap.size+2,0,none⟩) 0 0) 0 (fcells avs (M.take 0))):=η hown0;have HRC:=η h.rc;have HRM:=η h.rm;have HCN:=η h.cn;have HMN:=η h.mn;have HX:=η hx;have HSB:=η hsb;have hpc:p<cN:=by rw[←h.cn];exact(List.getElem?_eq_some_iff.1 hx).1
 clear h hx hM hb0 hb1 hb2 hx0 hx1 hx2 hn1 hn2 hown0 ha;go_enter Tryz.func39,Tryz.ntmps39;go_wp2;clear s2c;go_loopw [7,14] (fun v i wr=>∃(k:Nat) (An:Option Addr) (cn:Nat),k≤mN∧i=.int .i64 k∧v=.slice An k cn∧Hid (wr.ownsRow (w.heap.size+2) 30 2 (.slice An k cn) k (fcells avs (M.take k)))∧Hid (Below w.heap.size w wr)∧Hid (Blk wr w.heap.size 35 #[.int .i64 (p:Int),.int .i64 pl,.slice cA cN cc,.slice mA mN mc,.slice sA sN sc,.slice oA oN oc])∧Hid (Blk wr (w.heap.size+1) 80 #[.bool ni,.bool ar,.int .i64 av,.int .i64 al,.bool br,.int .i64 bv,.int .i64 bl,.bool rr,.int .i64 rv,.int .i64 rl,.int .i64 n1,.int .i64 n2,.int .i64 n3,.int .i64 (nb:Int)])) (fun _ i _=>mN-(intOf i).toNat);case atStart=>exact⟨0,some ⟨w.heap.size+2,0,none⟩,0,Nat.zero_le _,rfl,rfl,HO0,HB0,HX0,HN0⟩
 case round =>
  clear HO0 HB0 HX0 HN0;obtain⟨k,An,cn,hk,rfl,rfl,HO,HB,HS,HN⟩:=hrel;have hk1000:k≤1000:=by omega
  have s0:wr.cell? ⟨w.heap.size,0,none⟩=some (.int .i64 (p:Int)):=HS.out.cell 0;have s2:wr.cell? ⟨w.heap.size,2,none⟩=some (.slice cA cN cc):=HS.out.cell 2;have n2c:wr.cell? ⟨w.heap.size+1,2,none⟩=some (.int .i64 av):=HN.out.cell 2;have n5c:wr.cell? ⟨w.heap.size+1,5,none⟩=some (.int .i64 bv):=HN.out.cell 5;have HEND:∀(zv zl:Int) (W1:World),Hid (M[k]? = some ⟨zv,zl⟩∧W1.ownsRow (w.heap.size+2) 30 2 (.slice An k cn) k (fcells avs (M.take k))∧Below w.heap.size w W1∧Blk W1 w.heap.size 35 #[.int .i64 (p:Int),.int .i64 pl,.slice cA cN cc,.slice mA mN mc,.slice sA sN sc,.slice oA oN oc]∧Blk W1 (w.heap.size+1) 80 #[.bool ni,.bool ar,.int .i64 av,.int .i64 al,.bool br,.int .i64 bv,.int .i64 bl,.bool rr,.int .i64 rv,.int .i64 rl,.int .i64 n1,.int .i64 n2,.int .i64 n3,.int .i64 (nb:Int)])→∃ A' c' W2,(Builtin.append_ #[32,32] 32 #[.slice An k cn,.slice (some ⟨W1.heap.size,0,none⟩) 1 1]).run Tryz.prog (W1.alloc (.cells #[.int .i64 zv,.int .i64 zl] 30))=.ok (.slice A' (k+1) c') W2∧Hid (W2.ownsRow (w.heap.size+2) 30 2 (.slice A' (k+1) c') (k+1) (fcells avs (M.take (k+1))))∧Hid (Below w.heap.size w W2)∧Hid (Blk W2 w.heap.size 35 #[.int .i64 (p:Int),.int .i64 pl,.slice cA cN cc,.slice mA mN mc,.slice sA sN sc,.slice oA oN oc])∧Hid (Blk W2 (w.heap.size+1) 80 #[.bool ni,.bool ar,.int .i64 av,.int .i64 al,.bool br,.int .i64 bv,.int .i64 bl,.bool rr,.int .i64 rv,.int .i64 rl,.int .i64 n1,.int .i64 n2,.int .i64 n3,.int .i64 (nb:Int)]):=by
   intro zv zl W1 hh;obtain⟨hm1,hown,hbw,hs1,hn1⟩:=hh.out;have hlt1:=(Blk.new W1 30 #[.int .i64 zv,.int .i64 zl]).lt;have hsz:=hn1.lt;obtain⟨v',W2,hrun,hown2,hb2,hk2⟩:=q1p (P:=Tryz.prog) (w.heap.size+2) 32 32 30 i0 (.agg #[.int .i64 0,.int .i64 0]) 2 16 Tryz.underlying32 hi hz0 hz1 hz2 rfl (by decide)
    _ k _ (hown.alloc (.cells #[.int .i64 zv,.int .i64 zl] 30)) (some ⟨W1.heap.size,0,none⟩) 1 1 [.int .i64 zv,.int .i64 zl] rfl (((Blk.new W1 30 #[.int .i64 zv,.int .i64 zl]).row).more hlt1) (by intro u hu;simp at hu;rcases hu with rfl|rfl<;>rfl) (by unfold maxLen;omega) (by omega) (by omega)
   obtain⟨A',c',rfl⟩:=q0b hown2;have hown':=hown.alloc (.cells #[.int .i64 zv,.int .i64 zl] 30);refine⟨A',c',W2,hrun,η ?_,η ((hbw.alloc hbw.size _).trans (hb2.mono (by omega))),η (hk2 _ _ _ (fun e=>by have:=(hown'.lt _ e.symm).1;omega) (hs1.alloc _)),η (hk2 _ _ _ (fun e=>by have:=(hown'.lt _ e.symm).1;omega) (hn1.alloc _))⟩;rw[z3g hm1,q2o];exact hown2
  by_cases hlt:k<mN
  ·obtain⟨ad,y,rfl,hab,hy,y0,y1⟩:=q1q (HRM.out.below HB.out) (show k<s.mem.length by rw[HMN.out];exact hlt);obtain⟨cd,t,rfl,hcb,ht,t0,-,-⟩:=q17 (HRC.out.below HB.out) (show p<s.code.length by rw[HCN.out];exact hpc);rw[HX.out] at ht;injection ht with ht;subst ht;dsimp only at t0;have hz:=HB.out.size;have hab2:(ad.add (k*2)).block<wr.heap.size:=by rw[q0a];omega
   have hcb2:(cd.add (p*3)).block<wr.heap.size:=by rw[q0a];omega
   have hat:=HAT.out k y hy;obtain⟨yv,yl⟩:=y;dsimp only at y0 y1 hat
   have qi:((k:Int)==av)=decide ((k:Int)=av):=by rw[Bool.eq_iff_iff];simp
   by_cases h6:o=6
   ·subst h6;by_cases hka:(k:Int)=av
    ·subst hka;rw[if_pos ⟨rfl,rfl⟩] at hat
     clear qi;have hal:=(Below.refl wr.heap.size wr).alloc (Nat.le_refl _) (.cells #[.int .i64 yv,.int .i64 yl] 30);have hbx:=Blk.new wr 30 #[.int .i64 yv,.int .i64 yl];obtain⟨W1,hW1⟩:∃ W1,wr.alloc (.cells #[.int .i64 yv,.int .i64 yl] 30)=W1:=⟨_,rfl⟩;have how1:=hW1▸HO.out.alloc (.cells #[.int .i64 yv,.int .i64 yl] 30);rw[hW1] at hal hbx;obtain⟨z0,z1⟩:=ζ2 hbx;have r0:W1.cell? ⟨w.heap.size,0,none⟩=some (.int .i64 (p:Int)):=(HS.out.below hal HS.out.lt).cell 0;have r2:W1.cell? ⟨w.heap.size,2,none⟩=some (.slice (some cd) cN cc):=(HS.out.below hal HS.out.lt).cell 2;have r4:=(hal.cell hcb2).trans t0;have r5:W1.cell? ⟨w.heap.size+1,2,none⟩=some (.int .i64 (k:Int)):=(HN.out.below hal HN.out.lt).cell 2;have r6:W1.cell? ⟨w.heap.size+1,5,none⟩=some (.int .i64 bv):=(HN.out.below hal HN.out.lt).cell 5;have hs1:=HS.out.below hal HS.out.lt;have hn1:=HN.out.below hal HN.out.lt;have f0:=hbx.frozen 0;have f1:=hbx.frozen 1;have hnl:=HN.out.lt;have hsl:=HS.out.lt;obtain⟨W3,hW3⟩:∃ W3,(W1.setCell ⟨wr.heap.size,0,none⟩ (.int .i64 bv)).setCell ⟨wr.heap.size,1,none⟩ (.int .i64 res)=W3:=⟨_,rfl⟩;have hb3:Blk W3 wr.heap.size 30 #[.int .i64 bv,.int .i64 res]:=hW3▸(hbx.set_ 0 _).set_ 1 _;obtain⟨y3,y4⟩:=ζ2 hb3;have hk3:Kept wr.heap.size wr.heap.size W1 W3:=hW3▸((Kept.refl _ _ W1).set_ (p:=⟨wr.heap.size,0,none⟩) (.inl rfl) _).set_ (p:=⟨wr.heap.size,1,none⟩) (.inl rfl) _;have how3:=j16 how1 fun j hj=>by
      have h1:=hj;have h2:=(HO.out.lt j hj).2;exact hk3.block j (Nat.lt_of_lt_of_le h2 hal.size) (by omega) (by omega)
     have hal3:Below w.heap.size w W3:=(HB.out.trans (hal.mono HB.out.size)).trans (hk3.below (Nat.le_trans HB.out.size hal.size) HB.out.size HB.out.size);obtain⟨A',c',W2,hrun,HO2,HB2,HS2,HN2⟩:=HEND bv res W3 (η ⟨hat,how3,hal3,(hk3.block _ hs1.lt (by omega) (by omega)).trans hs1,(hk3.block _ hn1.lt (by omega) (by omega)).trans hn1⟩);have HRUN:=η hrun;clear hrun hal hbx hat HEND how1 hs1 hn1 hb3 hk3 how3 hal3;go_wp2_with (at_builtin;refine q0u rfl _ _ 32 32 rfl _ _ rfl rfl _ _ HRUN.out ?_);go_roundw;case rel=>exact⟨k+1,A',c',by omega,by go_num,rfl,HO2,HB2,HS2,HN2⟩
     case measure=>simp[intOf];omega
    ·rw[if_neg (fun h=>hka h.2)] at hat
     rw[decide_eq_false hka] at qi;clear hka;have hal:=(Below.refl wr.heap.size wr).alloc (Nat.le_refl _) (.cells #[.int .i64 yv,.int .i64 yl] 30);have hbx:=Blk.new wr 30 #[.int .i64 yv,.int .i64 yl];obtain⟨W1,hW1⟩:∃ W1,wr.alloc (.cells #[.int .i64 yv,.int .i64 yl] 30)=W1:=⟨_,rfl⟩;have how1:=hW1▸HO.out.alloc (.cells #[.int .i64 yv,.int .i64 yl] 30);rw[hW1] at hal hbx;obtain⟨z0,z1⟩:=ζ2 hbx;have r0:W1.cell? ⟨w.heap.size,0,none⟩=some (.int .i64 (p:Int)):=(HS.out.below hal HS.out.lt).cell 0;have r2:W1.cell? ⟨w.heap.size,2,none⟩=some (.slice (some cd) cN cc):=(HS.out.below hal HS.out.lt).cell 2;have r4:=(hal.cell hcb2).trans t0;have r5:W1.cell? ⟨w.heap.size+1,2,none⟩=some (.int .i64 av):=(HN.out.below hal HN.out.lt).cell 2;have r6:W1.cell? ⟨w.heap.size+1,5,none⟩=some (.int .i64 bv):=(HN.out.below hal HN.out.lt).cell 5;have hs1:=HS.out.below hal HS.out.lt;have hn1:=HN.out.below hal HN.out.lt;obtain⟨A',c',W2,hrun,HO2,HB2,HS2,HN2⟩:=HEND yv yl W1 (η ⟨hat,how1,HB.out.trans (hal.mono HB.out.size),hs1,hn1⟩);have HRUN:=η hrun;clear hrun hal hbx hat HEND how1 hs1 hn1;go_wp2_with (at_builtin;refine q0u rfl _ _ 32 32 rfl _ _ rfl rfl _ _ HRUN.out ?_);go_roundw;case rel=>exact⟨k+1,A',c',by omega,by go_num,rfl,HO2,HB2,HS2,HN2⟩
     case measure=>simp[intOf];omega
   ·have q6:((o:Int)==6)=false:=by rw[beq_eq_false_iff_ne];omega
    rw[if_neg (fun h=>h6 (by have:=h.1;omega))] at hat
    clear qi h6;have hal:=(Below.refl wr.heap.size wr).alloc (Nat.le_refl _) (.cells #[.int .i64 yv,.int .i64 yl] 30);have hbx:=Blk.new wr 30 #[.int .i64 yv,.int .i64 yl];obtain⟨W1,hW1⟩:∃ W1,wr.alloc (.cells #[.int .i64 yv,.int .i64 yl] 30)=W1:=⟨_,rfl⟩;have how1:=hW1▸HO.out.alloc (.cells #[.int .i64 yv,.int .i64 yl] 30);rw[hW1] at hal hbx;obtain⟨z0,z1⟩:=ζ2 hbx;have r0:W1.cell? ⟨w.heap.size,0,none⟩=some (.int .i64 (p:Int)):=(HS.out.below hal HS.out.lt).cell 0;have r2:W1.cell? ⟨w.heap.size,2,none⟩=some (.slice (some cd) cN cc):=(HS.out.below hal HS.out.lt).cell 2;have r4:=(hal.cell hcb2).trans t0;have r5:W1.cell? ⟨w.heap.size+1,2,none⟩=some (.int .i64 av):=(HN.out.below hal HN.out.lt).cell 2;have r6:W1.cell? ⟨w.heap.size+1,5,none⟩=some (.int .i64 bv):=(HN.out.below hal HN.out.lt).cell 5;have hs1:=HS.out.below hal HS.out.lt;have hn1:=HN.out.below hal HN.out.lt;obtain⟨A',c',W2,hrun,HO2,HB2,HS2,HN2⟩:=HEND yv yl W1 (η ⟨hat,how1,HB.out.trans (hal.mono HB.out.size),hs1,hn1⟩);have HRUN:=η hrun;clear hrun hal hbx hat HEND how1 hs1 hn1;go_wp2_with (at_builtin;refine q0u rfl _ _ 32 32 rfl _ _ rfl rfl _ _ HRUN.out ?_);go_roundw;case rel=>exact⟨k+1,A',c',by omega,by go_num,rfl,HO2,HB2,HS2,HN2⟩
    case measure=>simp[intOf];omega
  ·obtain rfl:k=mN:=by omega
   have HF:Hid (wr.ownsRow w.heap.size 30 2 (.slice An k cn) k (fcells avs M)):=η (by
    have:=HO.out;rw[List.take_of_length_le (by rw[HML.out];exact Nat.le_refl _)] at this
    exact q0s this (by omega))
   go_wp2;go_ret;exact⟨An,cn,rfl,HF.out,HB.out⟩
theorem z35(a:Addr)(i j:Nat):(a.add i).add j=a.add (i+j):=by
 by_cases hi:i=0<;>by_cases hj:j=0<;>simp[Addr.add,hi,hj,Nat.add_assoc]
theorem Row.drop10{w:World}{B:Nat}{ad:Addr}{xs:List Value}(h:Row w B (some ad) xs)(j:Nat):Row w B (some (ad.add j)) (xs.drop j):=fun hne=>by
 obtain⟨ad',e,hb,hc⟩:=h (fun e=>hne (by rw[e];simp))
 injection e with e
 subst e
 refine⟨_,rfl,by rw[q0a];exact hb,fun i u hu=>?_⟩
 rw[List.getElem?_drop] at hu
 rw[z35]
 exact hc _ u hu
theorem q43{W:World}{cA:Option Addr}{l:List Cd.In}{p:Nat}{x:Cd.In}(h:Row W W.heap.size cA (icells l))(hx:l[p]? = some x):∃ cd,cA=some cd∧(cd.add (p*3)).block<W.heap.size∧W.cell? (cd.add (p*3))=some (.int .i64 x.op) ∧
  W.cell? ⟨(cd.add (p*3)).block,(cd.add (p*3)).off+1,none⟩=some (.int .i64 x.n)∧W.cell? ⟨(cd.add (p*3)).block,(cd.add (p*3)).off+2,none⟩=some (.int .i64 x.l):=by
 obtain⟨cd,t,e,hb,ht,t0,t1,t2⟩:=q17 h (List.getElem?_eq_some_iff.1 hx).1;rw[hx] at ht;injection ht with ht;subst ht;exact⟨cd,e,by rw[q0a];exact hb,t0,t1,t2⟩
theorem z2w{pl:Int}{cA mA sA oA:Option Addr}{cN cc mN mc sN sc oN oc:Nat}{s:St.State}{xn xl:Int}{ni ar br rr:Bool}{av al bv bl rv rl n1 n2 n3:Int}{nb:Nat}(p:Nat)(o:Int)(w:World)(h:Op10 w s (p:Int) pl cA cN cc mA mN mc sA sN sc oA oN oc)(hx:s.code[p]? = some ⟨o,xn,xl⟩)(hp:p≤1000) :
  Calls Tryz.prog 41 #[.agg #[.int .i64 (p:Int),.int .i64 pl,.slice cA cN cc,.slice mA mN mc,.slice sA sN sc,.slice oA oN oc],.agg #[.bool ni,.bool ar,.int .i64 av,.int .i64 al,.bool br,.int .i64 bv,.int .i64 bl,.bool rr,.int .i64 rv,.int .i64 rl,.int .i64 n1,.int .i64 n2,.int .i64 n3,.int .i64 (nb:Int)]] w fun e w'=>e=.returned (.int .i64 (Sp.nextT s ⟨o,xn,xl⟩ ⟨ni,⟨ar,av,al⟩,⟨br,bv,bl⟩,⟨rr,rv,rl⟩,n1,n2,n3,nb⟩))∧Below w.heap.size w w':=by
 obtain⟨res,hres⟩:∃ res,Sp.nextT s ⟨o,xn,xl⟩ ⟨ni,⟨ar,av,al⟩,⟨br,bv,bl⟩,⟨rr,rv,rl⟩,n1,n2,n3,nb⟩=res:=⟨_,rfl⟩;rw[hres];unfold Sp.nextT at hres;dsimp only at hres;rw[h.pv] at hres;have hb0:=(Below.refl _ w).alloc (Nat.le_refl _) (.cells #[.int .i64 (p:Int),.int .i64 pl,.slice cA cN cc,.slice mA mN mc,.slice sA sN sc,.slice oA oN oc] 35);have hx0:=Blk.new w 35 #[.int .i64 (p:Int),.int .i64 pl,.slice cA cN cc,.slice mA mN mc,.slice sA sN sc,.slice oA oN oc];obtain⟨Wa,hWa⟩:∃ Wa,w.alloc (.cells #[.int .i64 (p:Int),.int .i64 pl,.slice cA cN cc,.slice mA mN mc,.slice sA sN sc,.slice oA oN oc] 35)=Wa:=⟨_,rfl⟩;have hsa:Wa.heap.size=w.heap.size+1:=by rw[←hWa];simp
 rw[hWa] at hb0 hx0;have hb1:=hb0.alloc hb0.size (.cells #[.bool ni,.bool ar,.int .i64 av,.int .i64 al,.bool br,.int .i64 bv,.int .i64 bl,.bool rr,.int .i64 rv,.int .i64 rl,.int .i64 n1,.int .i64 n2,.int .i64 n3,.int .i64 (nb:Int)] 80);have hx1:=hx0.alloc (.cells #[.bool ni,.bool ar,.int .i64 av,.int .i64 al,.bool br,.int .i64 bv,.int .i64 bl,.bool rr,.int .i64 rv,.int .i64 rl,.int .i64 n1,.int .i64 n2,.int .i64 n3,.int .i64 (nb:Int)] 80);have hn1:=Blk.new Wa 80 #[.bool ni,.bool ar,.int .i64 av,.int .i64 al,.bool br,.int .i64 bv,.int .i64 bl,.bool rr,.int .i64 rv,.int .i64 rl,.int .i64 n1,.int .i64 n2,.int .i64 n3,.int .i64 (nb:Int)];rw[hsa] at hn1;obtain⟨Wb,hWb⟩:∃ Wb,Wa.alloc (.cells #[.bool ni,.bool ar,.int .i64 av,.int .i64 al,.bool br,.int .i64 bv,.int .i64 bl,.bool rr,.int .i64 rv,.int .i64 rl,.int .i64 n1,.int .i64 n2,.int .i64 n3,.int .i64 (nb:Int)] 80)=Wb:=⟨_,rfl⟩;have hsb:Wb.heap.size=w.heap.size+2:=by rw[←hWb];simp;omega
 rw[hWb] at hb1 hx1 hn1;have hb2:=hb1.alloc hb1.size (.cells #[.int .i64 o,.int .i64 xn,.int .i64 xl] 57);have hx2:=hx1.alloc (.cells #[.int .i64 o,.int .i64 xn,.int .i64 xl] 57);have hn2:=hn1.alloc (.cells #[.int .i64 o,.int .i64 xn,.int .i64 xl] 57);have hi2:=Blk.new Wb 57 #[.int .i64 o,.int .i64 xn,.int .i64 xl];rw[hsb] at hi2;obtain⟨cd,rfl,hcb,t0,t1,t2⟩:=q43 ((h.rc.below hb1).more hb1.size) hx;dsimp only at t0 t1 t2;have hpc:p<cN:=by rw[←h.cn];exact(List.getElem?_eq_some_iff.1 hx).1
 obtain⟨Wc,hWc⟩:∃ Wc,Wb.alloc (.cells #[.int .i64 o,.int .i64 xn,.int .i64 xl] 57)=Wc:=⟨_,rfl⟩;rw[hWc] at hb2 hx2 hn2 hi2;have HS:=η hx2;have HN:=η hn2;have HXB:=η hi2;have HB:=η hb2;have a0:Wb.cell? ⟨w.heap.size,0,none⟩=some (.int .i64 (p:Int)):=hx1.cell 0;have a2:Wb.cell? ⟨w.heap.size,2,none⟩=some (.slice (some cd) cN cc):=hx1.cell 2;have s0:Wc.cell? ⟨w.heap.size,0,none⟩=some (.int .i64 (p:Int)):=HS.out.cell 0;have m2:Wc.cell? ⟨w.heap.size+1,2,none⟩=some (.int .i64 av):=HN.out.cell 2;have m8:Wc.cell? ⟨w.heap.size+1,8,none⟩=some (.int .i64 rv):=HN.out.cell 8;obtain⟨x0,x1,x2⟩:=ζ3 HXB.out;clear hb0 hb1 hb2 hx0 hx1 hx2 hn1 hn2 hi2;clear h hx;have HR0:=η hres.symm;clear hres;by_cases h7:o=7
 ·have q7:(o==7)=true:=by rw[beq_iff_eq];exact h7
  have HR:=η (show av=res by rw[HR0.out,if_pos (.inl h7)]);clear h7;go_enter Tryz.func41,Tryz.ntmps41;go_wp2;go_ret;exact⟨q3l HR.out,HB.out⟩
 ·have q7:(o==7)=false:=by rw[beq_eq_false_iff_ne];exact h7
  by_cases h9:o=9
  ·have q9:(o==9)=true:=by rw[beq_iff_eq];exact h9
   have HR:=η (show av=res by rw[HR0.out,if_pos (.inr h9)]);clear h9 h7;go_enter Tryz.func41,Tryz.ntmps41;go_wp2;go_ret;exact⟨q3l HR.out,HB.out⟩
  ·have q9:(o==9)=false:=by rw[beq_eq_false_iff_ne];exact h9
   have n79:¬(o=7∨o=9):=by omega
   by_cases h10:o=10
   ·have q10:(o==10)=true:=by rw[beq_iff_eq];exact h10
    have HR:=η (show rv=res by rw[HR0.out,if_neg n79,if_pos h10]);clear n79 h7 h9 h10;go_enter Tryz.func41,Tryz.ntmps41;go_wp2;go_ret;exact⟨q3l HR.out,HB.out⟩
   ·have q10:(o==10)=false:=by rw[beq_eq_false_iff_ne];exact h10
    by_cases h8:o=8
    ·have q8:(o==8)=true:=by rw[beq_iff_eq];exact h8
     by_cases hv:av=0
     ·have HR:=η (show(p:Int)+1=res by rw[HR0.out,if_neg n79,if_neg h10,if_neg (fun h=>h.2 hv)]);have qv:(av != 0)=false:=by rw[hv];rfl
      clear n79 h7 h9 h10 h8 hv;go_enter Tryz.func41,Tryz.ntmps41;go_wp2;go_ret;exact⟨q3l HR.out,HB.out⟩
     ·have qv:(av != 0)=true:=by rw[bne_iff_ne];exact hv
      have HR:=η (show xn=res by rw[HR0.out,if_neg n79,if_neg h10,if_pos ⟨h8,hv⟩]);clear n79 h7 h9 h10 h8 hv;go_enter Tryz.func41,Tryz.ntmps41;go_wp2;go_ret;exact⟨q3l HR.out,HB.out⟩
    ·have q8:(o==8)=false:=by rw[beq_eq_false_iff_ne];exact h8
     have HR:=η (show(p:Int)+1=res by rw[HR0.out,if_neg n79,if_neg h10,if_neg (fun h=>h8 h.1)]);clear n79 h7 h9 h10 h8;go_enter Tryz.func41,Tryz.ntmps41;go_wp2;go_ret;exact⟨q3l HR.out,HB.out⟩
def ToldS10(w:World)(B:Option Addr)(st l:List St.Slot)(e:Ending)(w':World):Prop:=∃ A n c,e=.returned (.slice A n c)∧l.length=n∧Row w' w'.heap.size A (fcells svs l)∧n≤c∧Below w.heap.size w w'∧((A=B∧∃ k,l=st.take k)∨∀ ad,A=some ad→w.heap.size≤ad.block)
theorem q2q{W:World}{base sz n c:Nat}{e:TypeId}{A:Option Addr}{xs:List Value}(h:W.ownsRow base e sz (.slice A n c) n xs):∀ ad,A=some ad→base≤ad.block:=fun ad ea=>(h.lt ad.block (by rw[ea];rfl)).1
theorem z09{pl:Int}{cA mA sA oA:Option Addr}{cN cc mN mc sN sc oN oc:Nat}{s:St.State}{xn xl:Int}{ni ar br rr:Bool}{av al bv bl rv rl n1 n2 n3:Int}{nb:Nat}(p:Nat)(o res:Int)(w:World)(h:Op10 w s (p:Int) pl cA cN cc mA mN mc sA sN sc oA oN oc)(hx:s.code[p]? = some ⟨o,xn,xl⟩)(hp:p≤1000)(hs:sN≤1000)(hnb:nb≤sN)(hab:o=3∨o=4→(-20≤av∧av≤20)∧(-20≤bv∧bv≤20))(hm:o=5→0≤av∧av<(mN:Int))(hcl:o=9→0≤xn∧xn.toNat≤nb∧nb<sN) :
  Calls Tryz.prog 40 #[.agg #[.int .i64 (p:Int),.int .i64 pl,.slice cA cN cc,.slice mA mN mc,.slice sA sN sc,.slice oA oN oc],.agg #[.bool ni,.bool ar,.int .i64 av,.int .i64 al,.bool br,.int .i64 bv,.int .i64 bl,.bool rr,.int .i64 rv,.int .i64 rl,.int .i64 n1,.int .i64 n2,.int .i64 n3,.int .i64 (nb:Int)],.int .i64 res] w (ToldS10 w sA s.stack (Sp.stackT s ⟨o,xn,xl⟩ ⟨ni,⟨ar,av,al⟩,⟨br,bv,bl⟩,⟨rr,rv,rl⟩,n1,n2,n3,nb⟩ res)):=by
 obtain⟨L,hL⟩:∃ L,Sp.stackT s ⟨o,xn,xl⟩ ⟨ni,⟨ar,av,al⟩,⟨br,bv,bl⟩,⟨rr,rv,rl⟩,n1,n2,n3,nb⟩ res=L:=⟨_,rfl⟩;rw[hL];unfold Sp.stackT at hL;dsimp only at hL;have hb0:=(Below.refl _ w).alloc (Nat.le_refl _) (.cells #[.int .i64 (p:Int),.int .i64 pl,.slice cA cN cc,.slice mA mN mc,.slice sA sN sc,.slice oA oN oc] 35);have hx0:=Blk.new w 35 #[.int .i64 (p:Int),.int .i64 pl,.slice cA cN cc,.slice mA mN mc,.slice sA sN sc,.slice oA oN oc];obtain⟨Wa,hWa⟩:∃ Wa,w.alloc (.cells #[.int .i64 (p:Int),.int .i64 pl,.slice cA cN cc,.slice mA mN mc,.slice sA sN sc,.slice oA oN oc] 35)=Wa:=⟨_,rfl⟩;have hsa:Wa.heap.size=w.heap.size+1:=by rw[←hWa];simp
 rw[hWa] at hb0 hx0;have hb1:=hb0.alloc hb0.size (.cells #[.bool ni,.bool ar,.int .i64 av,.int .i64 al,.bool br,.int .i64 bv,.int .i64 bl,.bool rr,.int .i64 rv,.int .i64 rl,.int .i64 n1,.int .i64 n2,.int .i64 n3,.int .i64 (nb:Int)] 80);have hx1:=hx0.alloc (.cells #[.bool ni,.bool ar,.int .i64 av,.int .i64 al,.bool br,.int .i64 bv,.int .i64 bl,.bool rr,.int .i64 rv,.int .i64 rl,.int .i64 n1,.int .i64 n2,.int .i64 n3,.int .i64 (nb:Int)] 80);have hn1:=Blk.new Wa 80 #[.bool ni,.bool ar,.int .i64 av,.int .i64 al,.bool br,.int .i64 bv,.int .i64 bl,.bool rr,.int .i64 rv,.int .i64 rl,.int .i64 n1,.int .i64 n2,.int .i64 n3,.int .i64 (nb:Int)];rw[hsa] at hn1;obtain⟨Wb,hWb⟩:∃ Wb,Wa.alloc (.cells #[.bool ni,.bool ar,.int .i64 av,.int .i64 al,.bool br,.int .i64 bv,.int .i64 bl,.bool rr,.int .i64 rv,.int .i64 rl,.int .i64 n1,.int .i64 n2,.int .i64 n3,.int .i64 (nb:Int)] 80)=Wb:=⟨_,rfl⟩;have hsb:Wb.heap.size=w.heap.size+2:=by rw[←hWb];simp;omega
 rw[hWb] at hb1 hx1 hn1;have hb2:=hb1.alloc hb1.size (.cells #[.int .i64 o,.int .i64 xn,.int .i64 xl] 57);have hx2:=hx1.alloc (.cells #[.int .i64 o,.int .i64 xn,.int .i64 xl] 57);have hn2:=hn1.alloc (.cells #[.int .i64 o,.int .i64 xn,.int .i64 xl] 57);have hi2:=Blk.new Wb 57 #[.int .i64 o,.int .i64 xn,.int .i64 xl];rw[hsb] at hi2;obtain⟨cd,rfl,hcb,t0,t1,t2⟩:=q43 ((h.rc.below hb1).more hb1.size) hx;dsimp only at t0 t1 t2;have hpc:p<cN:=by rw[←h.cn];exact(List.getElem?_eq_some_iff.1 hx).1
 obtain⟨Wc,hWc⟩:∃ Wc,Wb.alloc (.cells #[.int .i64 o,.int .i64 xn,.int .i64 xl] 57)=Wc:=⟨_,rfl⟩;rw[hWc] at hb2 hx2 hn2 hi2;have HS:=η hx2;have HN:=η hn2;have HXB:=η hi2;have HB:=η hb2;have a0:Wb.cell? ⟨w.heap.size,0,none⟩=some (.int .i64 (p:Int)):=hx1.cell 0;have a2:Wb.cell? ⟨w.heap.size,2,none⟩=some (.slice (some cd) cN cc):=hx1.cell 2;have s0:Wc.cell? ⟨w.heap.size,0,none⟩=some (.int .i64 (p:Int)):=HS.out.cell 0;have s1:Wc.cell? ⟨w.heap.size,1,none⟩=some (.int .i64 pl):=HS.out.cell 1;have s3:Wc.cell? ⟨w.heap.size,3,none⟩=some (.slice mA mN mc):=HS.out.cell 3;have s4:Wc.cell? ⟨w.heap.size,4,none⟩=some (.slice sA sN sc):=HS.out.cell 4;have m2:Wc.cell? ⟨w.heap.size+1,2,none⟩=some (.int .i64 av):=HN.out.cell 2;have m5:Wc.cell? ⟨w.heap.size+1,5,none⟩=some (.int .i64 bv):=HN.out.cell 5;have m13:Wc.cell? ⟨w.heap.size+1,13,none⟩=some (.int .i64 (nb:Int)):=HN.out.cell 13;obtain⟨x0,x1,x2⟩:=ζ3 HXB.out;clear hb0 hb1 hb2 hx0 hx1 hx2 hn1 hn2 hi2;have hrest:=fun W (hb:Below w.heap.size w W)=>show Row W W.heap.size sA (fcells svs (s.stack.take nb)) by rw[←q1r q07];exact((h.rs.below hb).more hb.size).take _
 have hlr:(s.stack.take nb).length=nb:=by rw[List.length_take,h.sn];omega
 have HW:=η (fun(b:Bool) (v la:Int) W (hb:Below w.heap.size w W)=>q7d nb sc b v la W (hrest W hb) hlr (by omega));have HREST:=η hrest;have HLR:=η hlr;have HRM:=η h.rm;have HRS:=η h.rs;have HMN:=η h.mn;have HSN:=η h.sn;have HPV:=η (show s.pc.v=(p:Int)∧s.pc.l=pl from⟨h.pv,h.pl⟩);have hks:=h.ks;have hnc:nb≤sc:=by omega
 clear h hx hrest hlr;by_cases h1:o=1
 ·have q1:(o==1)=true:=by rw[beq_iff_eq];exact h1
  rw[if_pos h1] at hL;have HL:=η hL;clear hL hab hm hcl h1;go_enter Tryz.func40,Tryz.ntmps40;go_wp2_with (fail);refine(HW.out false _ res Wc HB.out).mono ?_;rintro e w1 ⟨A1,c1,rfl,hown,hb⟩;have HT:=η (show ToldS10 w sA s.stack L (.returned (.slice A1 (nb+1) c1)) w1 from⟨_,_,_,rfl,by rw[←HL.out,List.length_append,HLR.out];rfl,HL.out▸(ownT_row hown).1,(ownT_row hown).2,HB.out.trans (hb.mono HB.out.size),.inr fun ad e=>Nat.le_trans HB.out.size (q2q hown ad e)⟩);clear hown hb;go_wp2;go_ret;exact HT.out
 ·have q1:(o==1)=false:=by rw[beq_eq_false_iff_ne];exact h1
  rw[if_neg h1] at hL;by_cases h3:o=3
  ·have q3:(o==3)=true:=by rw[beq_iff_eq];exact h3
   rw[if_pos h3] at hL;have HL:=η hL;obtain⟨⟨v1,v2⟩,⟨v3,v4⟩⟩:=hab (.inl h3);clear hL hab hm hcl h1 h3;go_enter Tryz.func40,Tryz.ntmps40;go_wp2_with (fail);refine(HW.out false _ res Wc HB.out).mono ?_;rintro e w1 ⟨A1,c1,rfl,hown,hb⟩;have HT:=η (show ToldS10 w sA s.stack L (.returned (.slice A1 (nb+1) c1)) w1 from⟨_,_,_,rfl,by rw[←HL.out,List.length_append,HLR.out];rfl,HL.out▸(ownT_row hown).1,(ownT_row hown).2,HB.out.trans (hb.mono HB.out.size),.inr fun ad e=>Nat.le_trans HB.out.size (q2q hown ad e)⟩);clear hown hb;go_wp2;go_ret;exact HT.out
  ·have q3:(o==3)=false:=by rw[beq_eq_false_iff_ne];exact h3
   rw[if_neg h3] at hL;by_cases h4:o=4
   ·have q4:(o==4)=true:=by rw[beq_iff_eq];exact h4
    rw[if_pos h4] at hL;have HL:=η hL;obtain⟨⟨v1,v2⟩,⟨v3,v4⟩⟩:=hab (.inr h4);clear hL hab hm hcl h1 h3 h4;go_enter Tryz.func40,Tryz.ntmps40;go_wp2_with (fail);refine(HW.out false _ res Wc HB.out).mono ?_;rintro e w1 ⟨A1,c1,rfl,hown,hb⟩;have HT:=η (show ToldS10 w sA s.stack L (.returned (.slice A1 (nb+1) c1)) w1 from⟨_,_,_,rfl,by rw[←HL.out,List.length_append,HLR.out];rfl,HL.out▸(ownT_row hown).1,(ownT_row hown).2,HB.out.trans (hb.mono HB.out.size),.inr fun ad e=>Nat.le_trans HB.out.size (q2q hown ad e)⟩);clear hown hb;go_wp2;go_ret;exact HT.out
   ·have q4:(o==4)=false:=by rw[beq_eq_false_iff_ne];exact h4
    rw[if_neg h4] at hL;by_cases h5:o=5
    ·have q5:(o==5)=true:=by rw[beq_iff_eq];exact h5
     rw[if_pos h5] at hL;obtain⟨g0,g1⟩:=hm h5;obtain⟨k,rfl⟩:∃ k:Nat,av=(k:Int):=⟨av.toNat,by omega⟩;obtain⟨ad,y,rfl,hab2,hy,y0,-⟩:=q1q (HRM.out.below HB.out) (show k<s.mem.length by rw[HMN.out];omega);have hgd:s.mem.getD ((k:Int)).toNat ⟨0,0⟩=y:=by rw[Int.toNat_natCast,List.getD_eq_getElem?_getD,hy];rfl
     rw[hgd] at hL;have HL:=η hL;clear hy hgd;clear hL hab hm hcl h1 h3 h4 h5;go_enter Tryz.func40,Tryz.ntmps40;go_wp2_with (fail);refine(HW.out false _ res Wc HB.out).mono ?_;rintro e w1 ⟨A1,c1,rfl,hown,hb⟩;have HT:=η (show ToldS10 w sA s.stack L (.returned (.slice A1 (nb+1) c1)) w1 from⟨_,_,_,rfl,by rw[←HL.out,List.length_append,HLR.out];rfl,HL.out▸(ownT_row hown).1,(ownT_row hown).2,HB.out.trans (hb.mono HB.out.size),.inr fun ad e=>Nat.le_trans HB.out.size (q2q hown ad e)⟩);clear hown hb;go_wp2;go_ret;exact HT.out
    ·have q5:(o==5)=false:=by rw[beq_eq_false_iff_ne];exact h5
     rw[if_neg h5] at hL;by_cases h9:o=9
     ·have q9:(o==9)=true:=by rw[beq_iff_eq];exact h9
      rw[if_pos h9] at hL;rw[HPV.out.1,HPV.out.2] at hL;obtain⟨g0,g1,g2⟩:=hcl h9;obtain⟨xk,rfl⟩:∃ k:Nat,xn=(k:Int):=⟨xn.toNat,by omega⟩;obtain⟨ad,y0,hsA,-⟩:=q06 (HRS.out.below HB.out) (show 0<s.stack.length by rw[HSN.out];omega);subst hsA;rw[Int.toNat_natCast] at hL g1;obtain⟨k,hk⟩:∃ k,nb=k+xk:=⟨nb-xk,by omega⟩;rw[show nb-xk=k by omega] at hL;have hnk:(nb:Int)-(xk:Int)=(k:Int):=by omega
      have hnk2:nb-k=xk:=by omega
      have hk1000:k≤1000:=by omega
      have hknb:k≤nb:=by omega
      have hw1:IntKind.i64.wrap (k:Int)=(k:Int):=IntWalk.i64_in _ (by omega);have hw2:IntKind.i64.wrap ((p:Int)+1)=(p:Int)+1:=IntWalk.i64_in _ (by omega);have hle1:(0:Int)≤(k:Int):=by omega
      have hle2:(k:Int)≤(sc:Int):=by omega
      have HL:=η hL;have HW2:=η (fun W (hb:Below w.heap.size w W)=>q7d k sc true ((p:Int)+1) pl W (show Row W W.heap.size (some ad) (fcells svs (s.stack.take k)) by rw[←q1r q07];exact((HRS.out.below hb).more hb.size).take _) (by rw[List.length_take,HSN.out];omega) (by omega));have hks2:k<sc:=by omega
      have hkc:k≤sc:=by omega
      clear hL hab hm hcl h1 h3 h4 h5 h9;clear HW hk;go_enter Tryz.func40,Tryz.ntmps40;go_wp2;refine Free.region_seq [15] [2,4,9,13] 15 (fun W'=>W'.cell? ⟨w.heap.size,0,none⟩=some (.int .i64 (p:Int))∧W'.cell? ⟨w.heap.size,1,none⟩=some (.int .i64 pl)∧W'.cell? ⟨w.heap.size+1,13,none⟩=some (.int .i64 (nb:Int))∧W'.cell? ⟨w.heap.size+2,1,none⟩=some (.int .i64 (xk:Int))) (by kernel_rfl) (by kernel_rfl) (by kernel_rfl) (by kernel_rfl) (⟨s0,s1,m13,x1⟩) (fun ops hops=>?_);clear hops;iterate 15
       refine Free.Seq.quiet (v:=?_) (a':=?_) rfl rfl (fun W' hW'=>?_) ?_ ?_
       rotate_left 2
       ·first|obtain⟨v0,v1,v2,v3⟩:=hW' rfl|skip
        go_simp;try with_reducible rfl
       ·simp only[Act.put,List.setIfInBounds_toArray,List.set_cons_zero,List.set_cons_succ];try with_reducible rfl
      refine Free.Seq.loud_ rfl (.inl rfl) (fun K hK=>?_);go_simp;have hbd:=HB.out.drew;refine(HW2.out Wc.drew hbd).mono ?_;rintro e w1 ⟨A1,c1,rfl,hown,hb⟩;have hb1:=(Below.refl _ Wc).drew.trans hb;have hs1:=HS.out.below hb1 HS.out.lt;have hn1:=HN.out.below hb1 HN.out.lt;have hx1:=HXB.out.below hb1 HXB.out.lt;have HB1:=η (HB.out.trans (hb1.mono HB.out.size));have HO1:=η hown;have HB2:=η hb;have HBS:=η (show w.heap.size≤Wc.drew.heap.size from HB.out.size);clear s0 s1 s3 s4 m2 m5 m13 x0 x1 x2 hb hb1 hbd hown;have s4:w1.cell? ⟨w.heap.size,4,none⟩=some (.slice (some ad) sN sc):=hs1.cell 4;have m13:w1.cell? ⟨w.heap.size+1,13,none⟩=some (.int .i64 (nb:Int)):=hn1.cell 13;have x1:w1.cell? ⟨w.heap.size+2,1,none⟩=some (.int .i64 (xk:Int)):=hx1.cell 1;refine hK.out _ _ rfl (fun h=>absurd h (by decide)) ?_;clear hK K hs1 hn1 hx1 HW2;iterate 1
       refine Free.Seq.quiet (v:=?_) (a':=?_) rfl rfl (fun W' hW'=>?_) ?_ ?_
       rotate_left 2
       ·skip
        go_simp;try with_reducible rfl
       ·simp only[Act.put,List.setIfInBounds_toArray,List.set_cons_zero,List.set_cons_succ];try with_reducible rfl
      refine Free.Seq.nil_ ?_;obtain⟨i0,hi,hz0,hz1,hz2⟩:=info_parts Tryz.infoSlot;have hrw:=HREST.out w1 HB1.out;have hln:(fcells svs ((s.stack.take nb).drop k)).length=xk*3:=by rw[q01 q07,List.length_drop,HLR.out,hnk2]
      have hbs:Wc.drew.heap.size≤w1.heap.size:=HB2.out.size;obtain⟨v2,W2,hrun,hown2,hb2,-⟩:=q1p (P:=Tryz.prog) Wc.drew.heap.size 33 33 78 i0 (.agg #[.bool false,.int .i64 0,.int .i64 0]) 3 24 Tryz.underlying33 hi hz0 hz1 hz2 rfl (by decide)
       _ (k+1) _ HO1.out (some (ad.add (k*3))) xk (sc-k) _ hln (by rw[←q4i q07];exact hrw.drop10 _) (q1x q6v _) (by unfold maxLen;omega) (by omega) hbs
      obtain⟨A2,c2,rfl⟩:=q0b hown2;have HRUN:=η hrun;have HT:Hid (ToldS10 w (some ad) s.stack L (.returned (.slice A2 (k+1+xk) c2)) W2):=η ⟨_,_,_,rfl,by rw[←HL.out,List.length_append,List.length_append,List.length_take,List.length_drop,HLR.out,HSN.out,hnk2];simp;omega,by rw[←HL.out,q2o];exact(ownT_row hown2).1,(ownT_row hown2).2,HB1.out.trans (hb2.mono HBS.out),.inr fun ad e=>Nat.le_trans HBS.out (q2q hown2 ad e)⟩;clear hrun hown2 hb2 hrw hln hbs;go_wp2_with (at_builtin;refine q0u rfl _ _ 33 33 rfl _ _ rfl rfl _ _ HRUN.out ?_);go_ret;exact HT.out
     ·have q9:(o==9)=false:=by rw[beq_eq_false_iff_ne];exact h9
      rw[if_neg h9] at hL;by_cases h10:o=10∧xn=1
      ·have q10:(o==10)=true:=by rw[beq_iff_eq];exact h10.1
       have qn:(xn==1)=true:=by rw[beq_iff_eq];exact h10.2
       rw[if_pos h10] at hL;have HL:=η hL;clear hL hab hm hcl h1 h3 h4 h5 h9 h10;go_enter Tryz.func40,Tryz.ntmps40;go_wp2_with (fail);refine(HW.out false _ res Wc HB.out).mono ?_;rintro e w1 ⟨A1,c1,rfl,hown,hb⟩;have HT:=η (show ToldS10 w sA s.stack L (.returned (.slice A1 (nb+1) c1)) w1 from⟨_,_,_,rfl,by rw[←HL.out,List.length_append,HLR.out];rfl,HL.out▸(ownT_row hown).1,(ownT_row hown).2,HB.out.trans (hb.mono HB.out.size),.inr fun ad e=>Nat.le_trans HB.out.size (q2q hown ad e)⟩);clear hown hb;go_wp2;go_ret;exact HT.out
      ·rw[if_neg h10] at hL;have HL:=η hL;have HT:=η (show ToldS10 w sA s.stack L (.returned (.slice sA nb sc)) Wc from⟨_,_,_,rfl,by rw[←HL.out];exact HLR.out,HL.out▸HREST.out Wc HB.out,hnc,HB.out,.inl ⟨rfl,nb,HL.out.symm⟩⟩);by_cases h11:o=10
       ·have q10:(o==10)=true:=by rw[beq_iff_eq];exact h11
        have qn:(xn==1)=false:=by rw[beq_eq_false_iff_ne];exact fun e=>h10 ⟨h11,e⟩
        clear hL hab hm hcl h1 h3 h4 h5 h9 h10 h11;go_enter Tryz.func40,Tryz.ntmps40;go_wp2;go_ret;exact HT.out
       ·have q10:(o==10)=false:=by rw[beq_eq_false_iff_ne];exact h11
        clear hL hab hm hcl h1 h3 h4 h5 h9 h10 h11;go_enter Tryz.func40,Tryz.ntmps40;go_wp2;go_ret;exact HT.out
section
variable {q:MB} {m:Sp.M} {x:MV}
theorem q24{w:World}(v:Int)(h:Mach q m x w)(hs:m.st.stack.length≤100) :
  Calls Tryz.prog 146 #[.pointer (some ⟨q.g,0,none⟩),.int .i64 v] w (Put q (m.result v) x w):=by
 have hal:=(Below.refl w.heap.size w).alloc (Nat.le_refl _) (.cells #[.bool false,.int .i64 v,.int .i64 m.res] 78);have hbx:=Blk.new w 78 #[.bool false,.int .i64 v,.int .i64 m.res];have hp:=q7o (q:=q) (l:=[⟨false,v,m.res⟩]) (A:=some ⟨w.heap.size,0,none⟩) 1 (h.below hal) ((hbx.row).more (by simp)) (fun e=>by cases e) (by simp) hs;have f24:w.cell? ⟨q.g,24,none⟩=some (.int .i64 m.res):=h.blk.cell 24;have HP:=η hp;have HAL:=η (Kpt.of hal h.le);clear hal hbx hp h;go_enter Tryz.func146,Tryz.ntmps146;go_wp2_with (fail);refine HP.out.mono ?_;rintro e w2 ⟨rfl,hx,hb⟩;have HX:=η hx;have HB:=η (HAL.out.trans hb);clear hx hb;go_wp2;go_end0;exact⟨rfl,HX.out,HB.out⟩
theorem z9f{W:World}{base sz n c:Nat}{e:TypeId}{A:Option Addr}{xs:List Value}(h:W.ownsRow base e sz (.slice A n c) n xs){k:Nat}(hk:k≤n):W.ownsRow base e sz (.slice A k c) k (xs.take (k*sz)):=by
 cases A with
 | some ad=>exact z60 h hk
 | none =>
  rcases h.2 with⟨he,h0⟩|⟨g,cap,cur,he,_⟩
  ·injection he with e1 e2 e3;subst h0 e3;obtain rfl:k=0:=by omega
   rw[Nat.zero_mul,List.take_zero];exact World.ownsRow_nil _ _ _ _
  ·injection he with e1;cases e1
theorem Mach.left_{W:World}(h:Mach q m x W){k:Nat}(hk:k≤m.st.stack.length):Mach q (m.left k) x (W.setCell ⟨q.g,6,none⟩ (.slice x.sA k x.sc)):=by
 have hl:(m.left k).st.stack.length=k:=by show(m.st.stack.take k).length=k;rw[List.length_take];omega
 have hcl:(mcells q m x).setIfInBounds 6 (.slice x.sA k x.sc)=mcells q (m.left k) x:=by
  unfold mcells;rw[hl];rfl
 have hst:W.ownsRow q.B 78 3 (.slice x.sA (m.left k).st.stack.length x.sc) (m.left k).st.stack.length (fcells svs (m.left k).st.stack):=by
  rw[hl];show W.ownsRow q.B 78 3 (.slice x.sA k x.sc) k (fcells svs (m.st.stack.take k));rw[←q1r q07];exact z9f h.stack hk
 refine⟨hcl▸h.blk.set_ 6 _,q0j h.code (q0g h.blk h.code (by decide)) _,q0j h.mem (q0g h.blk h.mem (by decide)) _,q0j hst (q0g h.blk hst (by decide)) _,q0j h.out (q0g h.blk h.out (by decide)) _,q0j h.args (q0g h.blk h.args (by decide)) _,h.mo,?_,?_,h.base⟩
 ·rw[hl];have hsg:=h.sg;unfold Apart at hsg ⊢;cases hA:x.sA with
  | none=>exact .inl rfl
  | some ad=>rw[hA] at hsg;exact hsg
 ·exact h.lat.below ((Below.refl _ _).setCell (p:=⟨q.g,6,none⟩) h.base _)
def Took(q:MB)(m:Sp.M)(x:MV)(n:Nat)(w:World)(r:Option (List St.Slot))(e:Ending)(w':World):Prop :=
 match r with
 | some t=>∃ A c,e=.returned (.slice A n c)∧t.length=n∧w'.ownsRow w.heap.size 78 3 (.slice A n c) n (fcells svs t)∧Mach q (m.left (m.st.stack.length-n)) x w'∧Kpt q.B w w'
 | none=>e=.panicked [cannotP]∧Kpt q.B w w'
theorem q9z{l:List St.Slot}{n k:Nat}(hk:l.length=k+n):Sp.topN l n=if Sp.atoms (l.drop k)=true then some (l.drop k) else none:=by
 unfold Sp.topN;rw[show l.length-n=k by omega];by_cases h:Sp.atoms (l.drop k)=true
 ·rw[if_pos h,if_pos ⟨by omega,h⟩]
 ·rw[if_neg h,if_neg fun e=>h e.2]
theorem q8x{W:World}{base sz n c:Nat}{e:TypeId}{A:Option Addr}{xs:List Value}(h:W.ownsRow base e sz (.slice A n c) n xs)(hA:0<n∨∃ ad,A=some ad):∃ g,A=some ⟨g,0,none⟩:=by
 rcases h.2 with⟨e,e2⟩|⟨g,cap,cur,e,_⟩
 ·rcases hA with h0|⟨ad,h0⟩
  ·omega
  ·subst h0;injection e with e1;cases e1
 ·injection e with e1;exact⟨g,e1⟩
theorem q3k{w:World}(n:Nat)(h:Mach q m x w)(hs:m.st.stack.length≤100)(hn:n≤100)(hA:0<n∨∃ ad,x.sA=some ad) :
  Calls Tryz.prog 147 #[.pointer (some ⟨q.g,0,none⟩),.int .i64 (n:Int)] w (Took q m x n w (Sp.topN m.st.stack n)):=by
 by_cases hle:n≤m.st.stack.length
 ·obtain⟨a,had⟩:=q8x h.stack (hA.imp (fun e=>by omega) id);obtain⟨cA,cc,mA,mc,sA,sc,oA,oc,gA,gc⟩:=x;dsimp only at had;subst had;have f6:w.cell? ⟨q.g,6,none⟩=some (.slice (some ⟨a,0,none⟩) m.st.stack.length sc):=h.blk.cell 6;obtain⟨k,hk⟩:∃ k,m.st.stack.length=k+n:=⟨m.st.stack.length-n,by omega⟩;have hsc:m.st.stack.length≤sc:=(ownT_row h.stack).2;have hrow:Row w w.heap.size (some ⟨a,0,none⟩) (fcells svs m.st.stack):=(ownT_row h.stack).1;have htl:(m.st.stack.drop k).length=n:=by rw[List.length_drop];omega
  have hrow2:∀ B,(k<sc→B=(⟨a,0,none⟩:Addr).add (k*3))→Row w w.heap.size (some B) (fcells svs (m.st.stack.drop k)):=fun B hB hne=>by
   have hn0:k<sc:=by
    rcases Nat.eq_zero_or_pos n with h0|h0
    ·exfalso;apply hne;have:m.st.stack.drop k=[]:=List.eq_nil_of_length_eq_zero (by omega);rw[this];rfl
    ·omega
   obtain rfl:=hB hn0;rw[←q4i q07] at hne ⊢;have hne2:fcells svs m.st.stack≠[]:=fun e=>hne (by rw[e];simp)
   obtain⟨ad',e,hb,hc⟩:=hrow hne2;injection e with e;subst e;refine⟨_,rfl,by rw[q0a];exact hb,fun j u hu=>?_⟩;rw[List.getElem?_drop] at hu;have e2:((⟨a,0,none⟩:Addr).add (k*3)).add j=(⟨a,0,none⟩:Addr).add (k*3+j):=by
    rw[Addr.add_lit,Addr.add_lit,Addr.add_lit,Nat.add_assoc]
   rw[e2];exact hc _ u hu
  have hcl:∀ B c,(k<sc→B=(⟨a,0,none⟩:Addr).add (k*3))→Calls Tryz.prog 57 #[.slice (some B) n c] w fun e w'=>∃ v,e=.returned v∧w'.ownsRow w.heap.size 78 3 v n (fcells svs (m.st.stack.drop k))∧Below w.heap.size w w':=fun B c hB=>by
   have:=q61 c (m.st.stack.drop k) w (hrow2 B hB) (by omega);rw[htl] at this;exact this
  have hr:=q9z hk;obtain⟨t,ht⟩:∃ t,m.st.stack.drop k=t:=⟨_,rfl⟩;obtain⟨r,hrr⟩:∃ r,Sp.topN m.st.stack n=r:=⟨_,rfl⟩;rw[ht] at hcl hr htl;rw[hrr] at hr ⊢;have hkn:m.st.stack.length-n=k:=by omega
  have hkb:k≤100:=by omega
  rw[hk] at f6 hsc;have HM:=η (q18 w);have HCL:=η hcl;have HR:=η hr;have HT:=η htl;have H:=η h;have HKN:=η hkn;have HK:=η hk;have HB:=η h.base;clear hcl hr htl h hkn hrow hrow2 ht hrr hA hk;go_enter Tryz.func147,Tryz.ntmps147;go_wp2_with (fail);refine HM.out.mono ?_;rintro e w2 ⟨rfl,rfl⟩;go_wp2_with (fail);all_goals
   refine(HCL.out _ _ (by first|(intro h9;exact absurd h9 (by omega))|exact fun _=>by rw[Addr.add_lit,Nat.zero_add])).mono ?_;rintro e w3 ⟨v,rfl,hown3,hb3⟩;obtain⟨A3,c3,rfl⟩:=q0b hown3;have H3:=η hown3;have HB3:=η hb3;have HM3:=η (H.out.below hb3);clear hown3 hb3 f6;go_wp2;go_loopw [30] (fun i wr=>∃ j:Nat,j≤n∧i=.int .i64 j∧Hid (∀(j':Nat) (y:St.Slot),j'<j→t[j']? = some y→y.ret=false)∧Hid (Below w3.heap.size w3 wr)) (fun i _=>n-(intOf i).toNat);case atStart=>exact⟨0,Nat.zero_le _,rfl,η fun j' y hj=>absurd hj (Nat.not_lt_zero _),η (Below.refl _ _)⟩
   case round =>
    obtain⟨j,hj,rfl,HS,HBW⟩:=hrel;by_cases hlt:j<n
    ·first
     | (exfalso;omega)
     | (
      obtain⟨ad,y,rfl,hxb,hx,x0,x1,x2⟩:=q06 (l:=t) (((ownT_row H3.out).1).below HBW.out) (by rw[HT.out];exact hlt);have hz:=HBW.out.size;have hxb2:(ad.add (j*3)).block<wr.heap.size:=by rw[q0a];omega
      have HX:=η hx;have hal:=(Below.refl wr.heap.size wr).alloc (Nat.le_refl _) (.cells #[.bool y.ret,.int .i64 y.v,.int .i64 y.l] 78);have hbw1:=HBW.out.trans (hal.mono HBW.out.size);have hbx:=Blk.new wr 78 #[.bool y.ret,.int .i64 y.v,.int .i64 y.l];obtain⟨W1,hW1⟩:∃ W1,wr.alloc (.cells #[.bool y.ret,.int .i64 y.v,.int .i64 y.l] 78)=W1:=⟨_,rfl⟩;rw[hW1] at hbw1 hbx;have s0:=hbx.cell 0;have s1:=hbx.cell 1;have s2:=hbx.cell 2;have HB1:=η hbw1;have HMY:=η (q18 W1);have HMN:=η (q2j W1);clear hx hal hbw1 hbx;go_wp2_with (fail);cases hy:y.ret with
      | false =>
       have HS2:Hid (∀(j':Nat) (y:St.Slot),j'<j+1→t[j']? = some y→y.ret=false):=η fun j' z hj' hz'=>by
        rcases Nat.lt_or_eq_of_le (Nat.le_of_lt_succ hj') with h|rfl
        ·exact HS.out j' z h hz'
        ·have e:=HX.out;rw[hz'] at e;injection e with e;rw[e];exact hy
       clear HX hy;refine HMY.out.mono ?_;rintro e w4 ⟨rfl,rfl⟩;go_wp2;go_roundw;case rel=>exact⟨j+1,by omega,by go_num,HS2,HB1⟩
       case measure=>simp[intOf];omega
      | true =>
       have hrn:r=none:=by
        rw[HR.out,if_neg];intro hat
        have:=List.all_eq_true.1 hat y (List.mem_of_getElem? HX.out);rw[hy] at this;cases this
       clear HX hy;refine HMN.out.mono ?_;rintro e w4 ⟨rfl,rfl⟩;refine⟨rfl,?_⟩;rw[hrn]
       exact⟨rfl,Kpt.of (HB3.out.trans (HB1.out.mono HB3.out.size)) H.out.le⟩)
    ·obtain rfl:n=j:=by omega
     have hrs:r=some t:=by
      rw[HR.out,if_pos];refine List.all_eq_true.2 fun y hy=>?_
      obtain⟨i,hi,he⟩:=List.mem_iff_getElem.1 hy;rw[HS.out i y (by have:=HT.out;omega) (by rw[←he];exact List.getElem?_eq_getElem hi)];rfl
     have hm4:=HM3.out.below HBW.out;have hl6:=hm4.left_ (k:=k) (by have:=HK.out;omega);have f6:wr.cell? ⟨q.g,6,none⟩=some (.slice (some ⟨a,0,none⟩) m.st.stack.length sc):=hm4.blk.cell 6;have z6:wr.frozen? ⟨q.g,6,none⟩=false:=hm4.blk.frozen 6;have HL6:=η hl6;have HO6:=η (ownsRow_setCell_below (q0t H3.out HBW.out) (a:=⟨q.g,6,none⟩) H.out.lt (.slice (some ⟨a,0,none⟩) k sc));have HB6:=η ((Kpt.of (HB3.out.trans (HBW.out.mono HB3.out.size)) H.out.le).setM hm4.blk H.out.base 6 (.slice (some ⟨a,0,none⟩) k sc));have HRS:=η hrs;have hkl:k≤m.st.stack.length:=by have:=HK.out;omega
     have hls:m.st.stack.length≤sc:=by have:=HK.out;omega
     clear hrs hm4 hl6;try subst h
     go_wp2;go_ret;rw[HRS.out];refine⟨A3,c3,rfl,HT.out,HO6.out,?_,HB6.out⟩;rw[HKN.out];exact HL6.out
 ·have ht:Sp.topN m.st.stack n=none:=by unfold Sp.topN;rw[if_neg (fun e=>hle e.1)]
  have f6:w.cell? ⟨q.g,6,none⟩=some (.slice x.sA m.st.stack.length x.sc):=h.blk.cell 6;rw[ht];have hge:decide (n≤m.st.stack.length)=false:=decide_eq_false hle;have HM:=η (q2j w);generalize m.st.stack.length=l at *;clear h hA;go_enter Tryz.func147,Tryz.ntmps147;go_wp2_with (fail);refine HM.out.mono ?_;rintro e w2 ⟨rfl,rfl⟩;exact⟨rfl,rfl,Kpt.refl _ _⟩
end
section
variable {q:MB} {m:Sp.M} {x:MV} {W:World}
theorem Mach.withA_(h:Mach q m x W)(y:St.Slot):Mach q (m.withA y) x ((((W.setCell ⟨q.g,11,none⟩ (.bool y.ret)).setCell ⟨q.g,12,none⟩ (.int .i64 y.v)).setCell ⟨q.g,13,none⟩ (.int .i64 y.l)).setCell ⟨q.g,21,none⟩ (.int .i64 y.l)) :=
 (((h.set_ (m':={ m with a:={ m.a with ret:=y.ret } }) 11 _ rfl rfl rfl rfl rfl rfl).set_ (m':={ m with a:={ y with l:=m.a.l } }) 12 _ rfl rfl rfl rfl rfl rfl).set_ (m':={ m with a:=y }) 13 _ rfl rfl rfl rfl rfl rfl).set_ (m':=m.withA y) 21 _ rfl rfl rfl rfl rfl rfl
theorem Mach.withB_(h:Mach q m x W)(y:St.Slot):Mach q (m.withB y) x ((((W.setCell ⟨q.g,14,none⟩ (.bool y.ret)).setCell ⟨q.g,15,none⟩ (.int .i64 y.v)).setCell ⟨q.g,16,none⟩ (.int .i64 y.l)).setCell ⟨q.g,22,none⟩ (.int .i64 y.l)) :=
 (((h.set_ (m':={ m with b:={ m.b with ret:=y.ret } }) 14 _ rfl rfl rfl rfl rfl rfl).set_ (m':={ m with b:={ y with l:=m.b.l } }) 15 _ rfl rfl rfl rfl rfl rfl).set_ (m':={ m with b:=y }) 16 _ rfl rfl rfl rfl rfl rfl).set_ (m':=m.withB y) 22 _ rfl rfl rfl rfl rfl rfl
theorem Mach.withBack_(h:Mach q m x W)(y:St.Slot):Mach q (m.withBack y) x ((((W.setCell ⟨q.g,18,none⟩ (.bool y.ret)).setCell ⟨q.g,19,none⟩ (.int .i64 y.v)).setCell ⟨q.g,20,none⟩ (.int .i64 y.l)).setCell ⟨q.g,22,none⟩ (.int .i64 y.l)) :=
 (((h.set_ (m':={ m with back:={ m.back with ret:=y.ret } }) 18 _ rfl rfl rfl rfl rfl rfl).set_ (m':={ m with back:={ y with l:=m.back.l } }) 19 _ rfl rfl rfl rfl rfl rfl).set_ (m':={ m with back:=y }) 20 _ rfl rfl rfl rfl rfl rfl).set_ (m':=m.withBack y) 22 _ rfl rfl rfl rfl rfl rfl
theorem kpt4{B g i j k l:Nat}{w:World}{cs:Array Value}(h:Kpt B w W)(hm:Blk W g 103 cs)(hg:B≤g)(a b c d:Value):Kpt B w ((((W.setCell ⟨g,i,none⟩ a).setCell ⟨g,j,none⟩ b).setCell ⟨g,k,none⟩ c).setCell ⟨g,l,none⟩ d) :=
 (((h.setM hm hg i a).setM (hm.set_ i a) hg j b).setM ((hm.set_ i a).set_ j b) hg k c).setM (((hm.set_ i a).set_ j b).set_ k c) hg l d
def NdTold(q:MB)(x:MV)(w:World)(r:Option Sp.M)(e:Ending)(w':World):Prop :=
 match r with
 | some m=>e=.returned (.tuple #[])∧Mach q m x w'∧Kpt q.B w w'
 | none=>e=.panicked [cannotP]∧Kpt q.B w w'
theorem q7w{l:List St.Slot}{n:Nat}{t:List St.Slot}(h:Sp.topN l n=some t):t.length=n:=by
 unfold Sp.topN at h;split at h
 ·rename_i h1
  injection h with h;rw[←h,List.length_drop];omega
 ·cases h
theorem z2o{w:World}(h:Mach q m x w):Calls Tryz.prog 112 #[.pointer (some ⟨q.g,0,none⟩)] w (NdTold q x w (some m.needOwn)):=by
 have f10:w.cell? ⟨q.g,10,none⟩=some (.int .i64 m.ins.l):=h.blk.cell 10;have f21:w.cell? ⟨q.g,21,none⟩=some (.int .i64 m.one):=h.blk.cell 21;have z21:w.frozen? ⟨q.g,21,none⟩=false:=h.blk.frozen 21;have H2:=η (h.set_ (m':=m.needOwn) 21 (.int .i64 m.ins.l) rfl rfl rfl rfl rfl rfl);have HB:=η ((Kpt.refl q.B w).setM h.blk h.base 21 (.int .i64 m.ins.l));clear h;go_enter Tryz.func112,Tryz.ntmps112;go_wp2;go_end0;exact⟨rfl,H2.out,HB.out⟩
theorem q1o{w:World}(h:Mach q m x w)(hs:m.st.stack.length≤100):Calls Tryz.prog 114 #[.pointer (some ⟨q.g,0,none⟩)] w (NdTold q x w m.needOne):=by
 have htk:=q3k 1 h hs (by decide) (.inl (by decide));unfold Sp.M.needOne;have hlen:=fun t=>q7w (l:=m.st.stack) (n:=1) (t:=t)
 generalize Sp.topN m.st.stack 1=o at *;cases o with
 | none =>
  have HT:=η htk;clear htk hlen h hs;go_enter Tryz.func114,Tryz.ntmps114;go_wp2_with (fail);refine HT.out.mono ?_;rintro e w2 ⟨rfl,hb⟩;exact⟨rfl,rfl,hb⟩
 | some t =>
  obtain⟨y,rfl⟩:∃ y,t=[y]:=List.length_eq_one_iff.1 (hlen t rfl);show Calls _ _ _ _ (NdTold q x w (some ((m.left (m.st.stack.length-1)).withA y)));have HT:=η htk;have hz:=h.base;clear htk hlen h hs;go_enter Tryz.func114,Tryz.ntmps114;go_wp2_with (fail);refine HT.out.mono ?_;rintro e w2 ⟨A,cp,rfl,-,hown,hm,hb⟩;obtain⟨ad,y',rfl,hab,hy,y0,y1,y2⟩:=q06 (l:=[y]) (k:=0) (ownT_row hown).1 (by simp);injection hy with hy;subst hy;obtain⟨hm',hx⟩:Mach q (m.left (m.st.stack.length-1)) x w2∧True:=⟨hm,trivial⟩;have f11:w2.cell? ⟨q.g,11,none⟩=some (.bool (m.left (m.st.stack.length-1)).a.ret):=hm'.blk.cell 11;have f12:w2.cell? ⟨q.g,12,none⟩=some (.int .i64 (m.left (m.st.stack.length-1)).a.v):=hm'.blk.cell 12;have f13:w2.cell? ⟨q.g,13,none⟩=some (.int .i64 (m.left (m.st.stack.length-1)).a.l):=hm'.blk.cell 13;have f21:w2.cell? ⟨q.g,21,none⟩=some (.int .i64 (m.left (m.st.stack.length-1)).one):=hm'.blk.cell 21;have z11:w2.frozen? ⟨q.g,11,none⟩=false:=hm'.blk.frozen 11;have z12:w2.frozen? ⟨q.g,12,none⟩=false:=hm'.blk.frozen 12;have z13:w2.frozen? ⟨q.g,13,none⟩=false:=hm'.blk.frozen 13;have z21:w2.frozen? ⟨q.g,21,none⟩=false:=hm'.blk.frozen 21;rw[Nat.zero_mul,show ad.add 0=ad by simp[Addr.add]] at y0 y1 y2;have H2:=η (hm'.withA_ y);have HB:=η (kpt4 (i:=11) (j:=12) (k:=13) (l:=21) hb hm'.blk hz (.bool y.ret) (.int .i64 y.v) (.int .i64 y.l) (.int .i64 y.l));generalize m.left (m.st.stack.length-1)=ml at *;have hcp:1≤cp:=(ownT_row hown).2;clear hown hm hm' hb hx HT;go_wp2;go_end0;exact⟨rfl,H2.out,HB.out⟩
theorem q2z{m m1:Sp.M}(h:m.needOne=some m1):m1.st.stack.length≤m.st.stack.length∧m1.st.mem=m.st.mem∧m1.ins=m.ins∧0<m.st.stack.length:=by
 rcases Sp.last_ways m.st.stack with h1|⟨l,y,h1,hy⟩|⟨l,y,h1,hy⟩
 ·rw[Sp.needOne_nil h1] at h;cases h
 ·rw[Sp.needOne_ret h1 hy] at h;cases h
 ·rw[Sp.needOne_yes h1 hy] at h;injection h with h;subst h;rw[h1,List.length_append,List.length_singleton];exact⟨by show l.length≤_;omega,rfl,rfl,by omega⟩
theorem q4k{w:World}(h:Mach q m x w)(hs:m.st.stack.length≤100):Calls Tryz.prog 115 #[.pointer (some ⟨q.g,0,none⟩)] w (NdTold q x w m.needTwo):=by
 have hn:=q1o h hs;unfold Sp.M.needTwo;have hlen:=fun m1=>q2z (m:=m) (m1:=m1)
 have hz:=h.base;generalize m.needOne=o at *;cases o with
 | none =>
  have HN:=η hn;clear hn hlen h hs;go_enter Tryz.func115,Tryz.ntmps115;go_wp2_with (fail);refine HN.out.mono ?_;rintro e w2 ⟨rfl,hb⟩;exact⟨rfl,rfl,hb⟩
 | some m1 =>
  have hs1:m1.st.stack.length≤100:=Nat.le_trans (hlen m1 rfl).1 hs;have HN:=η hn;clear hn hlen h;rw[Option.bind_some];unfold Sp.M.takeB;have hlen:=fun t=>q7w (l:=m1.st.stack) (n:=1) (t:=t)
  cases ho:Sp.topN m1.st.stack 1 with
  | none =>
   show Calls _ _ _ _ (NdTold q x w none);go_enter Tryz.func115,Tryz.ntmps115;go_wp2_with (fail);refine HN.out.mono ?_;rintro e w1 ⟨rfl,hm1,hb1⟩;have htk:=q3k 1 hm1 hs1 (by decide) (.inl (by decide));rw[ho] at htk;have HB1:=η hb1;have HT:=η htk;clear htk hm1 hb1 HN hs hs1 ho;go_wp2_with (fail);refine HT.out.mono ?_;rintro e w2 ⟨rfl,hb⟩;exact⟨rfl,rfl,HB1.out.trans hb⟩
  | some t =>
   obtain⟨y,rfl⟩:∃ y,t=[y]:=List.length_eq_one_iff.1 (hlen t ho);show Calls _ _ _ _ (NdTold q x w (some ((m1.left (m1.st.stack.length-1)).withB y)));have HO:=η ho;clear hlen ho;go_enter Tryz.func115,Tryz.ntmps115;go_wp2_with (fail);refine HN.out.mono ?_;rintro e w1 ⟨rfl,hm1,hb1⟩;have htk:=q3k 1 hm1 hs1 (by decide) (.inl (by decide));rw[HO.out] at htk;have HB1:=η hb1;have HT:=η htk;clear htk hm1 hb1 HN hs hs1 HO;go_wp2_with (fail);refine HT.out.mono ?_;rintro e w2 ⟨A,cp,rfl,-,hown,hm,hb⟩;obtain⟨ad,y',rfl,hab,hy,y0,y1,y2⟩:=q06 (l:=[y]) (k:=0) (ownT_row hown).1 (by simp);injection hy with hy;subst hy;have f14:w2.cell? ⟨q.g,14,none⟩=some (.bool (m1.left (m1.st.stack.length-1)).b.ret):=hm.blk.cell 14;have f15:w2.cell? ⟨q.g,15,none⟩=some (.int .i64 (m1.left (m1.st.stack.length-1)).b.v):=hm.blk.cell 15;have f16:w2.cell? ⟨q.g,16,none⟩=some (.int .i64 (m1.left (m1.st.stack.length-1)).b.l):=hm.blk.cell 16;have f22:w2.cell? ⟨q.g,22,none⟩=some (.int .i64 (m1.left (m1.st.stack.length-1)).two):=hm.blk.cell 22;have z14:w2.frozen? ⟨q.g,14,none⟩=false:=hm.blk.frozen 14;have z15:w2.frozen? ⟨q.g,15,none⟩=false:=hm.blk.frozen 15;have z16:w2.frozen? ⟨q.g,16,none⟩=false:=hm.blk.frozen 16;have z22:w2.frozen? ⟨q.g,22,none⟩=false:=hm.blk.frozen 22;rw[Nat.zero_mul,show ad.add 0=ad by simp[Addr.add]] at y0 y1 y2;have H2:=η (hm.withB_ y);have HB:=η (kpt4 (i:=14) (j:=15) (k:=16) (l:=22) (HB1.out.trans hb) hm.blk hz (.bool y.ret) (.int .i64 y.v) (.int .i64 y.l) (.int .i64 y.l));generalize m1.left (m1.st.stack.length-1)=ml at *;have hcp:1≤cp:=(ownT_row hown).2;clear hown hm hb HT HB1;go_wp2;go_end0;exact⟨rfl,H2.out,HB.out⟩
theorem z4y{m m1:Sp.M}(h:m.needTwo=some m1):m1.st.stack.length≤m.st.stack.length∧m1.st.mem=m.st.mem∧m1.ins=m.ins∧0<m.st.stack.length:=by
 unfold Sp.M.needTwo at h;cases h0:m.needOne with
 | none=>rw[h0] at h;cases h
 | some m0 =>
  rw[h0,Option.bind_some] at h;obtain⟨k1,k2,k3,k4⟩:=q2z h0;rcases Sp.last_ways m0.st.stack with h1|⟨l,y,h1,hy⟩|⟨l,y,h1,hy⟩
  ·rw[Sp.takeB_nil h1] at h;cases h
  ·rw[Sp.takeB_ret h1 hy] at h;cases h
  ·rw[Sp.takeB_yes h1 hy] at h;injection h with h;subst h;rw[h1,List.length_append,List.length_singleton] at k1;exact⟨by show l.length≤_;omega,k2,k3,k4⟩
theorem q56{w:World}(h:Mach q m x w)(hs:m.st.stack.length≤100)(hmm:m.st.mem.length≤1000):Calls Tryz.prog 120 #[.pointer (some ⟨q.g,0,none⟩)] w (NdTold q x w m.needTwoAndCell):=by
 have hn:=q4k h hs;unfold Sp.M.needTwoAndCell;have hlen:=fun m1=>z4y (m:=m) (m1:=m1)
 have hz:=h.base;generalize m.needTwo=o at *;cases o with
 | none =>
  have HN:=η hn;clear hn hlen h hs;go_enter Tryz.func120,Tryz.ntmps120;go_wp2_with (fail);refine HN.out.mono ?_;rintro e w2 ⟨rfl,hb⟩;exact⟨rfl,rfl,hb⟩
 | some m1 =>
  have hs1:m1.st.mem.length≤1000:=by rw[(hlen m1 rfl).2.1];exact hmm
  have HN:=η hn;clear hn hlen h;rw[Option.bind_some];cases hc:m1.cellB with
  | false =>
   rw[if_neg (by decide)];have HC:=η hc;clear hc;go_enter Tryz.func120,Tryz.ntmps120;go_wp2_with (fail);refine HN.out.mono ?_;rintro e w1 ⟨rfl,hm1,hb1⟩;have HB1:=η hb1;have HM1:=η hm1;have HT:=η (z3o hm1 HC.out hs1);clear hm1 hb1 HN hs hs1 HC;go_wp2_with (fail);refine HT.out.mono ?_;rintro e w2 ⟨rfl,hb⟩;exact⟨rfl,rfl,HB1.out.trans (Kpt.of hb HM1.out.le)⟩
  | true =>
   rw[if_pos rfl];have HC:=η hc;clear hc;go_enter Tryz.func120,Tryz.ntmps120;go_wp2_with (fail);refine HN.out.mono ?_;rintro e w1 ⟨rfl,hm1,hb1⟩;have HB1:=η hb1;have HM1:=η hm1;have HT:=η (q7i hm1 HC.out hs1);clear hm1 hb1 HN hs hs1 HC;go_wp2_with (fail);refine HT.out.mono ?_;rintro e w2 ⟨rfl,hb⟩;have hm2:=HM1.out.below hb;have f23:w2.cell? ⟨q.g,23,none⟩=some (.int .i64 m1.three):=hm2.blk.cell 23;have z23:w2.frozen? ⟨q.g,23,none⟩=false:=hm2.blk.frozen 23;have H2:=η (hm2.set_ (m':={ m1 with three:=m1.cell.l }) 23 (.int .i64 m1.cell.l) rfl rfl rfl rfl rfl rfl);have HB:=η ((HB1.out.trans (Kpt.of hb HM1.out.le)).setM hm2.blk hz 23 (.int .i64 m1.cell.l));have hfl:∀ W:World,(Instr.field 30 (.agg #[.int .i64 m1.cell.v,.int .i64 m1.cell.l]) 1).run Tryz.prog W=.ok (.int .i64 m1.cell.l) W:=fun _=>rfl
   clear hm2 hb HT HB1 HM1;generalize m1.cell=cl at *;go_wp2;go_end0;exact⟨rfl,H2.out,HB.out⟩
theorem q5u{w:World}(h:Mach q m x w)(hs:m.st.stack.length≤100):Calls Tryz.prog 122 #[.pointer (some ⟨q.g,0,none⟩)] w (NdTold q x w m.needPlace):=by
 have hn:=q1o h hs;unfold Sp.M.needPlace;generalize m.needOne=o at *;cases o with
 | none =>
  have HN:=η hn;clear hn h hs;go_enter Tryz.func122,Tryz.ntmps122;go_wp2_with (fail);refine HN.out.mono ?_;rintro e w2 ⟨rfl,hb⟩;exact⟨rfl,rfl,hb⟩
 | some m1 =>
  have HN:=η hn;clear hn h;rw[Option.bind_some];unfold Sp.placeB;obtain⟨k,hk⟩:∃ k,m1.a.v=k:=⟨_,rfl⟩;rw[hk];by_cases h0:0≤k
  ·have g0:decide ((0:Int)≤k)=true:=decide_eq_true h0;by_cases h1:k≤12
   ·have g1:decide (k≤(12:Int))=true:=decide_eq_true h1;rw[decide_eq_true (p:=0≤k∧k≤12) ⟨h0,h1⟩,if_pos rfl];have HK:=η hk;clear hk;go_enter Tryz.func122,Tryz.ntmps122;go_wp2_with (fail);refine HN.out.mono ?_;rintro e w1 ⟨rfl,hm1,hb1⟩;have HM1:=η hm1;have HB1:=η hb1;have HMY:=η (q18 w1);have f12:w1.cell? ⟨q.g,12,none⟩=some (.int .i64 m1.a.v):=hm1.blk.cell 12;rw[HK.out] at f12;clear hm1 hb1 HN hs;go_wp2_with (fail);refine HMY.out.mono ?_;rintro e w2 ⟨rfl,rfl⟩;go_wp2;go_end0;exact⟨rfl,HM1.out,HB1.out⟩
   ·have g1:decide (k≤(12:Int))=false:=decide_eq_false h1;rw[decide_eq_false (p:=0≤k∧k≤12) (fun e=>h1 e.2),if_neg (by decide)];have HK:=η hk;clear hk;go_enter Tryz.func122,Tryz.ntmps122;go_wp2_with (fail);refine HN.out.mono ?_;rintro e w1 ⟨rfl,hm1,hb1⟩;have HM1:=η hm1;have HB1:=η hb1;have HMY:=η (q2j w1);have f12:w1.cell? ⟨q.g,12,none⟩=some (.int .i64 m1.a.v):=hm1.blk.cell 12;rw[HK.out] at f12;clear hm1 hb1 HN hs;go_wp2_with (fail);refine HMY.out.mono ?_;rintro e w2 ⟨rfl,rfl⟩;exact⟨rfl,rfl,HB1.out⟩
  ·have g0:decide ((0:Int)≤k)=false:=decide_eq_false h0;rw[decide_eq_false (p:=0≤k∧k≤12) (fun e=>h0 e.1),if_neg (by decide)];have HK:=η hk;clear hk;go_enter Tryz.func122,Tryz.ntmps122;go_wp2_with (fail);refine HN.out.mono ?_;rintro e w1 ⟨rfl,hm1,hb1⟩;have HM1:=η hm1;have HB1:=η hb1;have HMY:=η (q2j w1);have f12:w1.cell? ⟨q.g,12,none⟩=some (.int .i64 m1.a.v):=hm1.blk.cell 12;rw[HK.out] at f12;clear hm1 hb1 HN hs;go_wp2_with (fail);refine HMY.out.mono ?_;rintro e w2 ⟨rfl,rfl⟩;exact⟨rfl,rfl,HB1.out⟩
theorem z0s{m m1:Sp.M}(h:m.needPlace=some m1):m1.st.stack.length≤m.st.stack.length∧m1.st.mem=m.st.mem∧m1.ins=m.ins∧0<m.st.stack.length:=by
 unfold Sp.M.needPlace at h;cases h0:m.needOne with
 | none=>rw[h0] at h;cases h
 | some m0 =>
  rw[h0,Option.bind_some] at h;split at h
  ·injection h with h;subst h;exact q2z h0
  ·cases h
theorem Mach.withArgs_{l:List St.Slot}{A:Option Addr}{n cp k:Nat}(h:Mach q m x W)(_hk:k≤q.g∨True)(hn:l.length=n)(hown:W.ownsRow q.B 78 3 (.slice A n cp) n (fcells svs l))(hap:Apart (.slice x.sA m.st.stack.length x.sc) (.slice A n cp)) :
  Mach q (m.withArgs l) { x with gA:=A,gc:=cp } (W.setCell ⟨q.g,17,none⟩ (.slice A n cp)):=by
 have hcl:(mcells q m x).setIfInBounds 17 (.slice A n cp)=mcells q (m.withArgs l) { x with gA:=A,gc:=cp }:=by
  unfold Sp.M.withArgs mcells;dsimp only;rw[hn];rfl
 have hst:W.ownsRow q.B 78 3 (.slice A (m.withArgs l).args.length cp) (m.withArgs l).args.length (fcells svs (m.withArgs l).args):=by
  show W.ownsRow q.B 78 3 (.slice A l.length cp) l.length (fcells svs l);rw[hn];exact hown
 refine⟨hcl▸h.blk.set_ 17 _,q0j h.code (q0g h.blk h.code (by decide)) _,q0j h.mem (q0g h.blk h.mem (by decide)) _,q0j h.stack (q0g h.blk h.stack (by decide)) _,q0j h.out (q0g h.blk h.out (by decide)) _,q0j hst (q0g h.blk hst (by decide)) _,h.mo,?_,?_,h.base⟩
 ·show Apart _ (.slice A l.length cp);rw[hn];exact hap
 ·exact h.lat.below ((Below.refl _ _).setCell (p:=⟨q.g,17,none⟩) h.base _)
def NdTold2(q:MB)(x:MV)(w:World)(r:Option Sp.M)(e:Ending)(w':World):Prop :=
 match r with
 | some m=>e=.returned (.tuple #[])∧(∃ A c,Mach q m { x with gA:=A,gc:=c } w')∧Kpt q.B w w'
 | none=>e=.panicked [cannotP]∧Kpt q.B w w'
theorem NdTold.two{w:World}{r:Option Sp.M}{e:Ending}{w':World}(h:NdTold q x w r e w'):NdTold2 q x w r e w':=by
 cases r with
 | none=>exact h
 | some m=>exact⟨h.1,⟨x.gA,x.gc,h.2.1⟩,h.2.2⟩
theorem q48{w:World}(h:Mach q m x w)(hs:m.st.stack.length≤100)(hi0:0≤m.ins.n)(hi1:m.ins.n≤50):Calls Tryz.prog 125 #[.pointer (some ⟨q.g,0,none⟩)] w (NdTold2 q x w m.needPlaceAndArgs):=by
 have hn:=q5u h hs;unfold Sp.M.needPlaceAndArgs;have hlen:=fun m1=>z0s (m:=m) (m1:=m1)
 have hz:=h.base;have hsA:=fun(h0:0<m.st.stack.length)=>q8x h.stack (.inl h0)
 obtain⟨k,hk⟩:∃ k:Nat,m.ins.n=(k:Int):=⟨m.ins.n.toNat,by omega⟩;generalize m.needPlace=o at *;cases o with
 | none =>
  have HN:=η hn;clear hn hlen h hs;go_enter Tryz.func125,Tryz.ntmps125;go_wp2_with (fail);refine HN.out.mono ?_;rintro e w2 ⟨rfl,hb⟩;exact⟨rfl,rfl,hb⟩
 | some m1 =>
  obtain⟨j1,j2,j3,j4⟩:=hlen m1 rfl;have hs1:m1.st.stack.length≤100:=Nat.le_trans j1 hs;obtain⟨sg,hsg⟩:=hsA j4;have HN:=η hn;have hi:m1.ins.n=(k:Int):=by rw[j3];exact hk
  have hkb:k≤50:=by omega
  rw[Option.bind_some,hi,Int.toNat_natCast];clear hn hlen h j1 j2 j3 j4 hsA hs hi0 hi1 hk;have hlen:=fun t=>q7w (l:=m1.st.stack) (n:=k) (t:=t)
  cases ho:Sp.topN m1.st.stack k with
  | none =>
   show Calls _ _ _ _ (NdTold2 q x w none);have HO:=η ho;clear ho hlen;go_enter Tryz.func125,Tryz.ntmps125;go_wp2_with (fail);refine HN.out.mono ?_;rintro e w1 ⟨rfl,hm1,hb1⟩;have htk:=q3k k hm1 hs1 (by omega) (.inr ⟨_,hsg⟩);rw[HO.out] at htk;have HB1:=η hb1;have HT:=η htk;have f9:w1.cell? ⟨q.g,9,none⟩=some (.int .i64 m1.ins.n):=hm1.blk.cell 9;rw[hi] at f9;clear htk hm1 hb1 HN hs1 hi;go_wp2_with (fail);refine HT.out.mono ?_;rintro e w2 ⟨rfl,hb⟩;exact⟨rfl,rfl,HB1.out.trans hb⟩
  | some t =>
   have HL:=η (hlen t ho);show Calls _ _ _ _ (NdTold2 q x w (some ((m1.left (m1.st.stack.length-k)).withArgs t)));have HO:=η ho;clear hlen ho;go_enter Tryz.func125,Tryz.ntmps125;go_wp2_with (fail);refine HN.out.mono ?_;rintro e w1 ⟨rfl,hm1,hb1⟩;have htk:=q3k k hm1 hs1 (by omega) (.inr ⟨_,hsg⟩);rw[HO.out] at htk;have HB1:=η hb1;have HM1:=η hm1;have HT:=η htk;have f9:w1.cell? ⟨q.g,9,none⟩=some (.int .i64 m1.ins.n):=hm1.blk.cell 9;rw[hi] at f9;clear htk hm1 hb1 HN hs1 hi;go_wp2_with (fail);refine HT.out.mono ?_;rintro e w2 ⟨A,cp,rfl,-,hown,hm,hb⟩;have f17:w2.cell? ⟨q.g,17,none⟩=some (.slice x.gA (m1.left (m1.st.stack.length-k)).args.length x.gc):=hm.blk.cell 17;have z17:w2.frozen? ⟨q.g,17,none⟩=false:=hm.blk.frozen 17;have hap:Apart (.slice x.sA (m1.left (m1.st.stack.length-k)).st.stack.length x.sc) (.slice A k cp):=by
    refine .inr fun e2=>?_
    have hlt:=HM1.out.stack.lt sg (by rw[hsg];rfl);rw[hsg] at e2;have h3:=(hown.lt sg e2.symm).1;omega
   have H2:=η (hm.withArgs_ (k:=0) (.inr trivial) HL.out (q0s hown HM1.out.le) hap);have HB:=η ((HB1.out.trans hb).setM hm.blk hz 17 (.slice A k cp));generalize m1.left (m1.st.stack.length-k)=ml at *;clear hown hm hb hap HT HB1 HM1;go_wp2;go_end0;exact⟨rfl,⟨A,cp,H2.out⟩,HB.out⟩
theorem z0q{w:World}(h:Mach q m x w)(hs:m.st.stack.length≤100)(hmm:m.st.mem.length≤1000):Calls Tryz.prog 118 #[.pointer (some ⟨q.g,0,none⟩)] w (NdTold q x w m.needCell):=by
 have hn:=q1o h hs;unfold Sp.M.needCell;have hlen:=fun m1=>q2z (m:=m) (m1:=m1)
 have hz:=h.base;generalize m.needOne=o at *;cases o with
 | none =>
  have HN:=η hn;clear hn hlen h hs;go_enter Tryz.func118,Tryz.ntmps118;go_wp2_with (fail);refine HN.out.mono ?_;rintro e w2 ⟨rfl,hb⟩;exact⟨rfl,rfl,hb⟩
 | some m1 =>
  have hs1:m1.st.mem.length≤1000:=by rw[(hlen m1 rfl).2.1];exact hmm
  have HN:=η hn;clear hn hlen h;rw[Option.bind_some];cases hc:m1.cellB with
  | false =>
   rw[if_neg (by decide)];have HC:=η hc;clear hc;go_enter Tryz.func118,Tryz.ntmps118;go_wp2_with (fail);refine HN.out.mono ?_;rintro e w1 ⟨rfl,hm1,hb1⟩;have HB1:=η hb1;have HM1:=η hm1;have HT:=η (z3o hm1 HC.out hs1);clear hm1 hb1 HN hs hs1 HC;go_wp2_with (fail);refine HT.out.mono ?_;rintro e w2 ⟨rfl,hb⟩;exact⟨rfl,rfl,HB1.out.trans (Kpt.of hb HM1.out.le)⟩
  | true =>
   rw[if_pos rfl];have HC:=η hc;clear hc;go_enter Tryz.func118,Tryz.ntmps118;go_wp2_with (fail);refine HN.out.mono ?_;rintro e w1 ⟨rfl,hm1,hb1⟩;have HB1:=η hb1;have HM1:=η hm1;have HT:=η (q7i hm1 HC.out hs1);clear hm1 hb1 HN hs hs1 HC;go_wp2_with (fail);refine HT.out.mono ?_;rintro e w2 ⟨rfl,hb⟩;have hm2:=HM1.out.below hb;have f22:w2.cell? ⟨q.g,22,none⟩=some (.int .i64 m1.two):=hm2.blk.cell 22;have z22:w2.frozen? ⟨q.g,22,none⟩=false:=hm2.blk.frozen 22;have H2:=η (hm2.set_ (m':={ m1 with two:=m1.cell.l }) 22 (.int .i64 m1.cell.l) rfl rfl rfl rfl rfl rfl);have HB:=η ((HB1.out.trans (Kpt.of hb HM1.out.le)).setM hm2.blk hz 22 (.int .i64 m1.cell.l));have hfl:∀ W:World,(Instr.field 30 (.agg #[.int .i64 m1.cell.v,.int .i64 m1.cell.l]) 1).run Tryz.prog W=.ok (.int .i64 m1.cell.l) W:=fun _=>rfl
   clear hm2 hb HT HB1 HM1;generalize m1.cell=cl at *;go_wp2;go_end0;exact⟨rfl,H2.out,HB.out⟩
end
section
variable {q:MB} {m:Sp.M} {x:MV} {W:World}
theorem z0p{w:World}(h:Mach q m x w)(hs:m.st.stack.length≤100):Calls Tryz.prog 127 #[.pointer (some ⟨q.g,0,none⟩)] w (NdTold q x w m.needBack):=by
 have f9:w.cell? ⟨q.g,9,none⟩=some (.int .i64 m.ins.n):=h.blk.cell 9;unfold Sp.M.needBack;by_cases hi:m.ins.n=1
 ·rw[if_pos hi];rw[hi] at f9;have hnd:=q1o h hs;have hlen:=fun m1=>q2z (m:=m) (m1:=m1)
  generalize m.needOne=o at *;cases o with
  | none =>
   have HN:=η hnd;clear hnd hlen h hs hi;show Calls _ _ _ _ (NdTold q x w none);go_enter Tryz.func127,Tryz.ntmps127;go_wp2_with (fail);refine HN.out.mono ?_;rintro e w2 ⟨rfl,hb⟩;exact⟨rfl,rfl,hb⟩
  | some m1 =>
   have hs1:m1.st.stack.length≤100:=Nat.le_trans (hlen m1 rfl).1 hs;rw[Option.bind_some];unfold Sp.M.needRet;obtain⟨o,ho⟩:∃ o,Sp.frameAt m1.st.stack m1.st.stack.length=o:=⟨_,rfl⟩;rw[ho];obtain⟨r,hr⟩:∃ r,o.map (fun i=>(m1.withBack (m1.st.stack.getD i Sp.slot0)).left i)=r:=⟨_,rfl⟩;rw[hr];have HR:=η hr;have HO:=η ho;have HN:=η hnd;clear hnd hlen h hs hi ho hr;go_enter Tryz.func127,Tryz.ntmps127;go_wp2_with (fail);refine HN.out.mono ?_;rintro e w1 ⟨rfl,hm1,hb1⟩;have htop:=hm1.stack;have hsl:=(ownT_row hm1.stack);have f6:w1.cell? ⟨q.g,6,none⟩=some (.slice x.sA m1.st.stack.length x.sc):=hm1.blk.cell 6;have f18:w1.cell? ⟨q.g,18,none⟩=some (.bool m1.back.ret):=hm1.blk.cell 18;have f19:w1.cell? ⟨q.g,19,none⟩=some (.int .i64 m1.back.v):=hm1.blk.cell 19;have f20:w1.cell? ⟨q.g,20,none⟩=some (.int .i64 m1.back.l):=hm1.blk.cell 20;have f22:w1.cell? ⟨q.g,22,none⟩=some (.int .i64 m1.two):=hm1.blk.cell 22;have z6:w1.frozen? ⟨q.g,6,none⟩=false:=hm1.blk.frozen 6;have z18:w1.frozen? ⟨q.g,18,none⟩=false:=hm1.blk.frozen 18;have z19:w1.frozen? ⟨q.g,19,none⟩=false:=hm1.blk.frozen 19;have z20:w1.frozen? ⟨q.g,20,none⟩=false:=hm1.blk.frozen 20;have z22:w1.frozen? ⟨q.g,22,none⟩=false:=hm1.blk.frozen 22;have hz:=hm1.base;have HM1:=η hm1;have HB1:=η hb1;have HROW:=η hsl.1;have hcap:=hsl.2;have HMY:=η (q18 w1);have HMN:=η (q2j w1);obtain⟨n,hn⟩:∃ n,m1.st.stack.length=n:=⟨_,rfl⟩;have HN0:=η hn;rw[hn] at f6 hcap;have hn100:n≤100:=by omega
   have HF0:=η (show o=Sp.frameAt m1.st.stack n by rw[←HO.out,hn]);clear hm1 hb1 hsl htop hs1 hn;go_wp2;go_loopw [2] (fun i wr=>∃ j:Nat,j≤n∧i=.int .i64 ((j:Int)-1)∧Hid (o=Sp.frameAt m1.st.stack j)∧wr=w1) (fun i _=>(intOf i+1).toNat);case atStart=>exact⟨n,Nat.le_refl _,by first|rfl|go_num,HF0,rfl⟩
   case round =>
    obtain⟨j,hj,rfl,HF,rfl⟩:=hrel;cases j with
    | zero =>
     have hro:Hid (r=none):=η (by rw[←HR.out,HF.out];rfl);have e0:((0:Nat):Int)-1 = -1:=by omega
     rw[e0];go_wp2_with (fail);refine HMN.out.mono ?_;rintro e w2 ⟨rfl,rfl⟩;refine⟨rfl,?_⟩;rw[hro.out];exact⟨rfl,HB1.out⟩
    | succ j =>
     have e0:((j+1:Nat):Int)-1=(j:Int):=by omega
     rw[e0];obtain⟨ad,y,hsA,hab,hy,y0,y1,y2⟩:=q06 (l:=m1.st.stack) (k:=j) HROW.out (by rw[HN0.out];omega);have hge:decide ((0:Int)≤(j:Int))=true:=decide_eq_true (by omega);have hgd:m1.st.stack.getD j Sp.slot0=y:=by rw[List.getD_eq_getElem?_getD,hy];rfl
     have hfr:Sp.frameAt m1.st.stack (j+1)=if y.ret=true then some j else Sp.frameAt m1.st.stack j:=by
      show(if(m1.st.stack.getD j Sp.slot0).ret=true then some j else _)=_;rw[hgd]
     cases hyr:y.ret with
     | false =>
      rw[hyr] at y0 hfr;have HF2:=η (show o=Sp.frameAt m1.st.stack j by rw[HF.out,hfr];rfl);rw[hsA] at f6;clear hfr hgd hy;go_wp2;go_roundw;case rel=>exact⟨j,by omega,by first|rfl|go_num,HF2,trivial⟩
      case measure=>simp[intOf]
     | true =>
      rw[hyr] at hfr;have hro:Hid (r=some ((m1.withBack y).left j)):=η (by rw[←HR.out,HF.out,hfr,if_pos rfl,←hgd];rfl);have hl:=(HM1.out.withBack_ y).left_ (k:=j) (by show j≤m1.st.stack.length;rw[HN0.out];omega);have HL:=η hl;have HB:=η ((kpt4 (i:=18) (j:=19) (k:=20) (l:=22) HB1.out HM1.out.blk hz (.bool y.ret) (.int .i64 y.v) (.int .i64 y.l) (.int .i64 y.l)).setM (HM1.out.withBack_ y).blk hz 6 (.slice x.sA j x.sc));rw[hyr] at y0 HL HB;rw[hsA] at f6 HL HB;clear hfr hgd hy hl;go_wp2_with (fail);refine HMY.out.mono ?_;rintro e w2 ⟨rfl,rfl⟩;go_wp2;go_end0;rw[hro.out];exact⟨rfl,HL.out,HB.out⟩
 ·rw[if_neg hi,Option.bind_some];obtain⟨m1,rfl⟩:∃ m1,m=m1:=⟨_,rfl⟩;obtain⟨k,hk⟩:∃ k,m.ins.n=k:=⟨_,rfl⟩;rw[hk] at f9 hi;have hs1:=hs;unfold Sp.M.needRet;obtain⟨o,ho⟩:∃ o,Sp.frameAt m.st.stack m.st.stack.length=o:=⟨_,rfl⟩;rw[ho];obtain⟨r,hr⟩:∃ r,o.map (fun i=>(m.withBack (m.st.stack.getD i Sp.slot0)).left i)=r:=⟨_,rfl⟩;rw[hr];have HR:=η hr;have HO:=η ho;have hkb:(k==1)=false:=by simpa using hi
  have hm1:=h;have hb1:=Kpt.refl q.B w;clear h hs ho hr hk;go_enter Tryz.func127,Tryz.ntmps127;have htop:=hm1.stack;have hsl:=(ownT_row hm1.stack);have f6:w.cell? ⟨q.g,6,none⟩=some (.slice x.sA m.st.stack.length x.sc):=hm1.blk.cell 6;have f18:w.cell? ⟨q.g,18,none⟩=some (.bool m.back.ret):=hm1.blk.cell 18;have f19:w.cell? ⟨q.g,19,none⟩=some (.int .i64 m.back.v):=hm1.blk.cell 19;have f20:w.cell? ⟨q.g,20,none⟩=some (.int .i64 m.back.l):=hm1.blk.cell 20;have f22:w.cell? ⟨q.g,22,none⟩=some (.int .i64 m.two):=hm1.blk.cell 22;have z6:w.frozen? ⟨q.g,6,none⟩=false:=hm1.blk.frozen 6;have z18:w.frozen? ⟨q.g,18,none⟩=false:=hm1.blk.frozen 18;have z19:w.frozen? ⟨q.g,19,none⟩=false:=hm1.blk.frozen 19;have z20:w.frozen? ⟨q.g,20,none⟩=false:=hm1.blk.frozen 20;have z22:w.frozen? ⟨q.g,22,none⟩=false:=hm1.blk.frozen 22;have hz:=hm1.base;have HM1:=η hm1;have HB1:=η hb1;have HROW:=η hsl.1;have hcap:=hsl.2;have HMY:=η (q18 w);have HMN:=η (q2j w);obtain⟨n,hn⟩:∃ n,m.st.stack.length=n:=⟨_,rfl⟩;have HN0:=η hn;rw[hn] at f6 hcap;have hn100:n≤100:=by omega
  have HF0:=η (show o=Sp.frameAt m.st.stack n by rw[←HO.out,hn]);clear hm1 hb1 hsl htop hs1 hn;go_wp2;go_loopw [2] (fun i wr=>∃ j:Nat,j≤n∧i=.int .i64 ((j:Int)-1)∧Hid (o=Sp.frameAt m.st.stack j)∧wr=w) (fun i _=>(intOf i+1).toNat);case atStart=>exact⟨n,Nat.le_refl _,by first|rfl|go_num,HF0,rfl⟩
  case round =>
   obtain⟨j,hj,rfl,HF,rfl⟩:=hrel;cases j with
   | zero =>
    have hro:Hid (r=none):=η (by rw[←HR.out,HF.out];rfl);have e0:((0:Nat):Int)-1 = -1:=by omega
    rw[e0];go_wp2_with (fail);refine HMN.out.mono ?_;rintro e w2 ⟨rfl,rfl⟩;refine⟨rfl,?_⟩;rw[hro.out];exact⟨rfl,HB1.out⟩
   | succ j =>
    have e0:((j+1:Nat):Int)-1=(j:Int):=by omega
    rw[e0];obtain⟨ad,y,hsA,hab,hy,y0,y1,y2⟩:=q06 (l:=m.st.stack) (k:=j) HROW.out (by rw[HN0.out];omega);have hge:decide ((0:Int)≤(j:Int))=true:=decide_eq_true (by omega);have hgd:m.st.stack.getD j Sp.slot0=y:=by rw[List.getD_eq_getElem?_getD,hy];rfl
    have hfr:Sp.frameAt m.st.stack (j+1)=if y.ret=true then some j else Sp.frameAt m.st.stack j:=by
     show(if(m.st.stack.getD j Sp.slot0).ret=true then some j else _)=_;rw[hgd]
    cases hyr:y.ret with
    | false =>
     rw[hyr] at y0 hfr;have HF2:=η (show o=Sp.frameAt m.st.stack j by rw[HF.out,hfr];rfl);rw[hsA] at f6;clear hfr hgd hy;go_wp2;go_roundw;case rel=>exact⟨j,by omega,by first|rfl|go_num,HF2,trivial⟩
     case measure=>simp[intOf]
    | true =>
     rw[hyr] at hfr;have hro:Hid (r=some ((m.withBack y).left j)):=η (by rw[←HR.out,HF.out,hfr,if_pos rfl,←hgd];rfl);have hl:=(HM1.out.withBack_ y).left_ (k:=j) (by show j≤m.st.stack.length;rw[HN0.out];omega);have HL:=η hl;have HB:=η ((kpt4 (i:=18) (j:=19) (k:=20) (l:=22) HB1.out HM1.out.blk hz (.bool y.ret) (.int .i64 y.v) (.int .i64 y.l) (.int .i64 y.l)).setM (HM1.out.withBack_ y).blk hz 6 (.slice x.sA j x.sc));rw[hyr] at y0 HL HB;rw[hsA] at f6 HL HB;clear hfr hgd hy hl;go_wp2_with (fail);refine HMY.out.mono ?_;rintro e w2 ⟨rfl,rfl⟩;go_wp2;go_end0;rw[hro.out];exact⟨rfl,HL.out,HB.out⟩
end
section
variable {q:MB} {m:Sp.M} {x:MV} {W:World}
theorem q8f{P:Program}{ops:Array Oper}{o:Oper}{a:Act}{w:World}{K:Act→World→Prop}{Q:Exit→Act→World→Prop}{E:Prop}(hgd:o.guard=none)(s x:Operand)(t1 t2:TypeId)(ho:o.op=.call { callee:=.builtin .append,args:=#[s,x],argTypes:=#[t1,t2] })(v1 v2:Value)(hs:a.eval s=v1)(hx:a.eval x=v2)(v':Value)(w':World)(hr:(Builtin.append_ #[t1,t2] o.type #[v1,v2]).run P w=.ok v' w')(h:K (a.put o.dst v') w'):if Region.wanted o (yielded ops a.tmps)=true then Oper.wp P o a w K Q else E:=by
 have hw:Region.wanted o (yielded ops a.tmps)=true:=by simp[Region.wanted,hgd]
 rw[if_pos hw];unfold Oper.wp execOp;simp only[ho,resolve,invoke,builtin,Sem.run_bind,Sem.run_pure,Result.andThen_ok,List.map_toArray,List.map_cons,List.map_nil,hs,hx,hr];exact h
def DTold(q:MB)(m:Sp.M)(w:World)(e:Ending)(w':World):Prop:=e=.returned (.tuple #[])∧(∃ x,Mach q m x w')∧Kpt q.B w w'
theorem Put.told{w w':World}{e:Ending}(h:Put q m x w e w'):DTold q m w e w':=by
 obtain⟨h1,⟨A,c,h2⟩,h3⟩:=h;exact⟨h1,⟨_,h2⟩,h3⟩
theorem Mach.drew(h:Mach q m x W):Mach q m x W.drew:=h.below (Below.refl _ _).drew
theorem Mach.goTo_(h:Mach q m x W)(v:Int):Mach q (m.goTo v) x (W.setCell ⟨q.g,25,none⟩ (.int .i64 v)):=h.set_ (m':=m.goTo v) 25 _ rfl rfl rfl rfl rfl rfl
theorem z2e(l:List St.Atom)(k:Nat)(y:St.Atom)(hk:k<l.length):((fcells avs l).set (k*2) (.int .i64 y.v)).set (k*2+1) (.int .i64 y.l)=fcells avs (l.set k y):=by
 induction l generalizing k with
 | nil=>simp at hk
 | cons e r ih =>
  have e1:fcells avs (e :: r)=.int .i64 e.v :: .int .i64 e.l :: fcells avs r:=rfl;cases k with
  | zero=>rfl
  | succ k =>
   have h2:=ih k (by simpa using hk);rw[e1,show(k+1)*2+1=k*2+1+1+1 by omega,show(k+1)*2=k*2+1+1 by omega,List.set_cons_succ,List.set_cons_succ,List.set_cons_succ,List.set_cons_succ,h2];rfl
theorem Mach.store_(h:Mach q m x W){a k:Nat}(hA:x.mA=some ⟨a,0,none⟩)(hk:m.a.v=(k:Int))(hlt:k<m.st.mem.length) :
  Mach q m.store x ((W.setCell ⟨a,k*2,none⟩ (.int .i64 m.b.v)).setCell ⟨a,k*2+1,none⟩ (.int .i64 m.res))∧Kpt q.B W ((W.setCell ⟨a,k*2,none⟩ (.int .i64 m.b.v)).setCell ⟨a,k*2+1,none⟩ (.int .i64 m.res)):=by
 have hob:(Value.slice x.mA m.st.mem.length x.mc).ownBlock=some a:=by rw[hA];rfl
 have hga:q.g≠a:=fun e=>q0g h.blk h.mem (by decide) (by rw[hob,e])
 have hba:q.B≤a:=(h.mem.lt a hob).1;have hbl:Below q.B W ((W.setCell ⟨a,k*2,none⟩ (.int .i64 m.b.v)).setCell ⟨a,k*2+1,none⟩ (.int .i64 m.res)):=((Below.refl _ _).setCell (p:=⟨a,k*2,none⟩) hba _).setCell (p:=⟨a,k*2+1,none⟩) hba _;have hm0:=h.mem;rw[hA] at hm0;have hkp:Kpt q.B W ((W.setCell ⟨a,k*2,none⟩ (.int .i64 m.b.v)).setCell ⟨a,k*2+1,none⟩ (.int .i64 m.res)):=((Kpt.refl q.B W).row hm0 rfl (.inr rfl) (k*2) _).row (hm0.stored (k*2) _).1 rfl (.inr rfl) (k*2+1) _;have hml:m.store.st.mem.length=m.st.mem.length:=by show(m.st.mem.set _ _).length=_;rw[List.length_set]
 have hne:∀ v:Value,Apart v (.slice x.mA m.st.mem.length x.mc)→v.ownBlock≠some a:=fun v hv=>by
  rcases hv with hv|hv
  ·rw[hv];exact fun e=>by cases e
  ·rw[←hob];exact hv
 have k2:∀ {base sz n:Nat} {e:TypeId} {v:Value} {xs:List Value},W.ownsRow base e sz v n xs→v.ownBlock≠some a→((W.setCell ⟨a,k*2,none⟩ (.int .i64 m.b.v)).setCell ⟨a,k*2+1,none⟩ (.int .i64 m.res)).ownsRow base e sz v n xs:=fun h1 h2=>q0j (q0j h1 (p:=⟨a,k*2,none⟩) h2 _) (p:=⟨a,k*2+1,none⟩) h2 _
 have hmem:((W.setCell ⟨a,k*2,none⟩ (.int .i64 m.b.v)).setCell ⟨a,k*2+1,none⟩ (.int .i64 m.res)).ownsRow q.B 30 2 (.slice x.mA m.store.st.mem.length x.mc) m.store.st.mem.length (fcells avs m.store.st.mem):=by
  rw[hml];have e1:fcells avs m.store.st.mem=((fcells avs m.st.mem).set (k*2) (.int .i64 m.b.v)).set (k*2+1) (.int .i64 m.res):=by
   rw[z2e _ _ ⟨m.b.v,m.res⟩ hlt];show fcells avs (m.st.mem.set m.a.v.toNat ⟨m.b.v,m.res⟩)=_;rw[hk,Int.toNat_natCast]
  rw[e1];have h0:=h.mem;rw[hA] at h0 ⊢;exact((h0.stored (k*2) (.int .i64 m.b.v)).1.stored (k*2+1) (.int .i64 m.res)).1
 refine⟨⟨?_,k2 h.code (hne _ (q1m h.code h.mem (by decide))),hmem,k2 h.stack (hne _ (q1m h.stack h.mem (by decide))),k2 h.out (hne _ h.mo.symm),k2 h.args (hne _ (q1m h.args h.mem (by decide))),?_,h.sg,h.lat.below hbl,h.base⟩,hkp⟩
 ·have hc:mcells q m.store x=mcells q m x:=by unfold mcells;rw[hml];rfl
  rw[hc];exact(h.blk.other (p:=⟨a,k*2,none⟩) (fun e=>hga e.symm) _).other (p:=⟨a,k*2+1,none⟩) (fun e=>hga e.symm) _
 ·rw[hml];exact h.mo
theorem q3z{w:World}(h:Mach q m x w):Calls Tryz.prog 111 #[.pointer (some ⟨q.g,0,none⟩)] w (DTold q m w):=by
 have H:=η h;clear h;go_enter Tryz.func111,Tryz.ntmps111;go_wp2;go_end0;exact⟨rfl,⟨x,H.out⟩,Kpt.refl _ _⟩
theorem z66{w:World}(h:Mach q m x w)(hs:m.st.stack.length≤100):Calls Tryz.prog 113 #[.pointer (some ⟨q.g,0,none⟩)] w (DTold q (m.result m.ins.n) w):=by
 have HR:=η (q24 m.ins.n h hs);have f9:w.cell? ⟨q.g,9,none⟩=some (.int .i64 m.ins.n):=h.blk.cell 9;clear h;go_enter Tryz.func113,Tryz.ntmps113;go_wp2_with (fail);refine HR.out.mono ?_;rintro e w2 hp;obtain⟨rfl,hx,hb⟩:=Put.told hp;have HX:=η hx;have HB:=η hb;clear hp hx hb;go_wp2;go_end0;exact⟨rfl,HX.out,HB.out⟩
theorem z74{w:World}(h:Mach q m x w)(hs:m.st.stack.length≤100)(ha:-20≤m.a.v∧m.a.v≤20)(hb:-20≤m.b.v∧m.b.v≤20):Calls Tryz.prog 116 #[.pointer (some ⟨q.g,0,none⟩)] w (DTold q (m.result (m.b.v+m.a.v)) w):=by
 have HR:=η (q24 (m.b.v+m.a.v) h.drew hs);have HD:=η ((Kpt.refl q.B w).drew);have f12:w.cell? ⟨q.g,12,none⟩=some (.int .i64 m.a.v):=h.blk.cell 12;have f15:w.cell? ⟨q.g,15,none⟩=some (.int .i64 m.b.v):=h.blk.cell 15;generalize m.result (m.b.v+m.a.v)=mr at *;generalize m.a.v=av at *;generalize m.b.v=bv at *;obtain⟨ha0,ha1⟩:=ha;obtain⟨hb0,hb1⟩:=hb;clear h;go_enter Tryz.func116,Tryz.ntmps116;refine q0i 12 (by kernel_rfl) (by kernel_rfl) ?_;simp only[List.take_succ_cons,List.take_zero,List.drop_succ_cons,List.drop_zero];repeat still_step
 refine wpStill_nil ?_;go_wp2_with (fail);refine HR.out.mono ?_;rintro e w2 hp;obtain⟨rfl,hx,hb⟩:=Put.told hp;have HX:=η hx;have HB:=η (HD.out.trans hb);clear hp hx hb;go_wp2;go_end0;exact⟨rfl,HX.out,HB.out⟩
theorem z97{w:World}(h:Mach q m x w)(hs:m.st.stack.length≤100)(ha:-20≤m.a.v∧m.a.v≤20)(hb:-20≤m.b.v∧m.b.v≤20):Calls Tryz.prog 117 #[.pointer (some ⟨q.g,0,none⟩)] w (DTold q (m.result (m.b.v-m.a.v)) w):=by
 have HR:=η (q24 (m.b.v-m.a.v) h.drew hs);have HD:=η ((Kpt.refl q.B w).drew);have f12:w.cell? ⟨q.g,12,none⟩=some (.int .i64 m.a.v):=h.blk.cell 12;have f15:w.cell? ⟨q.g,15,none⟩=some (.int .i64 m.b.v):=h.blk.cell 15;generalize m.result (m.b.v-m.a.v)=mr at *;generalize m.a.v=av at *;generalize m.b.v=bv at *;obtain⟨ha0,ha1⟩:=ha;obtain⟨hb0,hb1⟩:=hb;clear h;go_enter Tryz.func117,Tryz.ntmps117;refine q0i 12 (by kernel_rfl) (by kernel_rfl) ?_;simp only[List.take_succ_cons,List.take_zero,List.drop_succ_cons,List.drop_zero];repeat still_step
 refine wpStill_nil ?_;go_wp2_with (fail);refine HR.out.mono ?_;rintro e w2 hp;obtain⟨rfl,hx,hb⟩:=Put.told hp;have HX:=η hx;have HB:=η (HD.out.trans hb);clear hp hx hb;go_wp2;go_end0;exact⟨rfl,HX.out,HB.out⟩
theorem z6u{w:World}(h:Mach q m x w)(hs:m.st.stack.length≤100)(hc:m.cellB=true)(hmm:m.st.mem.length≤1000):Calls Tryz.prog 119 #[.pointer (some ⟨q.g,0,none⟩)] w (DTold q (m.result m.cell.v) w):=by
 have HT:=η (q7i h hc hmm);have HR:=η (fun W (hb:Below w.heap.size w W)=>q24 m.cell.v (h.below hb) hs);have HE:=η h.le;have hfl:∀ W:World,(Instr.field 30 (.agg #[.int .i64 m.cell.v,.int .i64 m.cell.l]) 0).run Tryz.prog W=.ok (.int .i64 m.cell.v) W:=fun _=>rfl
 clear h hc;generalize m.result m.cell.v=mr at *;generalize m.cell=cl at *;go_enter Tryz.func119,Tryz.ntmps119;go_wp2_with (fail);refine HT.out.mono ?_;rintro e w1 ⟨rfl,hb1⟩;have HR1:=η (HR.out w1 hb1);have HB1:=η (Kpt.of hb1 HE.out);clear hb1 HR HT;go_wp2_with (fail);refine HR1.out.mono ?_;rintro e w2 hp;obtain⟨rfl,hx,hb⟩:=Put.told hp;have HX:=η hx;have HB:=η (HB1.out.trans hb);clear hp hx hb;go_wp2;go_end0;exact⟨rfl,HX.out,HB.out⟩
theorem z6p{w:World}(h:Mach q m x w):Calls Tryz.prog 123 #[.pointer (some ⟨q.g,0,none⟩)] w (DTold q (m.goTo m.a.v) w):=by
 have f12:w.cell? ⟨q.g,12,none⟩=some (.int .i64 m.a.v):=h.blk.cell 12;have f25:w.cell? ⟨q.g,25,none⟩=some (.int .i64 m.next):=h.blk.cell 25;have z25:w.frozen? ⟨q.g,25,none⟩=false:=h.blk.frozen 25;have H2:=η (h.goTo_ m.a.v);have HB:=η ((Kpt.refl q.B w).setM h.blk h.base 25 (.int .i64 m.a.v));clear h;go_enter Tryz.func123,Tryz.ntmps123;go_wp2;go_end0;exact⟨rfl,⟨x,H2.out⟩,HB.out⟩
theorem z1w{w:World}(h:Mach q m x w):Calls Tryz.prog 124 #[.pointer (some ⟨q.g,0,none⟩)] w (DTold q m.branch w):=by
 have f9:w.cell? ⟨q.g,9,none⟩=some (.int .i64 m.ins.n):=h.blk.cell 9;have f12:w.cell? ⟨q.g,12,none⟩=some (.int .i64 m.a.v):=h.blk.cell 12;have f25:w.cell? ⟨q.g,25,none⟩=some (.int .i64 m.next):=h.blk.cell 25;have z25:w.frozen? ⟨q.g,25,none⟩=false:=h.blk.frozen 25;unfold Sp.M.branch;by_cases ha:m.a.v=0
 ·rw[if_neg (fun e=>e ha)];rw[ha] at f12;have H:=η h;clear h ha;go_enter Tryz.func124,Tryz.ntmps124;go_wp2;go_end0;exact⟨rfl,⟨x,H.out⟩,Kpt.refl _ _⟩
 ·rw[if_pos ha];have hne:(m.a.v != 0)=true:=by rw[bne_iff_ne];exact ha
  have H2:=η (h.goTo_ m.ins.n);have HB:=η ((Kpt.refl q.B w).setM h.blk h.base 25 (.int .i64 m.ins.n));clear h;go_enter Tryz.func124,Tryz.ntmps124;go_wp2;go_end0;exact⟨rfl,⟨x,H2.out⟩,HB.out⟩
theorem z5s{w:World}(h:Mach q m x w)(hc:m.cellB=true)(_hmm:m.st.mem.length≤1000):Calls Tryz.prog 121 #[.pointer (some ⟨q.g,0,none⟩)] w (DTold q m.store w):=by
 obtain⟨k,ad,hk,hlt,hA,hb,k0,k1⟩:=h.cell_at hc;obtain⟨a,hA2⟩:=q8x h.mem (.inr ⟨_,hA⟩);rw[hA] at hA2;injection hA2 with hA2;subst hA2;obtain⟨h2,hb2⟩:=h.store_ hA hk hlt;have f5:w.cell? ⟨q.g,5,none⟩=some (.slice x.mA m.st.mem.length x.mc):=h.blk.cell 5;have f12:w.cell? ⟨q.g,12,none⟩=some (.int .i64 m.a.v):=h.blk.cell 12;have f15:w.cell? ⟨q.g,15,none⟩=some (.int .i64 m.b.v):=h.blk.cell 15;have f24:w.cell? ⟨q.g,24,none⟩=some (.int .i64 m.res):=h.blk.cell 24;have k0':w.cell? ⟨a,k*2,none⟩=some (.int .i64 m.cell.v):=by rw[Addr.add_lit,Nat.zero_add] at k0;exact k0
 have k1':w.cell? ⟨a,k*2+1,none⟩=some (.int .i64 m.cell.l):=by rw[Addr.add_lit,Nat.zero_add] at k1;exact k1
 have hfr:∀ j,w.frozen? ⟨a,j,none⟩=false:=fun j=>by
  have h0:=h.mem;rw[hA] at h0;exact h0.frozenAt j
 have z0:=hfr (k*2);have z1:=hfr (k*2+1);rw[hk] at f12;rw[hA] at f5;have HM:=η h2.drew;have HB:=η hb2.drew;generalize m.store=ms at *;generalize m.cell=cl at *;generalize m.st.mem.length=n at *;clear h h2 hb2 hc hA hk hfr k0 k1 hb;go_enter Tryz.func121,Tryz.ntmps121;refine q0i 21 (by kernel_rfl) (by kernel_rfl) ?_;simp only[List.take_succ_cons,List.take_zero,List.drop_succ_cons,List.drop_zero];repeat still_step
 refine wpStill_nil ?_;have k0d:w.drew.cell? ⟨a,k*2,none⟩=some (.int .i64 cl.v):=k0';have k1d:w.drew.cell? ⟨a,k*2+1,none⟩=some (.int .i64 cl.l):=k1';have z0d:w.drew.frozen? ⟨a,k*2,none⟩=false:=z0;have z1d:w.drew.frozen? ⟨a,k*2+1,none⟩=false:=z1;go_wp2;go_end0;exact⟨rfl,⟨x,HM.out⟩,HB.out⟩
theorem z2i{w:World}(h:Mach q m x w)(hs:m.st.stack.length≤100):Calls Tryz.prog 128 #[.pointer (some ⟨q.g,0,none⟩)] w (DTold q m.goBack w):=by
 unfold Sp.M.goBack;have f9:w.cell? ⟨q.g,9,none⟩=some (.int .i64 m.ins.n):=h.blk.cell 9;have f12:w.cell? ⟨q.g,12,none⟩=some (.int .i64 m.a.v):=h.blk.cell 12;have f19:w.cell? ⟨q.g,19,none⟩=some (.int .i64 m.back.v):=h.blk.cell 19;have f25:w.cell? ⟨q.g,25,none⟩=some (.int .i64 m.next):=h.blk.cell 25;have z25:w.frozen? ⟨q.g,25,none⟩=false:=h.blk.frozen 25;by_cases hi:m.ins.n=1
 ·rw[if_pos hi];rw[hi] at f9;have HR:=η (q24 m.a.v h hs);have hbk:(m.result m.a.v).back=m.back:=rfl;rw[←hbk];rw[←hbk] at f19;clear h hi hbk;generalize m.result m.a.v=mr at *;go_enter Tryz.func128,Tryz.ntmps128;go_wp2_with (fail);refine HR.out.mono ?_;rintro e w2 hp;obtain⟨rfl,⟨x2,hx⟩,hb⟩:=Put.told hp;have f19:w2.cell? ⟨q.g,19,none⟩=some (.int .i64 mr.back.v):=hx.blk.cell 19;have f25:w2.cell? ⟨q.g,25,none⟩=some (.int .i64 mr.next):=hx.blk.cell 25;have z25:w2.frozen? ⟨q.g,25,none⟩=false:=hx.blk.frozen 25;have H2:=η (hx.goTo_ mr.back.v);have HB:=η (hb.setM hx.blk hx.base 25 (.int .i64 mr.back.v));clear hp hx hb;go_wp2;go_end0;exact⟨rfl,⟨x2,H2.out⟩,HB.out⟩
 ·rw[if_neg hi];have hne:(m.ins.n==1)=false:=by simpa using hi
  have H2:=η (h.goTo_ m.back.v);have HB:=η ((Kpt.refl q.B w).setM h.blk h.base 25 (.int .i64 m.back.v));clear h;go_enter Tryz.func128,Tryz.ntmps128;go_wp2;go_end0;exact⟨rfl,⟨x,H2.out⟩,HB.out⟩
theorem z55{w:World}(h:Mach q m x w)(hs:m.st.stack.length≤50)(ha:m.args.length≤50):Calls Tryz.prog 126 #[.pointer (some ⟨q.g,0,none⟩)] w (DTold q m.call w):=by
 have hal:=((Below.refl w.heap.size w).alloc (Nat.le_refl _) (.cells #[.bool true,.int .i64 m.next,.int .i64 m.st.pc.l] 78)).drew;have hbx:=(Blk.new w 78 #[.bool true,.int .i64 m.next,.int .i64 m.st.pc.l]).drew;have hp:=q7o (q:=q) (l:=[⟨true,m.next,m.st.pc.l⟩]) (A:=some ⟨w.heap.size,0,none⟩) 1 (h.below hal) ((hbx.row).more (by simp)) (fun e=>by cases e) (by simp) (by omega);have f3:w.cell? ⟨q.g,3,none⟩=some (.int .i64 m.st.pc.l):=h.blk.cell 3;have f25:w.cell? ⟨q.g,25,none⟩=some (.int .i64 m.next):=h.blk.cell 25;have HP:=η hp;have HAL:=η (Kpt.of hal h.le);have hgA:x.gA=none→x.gc=0:=fun e=>by
  rcases h.args.2 with⟨e1,_⟩|⟨g,cap,cur,e1,_⟩
  ·injection e1
  ·rw[e] at e1;injection e1 with e1;cases e1
 have hs2:(m.put [⟨true,m.next,m.st.pc.l⟩]).st.stack.length≤100:=by show(m.st.stack++_).length≤100;rw[List.length_append];simp;omega
 unfold Sp.M.call;have hav:m.a.v=(m.put [⟨true,m.next,m.st.pc.l⟩]).a.v:=rfl;have hag:m.args=(m.put [⟨true,m.next,m.st.pc.l⟩]).args:=rfl;rw[hav];rw[hag] at ha ⊢;clear hal hbx hp h hav hag hs;generalize m.put [⟨true,m.next,m.st.pc.l⟩]=mp at *;go_enter Tryz.func126,Tryz.ntmps126;go_wp2;refine Free.region_seq [12,13] [4,10] 12 (fun W'=>W'.cell? ⟨q.g,25,none⟩=some (.int .i64 m.next)∧W'.cell? ⟨q.g,3,none⟩=some (.int .i64 m.st.pc.l)) (by kernel_rfl) (by kernel_rfl) (by kernel_rfl) (by kernel_rfl) (⟨f25,f3⟩) (fun ops hops=>?_);clear hops;iterate 12
  refine Free.Seq.quiet (v:=?_) (a':=?_) rfl rfl (fun W' hW'=>?_) ?_ ?_
  rotate_left 2
  ·first|obtain⟨s0,s1⟩:=hW' rfl|skip
   go_simp;try with_reducible rfl
  ·simp only[Act.put,List.setIfInBounds_toArray,List.set_cons_zero,List.set_cons_succ];try with_reducible rfl
 refine Free.Seq.loud_ rfl (.inl rfl) (fun K hK=>?_);go_simp;refine hK.out _ _ rfl (fun h=>absurd h (by decide)) ?_;clear hK K;refine Free.Seq.loud_ rfl (.inl rfl) (fun K hK=>?_);go_simp;refine HP.out.mono ?_;rintro e w1 ⟨rfl,⟨A1,d1,hm1⟩,hb1⟩;refine hK.out _ _ rfl (fun h=>absurd h (by decide)) ?_;clear hK K;refine Free.Seq.nil_ ?_;have hp2:=q7o (q:=q) (l:=mp.args) (A:=x.gA) x.gc hm1 (ownT_row hm1.args).1 hgA (by omega) hs2;have f17:w1.cell? ⟨q.g,17,none⟩=some (.slice x.gA mp.args.length x.gc):=hm1.blk.cell 17;have HB1:=η (HAL.out.trans hb1);have HP2:=η hp2;have hav:mp.a.v=(mp.put mp.args).a.v:=rfl;have HAV:=η hav;clear hm1 hb1 hp2 HP HAL f25 f3 hs2 hgA hav;generalize mp.put mp.args=mq at *;go_wp2_with (fail);refine HP2.out.mono ?_;rintro e w2 ⟨rfl,⟨A2,d2,hm2⟩,hb2⟩;have f12:w2.cell? ⟨q.g,12,none⟩=some (.int .i64 mq.a.v):=hm2.blk.cell 12;have f25:w2.cell? ⟨q.g,25,none⟩=some (.int .i64 mq.next):=hm2.blk.cell 25;have z25:w2.frozen? ⟨q.g,25,none⟩=false:=hm2.blk.frozen 25;have H2:=η (hm2.goTo_ mq.a.v);have HB:=η ((HB1.out.trans hb2).setM hm2.blk hm2.base 25 (.int .i64 mq.a.v));clear hm2 hb2 HB1 HP2;go_wp2;go_end0;rw[HAV.out];exact⟨rfl,⟨_,H2.out⟩,HB.out⟩
theorem Mach.grownOut(h:Mach q m x W){W':World}{y:St.Atom}{A':Option Addr}{c':Nat}(hown:W'.ownsRow q.B 30 2 (.slice A' (m.st.out.length+1) c') (m.st.out.length+1) (fcells avs m.st.out++avs y))(hg:W.grownBy W' (Value.slice x.oA m.st.out.length x.oc).ownBlock)(h5:(Value.slice A' (m.st.out.length+1) c').ownBlock=(Value.slice x.oA m.st.out.length x.oc).ownBlock∨(Value.slice A' (m.st.out.length+1) c').ownBlock=some W.heap.size) :
  Mach q { m with st:={ m.st with out:=m.st.out++[y] } } { x with oA:=A',oc:=c' } (W'.setCell ⟨q.g,7,none⟩ (.slice A' (m.st.out.length+1) c'))∧Kpt q.B W (W'.setCell ⟨q.g,7,none⟩ (.slice A' (m.st.out.length+1) c'))∧Blk W' q.g 103 (mcells q m x):=by
 have hbl:Below q.B W W':=(Below.refl q.B W).grown hg h.le (fun k he=>(h.out.lt k he).1);have hblk:Blk W' q.g 103 (mcells q m x):=(hg.block q.g h.lt (fun e=>q0g h.blk h.out (by decide) e.symm)).trans h.blk;have hap:Apart (.slice x.mA m.st.mem.length x.mc) (.slice A' (m.st.out.length+1) c'):=by
  rcases h5 with e|e
  ·rcases h.mo with h0|h0
   ·exact .inl h0
   ·exact .inr (by rw[e];exact h0)
  ·refine .inr fun e2=>?_
   rw[e] at e2;exact absurd (h.mem.lt _ e2).2 (Nat.lt_irrefl _)
 have hcl:(mcells q m x).setIfInBounds 7 (.slice A' (m.st.out.length+1) c')=mcells q { m with st:={ m.st with out:=m.st.out++[y] } } { x with oA:=A',oc:=c' }:=by
  unfold mcells;dsimp only;rw[List.length_append,List.length_singleton];rfl
 have hst:W'.ownsRow q.B 30 2 (.slice A' (m.st.out++[y]).length c') (m.st.out++[y]).length (fcells avs (m.st.out++[y])):=by
  rw[List.length_append,List.length_singleton,z2f];exact hown
 have hc:=h.code.kept hg (q1m h.code h.out (by decide));have hm:=h.mem.kept hg h.mo;have hs:=h.stack.kept hg (q1m h.stack h.out (by decide));have ha:=h.args.kept hg (q1m h.args h.out (by decide));refine⟨⟨hcl▸hblk.set_ 7 _,q0j hc (q0g hblk hc (by decide)) _,q0j hm (q0g hblk hm (by decide)) _,q0j hs (q0g hblk hs (by decide)) _,q0j hst (q0g hblk hst (by decide)) _,q0j ha (q0g hblk ha (by decide)) _,?_,h.sg,?_,h.base⟩,((Kpt.refl q.B W).grown h.out hg h.le (.inr rfl)).setM hblk h.base 7 _,hblk⟩
 ·show Apart _ (.slice A' (m.st.out++[y]).length c');rw[List.length_append,List.length_singleton];exact hap
 ·exact h.lat.below (hbl.setCell (p:=⟨q.g,7,none⟩) h.base _)
theorem z2r{w:World}(h:Mach q m x w)(ho:m.st.out.length≤50):Calls Tryz.prog 129 #[.pointer (some ⟨q.g,0,none⟩)] w (DTold q m.output w):=by
 obtain⟨i0,hi,hz0,hz1,hz2⟩:=info_parts Tryz.infoAtom;have hal:=((Below.refl w.heap.size w).alloc (Nat.le_refl _) (.cells #[.int .i64 m.a.v,.int .i64 m.res] 30)).drew;have hbx:=(Blk.new w 30 #[.int .i64 m.a.v,.int .i64 m.res]).drew;have h1:=h.below hal;obtain⟨v',w1,hrun,hown,hg,h5⟩:=q7z (P:=Tryz.prog) q.B 32 32 30 i0 (.agg #[.int .i64 0,.int .i64 0]) 2 16 Tryz.underlying32 hi hz0 hz1 hz2 rfl (by decide)
  (.slice x.oA m.st.out.length x.oc) m.st.out.length (fcells avs m.st.out) h1.out (some ⟨w.heap.size,0,none⟩) 1 1 (avs ⟨m.a.v,m.res⟩) rfl (fun e=>by cases e) (hbx.row.more (by simp)) (q8m _) (by unfold maxLen;omega) (by omega) h1.le
 obtain⟨A1,c1,rfl⟩:=q0b hown;obtain⟨hm2,hb2,hblk⟩:=h1.grownOut hown hg h5;have f7:w.cell? ⟨q.g,7,none⟩=some (.slice x.oA m.st.out.length x.oc):=h.blk.cell 7;have f12:w.cell? ⟨q.g,12,none⟩=some (.int .i64 m.a.v):=h.blk.cell 12;have f24:w.cell? ⟨q.g,24,none⟩=some (.int .i64 m.res):=h.blk.cell 24;have k7:((w.alloc (.cells #[.int .i64 m.a.v,.int .i64 m.res] 30)).drew).cell? ⟨q.g,7,none⟩=some (.slice x.oA m.st.out.length x.oc):=h1.blk.cell 7;have k12:((w.alloc (.cells #[.int .i64 m.a.v,.int .i64 m.res] 30)).drew).cell? ⟨q.g,12,none⟩=some (.int .i64 m.a.v):=h1.blk.cell 12;have k24:((w.alloc (.cells #[.int .i64 m.a.v,.int .i64 m.res] 30)).drew).cell? ⟨q.g,24,none⟩=some (.int .i64 m.res):=h1.blk.cell 24;have g7:w1.cell? ⟨q.g,7,none⟩=some (.slice x.oA m.st.out.length x.oc):=hblk.cell 7;have z7:w1.frozen? ⟨q.g,7,none⟩=false:=hblk.frozen 7;have HRUN:=η hrun;have HM:Hid (Mach q m.output { x with oA:=A1,oc:=c1 } (w1.setCell ⟨q.g,7,none⟩ (.slice A1 (m.st.out.length+1) c1))):=hm2;have HB:=η ((Kpt.of hal h.le).trans hb2);generalize m.output=mo at *;clear hrun hown hg h5 hm2 hb2 hblk h h1 hal hbx;go_enter Tryz.func129,Tryz.ntmps129;refine Free.region_seq [16,17,21] [5,10,14] 17 (fun W'=>W'.cell? ⟨q.g,7,none⟩=some (.slice x.oA m.st.out.length x.oc)∧W'.cell? ⟨q.g,12,none⟩=some (.int .i64 m.a.v)∧W'.cell? ⟨q.g,24,none⟩=some (.int .i64 m.res)) (by kernel_rfl) (by kernel_rfl) (by kernel_rfl) (by kernel_rfl) (⟨f7,f12,f24⟩) (fun ops hops=>?_);clear hops;iterate 16
  refine Free.Seq.quiet (v:=?_) (a':=?_) rfl rfl (fun W' hW'=>?_) ?_ ?_
  rotate_left 2
  ·first|obtain⟨s0,s1,s2⟩:=hW' rfl|skip
   go_simp;try with_reducible rfl
  ·simp only[Act.put,List.setIfInBounds_toArray,List.set_cons_zero,List.set_cons_succ];try with_reducible rfl
 refine Free.Seq.loud_ rfl (.inl rfl) (fun K hK=>?_);go_simp;refine hK.out _ _ rfl (fun _=>⟨k7,k12,k24⟩) ?_;clear hK K;refine Free.Seq.loud_ rfl (.inl rfl) (fun K hK=>?_);refine q8f rfl _ _ 32 32 rfl _ _ rfl rfl _ _ HRUN.out ?_;refine hK.out _ _ rfl (fun h=>absurd h (by decide)) ?_;clear hK K;iterate 3
  refine Free.Seq.quiet (v:=?_) (a':=?_) rfl rfl (fun W' hW'=>?_) ?_ ?_
  rotate_left 2
  ·skip
   go_simp;try with_reducible rfl
  ·simp only[Act.put,List.setIfInBounds_toArray,List.set_cons_zero,List.set_cons_succ];try with_reducible rfl
 refine Free.Seq.loud_ rfl (.inl rfl) (fun K hK=>?_);go_simp;refine hK.out _ _ rfl (fun h=>absurd h (by decide)) ?_;clear hK K;refine Free.Seq.nil_ ?_;go_wp2;go_end0;exact⟨rfl,⟨_,HM.out⟩,HB.out⟩
end
def needL:List Nat:=[111,112,114,115,115,118,120,122,114,125,127,114,111]
def deedL:List Nat:=[111,113,111,116,117,119,121,123,124,126,128,129,111]
def needF(k:Nat):Nat:=needL.getD k 0
def deedF(k:Nat):Nat:=deedL.getD k 0
def actV(p:Addr)(k:Nat):Value:=.agg #[.func (.func (needF k)) #[.pointer (some p)] #[],.func (.func (deedF k)) #[.pointer (some p)] #[]]
theorem z0r{k:Nat}(hk:k<13)(args:Array Value)(W:World):(callFunc (needF k) args).run Tryz.prog W=.ok (.enter (needF k) args) W:=by
 have hk2:k=0∨k=1∨k=2∨k=3∨k=4∨k=5∨k=6∨k=7∨k=8∨k=9∨k=10∨k=11∨k=12:=by omega
 rcases hk2 with rfl|rfl|rfl|rfl|rfl|rfl|rfl|rfl|rfl|rfl|rfl|rfl|rfl
 ·exact Tryz.call111 args W
 ·exact Tryz.call112 args W
 ·exact Tryz.call114 args W
 ·exact Tryz.call115 args W
 ·exact Tryz.call115 args W
 ·exact Tryz.call118 args W
 ·exact Tryz.call120 args W
 ·exact Tryz.call122 args W
 ·exact Tryz.call114 args W
 ·exact Tryz.call125 args W
 ·exact Tryz.call127 args W
 ·exact Tryz.call114 args W
 ·exact Tryz.call111 args W
theorem z0a{k:Nat}(hk:k<13)(args:Array Value)(W:World):(callFunc (deedF k) args).run Tryz.prog W=.ok (.enter (deedF k) args) W:=by
 have hk2:k=0∨k=1∨k=2∨k=3∨k=4∨k=5∨k=6∨k=7∨k=8∨k=9∨k=10∨k=11∨k=12:=by omega
 rcases hk2 with rfl|rfl|rfl|rfl|rfl|rfl|rfl|rfl|rfl|rfl|rfl|rfl|rfl
 ·exact Tryz.call111 args W
 ·exact Tryz.call113 args W
 ·exact Tryz.call111 args W
 ·exact Tryz.call116 args W
 ·exact Tryz.call117 args W
 ·exact Tryz.call119 args W
 ·exact Tryz.call121 args W
 ·exact Tryz.call123 args W
 ·exact Tryz.call124 args W
 ·exact Tryz.call126 args W
 ·exact Tryz.call128 args W
 ·exact Tryz.call129 args W
 ·exact Tryz.call111 args W
theorem q09(p:Addr)(n:Nat)(w:World):(Instr.mapUpdate 130 (.map (some w.heap.size)) (.int .i64 (n:Int)) (actV p n)).run Tryz.prog (w.alloc (.map (entI (actV p) n) n))=.ok () (w.alloc (.map (entI (actV p) (n+1)) (n+1))):=by
 refine(q6f (w.alloc (.map (entI (actV p) n) n)) 130 3 129 w.heap.size n (entI (actV p) n) (n:Int) (actV p n) Tryz.underlying130 Tryz.underlying3 (World.alloc_heap_new w _) (q8o _ _ _ (.inr (Int.le_refl _)))).trans ?_;rw[q0r];have e:(entI (actV p) n).push { key:=.int .i64 (n:Int),val:=actV p n,born:=n }=entI (actV p) (n+1):=by
  unfold entI entL;rw[List.range'_concat,List.map_append,List.push_toArray];simp
 rw[e]
theorem z73(p:Addr)(w:World):Calls Tryz.prog 85 #[.pointer (some p)] w fun e w'=>e=.returned (.map (some w.heap.size))∧w.alloc (.map (entI (actV p) 13) 13)=w':=by
 have hmm:=@run_makeMap Tryz.prog;have hmf:∀(fn:Fn) (first cap:Array Value) (w:World),(Instr.makeFunc fn first cap).run Tryz.prog w=.ok (.func fn first cap) w:=fun _ _ _ _=>rfl
 have h0:(Instr.mapUpdate 130 (.map (some w.heap.size)) (.int .i64 0) (.agg #[.func (.func 111) #[.pointer (some p)] #[],.func (.func 111) #[.pointer (some p)] #[]])).run Tryz.prog (w.alloc (.map #[] 0))=.ok () (w.alloc (.map (entI (actV p) 1) 1)):=q09 p 0 w;have h1:(Instr.mapUpdate 130 (.map (some w.heap.size)) (.int .i64 1) (.agg #[.func (.func 112) #[.pointer (some p)] #[],.func (.func 113) #[.pointer (some p)] #[]])).run Tryz.prog (w.alloc (.map (entI (actV p) 1) 1))=.ok () (w.alloc (.map (entI (actV p) 2) 2)):=q09 p 1 w;have h2:(Instr.mapUpdate 130 (.map (some w.heap.size)) (.int .i64 2) (.agg #[.func (.func 114) #[.pointer (some p)] #[],.func (.func 111) #[.pointer (some p)] #[]])).run Tryz.prog (w.alloc (.map (entI (actV p) 2) 2))=.ok () (w.alloc (.map (entI (actV p) 3) 3)):=q09 p 2 w;have h3:(Instr.mapUpdate 130 (.map (some w.heap.size)) (.int .i64 3) (.agg #[.func (.func 115) #[.pointer (some p)] #[],.func (.func 116) #[.pointer (some p)] #[]])).run Tryz.prog (w.alloc (.map (entI (actV p) 3) 3))=.ok () (w.alloc (.map (entI (actV p) 4) 4)):=q09 p 3 w;have h4:(Instr.mapUpdate 130 (.map (some w.heap.size)) (.int .i64 4) (.agg #[.func (.func 115) #[.pointer (some p)] #[],.func (.func 117) #[.pointer (some p)] #[]])).run Tryz.prog (w.alloc (.map (entI (actV p) 4) 4))=.ok () (w.alloc (.map (entI (actV p) 5) 5)):=q09 p 4 w;have h5:(Instr.mapUpdate 130 (.map (some w.heap.size)) (.int .i64 5) (.agg #[.func (.func 118) #[.pointer (some p)] #[],.func (.func 119) #[.pointer (some p)] #[]])).run Tryz.prog (w.alloc (.map (entI (actV p) 5) 5))=.ok () (w.alloc (.map (entI (actV p) 6) 6)):=q09 p 5 w;have h6:(Instr.mapUpdate 130 (.map (some w.heap.size)) (.int .i64 6) (.agg #[.func (.func 120) #[.pointer (some p)] #[],.func (.func 121) #[.pointer (some p)] #[]])).run Tryz.prog (w.alloc (.map (entI (actV p) 6) 6))=.ok () (w.alloc (.map (entI (actV p) 7) 7)):=q09 p 6 w;have h7:(Instr.mapUpdate 130 (.map (some w.heap.size)) (.int .i64 7) (.agg #[.func (.func 122) #[.pointer (some p)] #[],.func (.func 123) #[.pointer (some p)] #[]])).run Tryz.prog (w.alloc (.map (entI (actV p) 7) 7))=.ok () (w.alloc (.map (entI (actV p) 8) 8)):=q09 p 7 w;have h8:(Instr.mapUpdate 130 (.map (some w.heap.size)) (.int .i64 8) (.agg #[.func (.func 114) #[.pointer (some p)] #[],.func (.func 124) #[.pointer (some p)] #[]])).run Tryz.prog (w.alloc (.map (entI (actV p) 8) 8))=.ok () (w.alloc (.map (entI (actV p) 9) 9)):=q09 p 8 w;have h9:(Instr.mapUpdate 130 (.map (some w.heap.size)) (.int .i64 9) (.agg #[.func (.func 125) #[.pointer (some p)] #[],.func (.func 126) #[.pointer (some p)] #[]])).run Tryz.prog (w.alloc (.map (entI (actV p) 9) 9))=.ok () (w.alloc (.map (entI (actV p) 10) 10)):=q09 p 9 w;have h10:(Instr.mapUpdate 130 (.map (some w.heap.size)) (.int .i64 10) (.agg #[.func (.func 127) #[.pointer (some p)] #[],.func (.func 128) #[.pointer (some p)] #[]])).run Tryz.prog (w.alloc (.map (entI (actV p) 10) 10))=.ok () (w.alloc (.map (entI (actV p) 11) 11)):=q09 p 10 w;have h11:(Instr.mapUpdate 130 (.map (some w.heap.size)) (.int .i64 11) (.agg #[.func (.func 114) #[.pointer (some p)] #[],.func (.func 129) #[.pointer (some p)] #[]])).run Tryz.prog (w.alloc (.map (entI (actV p) 11) 11))=.ok () (w.alloc (.map (entI (actV p) 12) 12)):=q09 p 11 w;have h12:(Instr.mapUpdate 130 (.map (some w.heap.size)) (.int .i64 12) (.agg #[.func (.func 111) #[.pointer (some p)] #[],.func (.func 111) #[.pointer (some p)] #[]])).run Tryz.prog (w.alloc (.map (entI (actV p) 12) 12))=.ok () (w.alloc (.map (entI (actV p) 13) 13)):=q09 p 12 w;go_enter Tryz.func85,Tryz.ntmps85;go_wp2;go_ret;exact⟨rfl,rfl⟩
theorem z50(p:Addr){W:World}{r k:Nat}(hk:k<13)(hb:W.heap[r]? = some (.map (entI (actV p) 13) 13)):(Instr.lookup 130 (.map (some r)) (.int .i64 (k:Int)) false).run Tryz.prog W=.ok (actV p k) W :=
 q4e W false 130 3 129 r 13 k (entI (actV p) 13) (k:Int) (actV p k) Tryz.underlying130 Tryz.underlying3 hb (q7j _ hk)
section
variable {q:MB} {m:Sp.M} {x:MV}
theorem z0u{w:World}(h:Mach q m x w):Calls Tryz.prog 111 #[.pointer (some ⟨q.g,0,none⟩)] w (NdTold q x w (some m)):=by
 have H:=η h;clear h;go_enter Tryz.func111,Tryz.ntmps111;go_wp2;go_end0;exact⟨rfl,H.out,Kpt.refl _ _⟩
theorem z88{w:World}{k:Nat}(h:Mach q m x w)(hk:k<13)(hs:m.st.stack.length≤100)(hmm:m.st.mem.length≤1000)(hi:k=9→0≤m.ins.n∧m.ins.n≤50):Calls Tryz.prog (needF k) #[.pointer (some ⟨q.g,0,none⟩)] w (NdTold2 q x w (m.need (k:Int))):=by
 have hk2:k=0∨k=1∨k=2∨k=3∨k=4∨k=5∨k=6∨k=7∨k=8∨k=9∨k=10∨k=11∨k=12:=by omega
 have h0:Calls Tryz.prog 111 #[.pointer (some ⟨q.g,0,none⟩)] w (NdTold2 q x w (some m)):=(z0u h).mono fun _ _=>NdTold.two
 rcases hk2 with rfl|rfl|rfl|rfl|rfl|rfl|rfl|rfl|rfl|rfl|rfl|rfl|rfl
 ·exact h0
 ·exact(z2o h).mono fun _ _=>NdTold.two
 ·exact(q1o h hs).mono fun _ _=>NdTold.two
 ·exact(q4k h hs).mono fun _ _=>NdTold.two
 ·exact(q4k h hs).mono fun _ _=>NdTold.two
 ·exact(z0q h hs hmm).mono fun _ _=>NdTold.two
 ·exact(q56 h hs hmm).mono fun _ _=>NdTold.two
 ·exact(q5u h hs).mono fun _ _=>NdTold.two
 ·exact(q1o h hs).mono fun _ _=>NdTold.two
 ·exact q48 h hs (hi rfl).1 (hi rfl).2
 ·exact(z0p h hs).mono fun _ _=>NdTold.two
 ·exact(q1o h hs).mono fun _ _=>NdTold.two
 ·exact h0
theorem z8e{w:World}{k:Nat}(h:Mach q m x w)(hk:k<13)(hf:Sp.Fits (k:Int) m):Calls Tryz.prog (deedF k) #[.pointer (some ⟨q.g,0,none⟩)] w (DTold q (m.deed (k:Int)) w):=by
 have hk2:k=0∨k=1∨k=2∨k=3∨k=4∨k=5∨k=6∨k=7∨k=8∨k=9∨k=10∨k=11∨k=12:=by omega
 rcases hk2 with rfl|rfl|rfl|rfl|rfl|rfl|rfl|rfl|rfl|rfl|rfl|rfl|rfl
 ·exact q3z h
 ·exact z66 h (by have:=hf.stack;omega)
 ·exact q3z h
 ·exact z74 h (by have:=hf.stack;omega) (hf.ab (.inl rfl)).1 (hf.ab (.inl rfl)).2
 ·exact z97 h (by have:=hf.stack;omega) (hf.ab (.inr rfl)).1 (hf.ab (.inr rfl)).2
 ·exact z6u h (by have:=hf.stack;omega) (hf.cell (.inl rfl)) (by have:=hf.mem;omega)
 ·exact z5s h (hf.cell (.inr rfl)) (by have:=hf.mem;omega)
 ·exact z6p h
 ·exact z1w h
 ·exact z55 h hf.stack hf.args
 ·exact z2i h (by have:=hf.stack;omega)
 ·exact z2r h hf.out
 ·exact q3z h
end
structure CopyOf (B:Nat) (s:St.State) (cv mv tv ov:Value) (W:World):Prop where
 code:W.ownsRow B 57 3 cv s.code.length (fcells ivs s.code)
 mem:W.ownsRow B 30 2 mv s.mem.length (fcells avs s.mem)
 stack:W.ownsRow B 78 3 tv s.stack.length (fcells svs s.stack)
 out:W.ownsRow B 30 2 ov s.out.length (fcells avs s.out)
 mo:Apart mv ov
theorem CopyOf.below{B:Nat}{s:St.State}{cv mv tv ov:Value}{W W':World}(h:CopyOf B s cv mv tv ov W)(hb:Below W.heap.size W W'):CopyOf B s cv mv tv ov W' :=
 ⟨q0t h.code hb,q0t h.mem hb,q0t h.stack hb,q0t h.out hb,h.mo⟩
theorem CopyOf.mono{B B':Nat}{s:St.State}{cv mv tv ov:Value}{W:World}(h:CopyOf B s cv mv tv ov W)(hb:B'≤B):CopyOf B' s cv mv tv ov W :=
 ⟨q0s h.code hb,q0s h.mem hb,q0s h.stack hb,q0s h.out hb,h.mo⟩
theorem CopyOf.set_{B g i:Nat}{s:St.State}{cv mv tv ov:Value}{W:World}{cs:Array Value}(h:CopyOf B s cv mv tv ov W)(hb:Blk W g 35 cs)(u:Value):CopyOf B s cv mv tv ov (W.setCell ⟨g,i,none⟩ u) :=
 ⟨q0j h.code (q0g hb h.code (by decide)) u,q0j h.mem (q0g hb h.mem (by decide)) u,q0j h.stack (q0g hb h.stack (by decide)) u,q0j h.out (q0g hb h.out (by decide)) u,h.mo⟩
theorem CopyOf.isSt{B:Nat}{s:St.State}{cv mv tv ov:Value}{W:World}(h:CopyOf B s cv mv tv ov W):IsSt W W.heap.size (stv s cv mv tv ov) s:=by
 obtain⟨A1,c1,rfl⟩:=q0b h.code;obtain⟨A2,c2,rfl⟩:=q0b h.mem;obtain⟨A3,c3,rfl⟩:=q0b h.stack;obtain⟨A4,c4,rfl⟩:=q0b h.out;exact⟨_,_,_,_,rfl,⟨A1,c1,rfl,ownT_row h.code⟩,⟨A2,c2,rfl,ownT_row h.mem⟩,⟨A3,c3,rfl,ownT_row h.stack⟩,⟨A4,c4,rfl,ownT_row h.out⟩⟩
theorem q72{tv:Value}{s:St.State}(w:World)(h:IsSt w w.heap.size tv s)(hsm:SmallS s) :
  Calls Tryz.prog 31 #[tv] w fun e w'=>∃ cv mv sv ov,e=.returned (stv s cv mv sv ov)∧CopyOf w.heap.size s cv mv sv ov w'∧Below w.heap.size w w':=by
 obtain⟨⟨pv,pl⟩,code,mem,stack,out⟩:=s;obtain⟨cv,mv,stv_,ov,rfl,⟨cA,cc,rfl,hcr,hcc⟩,⟨mA,mc,rfl,hmr,hmc⟩,⟨sA,sc,rfl,hsr,hsc⟩,⟨oA,oc,rfl,hor,hoc⟩⟩:=h;obtain⟨hs1,hs2,hs3,hs4⟩:=hsm;dsimp only at hcr hcc hmr hmc hsr hsc hor hoc hs1 hs2 hs3 hs4;unfold stv;dsimp only;have hb:=((Below.refl w.heap.size w).alloc (Nat.le_refl _) (.cells #[.int .i64 pv,.int .i64 pl,.slice cA code.length cc,.slice mA mem.length mc,.slice sA stack.length sc,.slice oA out.length oc] 35)).alloc (by simp) (.cells #[.int .i64 0,.int .i64 0,.slice none 0 0,.slice none 0 0,.slice none 0 0,.slice none 0 0] 35);have hp0:=(Blk.new w 35 #[.int .i64 pv,.int .i64 pl,.slice cA code.length cc,.slice mA mem.length mc,.slice sA stack.length sc,.slice oA out.length oc]).alloc (.cells #[.int .i64 0,.int .i64 0,.slice none 0 0,.slice none 0 0,.slice none 0 0,.slice none 0 0] 35);have hp1:=Blk.new (w.alloc (.cells #[.int .i64 pv,.int .i64 pl,.slice cA code.length cc,.slice mA mem.length mc,.slice sA stack.length sc,.slice oA out.length oc] 35)) 35 #[.int .i64 0,.int .i64 0,.slice none 0 0,.slice none 0 0,.slice none 0 0,.slice none 0 0];rw[show(w.alloc (.cells #[.int .i64 pv,.int .i64 pl,.slice cA code.length cc,.slice mA mem.length mc,.slice sA stack.length sc,.slice oA out.length oc] 35)).heap.size=w.heap.size+1 by simp] at hp1;obtain⟨W0,hW0⟩:∃ W0,(w.alloc (.cells #[.int .i64 pv,.int .i64 pl,.slice cA code.length cc,.slice mA mem.length mc,.slice sA stack.length sc,.slice oA out.length oc] 35)).alloc (.cells #[.int .i64 0,.int .i64 0,.slice none 0 0,.slice none 0 0,.slice none 0 0,.slice none 0 0] 35)=W0:=⟨_,rfl⟩;rw[hW0] at hb hp0 hp1;have HC0:=η (fun W (hb:Below w.heap.size w W)=>z2a cc code W (show Row W W.heap.size cA (fcells ivs code) from(hcr.below hb).more hb.size) (by omega));have HC1:=η (fun W (hb:Below w.heap.size w W)=>q60 mc mem W ((hmr.below hb).more hb.size) (by omega));have HC2:=η (fun W (hb:Below w.heap.size w W)=>q61 sc stack W ((hsr.below hb).more hb.size) (by omega));have HC3:=η (fun W (hb:Below w.heap.size w W)=>q60 oc out W ((hor.below hb).more hb.size) (by omega));obtain⟨a0,b0,c0,d0,e0,f0⟩:=ζ6 hp0;have HB0:=η hb.drew;have HQ0:=η hp0.drew;have HR0:=η hp1.drew;clear hb hp0 hp1 hcr hmr hsr hor hcc hmc hsc hoc;go_enter Tryz.func31,Tryz.ntmps31;go_wp2;refine Free.region_seq [4,7,10,13,15] [1,3,6,9,12] 15 (fun W'=>W'.cell? ⟨w.heap.size,0,none⟩=some (.int .i64 pv)∧W'.cell? ⟨w.heap.size,1,none⟩=some (.int .i64 pl)∧W'.cell? ⟨w.heap.size,2,none⟩=some (.slice cA code.length cc)∧W'.cell? ⟨w.heap.size,3,none⟩=some (.slice mA mem.length mc)∧W'.cell? ⟨w.heap.size,4,none⟩=some (.slice sA stack.length sc)∧W'.cell? ⟨w.heap.size,5,none⟩=some (.slice oA out.length oc)) (by kernel_rfl) (by kernel_rfl) (by kernel_rfl) (by kernel_rfl) (⟨a0,b0,c0,d0,e0,f0⟩) (fun ops hops=>?_);clear hops;iterate 4
  refine Free.Seq.quiet (v:=?_) (a':=?_) rfl rfl (fun W' hW'=>?_) ?_ ?_
  rotate_left 2
  ·first|obtain⟨s0,s1,s2,s3,s4,s5⟩:=hW' rfl|skip
   go_simp;try with_reducible rfl
  ·simp only[Act.put,List.setIfInBounds_toArray,List.set_cons_zero,List.set_cons_succ];try with_reducible rfl
 refine Free.Seq.loud_ rfl (.inl rfl) (fun K hK=>?_);go_simp;refine(HC0.out _ HB0.out).mono ?_;rintro e w1 ⟨v1,rfl,ho1,hb1⟩;have HB1:=η (HB0.out.trans (hb1.mono HB0.out.size));have O1_1:=η ho1;have HQ1:=η ((HQ0.out).below hb1 HQ0.out.lt);have HR1:=η ((HR0.out).below hb1 HR0.out.lt);refine hK.out _ _ rfl (fun _=>⟨HQ1.out.cell 0,HQ1.out.cell 1,HQ1.out.cell 2,HQ1.out.cell 3,HQ1.out.cell 4,HQ1.out.cell 5⟩) ?_;clear hK K ho1 hb1;iterate 2
  refine Free.Seq.quiet (v:=?_) (a':=?_) rfl rfl (fun W' hW'=>?_) ?_ ?_
  rotate_left 2
  ·first|obtain⟨s0,s1,s2,s3,s4,s5⟩:=hW' rfl|skip
   go_simp;try with_reducible rfl
  ·simp only[Act.put,List.setIfInBounds_toArray,List.set_cons_zero,List.set_cons_succ];try with_reducible rfl
 refine Free.Seq.loud_ rfl (.inl rfl) (fun K hK=>?_);go_simp;refine(HC1.out _ HB1.out).mono ?_;rintro e w2 ⟨v2,rfl,ho2,hb2⟩;have HB2:=η (HB1.out.trans (hb2.mono HB1.out.size));have O1_2:=η (q0t O1_1.out hb2);have O2_2:=η ho2;have HQ2:=η ((HQ1.out).below hb2 HQ1.out.lt);have HR2:=η ((HR1.out).below hb2 HR1.out.lt);refine hK.out _ _ rfl (fun _=>⟨HQ2.out.cell 0,HQ2.out.cell 1,HQ2.out.cell 2,HQ2.out.cell 3,HQ2.out.cell 4,HQ2.out.cell 5⟩) ?_;clear hK K ho2 hb2;iterate 2
  refine Free.Seq.quiet (v:=?_) (a':=?_) rfl rfl (fun W' hW'=>?_) ?_ ?_
  rotate_left 2
  ·first|obtain⟨s0,s1,s2,s3,s4,s5⟩:=hW' rfl|skip
   go_simp;try with_reducible rfl
  ·simp only[Act.put,List.setIfInBounds_toArray,List.set_cons_zero,List.set_cons_succ];try with_reducible rfl
 refine Free.Seq.loud_ rfl (.inl rfl) (fun K hK=>?_);go_simp;refine(HC2.out _ HB2.out).mono ?_;rintro e w3 ⟨v3,rfl,ho3,hb3⟩;have HB3:=η (HB2.out.trans (hb3.mono HB2.out.size));have O1_3:=η (q0t O1_2.out hb3);have O2_3:=η (q0t O2_2.out hb3);have O3_3:=η ho3;have HQ3:=η ((HQ2.out).below hb3 HQ2.out.lt);have HR3:=η ((HR2.out).below hb3 HR2.out.lt);refine hK.out _ _ rfl (fun _=>⟨HQ3.out.cell 0,HQ3.out.cell 1,HQ3.out.cell 2,HQ3.out.cell 3,HQ3.out.cell 4,HQ3.out.cell 5⟩) ?_;clear hK K ho3 hb3;iterate 2
  refine Free.Seq.quiet (v:=?_) (a':=?_) rfl rfl (fun W' hW'=>?_) ?_ ?_
  rotate_left 2
  ·first|obtain⟨s0,s1,s2,s3,s4,s5⟩:=hW' rfl|skip
   go_simp;try with_reducible rfl
  ·simp only[Act.put,List.setIfInBounds_toArray,List.set_cons_zero,List.set_cons_succ];try with_reducible rfl
 refine Free.Seq.loud_ rfl (.inl rfl) (fun K hK=>?_);go_simp;refine(HC3.out _ HB3.out).mono ?_;rintro e w4 ⟨v4,rfl,ho4,hb4⟩;have HB4:=η (HB3.out.trans (hb4.mono HB3.out.size));have O1_4:=η (q0t O1_3.out hb4);have O2_4:=η (q0t O2_3.out hb4);have O3_4:=η (q0t O3_3.out hb4);have O4_4:=η ho4;have HQ4:=η ((HQ3.out).below hb4 HQ3.out.lt);have HR4:=η ((HR3.out).below hb4 HR3.out.lt);refine hK.out _ _ rfl (fun _=>⟨HQ4.out.cell 0,HQ4.out.cell 1,HQ4.out.cell 2,HQ4.out.cell 3,HQ4.out.cell 4,HQ4.out.cell 5⟩) ?_;clear hK K ho4 hb4;obtain⟨A1,d1,rfl⟩:=q0b O1_4.out;obtain⟨A2,d2,rfl⟩:=q0b O2_4.out;obtain⟨A3,d3,rfl⟩:=q0b O3_4.out;obtain⟨A4,d4,rfl⟩:=q0b O4_4.out;have r0:w4.cell? ⟨w.heap.size+1,0,none⟩=some (.int .i64 0):=HR4.out.cell 0;have z0:=HR4.out.frozen 0;have r1:w4.cell? ⟨w.heap.size+1,1,none⟩=some (.int .i64 0):=HR4.out.cell 1;have z1:=HR4.out.frozen 1;have r2:w4.cell? ⟨w.heap.size+1,2,none⟩=some (.slice none 0 0):=HR4.out.cell 2;have z2:=HR4.out.frozen 2;have r3:w4.cell? ⟨w.heap.size+1,3,none⟩=some (.slice none 0 0):=HR4.out.cell 3;have z3:=HR4.out.frozen 3;have r4:w4.cell? ⟨w.heap.size+1,4,none⟩=some (.slice none 0 0):=HR4.out.cell 4;have z4:=HR4.out.frozen 4;have r5:w4.cell? ⟨w.heap.size+1,5,none⟩=some (.slice none 0 0):=HR4.out.cell 5;have z5:=HR4.out.frozen 5;have hap:Apart (.slice A2 mem.length d2) (.slice A4 out.length d4):=by
  cases e2:(Value.slice A2 mem.length d2).ownBlock with
  | none=>exact .inl e2
  | some b =>
   refine .inr fun e=>?_
   have h1:=(O2_3.out.lt b e2).2;have h2:=(O4_4.out.lt b (by rw[←e,e2])).1;omega
 have hcp:CopyOf w.heap.size ⟨⟨pv,pl⟩,code,mem,stack,out⟩ (.slice A1 code.length d1) (.slice A2 mem.length d2) (.slice A3 stack.length d3) (.slice A4 out.length d4) w4:=⟨q0s O1_4.out HB0.out.size,q0s O2_4.out HB1.out.size,q0s O3_4.out HB2.out.size,q0s O4_4.out HB3.out.size,hap⟩;have hrf:=HR4.out;have hcp:=hcp.set_ (i:=0) hrf (.int .i64 pv);have hrf:=hrf.set_ 0 (.int .i64 pv);have hcp:=hcp.set_ (i:=1) hrf (.int .i64 pl);have hrf:=hrf.set_ 1 (.int .i64 pl);have hcp:=hcp.set_ (i:=2) hrf (.slice A1 code.length d1);have hrf:=hrf.set_ 2 (.slice A1 code.length d1);have hcp:=hcp.set_ (i:=3) hrf (.slice A2 mem.length d2);have hrf:=hrf.set_ 3 (.slice A2 mem.length d2);have hcp:=hcp.set_ (i:=4) hrf (.slice A3 stack.length d3);have hrf:=hrf.set_ 4 (.slice A3 stack.length d3);have hcp:=hcp.set_ (i:=5) hrf (.slice A4 out.length d4);have hrf:=hrf.set_ 5 (.slice A4 out.length d4);have hbl:=((((((HB4.out.setCell (p:=⟨w.heap.size+1,0,none⟩) (by simp) (.int .i64 pv)).setCell (p:=⟨w.heap.size+1,1,none⟩) (by simp) (.int .i64 pl)).setCell (p:=⟨w.heap.size+1,2,none⟩) (by simp) (.slice A1 code.length d1)).setCell (p:=⟨w.heap.size+1,3,none⟩) (by simp) (.slice A2 mem.length d2)).setCell (p:=⟨w.heap.size+1,4,none⟩) (by simp) (.slice A3 stack.length d3)).setCell (p:=⟨w.heap.size+1,5,none⟩) (by simp) (.slice A4 out.length d4));have HCP:=η hcp;have HRF:=η hrf;have HBL:=η hbl;clear hcp hrf hbl hap;iterate 1
  refine Free.Seq.quiet (v:=?_) (a':=?_) rfl rfl (fun W' hW'=>?_) ?_ ?_
  rotate_left 2
  ·skip
   go_simp;try with_reducible rfl
  ·simp only[Act.put,List.setIfInBounds_toArray,List.set_cons_zero,List.set_cons_succ];try with_reducible rfl
 refine Free.Seq.loud_ rfl (.inl rfl) (fun K hK=>?_);go_simp;refine hK.out _ _ rfl (fun h=>absurd h (by decide)) ?_;clear hK K;refine Free.Seq.nil_ ?_;go_wp2;obtain⟨WF,hWF⟩:∃ WF,(((((w4.setCell ⟨w.heap.size+1,0,none⟩ (.int .i64 pv)).setCell ⟨w.heap.size+1,1,none⟩ (.int .i64 pl)).setCell ⟨w.heap.size+1,2,none⟩ (.slice A1 code.length d1)).setCell ⟨w.heap.size+1,3,none⟩ (.slice A2 mem.length d2)).setCell ⟨w.heap.size+1,4,none⟩ (.slice A3 stack.length d3)).setCell ⟨w.heap.size+1,5,none⟩ (.slice A4 out.length d4)=WF:=⟨_,rfl⟩;rw[hWF] at HCP HRF HBL ⊢;have y0:WF.cell? ⟨w.heap.size+1,0,none⟩=_:=HRF.out.cell 0;have y1:WF.cell? ⟨w.heap.size+1,1,none⟩=_:=HRF.out.cell 1;have y2:WF.cell? ⟨w.heap.size+1,2,none⟩=_:=HRF.out.cell 2;have y3:WF.cell? ⟨w.heap.size+1,3,none⟩=_:=HRF.out.cell 3;have y4:WF.cell? ⟨w.heap.size+1,4,none⟩=_:=HRF.out.cell 4;have y5:WF.cell? ⟨w.heap.size+1,5,none⟩=_:=HRF.out.cell 5;exact bodyPost_ret (v:=.agg #[.int .i64 pv,.int .i64 pl,.slice A1 code.length d1,.slice A2 mem.length d2,.slice A3 stack.length d3,.slice A4 out.length d4]) (by simp[results,Tryz.results31,go_sem,y0,y1,y2,y3,y4,y5]) rfl ⟨_,_,_,_,rfl,HCP.out,HBL.out⟩
def Begun(v:Value)(names:List ByteArray)(up:List Nat)(s:St.State)(w:World)(e:Ending)(w':World):Prop :=
 ∃ g N U c1 c2 x,v=.agg #[.slice N names.length c1,.slice U up.length c2]∧e=.returned (.pointer (some ⟨g,0,none⟩))∧Mach ⟨w.heap.size,g,N,U,c1,c2,names,up⟩ (Sp.start (bottomR names up:Nat) s ⟨0,0,0⟩) x w'∧Below w.heap.size w w'
theorem z53{v tv:Value}{names:List ByteArray}{up:List Nat}{s:St.State}(w:World)(h:IsLat w w.heap.size v names up)(hst:IsSt w w.heap.size tv s)(hsm:SmallS s) :
  Calls Tryz.prog 53 #[v,tv] w (Begun v names up s w):=by
 obtain⟨⟨N,U,c1,c2,rfl,hN,hU⟩,hsh,hfew,hcaps⟩:=id h;have hst':=hst;have HSM:=η hsm;obtain⟨⟨pv,pl⟩,code,mem,stack,out⟩:=s;obtain⟨cv,mv,stv_,ov,rfl,⟨cA,cc,rfl,hcr,hcc⟩,⟨mA,mc,rfl,hmr,hmc⟩,⟨sA,sc,rfl,hsr,hsc⟩,⟨oA,oc,rfl,hor,hoc⟩⟩:=hst;unfold stv at hst' ⊢;dsimp only at hst' ⊢;have hb:=((Below.refl w.heap.size w).alloc (Nat.le_refl _) (.cells #[.slice N names.length c1,.slice U up.length c2] 25)).alloc (by simp) (.cells #[.int .i64 pv,.int .i64 pl,.slice cA code.length cc,.slice mA mem.length mc,.slice sA stack.length sc,.slice oA out.length oc] 35);have hp0:=(Blk.new w 25 #[.slice N names.length c1,.slice U up.length c2]).alloc (.cells #[.int .i64 pv,.int .i64 pl,.slice cA code.length cc,.slice mA mem.length mc,.slice sA stack.length sc,.slice oA out.length oc] 35);have hp1:=Blk.new (w.alloc (.cells #[.slice N names.length c1,.slice U up.length c2] 25)) 35 #[.int .i64 pv,.int .i64 pl,.slice cA code.length cc,.slice mA mem.length mc,.slice sA stack.length sc,.slice oA out.length oc];rw[show(w.alloc (.cells #[.slice N names.length c1,.slice U up.length c2] 25)).heap.size=w.heap.size+1 by simp] at hp1;obtain⟨W0,hW0⟩:∃ W0,(w.alloc (.cells #[.slice N names.length c1,.slice U up.length c2] 25)).alloc (.cells #[.int .i64 pv,.int .i64 pl,.slice cA code.length cc,.slice mA mem.length mc,.slice sA stack.length sc,.slice oA out.length oc] 35)=W0:=⟨_,rfl⟩;rw[hW0] at hb hp0 hp1;have HBOT:=η (q7x W0 ((h.below hb).more hb.size));have HCO:=η (fun W (hb:Below w.heap.size w W)=>q72 (tv:=.agg #[.int .i64 pv,.int .i64 pl,.slice cA code.length cc,.slice mA mem.length mc,.slice sA stack.length sc,.slice oA out.length oc]) (s:=⟨⟨pv,pl⟩,code,mem,stack,out⟩) W ((hst'.below hb).more hb.size) HSM.out);have H:=η h;obtain⟨a0,a1⟩:=ζ2 hp0;have HB0:=η hb;have HP0:=η hp0;have HP1:=η hp1;unfold Begun;generalize bottomR names up=bt at *;generalize checkN names up=ck at *;clear hb hp0 hp1 h hst' hN hU hsh hfew hcaps hcr hmr hsr hor hcc hmc hsc hoc hsm;go_enter Tryz.func53,Tryz.ntmps53;go_wp2_with (fail);refine HBOT.out.mono ?_;rintro e w1 ⟨rfl,hb1⟩;have hq0:=HP0.out.below hb1 HP0.out.lt;have hq1:=HP1.out.below hb1 HP1.out.lt;obtain⟨l0,l1⟩:=ζ2 hq0;obtain⟨s0,s1,s2,s3,s4,s5⟩:=ζ6 hq1;have HB1:=η (HB0.out.trans (hb1.mono HB0.out.size));clear hq0 hq1 hb1 a0 a1 HBOT HP0 HP1 HB0;go_wp2;refine Free.region_seq [2,7] [0,1] 7 (fun W'=>W'.cell? ⟨w.heap.size,0,none⟩=some (.slice N names.length c1)∧W'.cell? ⟨w.heap.size,1,none⟩=some (.slice U up.length c2)∧W'.cell? ⟨w.heap.size+1,0,none⟩=some (.int .i64 pv)∧W'.cell? ⟨w.heap.size+1,1,none⟩=some (.int .i64 pl)∧W'.cell? ⟨w.heap.size+1,2,none⟩=some (.slice cA code.length cc)∧W'.cell? ⟨w.heap.size+1,3,none⟩=some (.slice mA mem.length mc)∧W'.cell? ⟨w.heap.size+1,4,none⟩=some (.slice sA stack.length sc)∧W'.cell? ⟨w.heap.size+1,5,none⟩=some (.slice oA out.length oc)) (by kernel_rfl) (by kernel_rfl) (by kernel_rfl) (by kernel_rfl) (⟨l0,l1,s0,s1,s2,s3,s4,s5⟩) (fun ops hops=>?_);clear hops;iterate 2
  refine Free.Seq.quiet (v:=?_) (a':=?_) rfl rfl (fun W' hW'=>?_) ?_ ?_
  rotate_left 2
  ·first|obtain⟨k0,k1,t0,t1,t2,t3,t4,t5⟩:=hW' rfl|skip
   go_simp;try with_reducible rfl
  ·simp only[Act.put,List.setIfInBounds_toArray,List.set_cons_zero,List.set_cons_succ];try with_reducible rfl
 refine Free.Seq.loud_ rfl (.inl rfl) (fun K hK=>?_);go_simp;refine(HCO.out _ HB1.out.drew).mono ?_;rintro e w2 ⟨cv,mv,tv,ov,he,hcp,hb2⟩;have HB2:=η (HB1.out.drew.trans (hb2.mono HB1.out.drew.size));obtain⟨A1,d1,rfl⟩:=q0b hcp.code;obtain⟨A2,d2,rfl⟩:=q0b hcp.mem;obtain⟨A3,d3,rfl⟩:=q0b hcp.stack;obtain⟨A4,d4,rfl⟩:=q0b hcp.out;unfold stv at he;dsimp only at he hcp;subst he;have hcp2:=hcp.mono HB1.out.drew.size;have HCP:=η hcp2;refine hK.out _ _ rfl (fun _=>?_) ?_
 ·have hl:∀(b i:Nat) (u:Value),b<w1.heap.size→w1.cell? ⟨b,i,none⟩=some u→w2.cell? ⟨b,i,none⟩=some u:=fun b i u h1 h2=>(hb2.cell (p:=⟨b,i,none⟩) h1).trans h2
  have hlt:∀(b i:Nat) (u:Value),w1.cell? ⟨b,i,none⟩=some u→b<w1.heap.size:=fun b i u h1=>World.block_lt_of_cell? w1 ⟨b,i,none⟩ h1
  exact⟨hl _ _ _ (hlt _ _ _ l0) l0,hl _ _ _ (hlt _ _ _ l1) l1,hl _ _ _ (hlt _ _ _ s0) s0,hl _ _ _ (hlt _ _ _ s1) s1,hl _ _ _ (hlt _ _ _ s2) s2,hl _ _ _ (hlt _ _ _ s3) s3,hl _ _ _ (hlt _ _ _ s4) s4,hl _ _ _ (hlt _ _ _ s5) s5⟩
 clear hK K hcp hcp2 hb2 l0 l1 s0 s1 s2 s3 s4 s5;iterate 4
  refine Free.Seq.quiet (v:=?_) (a':=?_) rfl rfl (fun W' hW'=>?_) ?_ ?_
  rotate_left 2
  ·skip
   go_simp;try with_reducible rfl
  ·simp only[Act.put,List.setIfInBounds_toArray,List.set_cons_zero,List.set_cons_succ];try with_reducible rfl
 refine Free.Seq.loud_ rfl (.inl rfl) (fun K hK=>?_);go_simp;refine hK.out _ _ rfl (fun h=>absurd h (by decide)) ?_;clear hK K;iterate 1
  refine Free.Seq.quiet (v:=?_) (a':=?_) rfl rfl (fun W' hW'=>?_) ?_ ?_
  rotate_left 2
  ·skip
   go_simp;try with_reducible rfl
  ·simp only[Act.put,List.setIfInBounds_toArray,List.set_cons_zero,List.set_cons_succ];try with_reducible rfl
 refine Free.Seq.nil_ ?_;go_wp2;go_ret;have hal:=(Below.refl w2.heap.size w2).alloc (Nat.le_refl _) (.cells (mcells ⟨w.heap.size,w2.heap.size,N,U,c1,c2,names,up⟩ (Sp.start (bt:Nat) ⟨⟨pv,pl⟩,code,mem,stack,out⟩ ⟨0,0,0⟩) ⟨A1,d1,A2,d2,A3,d3,A4,d4,none,0⟩) 103);have hcp3:=HCP.out.below hal;refine⟨w2.heap.size,N,U,c1,c2,⟨A1,d1,A2,d2,A3,d3,A4,d4,none,0⟩,rfl,rfl,⟨Blk.new _ _ _,hcp3.code,hcp3.mem,hcp3.stack,hcp3.out,World.ownsRow_nil _ _ _ _,hcp3.mo,?_,H.out.below (HB2.out.trans (hal.mono HB2.out.size)),HB2.out.size⟩,HB2.out.trans (hal.mono HB2.out.size)⟩;cases A3 with
 | none=>exact .inl rfl
 | some a=>exact .inr (by simp[Value.ownBlock])
end Go.Proofs.YtjobifclmcdjcaaGreatDoor
