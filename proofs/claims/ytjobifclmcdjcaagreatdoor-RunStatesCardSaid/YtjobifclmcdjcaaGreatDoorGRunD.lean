import Derived.Maps.OwnIn
import Derived.Test.YtjobifclmcdjcaaGreatDoorGStpW
import Derived.Test.YtjobifclmcdjcaaGreatDoorGCodE
import Derived.Test.YtjobifclmcdjcaaGreatDoorGFree
set_option maxHeartbeats 64000000
set_option maxRecDepth 100000
namespace Go.Proofs.YtjobifclmcdjcaaGreatDoor
open Go.RowKit Go.Shelf
attribute [local go_sem] Oper.semAt_some
structure StsIn (W:World) (B:Nat) (A:Option Addr) (xs:List El):Prop where
 row:Row W B A (fcells El.cells xs)
 el:∀ x ∈ xs,IsSt W B x.val x.s
theorem StsIn.below{W W':World}{B:Nat}{A:Option Addr}{xs:List El}(h:StsIn W B A xs)(hb:Below B W W'):StsIn W' B A xs:=⟨h.row.below hb,fun x hx=>(h.el x hx).below hb⟩
theorem StsIn.more{W:World}{B B':Nat}{A:Option Addr}{xs:List El}(h:StsIn W B A xs)(hb:B≤B'):StsIn W B' A xs:=⟨h.row.more hb,fun x hx=>(h.el x hx).more hb⟩
theorem El.cells_len(x:El):x.cells.length=6:=rfl
def runL(names:List ByteArray)(up:List Nat)(l:List Tb.PR)(s:St.State)(fuel:Int):List (St.State×Nat) :=
 if chk11 names up l s fuel=0 then Rn.seq (stepF names up l) fuel.toNat s else[]
theorem Tryz.infoSt:(Tryz.prog.info? 35).map (fun i=>(i.zero,i.size,i.bytes))=some (some (.agg #[.int .i64 0,.int .i64 0,.slice none 0 0,.slice none 0 0,.slice none 0 0,.slice none 0 0]),6,112):=by kernel_rfl
structure IRun (w0:World) (b1 b2 B:Nat) (O:Nat→Prop) (pre:List El) (W:World):Prop where
 box:∃ v,Blk W b1 59 #[v]∧W.ownsRow B 35 6 v pre.length (fcells El.cells pre)∧∀ k,v.ownBlock=some k→¬O k
 came:Blk W b2 3 #[.int .i64 (Rn.came (pre.map El.pl):Int)]
 el:∀ x ∈ pre,x.In w0.heap.size W
 no:¬O b1∧¬O b2
 below:Below w0.heap.size w0 W
 big:B≤W.heap.size
theorem IRun.stands(w0:World){b1 b2 B Bg:Nat}(h0:w0.heap.size≤b1)(h1:b1<B)(h2:b2<B)(h3:B≤Bg):Stands Bg 35 (IRun w0 b1 b2 B):=by
 refine⟨fun{O b W W'} h hb=>?_,fun{O O' b W} h ho=>?_,fun{O b W g i cs} v h hB hg hk=>?_⟩
 ·obtain⟨⟨v,hv,hown,hvo⟩,hc,hel,⟨n1,n2⟩,hbl,hbg⟩:=h;refine⟨⟨v,hv.below hb hv.lt,q0o hown hb,?_⟩,hc.below hb hc.lt,fun x hx=>(hel x hx).below hb,⟨?_,?_⟩,hbl.trans (hb.mono hbl.size),Nat.le_trans hbg hb.size⟩
  ·rintro k hk (hk'|⟨hk',-⟩)
   ·exact hvo k hk hk'
   ·have:=(hown.lt k hk).2;omega
  ·rintro(hk'|⟨hk',-⟩)
   ·exact n1 hk'
   ·have:=hv.lt;omega
  ·rintro(hk'|⟨hk',-⟩)
   ·exact n2 hk'
   ·have:=hc.lt;omega
 ·obtain⟨⟨v,hv,hown,hvo⟩,hc,hel,⟨n1,n2⟩,hbl,hbg⟩:=h;exact⟨⟨v,hv,hown,fun k hk hk'=>hvo k hk (ho k hk')⟩,hc,hel,⟨fun hk=>n1 (ho _ hk),fun hk=>n2 (ho _ hk)⟩,hbl,hbg⟩
 ·obtain⟨⟨u,hv,hown,hvo⟩,hc,hel,hn,hbl,hbg⟩:=h;refine⟨⟨u,hv.other (by show g≠b1;omega) v,q0g hown (fun e=>hvo g e hg) v,hvo⟩,hc.other (by show g≠b2;omega) v,fun x hx=>(hel x hx).set_ hk v,hn,hbl.setCell (p:=⟨g,i,none⟩) (by show w0.heap.size≤g;omega) v,by simpa using hbg⟩
theorem IRun.putObj{w0:World}{b1 b2 B:Nat}{O:Nat→Prop}{pre:List El}{W:World}{l:Nat}{o:Obj}(o':Obj)(h:IRun w0 b1 b2 B O pre W)(hl:w0.heap.size≤l)(ho:W.heap[l]? = some o)(hc:o.isCells=false):IRun w0 b1 b2 B O pre (W.putObj l o'):=by
 obtain⟨⟨v,hv,hown,hvo⟩,hcm,hel,hn,hbl,hbg⟩:=h;refine⟨⟨v,hv.putObj o' ho hc,q24 hown fun k cs hb=>World.putObj_heap_other (fun e=>?_),hvo⟩,hcm.putObj o' ho hc,fun x hx=>(hel x hx).putObj ho hc,hn,hbl.trans ?_,by simpa using hbg⟩
 ·subst e;unfold Blk at hb;rw[hb] at ho;cases ho;cases hc
 ·exact(Below.refl _ W).grown (grownBy_putObj' W l o') (by have:=(Array.getElem?_eq_some_iff.1 ho).1;omega) (fun k e=>by cases e;omega)
def Runs(names:List ByteArray)(up:List Nat)(l:List Tb.PR)(s:St.State)(fuel:Int)(w:World)(e:Ending)(w':World):Prop :=
 ∃(A:Option Addr) (xs:List El) (cap:Nat),e=.returned (.tuple #[.slice A xs.length cap,.int .i64 (Rn.came (runL names up l s fuel):Int),.int .i64 (chk11 names up l s fuel:Nat)])∧xs.length≤cap∧StsIn w' w'.heap.size A xs∧xs.map El.pl=runL names up l s fuel∧Below w.heap.size w w'
theorem z7g{W:World}{base e sz n:Nat}{v:Value}{xs:List Value}(h:W.ownsRow base e sz v n xs):∀(j:Nat) (o:Obj),v.ownBlock=some j→W.heap[j]? = some o→o.isCells=true:=fun j o hj ho=>by
 rcases h.2 with⟨rfl,_⟩|⟨g,cap,cur,rfl,_,hh,_⟩
 ·cases hj
 ·have:g=j:=by simpa [Value.ownBlock] using hj
  subst this
  rw[hh] at ho
  cases ho
  rfl
theorem El.In.grown{B base n:Nat}{x:El}{W W':World}{v:Value}{xs:List Value}(h:x.In B W)(hown:W.ownsRow base 35 6 v n xs)(hg:W.grownBy W' v.ownBlock):x.In B W' :=
 h.type fun k _ _ hb ht=>hg.block k hb.lt fun e=>q0f hb hown ht e.symm
theorem El.In.setT{B g i:Nat}{x:El}{W:World}{t:TypeId}{cs:Array Value}(h:x.In B W)(hb:Blk W g t cs)(ht:t≠57∧t≠30∧t≠78)(u:Value):x.In B (W.setCell ⟨g,i,none⟩ u) :=
 ⟨h.eq,⟨q0g h.copy.code (q0f hb h.copy.code ht.1) u,q0g h.copy.mem (q0f hb h.copy.mem ht.2.1) u,q0g h.copy.stack (q0f hb h.copy.stack ht.2.2) u,q0g h.copy.out (q0f hb h.copy.out ht.2.1) u,h.copy.mo⟩⟩
theorem q8t(L:List El)(x:El):Rn.came ((L++[x]).map El.pl)=x.came:=by
 unfold Rn.came;rw[List.map_append,List.map_singleton,List.getLast?_concat];rfl
theorem q4k(w:World)(xs:List Value)(t:TypeId):∀ j u,xs[j]? = some u→(w.alloc (.cells xs.toArray t)).cell? ((⟨w.heap.size,0,none⟩:Addr).add j)=some u:=fun j u hu=>by
 have e:(⟨w.heap.size,0,none⟩:Addr).add j=⟨w.heap.size,j,none⟩:=by unfold Addr.add;split<;>simp_all
 rw[e,(Blk.new w t xs.toArray).cell]
 simpa using hu
theorem IRun.next{w0:World}{b1 b2 B:Nat}{O:Nat→Prop}{pre:List El}{x:El}{W W1 W2:World}{v v':Value}{o:Obj}(h:IRun w0 b1 b2 B O pre W)(hv:Blk W b1 59 #[v])(hown:W.ownsRow B 35 6 v pre.length (fcells El.cells pre))(hvo:∀ k,v.ownBlock=some k→¬O k)(hO:∀ k,O k→k<W.heap.size)(hb:w0.heap.size≤b1∧b1<B∧b2<B∧b1≠b2∧w0.heap.size≤b2)(hx:x.In w0.heap.size W)(hW1:W.alloc o=W1)(hown':W2.ownsRow B 35 6 v' (pre.length+1) (fcells El.cells pre++x.cells))(hg:W1.grownBy W2 v.ownBlock)(hwh:v'.ownBlock=v.ownBlock∨v'.ownBlock=some W1.heap.size){Wf:World}(hWf:(W2.setCell ⟨b1,0,none⟩ v').setCell ⟨b2,0,none⟩ (.int .i64 (x.came:Int))=Wf) :
  KeepsOthers W Wf∧HoldsOn O W Wf∧IRun w0 b1 b2 B O (pre++[x]) Wf:=by
 obtain⟨-,hc,hel,hn,hbl,hbg⟩:=h;have ho1:=hown.alloc o;have hs1:W1.heap.size=W.heap.size+1:=by rw[←hW1];simp
 have hlow:∀ k,v.ownBlock=some k→B≤k∧k<W.heap.size:=hown.lt;have ha:Below W.heap.size W (W.alloc o):=(Below.refl _ W).alloc (Nat.le_refl _) o;rw[hW1] at ho1 ha;have hv2:Blk W2 b1 59 #[v]:=(hg.block b1 (by have:=hv.lt;omega) (fun e=>by have:=(hlow b1 e.symm).1;omega)).trans (hv.below ha hv.lt);have hc2:Blk W2 b2 3 #[.int .i64 (Rn.came (pre.map El.pl):Int)]:=(hg.block b2 (by have:=hc.lt;omega) (fun e=>by have:=(hlow b2 e.symm).1;omega)).trans (hc.below ha hc.lt);have hb2:Below w0.heap.size W1 W2:=(Below.refl _ W1).grown hg (by have:=hbl.size;omega) (fun k e=>by have:=(hlow k e).1;omega);have hnv':∀ k,v'.ownBlock=some k→B≤k∧¬O k:=fun k hk=>by
  rcases hwh with e|e
  ·rw[e] at hk;exact⟨(hlow k hk).1,hvo k hk⟩
  ·rw[e] at hk;injection hk with hk;have:=(hown'.lt k (by rw[e,hk])).1;exact⟨this,fun h=>by have:=hO k h;omega⟩
 subst hWf;refine⟨?_,?_,⟨v',?_,?_,fun k hk=>(hnv' k hk).2⟩,?_,?_,hn,?_,by have:=hg.size;simp;omega⟩
 ·refine(((hW1▸KeepsOthers.alloc W o:KeepsOthers W W1).trans (KeepsOthers.of_grownBy hg fun j o' hj ho'=>z7g ho1 j o' hj ho')).trans (KeepsOthers.setCell _ _ _)).trans (KeepsOthers.setCell _ _ _)
 ·refine(((hW1▸HoldsOn.alloc W o hO:HoldsOn O W W1).trans (HoldsOn.grown hg fun k hk=>⟨by have:=hO k hk;omega,fun e=>hvo k e.symm hk⟩)).trans (HoldsOn.setCell _ (p:=⟨b1,0,none⟩) _ hn.1)).trans (HoldsOn.setCell _ (p:=⟨b2,0,none⟩) _ hn.2)
 ·exact(hv2.set_ 0 v').other (by show b2≠b1;omega) _
 ·have h1:=q0g (q0g hown' (p:=⟨b1,0,none⟩) (fun e=>by have:=(hnv' _ e).1;dsimp only at this;omega) v') (p:=⟨b2,0,none⟩) (fun e=>by have:=(hnv' _ e).1;dsimp only at this;omega) (.int .i64 (x.came:Int));rw[List.length_append,q4c];exact h1
 ·rw[q8t];exact(hc2.other (by show b1≠b2;omega) v').set_ 0 _
 ·have hin:∀ z:El,z.In w0.heap.size W→z.In w0.heap.size ((W2.setCell ⟨b1,0,none⟩ v').setCell ⟨b2,0,none⟩ (.int .i64 (x.came:Int))):=fun z hz=>by
   exact(((hz.below ha).grown ho1 hg).setT hv2 (by decide) v').setT (hc2.other (by show b1≠b2;omega) v') (by decide) _
  intro z hz;rcases List.mem_append.1 hz with h|h
  ·exact hin z (hel z h)
  ·rw[List.mem_singleton] at h;subst h;exact hin _ hx
 ·exact((hbl.trans (ha.mono hbl.size)).trans hb2).setCell (p:=⟨b1,0,none⟩) hb.1 _ |>.setCell (p:=⟨b2,0,none⟩) hb.2.2.2.2 _
theorem z3k{v tv:Value}{names:List ByteArray}{up:List Nat}{s:St.State}{RA:Option Addr}{l:List Tb.PR}(rc:Nat)(fuel:Int)(w:World)(hi:Ins w)(hg:0<w.heap.size)(h:IsLat w w.heap.size v names up)(hst:IsSt w w.heap.size tv s)(hsm:SmallS s)(hr:RowsIn w w.heap.size RA l)(hrs:∀ x ∈ l,Small x) :
  Calls Tryz.prog 23 #[v,.agg #[.slice RA l.length rc],tv,.int .i64 fuel] w (Runs names up l s fuel w):=by
 have hwf:∀ f,Fence.wide.fn f:=fun _=>trivial
 have h':=h;obtain⟨⟨N,U,c1,c2,rfl,hN,hU⟩,hsh,hfew,hcaps⟩:=id h;have hst':=hst;obtain⟨cv,mv,stv_,ov,hsv,⟨cA,cc,rfl,hcr,hcc⟩,⟨mA,mc,rfl,hmr,hmc⟩,⟨sA,sc,rfl,hsr,hsc⟩,⟨oA,oc,rfl,hor,hoc⟩⟩:=hst;unfold stv at hsv;subst hsv;obtain⟨n1,hn1⟩:∃ n,names.length=n:=⟨_,rfl⟩;obtain⟨n2,hn2⟩:∃ n,up.length=n:=⟨_,rfl⟩;obtain⟨nl,hnl⟩:∃ n,l.length=n:=⟨_,rfl⟩;obtain⟨y,hy⟩:∃ y:El,y=⟨s.pc.v,s.pc.l,cA,s.code.length,cc,mA,s.mem.length,mc,sA,s.stack.length,sc,oA,s.out.length,oc,s,0⟩:=⟨_,rfl⟩;have q0:=Blk.new w 25 #[.slice N n1 c1,.slice U n2 c2];have q1:=Blk.new (w.alloc (.cells #[.slice N n1 c1,.slice U n2 c2] 25)) 28 #[.slice RA nl rc];rw[show(w.alloc (.cells #[.slice N n1 c1,.slice U n2 c2] 25)).heap.size=w.heap.size+1 by simp] at q1;have q2:=Blk.new ((w.alloc (.cells #[.slice N n1 c1,.slice U n2 c2] 25)).alloc (.cells #[.slice RA nl rc] 28)) 35 #[.int .i64 s.pc.v,.int .i64 s.pc.l,.slice cA s.code.length cc,.slice mA s.mem.length mc,.slice sA s.stack.length sc,.slice oA s.out.length oc];rw[show((w.alloc (.cells #[.slice N n1 c1,.slice U n2 c2] 25)).alloc (.cells #[.slice RA nl rc] 28)).heap.size=w.heap.size+2 by simp] at q2;have hbox:=(((Below.refl w.heap.size w).alloc (by simp<;>omega) (.cells #[.slice N n1 c1,.slice U n2 c2] 25)).alloc (by simp<;>omega) (.cells #[.slice RA nl rc] 28)).alloc (by simp<;>omega) (.cells #[.int .i64 s.pc.v,.int .i64 s.pc.l,.slice cA s.code.length cc,.slice mA s.mem.length mc,.slice sA s.stack.length sc,.slice oA s.out.length oc] 35);obtain⟨W,hW⟩:∃ W,((w.alloc (.cells #[.slice N n1 c1,.slice U n2 c2] 25)).alloc (.cells #[.slice RA nl rc] 28)).alloc (.cells #[.int .i64 s.pc.v,.int .i64 s.pc.l,.slice cA s.code.length cc,.slice mA s.mem.length mc,.slice sA s.stack.length sc,.slice oA s.out.length oc] 35)=W:=⟨_,rfl⟩;have p0:=((q0.alloc (.cells #[.slice RA nl rc] 28)).alloc (.cells #[.int .i64 s.pc.v,.int .i64 s.pc.l,.slice cA s.code.length cc,.slice mA s.mem.length mc,.slice sA s.stack.length sc,.slice oA s.out.length oc] 35));have p1:=(q1.alloc (.cells #[.int .i64 s.pc.v,.int .i64 s.pc.l,.slice cA s.code.length cc,.slice mA s.mem.length mc,.slice sA s.stack.length sc,.slice oA s.out.length oc] 35));have hWs:W.heap.size=w.heap.size+3:=by rw[←hW];simp
 rw[hW] at hbox p0 p1 q2;have HCK:=η (q6k (s:=s) (tv:=.agg #[.int .i64 s.pc.v,.int .i64 s.pc.l,.slice cA s.code.length cc,.slice mA s.mem.length mc,.slice sA s.stack.length sc,.slice oA s.out.length oc]) rc fuel W (hi.below hbox hg) (Nat.lt_of_lt_of_le hg hbox.size) ((h'.below hbox).more hbox.size) ((hst'.below hbox).more hbox.size) hsm ((hr.below hbox).more hbox.size) hrs);rw[hn1,hn2] at HCK h';rw[hn1,hn2,hnl];rw[hnl] at HCK;obtain⟨l0,l1⟩:=ζ2 p0;have t0:W.cell? ⟨w.heap.size+1,0,none⟩=some (.slice RA nl rc):=p1.cell 0;obtain⟨s0,s1,s2,s3,s4,s5⟩:=ζ6 q2;have HB:=η hbox;have HP0:=η p0;have HP1:=η p1;have HP2:=η q2;have HWS:=η hWs;have HIN:=η hi;have HLA:=η h';have HST:=η hst';have HRO:=η hr;have HNL:=η hnl;unfold Runs runL;obtain⟨c,hc⟩:∃ c,chk11 names up l s fuel=c:=⟨_,rfl⟩;rw[hc] at HCK ⊢;clear q0 q1 q2 p0 p1 hbox h h' hst' hr hi hcr hcc hmr hmc hsr hsc hor hoc hN hU hsh hfew hcaps hn1 hn2 hnl hWs;by_cases hz:c=0
 ·subst hz;have hf40:0≤fuel∧fuel≤40∧chk10 names up l s=0:=by
   unfold chk11 at hc;split at hc
   ·next h0 =>
    split at hc
    ·cases hc
    ·exact⟨by omega,by omega,h0⟩
   ·next h0=>exact absurd hc h0
  obtain⟨hf0,hf4,hck⟩:=hf40;obtain⟨fu,rfl⟩:∃ fu:Nat,fuel=(fu:Int):=⟨fuel.toNat,by omega⟩;have hfu:fu≤40:=by omega
  rw[if_pos rfl,Int.toNat_natCast];have HCH:=η hck;obtain⟨L,hL⟩:∃ L,Rn.seq (stepF names up l) fu s=L:=⟨_,rfl⟩;rw[hL];have HL:=η hL;clear hL hck hc hf0 hf4;refine(callsIn_wide (n:=5)).1 ?_;refine callsIn_of_wp_marks Tryz.func23 rfl trivial ?_ rfl;simp only[Tryz.ntmps23,List.size_toArray,List.length_cons,List.length_nil,Nat.reduceAdd,Nat.reduceSub,Array.replicate_succ,Array.replicate_zero,List.push_toArray,List.append_toArray,List.nil_append,List.cons_append]
  gi_wp2_with (fail)
  refine(callsIn_wide.2 HCK.out).mono ?_;rintro e w1 ⟨rfl,hb1⟩;have hp0:=HP0.out.below hb1 HP0.out.lt;have hp1:=HP1.out.below hb1 HP1.out.lt;have hp2:=HP2.out.below hb1 HP2.out.lt;have hB1:=HB.out.trans (hb1.mono HB.out.size);have ha1:=Below.refl w1.heap.size w1 |>.alloc (Nat.le_refl _) (.cells #[.slice none 0 0] 59);have hk1:=Blk.new w1 59 #[.slice none 0 0];obtain⟨w2,hw2⟩:∃ w2,w1.alloc (.cells #[.slice none 0 0] 59)=w2:=⟨_,rfl⟩;have hz2:w2.heap.size=w1.heap.size+1:=by rw[←hw2];simp
  rw[hw2] at ha1 hk1;have ha2:=Below.refl w2.heap.size w2 |>.alloc (Nat.le_refl _) (.cells #[.int .i64 0] 3);have hk2:=Blk.new w2 3 #[.int .i64 0];obtain⟨w3,hw3⟩:∃ w3,w2.alloc (.cells #[.int .i64 0] 3)=w3:=⟨_,rfl⟩;have hz3:w3.heap.size=w2.heap.size+1:=by rw[←hw3];simp
  rw[hw3] at ha2 hk2;rw[hz2] at hk2;have hk1':=hk1.below ha2 hk1.lt;have hp0':=(hp0.below ha1 hp0.lt).below ha2 (by have:=hp0.lt;omega);have hp1':=(hp1.below ha1 hp1.lt).below ha2 (by have:=hp1.lt;omega);have hp2':=(hp2.below ha1 hp2.lt).below ha2 (by have:=hp2.lt;omega);have hB3:=(hB1.trans (ha1.mono hB1.size)).trans (ha2.mono (Nat.le_trans hB1.size ha1.size));obtain⟨l0,l1⟩:=ζ2 hp0';have t0:w3.cell? ⟨w.heap.size+1,0,none⟩=some (.slice RA nl rc):=hp1'.cell 0;obtain⟨s0,s1,s2,s3,s4,s5⟩:=ζ6 hp2';have HK1:=η hk1';have HK2:=η hk2;have HB3:=η hB3;have HB1:=η hB1;have HZ2:=η hz2;have HZ3:=η (show w3.heap.size=w1.heap.size+2 by omega);clear hp0 hp1 hp2 hp0' hp1' hp2' hB1 hB3 hk1 hk1' hk2 ha1 ha2 hb1 hz2 hz3
  gi_wp2_with (fail)
  refine(callsIn_wide.2 (q6y (fu:Int) w3)).mono ?_;rintro e w4 ⟨rfl,hw4⟩;have hz4:w4.heap.size=w3.heap.size+4:=by rw[←hw4];simp
  have hb4:Below w3.heap.size w3 w4:=by
   rw[←hw4];exact((((Below.refl _ w3).alloc (Nat.le_refl _) _).alloc (by simp) _).alloc (by simp;omega) _).alloc (by simp;omega) _
  have hrb:RBox names up l s w.heap.size w3.heap.size N U RA n1 c1 n2 c2 nl rc y fu w4:=by
   have hbw:=HB3.out.trans (hb4.mono HB3.out.size);subst hy;refine⟨HIN.out.below hbw hg,⟨hg,HB3.out.size⟩,HLA.out.below hbw,⟨HRO.out.below hbw,HNL.out⟩,HST.out.below hbw,?_,?_,?_,?_⟩
   ·rw[←hw4];exact(((Blk.new w3 _ _).alloc _).alloc _).alloc _
   ·have h:=(((Blk.new (w3.alloc (.cells #[.slice N n1 c1,.slice U n2 c2] 25)) 28 #[.slice RA nl rc])).alloc (.cells #[.int .i64 s.pc.v,.int .i64 s.pc.l,.slice cA s.code.length cc,.slice mA s.mem.length mc,.slice sA s.stack.length sc,.slice oA s.out.length oc] 35)).alloc (.cells #[.int .i64 (fu:Int)] 3);rw[hw4,show(w3.alloc (.cells #[.slice N n1 c1,.slice U n2 c2] 25)).heap.size=w3.heap.size+1 by simp] at h;exact h
   ·have h:=(Blk.new ((w3.alloc (.cells #[.slice N n1 c1,.slice U n2 c2] 25)).alloc (.cells #[.slice RA nl rc] 28)) 35 #[.int .i64 s.pc.v,.int .i64 s.pc.l,.slice cA s.code.length cc,.slice mA s.mem.length mc,.slice sA s.stack.length sc,.slice oA s.out.length oc]).alloc (.cells #[.int .i64 (fu:Int)] 3);rw[hw4,show((w3.alloc (.cells #[.slice N n1 c1,.slice U n2 c2] 25)).alloc (.cells #[.slice RA nl rc] 28)).heap.size=w3.heap.size+2 by simp] at h;exact h
   ·have h:=Blk.new (((w3.alloc (.cells #[.slice N n1 c1,.slice U n2 c2] 25)).alloc (.cells #[.slice RA nl rc] 28)).alloc (.cells #[.int .i64 s.pc.v,.int .i64 s.pc.l,.slice cA s.code.length cc,.slice mA s.mem.length mc,.slice sA s.stack.length sc,.slice oA s.out.length oc] 35)) 3 #[.int .i64 (fu:Int)];rw[hw4,show(((w3.alloc (.cells #[.slice N n1 c1,.slice U n2 c2] 25)).alloc (.cells #[.slice RA nl rc] 28)).alloc (.cells #[.int .i64 s.pc.v,.int .i64 s.pc.l,.slice cA s.code.length cc,.slice mA s.mem.length mc,.slice sA s.stack.length sc,.slice oA s.out.length oc] 35)).heap.size=w3.heap.size+3 by simp] at h;exact h
  have h0:IRun w w1.heap.size w2.heap.size w4.heap.size (O11 w.heap.size w3.heap.size) [] w4:=by
   have hz3:=HZ3.out;have hz2:=HZ2.out;have h1:=HK1.out.below hb4 HK1.out.lt;have h2:=HK2.out.below hb4 HK2.out.lt;have hw1:=HB1.out.size;refine⟨⟨_,h1,World.ownsRow_nil _ _ _ _,fun k hk=>(nomatch hk)⟩,?_,fun x hx=>(nomatch hx),⟨?_,?_⟩,HB3.out.trans (hb4.mono HB3.out.size),Nat.le_refl _⟩
   ·rw[hz2];exact h2
   ·unfold O11;omega
   ·unfold O11;omega
  have hO:∀ k,O11 w.heap.size w3.heap.size k→k<w4.heap.size:=fun k hk=>by have:=HB3.out.size;unfold O11 at hk;omega
  have HRB:=η hrb;have HI0:=η h0;have HO:=η hO;have HZ4:=η hz4;clear hrb h0 hO hb4 hw4 hz4 l0 l1 t0 s0 s1 s2 s3 s4 s5 HK1 HK2
  gi_wp2
  refine q3y rfl (by decide) (gf:=77) (lb:=#[.pointer (some ⟨w3.heap.size+2,0,none⟩),.pointer (some ⟨w3.heap.size+3,0,none⟩),.pointer (some ⟨w3.heap.size,0,none⟩),.pointer (some ⟨w3.heap.size+1,0,none⟩)]) rfl trivial (enters_of Tryz.func77 (by kernel_rfl) rfl)
   (run1_holds _ _ (by decide) w4 HRB.out hrs HCH.out hfu) HO.out (fun _=>rfl) (IRun w w1.heap.size w2.heap.size w4.heap.size) (IRun.stands w HB1.out.size (by have:=HZ3.out;have:=HZ4.out;omega) (by have:=HZ2.out;have:=HZ3.out;have:=HZ4.out;omega) (by omega))
   (fun O pre W l o o' h hl _ ho hc=>h.putObj o' (by have:=HB3.out.size;have:=HZ4.out;omega) ho hc) HI0.out ?assign ?done
  case assign =>
   clear HI0 HCK HP0 HP1 HP2 HIN HLA HST HRO;rintro lp O pre ⟨a,b,A1,m1,d1,A2,m2,d2,A3,m3,d3,A4,m4,d4,s9,c9⟩ W9 K hI hG hOlt hK;dsimp only[El.encs,El.val];have hlen:pre.length<41:=by
    have h1:=hG.2.length_le;rw[List.length_map,List.length_append,List.length_singleton] at h1;have h2:=Rn.seq_le (stepF names up l) fu s;omega
   have HLEN:=η hlen;have hst:=IRun.stands (b1:=w1.heap.size) (b2:=w2.heap.size) (B:=w4.heap.size) (Bg:=w4.heap.size) w HB1.out.size (by have:=HZ3.out;have:=HZ4.out;omega) (by have:=HZ2.out;have:=HZ3.out;have:=HZ4.out;omega) (Nat.le_refl _);have hal:=(Below.refl W9.heap.size W9).alloc (Nat.le_refl _) (.cells #[.int .i64 a,.int .i64 b,.slice A1 m1 d1,.slice A2 m2 d2,.slice A3 m3 d3,.slice A4 m4 d4] 35);have hi9:=hst.less (hst.grow hI hal) (fun k hk=>.inl hk);have hx9:=hG.1.below hal;have hk9:=Blk.new W9 35 #[.int .i64 a,.int .i64 b,.slice A1 m1 d1,.slice A2 m2 d2,.slice A3 m3 d3,.slice A4 m4 d4];have HI9:=η hi9;have HX9:=η hx9;have HK9:=η hk9;have HOL:=η hOlt;clear hlen hst hal hi9 hx9 hk9 hI hG hOlt
   gi_wp2
   refine hK _ _ (KeepsOthers.alloc _ _) (HoldsOn.alloc _ _ HOL.out) ?_;clear hK;intro l' o o' hl hno ho hc;have hiA:=HI9.out.putObj o' (by have:=HB3.out.size;have:=HZ4.out;omega) ho hc;have hxA:=HX9.out.putObj (o':=o') ho hc;have hkA:=HK9.out.putObj o' ho hc;have hszA:=hkA.lt;obtain⟨WA,hWA⟩:∃ WA,(W9.alloc (.cells #[.int .i64 a,.int .i64 b,.slice A1 m1 d1,.slice A2 m2 d2,.slice A3 m3 d3,.slice A4 m4 d4] 35)).putObj l' o'=WA:=⟨_,rfl⟩;rw[hWA] at hiA hxA hkA hszA ⊢;clear hWA ho hc hl HI9 HX9 HK9;obtain⟨v,hv,hown,hvo⟩:=hiA.box;obtain⟨Av,cv,rfl⟩:=q0b hown;obtain⟨i0,hi,hz0,hz1,hz2⟩:=info_parts Tryz.infoSt;have hcmA:=hiA.came;have v0:WA.cell? ⟨w1.heap.size,0,none⟩=some (.slice Av pre.length cv):=hv.cell 0;have v1:WA.frozen? ⟨w1.heap.size,0,none⟩=false:=hv.frozen 0;obtain⟨x0,x1,x2,x3,x4,x5⟩:=ζ6 hkA;have HIA:=η hiA;have HXA:=η hxA;have HVA:=η hv;have HWN:=η hown;have HVO:=η hvo;clear hiA hxA hv hvo hkA
   gi_wp2_with (gi_at_builtin;refine wpListIn_append_own_at _ rfl _ _ 59 rfl w4.heap.size 35 i0 (.agg #[.int .i64 0,.int .i64 0,.slice none 0 0,.slice none 0 0,.slice none 0 0,.slice none 0 0]) 6 112 Tryz.underlying59 hi hz0 hz1 hz2 rfl (by decide) _ _ _ rfl (hown.alloc _) ⟨WA.heap.size,0,none⟩ 1 1 [.int .i64 a,.int .i64 b,.slice A1 m1 d1,.slice A2 m2 d2,.slice A3 m3 d3,.slice A4 m4 d4] rfl rfl ?e1 ?e2 ?e3 ?e4 ?e5 ?_)
   case e1=>exact q4k _ _ _
   case e2=>simp[Value.oneCell']
   case e3=>have:=HLEN.out;unfold maxLen;omega
   case e4=>have:=HLEN.out;omega
   case e5=>have:=HIA.out.big;simp;omega
   intro v' w5 hown' hgrow _ hwh;have hcm5:=(hgrow.block w2.heap.size (by have:=hcmA.lt;simp;omega) (fun e=>by have:=(HWN.out.lt _ e.symm).1;have:=HZ2.out;have:=HZ3.out;have:=HZ4.out;omega)).trans (hcmA.alloc (.cells #[.int .i64 a,.int .i64 b,.slice A1 m1 d1,.slice A2 m2 d2,.slice A3 m3 d3,.slice A4 m4 d4] 35));have hst5:=(hgrow.block w1.heap.size (by have:=HVA.out.lt;simp;omega) (fun e=>by have:=(HWN.out.lt _ e.symm).1;have:=HZ2.out;have:=HZ3.out;have:=HZ4.out;omega)).trans (HVA.out.alloc (.cells #[.int .i64 a,.int .i64 b,.slice A1 m1 d1,.slice A2 m2 d2,.slice A3 m3 d3,.slice A4 m4 d4] 35));have hfin:=HIA.out.next (x:=⟨a,b,A1,m1,d1,A2,m2,d2,A3,m3,d3,A4,m4,d4,s9,c9⟩) HVA.out HWN.out HVO.out (fun k hk=>by have:=HOL.out k hk;omega) ⟨HB1.out.size,by have:=HZ3.out;have:=HZ4.out;omega,by have:=HZ2.out;have:=HZ3.out;have:=HZ4.out;omega,by have:=HZ2.out;omega,by have:=HZ2.out;have:=HB1.out.size;omega⟩ HXA.out rfl hown' hgrow (by rw[World.size_alloc];exact hwh) rfl;obtain⟨Av',cv',rfl⟩:=q0b hown';have HFIN:=η hfin;have k0:w5.cell? ⟨w2.heap.size,0,none⟩=some _:=Blk.cell hcm5 0;have k1:w5.frozen? ⟨w2.heap.size,0,none⟩=false:=Blk.frozen hcm5 0;have k2:w5.cell? ⟨w1.heap.size,0,none⟩=some _:=Blk.cell hst5 0;have k3:w5.frozen? ⟨w1.heap.size,0,none⟩=false:=Blk.frozen hst5 0;clear hfin hcm5 hst5 hown hown' hgrow hwh v0 v1 x0 x1 x2 x3 x4 x5 HIA HXA HVA HWN HVO hcmA;have hne1:w1.heap.size≠w2.heap.size:=by have:=HZ2.out;omega
   have hne2:w2.heap.size≠w1.heap.size:=fun e=>hne1 e.symm
   gi_wp2
   exact HFIN.out
  case done =>
   clear HI0 HCK HP0 HP1 HP2 HIN HLA HST HRO;rintro D O xs W9 hD hxs hI hK;obtain⟨⟨v,hv,hown,-⟩,hcm,hel,-,hbl,-⟩:=hI;obtain⟨Av,cv,rfl⟩:=q0b hown;have v0:W9.cell? ⟨w1.heap.size,0,none⟩=some (.slice Av xs.length cv):=hv.cell 0;have v1:W9.cell? ⟨w2.heap.size,0,none⟩=some (.int .i64 (Rn.came (xs.map El.pl):Int)):=hcm.cell 0;have HXS:=η (hxs.trans HL.out);rw[HXS.out] at v1;have hin:∀ x ∈ xs,IsSt (W9.putObj D (.deferred none)) (W9.putObj D (.deferred none)).heap.size x.val x.s:=fun x hx=>((hel x hx).putObj (o':=.deferred none) hK rfl).isSt
   have hown2:(W9.putObj D (.deferred none)).ownsRow w4.heap.size 35 6 (.slice Av xs.length cv) xs.length (fcells El.cells xs):=q24 hown fun k cs hb=>World.putObj_heap_other (fun e=>by subst e;unfold Blk at hb;rw[hb] at hK;cases hK)
   have hbl2:Below w.heap.size w (W9.putObj D (.deferred none)):=hbl.trans (belowK_b (w:=w) (Nat.le_refl _) W9 D _ _ (by have:=HZ4.out;have:=HB3.out.size;omega) hK rfl rfl);have HFIN:=η (And.intro (⟨(ownT_row hown2).1,hin⟩:StsIn _ _ Av xs) (And.intro (ownT_row hown2).2 hbl2));have HKD:=η hK;clear hxs hv hown hcm hel hbl hin hown2 hbl2 hK
   gi_wp2
   gi_region
   gi_wp2
   refine⟨by simp,.inl ⟨_,_,rfl,run_takeDeferred (w:=W9.drew) HKD.out,?_⟩⟩;refine⟨.tuple #[.slice Av xs.length cv,.int .i64 (Rn.came L:Int),.int .i64 0],by simp[results,Tryz.results23,go_sem],Av,xs,cv,rfl,HFIN.out.2.1,⟨HFIN.out.1.row,HFIN.out.1.el⟩,HXS.out,⟨HFIN.out.2.2.os,HFIN.out.2.2.tape,HFIN.out.2.2.output,HFIN.out.2.2.size,HFIN.out.2.2.block⟩⟩
 ·have hnz:((c:Int) != 0)=true:=by rw[bne_iff_ne];omega
  clear hy;refine(callsIn_wide (n:=5)).1 ?_;refine callsIn_of_wp_marks Tryz.func23 rfl trivial ?_ rfl;simp only[Tryz.ntmps23,List.size_toArray,List.length_cons,List.length_nil,Nat.reduceAdd,Nat.reduceSub,Array.replicate_succ,Array.replicate_zero,List.push_toArray,List.append_toArray,List.nil_append,List.cons_append]
  gi_wp2_with (fail)
  refine(callsIn_wide.2 HCK.out).mono ?_;rintro e w1 ⟨rfl,hb1⟩;have HB1:=η (HB.out.trans (hb1.mono HB.out.size));clear hb1
  gi_wp2
  refine⟨.tuple #[.slice none 0 0,.int .i64 0,.int .i64 (c:Int)],by simp[results,Tryz.results23,go_sem],none,[],0,?_,Nat.le_refl _,⟨Row.nil,fun x hx=>nomatch hx⟩,?_,HB1.out⟩
  ·rfl
  ·rfl
end Go.Proofs.YtjobifclmcdjcaaGreatDoor
namespace Go.Proofs.YtjobifclmcdjcaaGreatDoor
open Go.RowKit Go.Shelf Go.Sort
attribute [local go_sem] Oper.semAt_some
theorem q4s{w:World}{B:Nat}{A:Option Addr}{l:List El}{k:Nat}(h:Row w B A (fcells El.cells l))(hk:k<l.length):∃ ad x,A=some ad∧ad.block<B∧l[k]? = some x∧w.cell? (ad.add (k*6))=some (.int .i64 x.a) ∧
  w.cell? ⟨(ad.add (k*6)).block,(ad.add (k*6)).off+1,none⟩=some (.int .i64 x.b)∧w.cell? ⟨(ad.add (k*6)).block,(ad.add (k*6)).off+2,none⟩=some (.slice x.A1 x.n1 x.d1) ∧
  w.cell? ⟨(ad.add (k*6)).block,(ad.add (k*6)).off+3,none⟩=some (.slice x.A2 x.n2 x.d2)∧w.cell? ⟨(ad.add (k*6)).block,(ad.add (k*6)).off+4,none⟩=some (.slice x.A3 x.n3 x.d3) ∧
  w.cell? ⟨(ad.add (k*6)).block,(ad.add (k*6)).off+5,none⟩=some (.slice x.A4 x.n4 x.d4):=by
 have hlen:=q0y El.cells_len l;obtain⟨ad,e,hb,hc⟩:=h (by intro e;rw[e] at hlen;simp at hlen;omega);have hx:=List.getElem?_eq_getElem hk;have g:=fun j (hj:j<6)=>q1t El.cells_len l k l[k] hx j hj
 exact⟨ad,l[k],e,hb,hx,hc _ _ (g 0 (by decide)),by rw[←q0t _ _ _ (by decide)];exact hc _ _ (g 1 (by decide)),by rw[←q0t _ _ _ (by decide)];exact hc _ _ (g 2 (by decide)),by rw[←q0t _ _ _ (by decide)];exact hc _ _ (g 3 (by decide)),by rw[←q0t _ _ _ (by decide)];exact hc _ _ (g 4 (by decide)),by rw[←q0t _ _ _ (by decide)];exact hc _ _ (g 5 (by decide))⟩
def sts(l:List El):List St.State:=l.map (·.s)
theorem z3g{names:List ByteArray}{up:List Nat}{l:List Tb.PR}:∀(n:Nat) (s:St.State),chk10 names up l s=0→∀ x ∈ Rn.seq (stepF names up l) n s,chk10 names up l x.1=0
 | 0,s,h,x,hx=>by
  unfold Rn.seq at hx
  rw[List.mem_singleton] at hx
  subst hx;exact h
 | n+1,s,h,x,hx=>by
  rw[Rn.seq_succ] at hx
  split at hx
  ·rcases List.mem_cons.1 hx with rfl|hx
   ·exact h
   ·exact z3g n _ (q7a h).1 x hx
  ·rw[List.mem_singleton] at hx
   subst hx;exact h
theorem j2e(xs:List El):sts xs=(xs.map El.pl).map (·.1):=by unfold sts;rw[List.map_map];rfl
theorem q9h{names:List ByteArray}{up:List Nat}{l:List Tb.PR}{n:Nat}{s:St.State}{xs:List El}(h:chk10 names up l s=0)(hx:xs.map El.pl=Rn.seq (stepF names up l) n s):∀ x ∈ xs,chk10 names up l x.s=0:=fun x hm =>
 z3g n s h (x.s,x.came) (by rw[←hx];exact List.mem_map_of_mem (f:=El.pl) hm)
def sameL(a b:List St.State):Bool:=decide (a=b)
theorem z1g{a b:List St.State}{k:Nat}{x y:St.State}(ha:a[k]? = some x)(hb:b[k]? = some y)(h:a.take k=b.take k):a.take (k+1)=b.take (k+1)↔x=y:=by
 rw[List.take_add_one,List.take_add_one,ha,hb,h];simp
theorem z65{A A':Option Addr}{xs ys:List El}(c c':Nat)(w:World)(hx:StsIn w w.heap.size A xs)(hy:StsIn w w.heap.size A' ys)(hxs:∀ x ∈ xs,SmallS x.s)(hys:∀ x ∈ ys,SmallS x.s)(hlx:xs.length≤1000) :
  Calls Tryz.prog 27 #[.slice A xs.length c,.slice A' ys.length c'] w (Tells w (sameL (sts xs) (sts ys))):=by
 by_cases hl:xs.length=ys.length
 ·obtain⟨n,hn⟩:∃ n,xs.length=n:=⟨_,rfl⟩;rw[←hl,hn];have hm:ys.length=n:=by omega
  have HX:=η hx;have HY:=η hy;have HSX:=η hxs;have HSY:=η hys;have HN:=η hn;have HM:=η hm;have hn9:n≤1000:=by omega
  clear hx hy hxs hys hlx hn hm hl;go_enter Tryz.func27,Tryz.ntmps27;go_wp2;go_loopw [13] (fun i wr=>∃ k:Nat,k≤n∧i=.int .i64 k∧Hid ((sts xs).take k=(sts ys).take k)∧Hid (Below w.heap.size w wr)) (fun i _=>n-(intOf i).toNat);case atStart=>exact⟨0,Nat.zero_le _,rfl,η rfl,η (Below.refl _ _)⟩
  case round =>
   obtain⟨k,hk,rfl,HT,HB⟩:=hrel;by_cases hlt:k<n
   ·obtain⟨ad,x,rfl,had,hxk,x0,x1,x2,x3,x4,x5⟩:=q4s ((HX.out.below HB.out).row) (by rw[HN.out];exact hlt);obtain⟨ad',y,rfl,had',hyk,y0,y1,y2,y3,y4,y5⟩:=q4s ((HY.out.below HB.out).row) (by rw[HM.out];exact hlt);have hmx:=List.mem_of_getElem? hxk;have hmy:=List.mem_of_getElem? hyk;have HC:=η (fun W (hb:Below wr.heap.size wr W)=>q2t (sv:=x.val) (tv:=y.val) W ((((HX.out.el x hmx).below HB.out).more HB.out.size).below hb |>.more hb.size) ((((HY.out.el y hmy).below HB.out).more HB.out.size).below hb |>.more hb.size) (HSX.out x hmx) (HSY.out y hmy));have HE:=η (z1g (a:=sts xs) (b:=sts ys) (k:=k) (x:=x.s) (y:=y.s) (by unfold sts;rw[List.getElem?_map,hxk];rfl) (by unfold sts;rw[List.getElem?_map,hyk];rfl) HT.out);obtain⟨a,b,A1,n1,d1,A2,n2,d2,A3,n3,d3,A4,n4,d4,s,cx⟩:=x;obtain⟨a',b',A1',n1',d1',A2',n2',d2',A3',n3',d3',A4',n4',d4',s',cx'⟩:=y;unfold El.val at HC;dsimp only at x0 x1 x2 x3 x4 x5 y0 y1 y2 y3 y4 y5 HC HE;obtain⟨q,hq⟩:∃ q,sameB s s'=q:=⟨_,rfl⟩;rw[hq] at HC;have HQ:=η hq;clear hxk hyk hmx hmy hq;have hb1:(ad.add (k*6)).block<wr.heap.size:=by rw[q0a];exact Nat.lt_of_lt_of_le had HB.out.size
    have hb2:(ad'.add (k*6)).block<wr.heap.size:=by rw[q0a];exact Nat.lt_of_lt_of_le had' HB.out.size
    cases q with
    | true =>
     go_wp2_with (fail);have g0:=fun d os=>cell_regrown x0 d os
     have g1:=fun d os=>cell_regrown x1 d os
     have g2:=fun d os=>cell_regrown x2 d os
     have g3:=fun d os=>cell_regrown x3 d os
     have g4:=fun d os=>cell_regrown x4 d os
     have g5:=fun d os=>cell_regrown x5 d os
     have k0:=fun d os=>cell_regrown y0 d os
     have k1:=fun d os=>cell_regrown y1 d os
     have k2:=fun d os=>cell_regrown y2 d os
     have k3:=fun d os=>cell_regrown y3 d os
     have k4:=fun d os=>cell_regrown y4 d os
     have k5:=fun d os=>cell_regrown y5 d os
     refine wp_region_quiet_below (by kernel_rfl) (by kernel_rfl) ?_;repeat (quiet_step (first|(go_at_call 14;exact Calls.regrown_of (HC.out _ (below_regrown _ _ _)))))
     refine wpQuiet_nil ?_;rintro _ ⟨⟨d9,os9⟩,rfl⟩;have HB9:=η (HB.out.trans ((below_regrown wr d9 os9).mono HB.out.size));clear g0 g1 g2 g3 g4 g5 k0 k1 k2 k3 k4 k5 x0 x1 x2 x3 x4 x5 y0 y1 y2 y3 y4 y5;generalize grow (redrawn wr d9) os9=w9 at *;go_wp2;go_roundw;case rel=>exact⟨k+1,by omega,by simp,η (HE.out.2 (sameB_iff.1 HQ.out)),HB9⟩
     case measure=>simp[intOf];omega
    | false =>
     go_wp2_with (fail);have g0:=fun d os=>cell_regrown x0 d os
     have g1:=fun d os=>cell_regrown x1 d os
     have g2:=fun d os=>cell_regrown x2 d os
     have g3:=fun d os=>cell_regrown x3 d os
     have g4:=fun d os=>cell_regrown x4 d os
     have g5:=fun d os=>cell_regrown x5 d os
     have k0:=fun d os=>cell_regrown y0 d os
     have k1:=fun d os=>cell_regrown y1 d os
     have k2:=fun d os=>cell_regrown y2 d os
     have k3:=fun d os=>cell_regrown y3 d os
     have k4:=fun d os=>cell_regrown y4 d os
     have k5:=fun d os=>cell_regrown y5 d os
     refine wp_region_quiet_below (by kernel_rfl) (by kernel_rfl) ?_;repeat (quiet_step (first|(go_at_call 14;exact Calls.regrown_of (HC.out _ (below_regrown _ _ _)))))
     refine wpQuiet_nil ?_;rintro _ ⟨⟨d9,os9⟩,rfl⟩;have HB9:=η (HB.out.trans ((below_regrown wr d9 os9).mono HB.out.size));clear g0 g1 g2 g3 g4 g5 k0 k1 k2 k3 k4 k5 x0 x1 x2 x3 x4 x5 y0 y1 y2 y3 y4 y5;generalize grow (redrawn wr d9) os9=w9 at *;go_wp2;go_ret;refine⟨?_,HB9.out⟩;have hne:sts xs≠sts ys:=fun e=>by
      have h:=HE.out.1 (by rw[e]);have h2:=sameB_iff.2 h;rw[HQ.out] at h2;cases h2
     unfold sameL;rw[decide_eq_false hne];rfl
   ·obtain rfl:k=n:=by omega
    have heq:sts xs=sts ys:=by
     have h:=HT.out;rw[List.take_of_length_le (by unfold sts;rw[List.length_map,HN.out];exact Nat.le_refl _),List.take_of_length_le (by unfold sts;rw[List.length_map,HM.out];exact Nat.le_refl _)] at h;exact h
    have HEQ:=η heq;clear heq;go_wp2;go_ret;exact⟨by unfold sameL;rw[decide_eq_true HEQ.out];rfl,HB.out⟩
 ·have hne:sts xs≠sts ys:=fun e=>hl (by have h:=congrArg List.length e;unfold sts at h;rw[List.length_map,List.length_map] at h;exact h)
  have hb:sameL (sts xs) (sts ys)=false:=decide_eq_false hne;rw[hb];generalize xs.length=n at *;generalize ys.length=m at *;have h1:((n:Int) != (m:Int))=true:=by rw[bne_iff_ne];omega
  clear hx hy hxs hys hne hb;go_enter Tryz.func27,Tryz.ntmps27;go_wp2;go_ret;exact⟨rfl,Below.refl _ _⟩
end Go.Proofs.YtjobifclmcdjcaaGreatDoor
namespace Go.Proofs.YtjobifclmcdjcaaGreatDoor
open Go.RowKit Go.Shelf
attribute [local go_sem] Oper.semAt_some
theorem z2y{A:Option Addr}{ys:List El}{x:El}(c:Nat)(m:Int)(w:World)(h:StsIn w w.heap.size A ys)(hx:ys.getLast? = some x)(hl:ys.length≤1000)(hc:ys.length≤c) :
  Calls Tryz.prog 28 #[.agg #[.slice A ys.length c,.int .i64 m]] w fun e w'=>e=.returned x.val∧Below w.heap.size w w':=by
 have hne:ys≠[]:=by rintro rfl;cases hx
 obtain⟨k,hk⟩:∃ k,ys.length=k+1:=⟨ys.length-1,by have:=List.length_pos_iff.2 hne;omega⟩;obtain⟨ad,z,rfl,had,hz,x0,x1,x2,x3,x4,x5⟩:=q4s (k:=k) h.row (by omega);obtain rfl:z=x:=by
  rw[List.getLast?_eq_getElem?,hk,Nat.add_sub_cancel,hz] at hx;injection hx
 obtain⟨xa,xb,A1,m1,d1,A2,m2,d2,A3,m3,d3,A4,m4,d4,xs,xc⟩:=z;dsimp only at x0 x1 x2 x3 x4 x5;unfold El.val;dsimp only;rw[hk] at hc ⊢;have hwr:IntKind.i64.wrap (k:Int)=(k:Int):=IntWalk.i64_in _ (by omega);have hnn:(0:Int)≤(k:Int):=by omega
 have hnl:(k:Int)<(k:Int)+1:=by omega
 have hidx:wrap64 ((k:Int)+1-1)=(k:Int):=by unfold wrap64;omega
 have hidx2:wrap64 (((k+1:Nat):Int)-1)=(k:Int):=by unfold wrap64;omega
 obtain⟨W1,hW1⟩:∃ W1,w.alloc (.cells #[.slice (some ad) (k+1) c,.int .i64 m] 64)=W1:=⟨_,rfl⟩;have z1:W1.heap.size=w.heap.size+1:=by rw[←hW1];simp
 have k1:Blk W1 w.heap.size 64 #[.slice (some ad) (k+1) c,.int .i64 m]:=by rw[←hW1];exact Blk.new _ _ _
 have b1:Below w.heap.size w W1:=by rw[←hW1];exact(Below.refl _ _).alloc (Nat.le_refl _) _
 obtain⟨W2,hW2⟩:∃ W2,W1.alloc (.cells #[.int .i64 0,.int .i64 0,.slice none 0 0,.slice none 0 0,.slice none 0 0,.slice none 0 0] 35)=W2:=⟨_,rfl⟩;have k2:Blk W2 (w.heap.size+1) 35 #[.int .i64 0,.int .i64 0,.slice none 0 0,.slice none 0 0,.slice none 0 0,.slice none 0 0]:=by rw[←hW2];exact Blk.new' _ _ _ _ z1
 have b2:Below W1.heap.size W1 W2:=by rw[←hW2];exact(Below.refl _ _).alloc (Nat.le_refl _) _
 have b12:=b1.trans (b2.mono b1.size);have hb:(ad.add (k*6)).block<w.heap.size:=by rw[q0a];exact had
 have y0:=(b12.cell (p:=ad.add (k*6)) hb).trans x0;have y1:=(b12.cell (p:=⟨(ad.add (k*6)).block,(ad.add (k*6)).off+1,none⟩) hb).trans x1;have y2:=(b12.cell (p:=⟨(ad.add (k*6)).block,(ad.add (k*6)).off+2,none⟩) hb).trans x2;have y3:=(b12.cell (p:=⟨(ad.add (k*6)).block,(ad.add (k*6)).off+3,none⟩) hb).trans x3;have y4:=(b12.cell (p:=⟨(ad.add (k*6)).block,(ad.add (k*6)).off+4,none⟩) hb).trans x4;have y5:=(b12.cell (p:=⟨(ad.add (k*6)).block,(ad.add (k*6)).off+5,none⟩) hb).trans x5;have l1:=k1.below b2 k1.lt;have r0:W2.cell? ⟨w.heap.size,0,none⟩=some (.slice (some ad) (k+1) c):=l1.cell 0;have v0:=k2.cell 0;have v1:=k2.cell 1;have v2:=k2.cell 2;have v3:=k2.cell 3;have v4:=k2.cell 4;have v5:=k2.cell 5;have f0:=k2.frozen 0;have f1:=k2.frozen 1;have f2:=k2.frozen 2;have f3:=k2.frozen 3;have f4:=k2.frozen 4;have f5:=k2.frozen 5;obtain⟨W3,hW3⟩:∃ W3,(((((W2.setCell ⟨w.heap.size+1,0,none⟩ (.int .i64 xa)).setCell ⟨w.heap.size+1,1,none⟩ (.int .i64 xb)).setCell ⟨w.heap.size+1,2,none⟩ (.slice A1 m1 d1)).setCell ⟨w.heap.size+1,3,none⟩ (.slice A2 m2 d2)).setCell ⟨w.heap.size+1,4,none⟩ (.slice A3 m3 d3)).setCell ⟨w.heap.size+1,5,none⟩ (.slice A4 m4 d4)=W3:=⟨_,rfl⟩;obtain⟨k3,-,-,-⟩:=q26 k2 (.int .i64 xa) (.int .i64 xb) (.slice A1 m1 d1) (.slice A2 m2 d2) (.slice A3 m3 d3) (.slice A4 m4 d4) hW3;have b3:Below w.heap.size w W3:=by
  rw[←hW3];exact(((((b12.setCell (p:=⟨w.heap.size+1,0,none⟩) (by simp) _).setCell (p:=⟨w.heap.size+1,1,none⟩) (by simp) _).setCell (p:=⟨w.heap.size+1,2,none⟩) (by simp) _).setCell (p:=⟨w.heap.size+1,3,none⟩) (by simp) _).setCell (p:=⟨w.heap.size+1,4,none⟩) (by simp) _).setCell (p:=⟨w.heap.size+1,5,none⟩) (by simp) _
 have HK3:=η k3;have HB3:=η b3;clear h hx hl hne hz had x0 x1 x2 x3 x4 x5 z1 k1 k2 b1 b2 b12 l1 k3 b3 hc;have hW:(w.alloc (.cells #[.slice (some ad) (k+1) c,.int .i64 m] 64)).alloc (.cells #[.int .i64 0,.int .i64 0,.slice none 0 0,.slice none 0 0,.slice none 0 0,.slice none 0 0] 35)=W2:=by rw[hW1,hW2]
 clear hW1 hW2;go_enter Tryz.func28,Tryz.ntmps28;go_wp2;clear hW hW3;have q0:W3.cell? ⟨w.heap.size+1,0,none⟩=_:=HK3.out.cell 0;have q1:W3.cell? ⟨w.heap.size+1,1,none⟩=_:=HK3.out.cell 1;have q2:W3.cell? ⟨w.heap.size+1,2,none⟩=_:=HK3.out.cell 2;have q3:W3.cell? ⟨w.heap.size+1,3,none⟩=_:=HK3.out.cell 3;have q4:W3.cell? ⟨w.heap.size+1,4,none⟩=_:=HK3.out.cell 4;have q5:W3.cell? ⟨w.heap.size+1,5,none⟩=_:=HK3.out.cell 5;exact bodyPost_ret (v:=.agg #[.int .i64 xa,.int .i64 xb,.slice A1 m1 d1,.slice A2 m2 d2,.slice A3 m3 d3,.slice A4 m4 d4]) (by simp[results,Tryz.results28,go_sem,q0,q1,q2,q3,q4,q5]) rfl ⟨rfl,HB3.out⟩
def zeroEl:El:=⟨0,0,none,0,0,none,0,0,none,0,0,none,0,0,St.zero,0⟩
def lastEl(l:List El):El:=l.getLastD zeroEl
theorem q4i(l:List El)(x:El):lastEl (l++[x])=x:=by unfold lastEl;rw[List.getLastD_concat]
structure ILast (w0:World) (b1 b2 B:Nat) (O:Nat→Prop) (pre:List El) (W:World):Prop where
 box:Blk W b1 35 #[.int .i64 (lastEl pre).a,.int .i64 (lastEl pre).b,.slice (lastEl pre).A1 (lastEl pre).n1 (lastEl pre).d1,.slice (lastEl pre).A2 (lastEl pre).n2 (lastEl pre).d2,.slice (lastEl pre).A3 (lastEl pre).n3 (lastEl pre).d3,.slice (lastEl pre).A4 (lastEl pre).n4 (lastEl pre).d4]
 came:Blk W b2 3 #[.int .i64 (Rn.came (pre.map El.pl):Int)]
 el:∀ x ∈ pre,x.In w0.heap.size W
 no:¬O b1∧¬O b2
 below:Below w0.heap.size w0 W
 big:B≤W.heap.size
 res:Blk W (w0.heap.size+3) 35 #[.int .i64 0,.int .i64 0,.slice none 0 0,.slice none 0 0,.slice none 0 0,.slice none 0 0]
theorem ILast.stands(w0:World){b1 b2 B Bg:Nat}(h0:w0.heap.size+3<b1)(h1:b1<B)(h2:b2<B)(h3:B≤Bg):Stands Bg 35 (ILast w0 b1 b2 B):=by
 refine⟨fun{O b W W'} h hb=>?_,fun{O O' b W} h ho=>?_,fun{O b W g i cs} v h hB hg hk=>?_⟩
 ·obtain⟨hv,hc,hel,⟨n1,n2⟩,hbl,hbg,hre⟩:=h;refine⟨hv.below hb hv.lt,hc.below hb hc.lt,fun x hx=>(hel x hx).below hb,⟨?_,?_⟩,hbl.trans (hb.mono hbl.size),Nat.le_trans hbg hb.size,hre.below hb hre.lt⟩
  ·rintro(hk'|⟨hk',-⟩)
   ·exact n1 hk'
   ·have:=hv.lt;omega
  ·rintro(hk'|⟨hk',-⟩)
   ·exact n2 hk'
   ·have:=hc.lt;omega
 ·obtain⟨hv,hc,hel,⟨n1,n2⟩,hbl,hbg,hre⟩:=h;exact⟨hv,hc,hel,⟨fun hk=>n1 (ho _ hk),fun hk=>n2 (ho _ hk)⟩,hbl,hbg,hre⟩
 ·obtain⟨hv,hc,hel,hn,hbl,hbg,hre⟩:=h;refine⟨hv.other (by show g≠b1;omega) v,hc.other (by show g≠b2;omega) v,fun x hx=>(hel x hx).set_ hk v,hn,hbl.setCell (p:=⟨g,i,none⟩) (by show w0.heap.size≤g;omega) v,by simpa using hbg,hre.other (by show g≠w0.heap.size+3;omega) v⟩
theorem ILast.putObj{w0:World}{b1 b2 B:Nat}{O:Nat→Prop}{pre:List El}{W:World}{l:Nat}{o:Obj}(o':Obj)(h:ILast w0 b1 b2 B O pre W)(hl:w0.heap.size≤l)(ho:W.heap[l]? = some o)(hc:o.isCells=false):ILast w0 b1 b2 B O pre (W.putObj l o'):=by
 obtain⟨hv,hcm,hel,hn,hbl,hbg,hre⟩:=h;refine⟨hv.putObj o' ho hc,hcm.putObj o' ho hc,fun x hx=>(hel x hx).putObj ho hc,hn,hbl.trans ?_,by simpa using hbg,hre.putObj o' ho hc⟩;exact(Below.refl _ W).grown (grownBy_putObj' W l o') (by have:=(Array.getElem?_eq_some_iff.1 ho).1;omega) (fun k e=>by cases e;omega)
theorem ILast.next{w0:World}{b1 b2 B:Nat}{O:Nat→Prop}{pre:List El}{x:El}{W:World}(h:ILast w0 b1 b2 B O pre W)(hb:w0.heap.size≤b1∧b1≠b2∧w0.heap.size≤b2∧w0.heap.size+3<b1∧w0.heap.size+3<b2)(hx:x.In w0.heap.size W){W1 Wf:World}(hW1:(((((W.setCell ⟨b1,0,none⟩ (.int .i64 x.a)).setCell ⟨b1,1,none⟩ (.int .i64 x.b)).setCell ⟨b1,2,none⟩ (.slice x.A1 x.n1 x.d1)).setCell ⟨b1,3,none⟩ (.slice x.A2 x.n2 x.d2)).setCell ⟨b1,4,none⟩ (.slice x.A3 x.n3 x.d3)).setCell ⟨b1,5,none⟩ (.slice x.A4 x.n4 x.d4)=W1)(hWf:W1.setCell ⟨b2,0,none⟩ (.int .i64 (x.came:Int))=Wf) :
  KeepsOthers W Wf∧HoldsOn O W Wf∧ILast w0 b1 b2 B O (pre++[x]) Wf:=by
 obtain⟨hv,hc,hel,hn,hbl,hbg,hre⟩:=h;have hq1:b1≠w0.heap.size+3:=by omega
 have hre1:Blk W1 (w0.heap.size+3) 35 #[.int .i64 0,.int .i64 0,.slice none 0 0,.slice none 0 0,.slice none 0 0,.slice none 0 0]:=by
  rw[←hW1];exact(((((hre.other (p:=⟨b1,0,none⟩) hq1 _).other (p:=⟨b1,1,none⟩) hq1 _).other (p:=⟨b1,2,none⟩) hq1 _).other (p:=⟨b1,3,none⟩) hq1 _).other (p:=⟨b1,4,none⟩) hq1 _).other (p:=⟨b1,5,none⟩) hq1 _
 obtain⟨hv1,hin1,hho1,hz1⟩:=q26 hv (.int .i64 x.a) (.int .i64 x.b) (.slice x.A1 x.n1 x.d1) (.slice x.A2 x.n2 x.d2) (.slice x.A3 x.n3 x.d3) (.slice x.A4 x.n4 x.d4) hW1;have hc1:Blk W1 b2 3 #[.int .i64 (Rn.came (pre.map El.pl):Int)]:=by
  rw[←hW1];exact(((((hc.other (p:=⟨b1,0,none⟩) hb.2.1 _).other (p:=⟨b1,1,none⟩) hb.2.1 _).other (p:=⟨b1,2,none⟩) hb.2.1 _).other (p:=⟨b1,3,none⟩) hb.2.1 _).other (p:=⟨b1,4,none⟩) hb.2.1 _).other (p:=⟨b1,5,none⟩) hb.2.1 _
 have hk1:KeepsOthers W W1:=by
  rw[←hW1];exact(((((KeepsOthers.setCell W _ _).trans (.setCell _ _ _)).trans (.setCell _ _ _)).trans (.setCell _ _ _)).trans (.setCell _ _ _)).trans (.setCell _ _ _)
 have hb1:Below w0.heap.size w0 W1:=by
  rw[←hW1];exact(((((hbl.setCell (p:=⟨b1,0,none⟩) hb.1 _).setCell (p:=⟨b1,1,none⟩) hb.1 _).setCell (p:=⟨b1,2,none⟩) hb.1 _).setCell (p:=⟨b1,3,none⟩) hb.1 _).setCell (p:=⟨b1,4,none⟩) hb.1 _).setCell (p:=⟨b1,5,none⟩) hb.1 _
 subst hWf;refine⟨hk1.trans (KeepsOthers.setCell _ _ _),(hho1 O hn.1).trans (HoldsOn.setCell _ (p:=⟨b2,0,none⟩) _ hn.2),?_,?_,?_,hn,hb1.setCell (p:=⟨b2,0,none⟩) hb.2.2.1 _,by simp;omega,hre1.other (by show b2≠w0.heap.size+3;omega) _⟩
 ·rw[q4i];exact hv1.other (by show b2≠b1;exact fun e=>hb.2.1 e.symm) _
 ·rw[q8t];exact hc1.set_ 0 _
 ·intro z hz;have hin:∀ z:El,z.In w0.heap.size W→z.In w0.heap.size (W1.setCell ⟨b2,0,none⟩ (.int .i64 (x.came:Int))):=fun z hz=>(hin1 _ z hz).setT hc1 (by decide) _
  rcases List.mem_append.1 hz with h|h
  ·exact hin z (hel z h)
  ·rw[List.mem_singleton] at h;subst h;exact hin _ hx
theorem q28(W:World):IsSt W W.heap.size zeroEl.val St.zero:=(CopyOf.zero 0 W).isSt
def Lasts(names:List ByteArray)(up:List Nat)(l:List Tb.PR)(s:St.State)(fuel:Int)(w:World)(e:Ending)(w':World):Prop :=
 ∃ x:El,e=.returned (.tuple #[x.val,.int .i64 (Rn.came (runL names up l s fuel):Int),.int .i64 (chk11 names up l s fuel:Nat)])∧IsSt w' w'.heap.size x.val x.s∧x.s=((runL names up l s fuel).map (·.1)).getLastD St.zero∧Below w.heap.size w w'
theorem z9x{v tv:Value}{names:List ByteArray}{up:List Nat}{s:St.State}{RA:Option Addr}{l:List Tb.PR}(rc:Nat)(fuel:Int)(w:World)(hi:Ins w)(hg:0<w.heap.size)(h:IsLat w w.heap.size v names up)(hst:IsSt w w.heap.size tv s)(hsm:SmallS s)(hr:RowsIn w w.heap.size RA l)(hrs:∀ x ∈ l,Small x) :
  Calls Tryz.prog 24 #[v,.agg #[.slice RA l.length rc],tv,.int .i64 fuel] w (Lasts names up l s fuel w):=by
 have hwf:∀ f,Fence.wide.fn f:=fun _=>trivial
 have h':=h;obtain⟨⟨N,U,c1,c2,rfl,hN,hU⟩,hsh,hfew,hcaps⟩:=id h;have hst':=hst;obtain⟨cv,mv,stv_,ov,hsv,⟨cA,cc,rfl,hcr,hcc⟩,⟨mA,mc,rfl,hmr,hmc⟩,⟨sA,sc,rfl,hsr,hsc⟩,⟨oA,oc,rfl,hor,hoc⟩⟩:=hst;unfold stv at hsv;subst hsv;obtain⟨n1,hn1⟩:∃ n,names.length=n:=⟨_,rfl⟩;obtain⟨n2,hn2⟩:∃ n,up.length=n:=⟨_,rfl⟩;obtain⟨nl,hnl⟩:∃ n,l.length=n:=⟨_,rfl⟩;obtain⟨y,hy⟩:∃ y:El,y=⟨s.pc.v,s.pc.l,cA,s.code.length,cc,mA,s.mem.length,mc,sA,s.stack.length,sc,oA,s.out.length,oc,s,0⟩:=⟨_,rfl⟩;have q0:=Blk.new w 25 #[.slice N n1 c1,.slice U n2 c2];have q1:=Blk.new (w.alloc (.cells #[.slice N n1 c1,.slice U n2 c2] 25)) 28 #[.slice RA nl rc];rw[show(w.alloc (.cells #[.slice N n1 c1,.slice U n2 c2] 25)).heap.size=w.heap.size+1 by simp] at q1;have q2:=Blk.new ((w.alloc (.cells #[.slice N n1 c1,.slice U n2 c2] 25)).alloc (.cells #[.slice RA nl rc] 28)) 35 #[.int .i64 s.pc.v,.int .i64 s.pc.l,.slice cA s.code.length cc,.slice mA s.mem.length mc,.slice sA s.stack.length sc,.slice oA s.out.length oc];rw[show((w.alloc (.cells #[.slice N n1 c1,.slice U n2 c2] 25)).alloc (.cells #[.slice RA nl rc] 28)).heap.size=w.heap.size+2 by simp] at q2;have hbox:=((((Below.refl w.heap.size w).alloc (by simp<;>omega) (.cells #[.slice N n1 c1,.slice U n2 c2] 25)).alloc (by simp<;>omega) (.cells #[.slice RA nl rc] 28)).alloc (by simp<;>omega) (.cells #[.int .i64 s.pc.v,.int .i64 s.pc.l,.slice cA s.code.length cc,.slice mA s.mem.length mc,.slice sA s.stack.length sc,.slice oA s.out.length oc] 35)).alloc (by simp<;>omega) (.cells #[.int .i64 0,.int .i64 0,.slice none 0 0,.slice none 0 0,.slice none 0 0,.slice none 0 0] 35);obtain⟨W,hW⟩:∃ W,(((w.alloc (.cells #[.slice N n1 c1,.slice U n2 c2] 25)).alloc (.cells #[.slice RA nl rc] 28)).alloc (.cells #[.int .i64 s.pc.v,.int .i64 s.pc.l,.slice cA s.code.length cc,.slice mA s.mem.length mc,.slice sA s.stack.length sc,.slice oA s.out.length oc] 35)).alloc (.cells #[.int .i64 0,.int .i64 0,.slice none 0 0,.slice none 0 0,.slice none 0 0,.slice none 0 0] 35)=W:=⟨_,rfl⟩;have p0:=((q0.alloc (.cells #[.slice RA nl rc] 28)).alloc (.cells #[.int .i64 s.pc.v,.int .i64 s.pc.l,.slice cA s.code.length cc,.slice mA s.mem.length mc,.slice sA s.stack.length sc,.slice oA s.out.length oc] 35)).alloc (.cells #[.int .i64 0,.int .i64 0,.slice none 0 0,.slice none 0 0,.slice none 0 0,.slice none 0 0] 35);have p1:=(q1.alloc (.cells #[.int .i64 s.pc.v,.int .i64 s.pc.l,.slice cA s.code.length cc,.slice mA s.mem.length mc,.slice sA s.stack.length sc,.slice oA s.out.length oc] 35)).alloc (.cells #[.int .i64 0,.int .i64 0,.slice none 0 0,.slice none 0 0,.slice none 0 0,.slice none 0 0] 35);have p3:=Blk.new (((w.alloc (.cells #[.slice N n1 c1,.slice U n2 c2] 25)).alloc (.cells #[.slice RA nl rc] 28)).alloc (.cells #[.int .i64 s.pc.v,.int .i64 s.pc.l,.slice cA s.code.length cc,.slice mA s.mem.length mc,.slice sA s.stack.length sc,.slice oA s.out.length oc] 35)) 35 #[.int .i64 0,.int .i64 0,.slice none 0 0,.slice none 0 0,.slice none 0 0,.slice none 0 0];rw[show(((w.alloc (.cells #[.slice N n1 c1,.slice U n2 c2] 25)).alloc (.cells #[.slice RA nl rc] 28)).alloc (.cells #[.int .i64 s.pc.v,.int .i64 s.pc.l,.slice cA s.code.length cc,.slice mA s.mem.length mc,.slice sA s.stack.length sc,.slice oA s.out.length oc] 35)).heap.size=w.heap.size+3 by simp] at p3;replace q2:=q2.alloc (.cells #[.int .i64 0,.int .i64 0,.slice none 0 0,.slice none 0 0,.slice none 0 0,.slice none 0 0] 35);have hWs:W.heap.size=w.heap.size+4:=by rw[←hW];simp
 rw[hW] at hbox p0 p1 q2 p3;have HCK:=η (q6k (s:=s) (tv:=.agg #[.int .i64 s.pc.v,.int .i64 s.pc.l,.slice cA s.code.length cc,.slice mA s.mem.length mc,.slice sA s.stack.length sc,.slice oA s.out.length oc]) rc fuel W (hi.below hbox hg) (Nat.lt_of_lt_of_le hg hbox.size) ((h'.below hbox).more hbox.size) ((hst'.below hbox).more hbox.size) hsm ((hr.below hbox).more hbox.size) hrs);rw[hn1,hn2] at HCK h';rw[hn1,hn2,hnl];rw[hnl] at HCK;obtain⟨l0,l1⟩:=ζ2 p0;have t0:W.cell? ⟨w.heap.size+1,0,none⟩=some (.slice RA nl rc):=p1.cell 0;obtain⟨s0,s1,s2,s3,s4,s5⟩:=ζ6 q2;have HB:=η hbox;have HP0:=η p0;have HP1:=η p1;have HP2:=η q2;have HP3:=η p3;have HWS:=η hWs;have HIN:=η hi;have HLA:=η h';have HST:=η hst';have HRO:=η hr;have HNL:=η hnl;unfold Lasts runL;obtain⟨c,hc⟩:∃ c,chk11 names up l s fuel=c:=⟨_,rfl⟩;rw[hc] at HCK ⊢;clear q0 q1 q2 p0 p1 p3 hbox h h' hst' hr hi hcr hcc hmr hmc hsr hsc hor hoc hN hU hsh hfew hcaps hn1 hn2 hnl hWs;by_cases hz:c=0
 ·subst hz;have hf40:0≤fuel∧fuel≤40∧chk10 names up l s=0:=by
   unfold chk11 at hc;split at hc
   ·next h0 =>
    split at hc
    ·cases hc
    ·exact⟨by omega,by omega,h0⟩
   ·next h0=>exact absurd hc h0
  obtain⟨hf0,hf4,hck⟩:=hf40;obtain⟨fu,rfl⟩:∃ fu:Nat,fuel=(fu:Int):=⟨fuel.toNat,by omega⟩;have hfu:fu≤40:=by omega
  rw[if_pos rfl,Int.toNat_natCast];have HCH:=η hck;obtain⟨L,hL⟩:∃ L,Rn.seq (stepF names up l) fu s=L:=⟨_,rfl⟩;rw[hL];have HL:=η hL;clear hL hck hc hf0 hf4;refine(callsIn_wide (n:=5)).1 ?_;refine callsIn_of_wp_marks Tryz.func24 rfl trivial ?_ rfl;simp only[Tryz.ntmps24,List.size_toArray,List.length_cons,List.length_nil,Nat.reduceAdd,Nat.reduceSub,Array.replicate_succ,Array.replicate_zero,List.push_toArray,List.append_toArray,List.nil_append,List.cons_append]
  gi_wp2_with (fail)
  refine(callsIn_wide.2 HCK.out).mono ?_;rintro e w1 ⟨rfl,hb1⟩;have hp0:=HP0.out.below hb1 HP0.out.lt;have hp1:=HP1.out.below hb1 HP1.out.lt;have hp2:=HP2.out.below hb1 HP2.out.lt;have hp3:=HP3.out.below hb1 HP3.out.lt;have hB1:=HB.out.trans (hb1.mono HB.out.size);have ha1:=Below.refl w1.heap.size w1 |>.alloc (Nat.le_refl _) (.cells #[.int .i64 0,.int .i64 0,.slice none 0 0,.slice none 0 0,.slice none 0 0,.slice none 0 0] 35);have hk1:=Blk.new w1 35 #[.int .i64 0,.int .i64 0,.slice none 0 0,.slice none 0 0,.slice none 0 0,.slice none 0 0];obtain⟨w2,hw2⟩:∃ w2,w1.alloc (.cells #[.int .i64 0,.int .i64 0,.slice none 0 0,.slice none 0 0,.slice none 0 0,.slice none 0 0] 35)=w2:=⟨_,rfl⟩;have hz2:w2.heap.size=w1.heap.size+1:=by rw[←hw2];simp
  rw[hw2] at ha1 hk1;have ha2:=Below.refl w2.heap.size w2 |>.alloc (Nat.le_refl _) (.cells #[.int .i64 0] 3);have hk2:=Blk.new w2 3 #[.int .i64 0];obtain⟨w3,hw3⟩:∃ w3,w2.alloc (.cells #[.int .i64 0] 3)=w3:=⟨_,rfl⟩;have hz3:w3.heap.size=w2.heap.size+1:=by rw[←hw3];simp
  rw[hw3] at ha2 hk2;rw[hz2] at hk2;have hk1':=hk1.below ha2 hk1.lt;have hp0':=(hp0.below ha1 hp0.lt).below ha2 (by have:=hp0.lt;omega);have hp1':=(hp1.below ha1 hp1.lt).below ha2 (by have:=hp1.lt;omega);have hp2':=(hp2.below ha1 hp2.lt).below ha2 (by have:=hp2.lt;omega);have hp3':=(hp3.below ha1 hp3.lt).below ha2 (by have:=hp3.lt;omega);have hB3:=(hB1.trans (ha1.mono hB1.size)).trans (ha2.mono (Nat.le_trans hB1.size ha1.size));obtain⟨l0,l1⟩:=ζ2 hp0';have t0:w3.cell? ⟨w.heap.size+1,0,none⟩=some (.slice RA nl rc):=hp1'.cell 0;obtain⟨s0,s1,s2,s3,s4,s5⟩:=ζ6 hp2';have HK1:=η hk1';have HP4:=η hp3';have HWL:=η (show w.heap.size+3<w1.heap.size from hp3.lt);have HK2:=η hk2;have HB3:=η hB3;have HB1:=η hB1;have HZ2:=η hz2;have HZ3:=η (show w3.heap.size=w1.heap.size+2 by omega);clear hp0 hp1 hp2 hp3 hp0' hp1' hp2' hp3' hB1 hB3 hk1 hk1' hk2 ha1 ha2 hb1 hz2 hz3
  gi_wp2_with (fail)
  refine(callsIn_wide.2 (q6y (fu:Int) w3)).mono ?_;rintro e w4 ⟨rfl,hw4⟩;have hz4:w4.heap.size=w3.heap.size+4:=by rw[←hw4];simp
  have hb4:Below w3.heap.size w3 w4:=by
   rw[←hw4];exact((((Below.refl _ w3).alloc (Nat.le_refl _) _).alloc (by simp) _).alloc (by simp;omega) _).alloc (by simp;omega) _
  have hrb:RBox names up l s w.heap.size w3.heap.size N U RA n1 c1 n2 c2 nl rc y fu w4:=by
   have hbw:=HB3.out.trans (hb4.mono HB3.out.size);subst hy;refine⟨HIN.out.below hbw hg,⟨hg,HB3.out.size⟩,HLA.out.below hbw,⟨HRO.out.below hbw,HNL.out⟩,HST.out.below hbw,?_,?_,?_,?_⟩
   ·rw[←hw4];exact(((Blk.new w3 _ _).alloc _).alloc _).alloc _
   ·have h:=(((Blk.new (w3.alloc (.cells #[.slice N n1 c1,.slice U n2 c2] 25)) 28 #[.slice RA nl rc])).alloc (.cells #[.int .i64 s.pc.v,.int .i64 s.pc.l,.slice cA s.code.length cc,.slice mA s.mem.length mc,.slice sA s.stack.length sc,.slice oA s.out.length oc] 35)).alloc (.cells #[.int .i64 (fu:Int)] 3);rw[hw4,show(w3.alloc (.cells #[.slice N n1 c1,.slice U n2 c2] 25)).heap.size=w3.heap.size+1 by simp] at h;exact h
   ·have h:=(Blk.new ((w3.alloc (.cells #[.slice N n1 c1,.slice U n2 c2] 25)).alloc (.cells #[.slice RA nl rc] 28)) 35 #[.int .i64 s.pc.v,.int .i64 s.pc.l,.slice cA s.code.length cc,.slice mA s.mem.length mc,.slice sA s.stack.length sc,.slice oA s.out.length oc]).alloc (.cells #[.int .i64 (fu:Int)] 3);rw[hw4,show((w3.alloc (.cells #[.slice N n1 c1,.slice U n2 c2] 25)).alloc (.cells #[.slice RA nl rc] 28)).heap.size=w3.heap.size+2 by simp] at h;exact h
   ·have h:=Blk.new (((w3.alloc (.cells #[.slice N n1 c1,.slice U n2 c2] 25)).alloc (.cells #[.slice RA nl rc] 28)).alloc (.cells #[.int .i64 s.pc.v,.int .i64 s.pc.l,.slice cA s.code.length cc,.slice mA s.mem.length mc,.slice sA s.stack.length sc,.slice oA s.out.length oc] 35)) 3 #[.int .i64 (fu:Int)];rw[hw4,show(((w3.alloc (.cells #[.slice N n1 c1,.slice U n2 c2] 25)).alloc (.cells #[.slice RA nl rc] 28)).alloc (.cells #[.int .i64 s.pc.v,.int .i64 s.pc.l,.slice cA s.code.length cc,.slice mA s.mem.length mc,.slice sA s.stack.length sc,.slice oA s.out.length oc] 35)).heap.size=w3.heap.size+3 by simp] at h;exact h
  have h0:ILast w w1.heap.size w2.heap.size w4.heap.size (O11 w.heap.size w3.heap.size) [] w4:=by
   have hz3:=HZ3.out;have hz2:=HZ2.out;have h1:=HK1.out.below hb4 HK1.out.lt;have h2:=HK2.out.below hb4 HK2.out.lt;have hw1:=HB1.out.size;refine⟨h1,?_,fun x hx=>(nomatch hx),⟨?_,?_⟩,HB3.out.trans (hb4.mono HB3.out.size),Nat.le_refl _,HP4.out.below hb4 HP4.out.lt⟩
   ·rw[hz2];exact h2
   ·unfold O11;omega
   ·unfold O11;omega
  have hO:∀ k,O11 w.heap.size w3.heap.size k→k<w4.heap.size:=fun k hk=>by have:=HB3.out.size;unfold O11 at hk;omega
  have HRB:=η hrb;have HI0:=η h0;have HO:=η hO;have HZ4:=η hz4;clear hrb h0 hO hb4 hw4 hz4 l0 l1 t0 s0 s1 s2 s3 s4 s5 HK1 HK2
  gi_wp2
  refine q3y rfl (by decide) (gf:=77) (lb:=#[.pointer (some ⟨w3.heap.size+2,0,none⟩),.pointer (some ⟨w3.heap.size+3,0,none⟩),.pointer (some ⟨w3.heap.size,0,none⟩),.pointer (some ⟨w3.heap.size+1,0,none⟩)]) rfl trivial (enters_of Tryz.func77 (by kernel_rfl) rfl)
   (run1_holds _ _ (by decide) w4 HRB.out hrs HCH.out hfu) HO.out (fun _=>rfl) (ILast w w1.heap.size w2.heap.size w4.heap.size) (ILast.stands w HWL.out (by have:=HZ3.out;have:=HZ4.out;omega) (by have:=HZ2.out;have:=HZ3.out;have:=HZ4.out;omega) (by omega))
   (fun O pre W l o o' h hl _ ho hc=>h.putObj o' (by have:=HB3.out.size;have:=HZ4.out;omega) ho hc) HI0.out ?assign ?done
  case assign =>
   clear HI0 HCK HP0 HP1 HP2 HIN HLA HST HRO;rintro lp O pre ⟨a,b,A1,m1,d1,A2,m2,d2,A3,m3,d3,A4,m4,d4,s9,c9⟩ W9 K hI hG hOlt hK;dsimp only[El.encs,El.val];have hlen:pre.length<41:=by
    have h1:=hG.2.length_le;rw[List.length_map,List.length_append,List.length_singleton] at h1;have h2:=Rn.seq_le (stepF names up l) fu s;omega
   have HLEN:=η hlen;have hst:=ILast.stands (b1:=w1.heap.size) (b2:=w2.heap.size) (B:=w4.heap.size) (Bg:=w4.heap.size) w HWL.out (by have:=HZ3.out;have:=HZ4.out;omega) (by have:=HZ2.out;have:=HZ3.out;have:=HZ4.out;omega) (Nat.le_refl _);have hal:=(Below.refl W9.heap.size W9).alloc (Nat.le_refl _) (.cells #[.int .i64 a,.int .i64 b,.slice A1 m1 d1,.slice A2 m2 d2,.slice A3 m3 d3,.slice A4 m4 d4] 35);have hi9:=hst.less (hst.grow hI hal) (fun k hk=>.inl hk);have hx9:=hG.1.below hal;have hk9:=Blk.new W9 35 #[.int .i64 a,.int .i64 b,.slice A1 m1 d1,.slice A2 m2 d2,.slice A3 m3 d3,.slice A4 m4 d4];have HI9:=η hi9;have HX9:=η hx9;have HK9:=η hk9;have HOL:=η hOlt;clear hlen hst hal hi9 hx9 hk9 hI hG hOlt
   gi_wp2
   refine hK _ _ (KeepsOthers.alloc _ _) (HoldsOn.alloc _ _ HOL.out) ?_;clear hK;intro l' o o' hl hno ho hc;have hiA:=HI9.out.putObj o' (by have:=HB3.out.size;have:=HZ4.out;omega) ho hc;have hxA:=HX9.out.putObj (o':=o') ho hc;have hkA:=HK9.out.putObj o' ho hc;have hszA:=hkA.lt;obtain⟨WA,hWA⟩:∃ WA,(W9.alloc (.cells #[.int .i64 a,.int .i64 b,.slice A1 m1 d1,.slice A2 m2 d2,.slice A3 m3 d3,.slice A4 m4 d4] 35)).putObj l' o'=WA:=⟨_,rfl⟩;rw[hWA] at hiA hxA hkA hszA ⊢;clear hWA ho hc hl HI9 HX9 HK9;have hv:=hiA.box;have hcmA:=hiA.came;have hne1:w1.heap.size≠w2.heap.size:=by have:=HZ2.out;omega
   have hne2:w2.heap.size≠w1.heap.size:=fun e=>hne1 e.symm
   obtain⟨WB,hWB⟩:∃ WB,(((((WA.setCell ⟨w1.heap.size,0,none⟩ (.int .i64 a)).setCell ⟨w1.heap.size,1,none⟩ (.int .i64 b)).setCell ⟨w1.heap.size,2,none⟩ (.slice A1 m1 d1)).setCell ⟨w1.heap.size,3,none⟩ (.slice A2 m2 d2)).setCell ⟨w1.heap.size,4,none⟩ (.slice A3 m3 d3)).setCell ⟨w1.heap.size,5,none⟩ (.slice A4 m4 d4)=WB:=⟨_,rfl⟩;have hfin:=hiA.next (x:=⟨a,b,A1,m1,d1,A2,m2,d2,A3,m3,d3,A4,m4,d4,s9,c9⟩) ⟨HB1.out.size,hne1,by have:=HZ2.out;have:=HB1.out.size;omega,HWL.out,by have:=HZ2.out;have:=HWL.out;omega⟩ hxA hWB rfl;have hcB:Blk WB w2.heap.size 3 #[.int .i64 (Rn.came (pre.map El.pl):Int)]:=by
    rw[←hWB];exact(((((hcmA.other (p:=⟨w1.heap.size,0,none⟩) hne1 _).other (p:=⟨w1.heap.size,1,none⟩) hne1 _).other (p:=⟨w1.heap.size,2,none⟩) hne1 _).other (p:=⟨w1.heap.size,3,none⟩) hne1 _).other (p:=⟨w1.heap.size,4,none⟩) hne1 _).other (p:=⟨w1.heap.size,5,none⟩) hne1 _
   generalize lastEl pre=z at hv;obtain⟨za,zb,Z1,y1,u1,Z2,y2,u2,Z3,y3,u3,Z4,y4,u4,zs,zc⟩:=z;dsimp only at hv;have v0:=hv.cell 0;have v1:=hv.cell 1;have v2:=hv.cell 2;have v3:=hv.cell 3;have v4:=hv.cell 4;have v5:=hv.cell 5;have r0:=hv.frozen 0;have r1:=hv.frozen 1;have r2:=hv.frozen 2;have r3:=hv.frozen 3;have r4:=hv.frozen 4;have r5:=hv.frozen 5;have k0:=hcB.cell 0;have k1:=hcB.frozen 0;obtain⟨x0,x1,x2,x3,x4,x5⟩:=ζ6 hkA;have HFIN:=η hfin;clear hiA hxA hv hkA hcmA hfin hcB
   gi_wp2
   exact HFIN.out
  case done =>
   clear HI0 HCK HP0 HP1 HP2 HP3 HP4 HIN HLA HST HRO;rintro D O xs W9 hD hxs hI hK;obtain⟨hv,hcm,hel,-,hbl,-,hre⟩:=hI;have HXS:=η (hxs.trans HL.out);have hne:xs≠[]:=by rintro rfl;exact Rn.seq_ne (stepF names up l) fu s (by rw[←hxs];rfl)
   have hmem:lastEl xs ∈ xs:=by
    obtain⟨q,z,rfl⟩:∃ q z,xs=q++[z]:=⟨xs.dropLast,xs.getLast hne,(List.dropLast_concat_getLast hne).symm⟩;rw[q4i];simp
   have hls:(lastEl xs).s=(L.map (·.1)).getLastD St.zero:=by
    rw[←HXS.out];obtain⟨q,z,rfl⟩:∃ q z,xs=q++[z]:=⟨xs.dropLast,xs.getLast hne,(List.dropLast_concat_getLast hne).symm⟩;rw[q4i,List.map_append,List.map_append,List.map_singleton,List.map_singleton,List.getLastD_concat];rfl
   have hel9:=hel _ hmem;have k0:W9.cell? ⟨w2.heap.size,0,none⟩=some (.int .i64 (Rn.came (xs.map El.pl):Int)):=hcm.cell 0;rw[HXS.out] at k0;have hlz:=HZ4.out;have hb3s:=HB3.out.size;generalize lastEl xs=z at hv hel9 hls hmem;obtain⟨za,zb,Z1,y1,u1,Z2,y2,u2,Z3,y3,u3,Z4,y4,u4,zs,zc⟩:=z;dsimp only at hv hls;have v0:=hv.cell 0;have v1:=hv.cell 1;have v2:=hv.cell 2;have v3:=hv.cell 3;have v4:=hv.cell 4;have v5:=hv.cell 5;have r0:=hre.cell 0;have r1:=hre.cell 1;have r2:=hre.cell 2;have r3:=hre.cell 3;have r4:=hre.cell 4;have r5:=hre.cell 5;have f0:=hre.frozen 0;have f1:=hre.frozen 1;have f2:=hre.frozen 2;have f3:=hre.frozen 3;have f4:=hre.frozen 4;have f5:=hre.frozen 5;obtain⟨WE,hWE⟩:∃ WE,(((((W9.setCell ⟨w.heap.size+3,0,none⟩ (.int .i64 za)).setCell ⟨w.heap.size+3,1,none⟩ (.int .i64 zb)).setCell ⟨w.heap.size+3,2,none⟩ (.slice Z1 y1 u1)).setCell ⟨w.heap.size+3,3,none⟩ (.slice Z2 y2 u2)).setCell ⟨w.heap.size+3,4,none⟩ (.slice Z3 y3 u3)).setCell ⟨w.heap.size+3,5,none⟩ (.slice Z4 y4 u4)=WE:=⟨_,rfl⟩;obtain⟨he1,he2,-,he4⟩:=q26 hre (.int .i64 za) (.int .i64 zb) (.slice Z1 y1 u1) (.slice Z2 y2 u2) (.slice Z3 y3 u3) (.slice Z4 y4 u4) hWE;have hKE:WE.heap[D]? = some (.deferred (some [])):=by
    rw[←hWE];exact((((((KeepsOthers.setCell W9 _ _).trans (.setCell _ _ _)).trans (.setCell _ _ _)).trans (.setCell _ _ _)).trans (.setCell _ _ _)).trans (.setCell _ _ _)).same D _ hK rfl
   have hbE:Below w.heap.size w WE:=by
    rw[←hWE];exact(((((hbl.setCell (p:=⟨w.heap.size+3,0,none⟩) (by simp) _).setCell (p:=⟨w.heap.size+3,1,none⟩) (by simp) _).setCell (p:=⟨w.heap.size+3,2,none⟩) (by simp) _).setCell (p:=⟨w.heap.size+3,3,none⟩) (by simp) _).setCell (p:=⟨w.heap.size+3,4,none⟩) (by simp) _).setCell (p:=⟨w.heap.size+3,5,none⟩) (by simp) _
   have hq2:w.heap.size+3≠w2.heap.size:=by have:=HZ2.out;have:=HWL.out;omega
   have hcmE:Blk WE w2.heap.size 3 #[.int .i64 (Rn.came (xs.map El.pl):Int)]:=by
    rw[←hWE];exact(((((hcm.other (p:=⟨w.heap.size+3,0,none⟩) hq2 _).other (p:=⟨w.heap.size+3,1,none⟩) hq2 _).other (p:=⟨w.heap.size+3,2,none⟩) hq2 _).other (p:=⟨w.heap.size+3,3,none⟩) hq2 _).other (p:=⟨w.heap.size+3,4,none⟩) hq2 _).other (p:=⟨w.heap.size+3,5,none⟩) hq2 _
   have k0E:=hcmE.cell 0;rw[HXS.out] at k0E;have k0E:WE.cell? ⟨w2.heap.size,0,none⟩=some (.int .i64 (Rn.came L:Int)):=k0E;have hin:=(((he2 _ _ hel9).putObj (o':=.deferred none) hKE rfl).isSt);have hbl2:Below w.heap.size w (WE.putObj D (.deferred none)):=hbE.trans (belowK_b (w:=w) (Nat.le_refl _) WE D _ _ (by omega) hKE rfl rfl);have hc5:=he1.putObj (.deferred none) hKE rfl;have HFIN:=η (And.intro hin (And.intro hls hbl2));have HKD:=η hKE;have HC5:=η hc5;clear hxs hv hcm hel hbl hK hre hel9 hmem hin hls hbl2 he1 he2 he4 hKE hbE hc5 hne hcmE hq2
   gi_wp2
   gi_region
   gi_wp2
   clear hWE;have HC6:Blk (WE.drew.putObj D (.deferred none)) (w.heap.size+3) 35 #[.int .i64 za,.int .i64 zb,.slice Z1 y1 u1,.slice Z2 y2 u2,.slice Z3 y3 u3,.slice Z4 y4 u4]:=HC5.out;have q0:(WE.drew.putObj D (.deferred none)).cell? ⟨w.heap.size+1+1+1,0,none⟩=some (.int .i64 za):=HC6.cell 0;have q1:(WE.drew.putObj D (.deferred none)).cell? ⟨w.heap.size+1+1+1,1,none⟩=some (.int .i64 zb):=HC6.cell 1;have q2:(WE.drew.putObj D (.deferred none)).cell? ⟨w.heap.size+1+1+1,2,none⟩=some (.slice Z1 y1 u1):=HC6.cell 2;have q3:(WE.drew.putObj D (.deferred none)).cell? ⟨w.heap.size+1+1+1,3,none⟩=some (.slice Z2 y2 u2):=HC6.cell 3;have q4:(WE.drew.putObj D (.deferred none)).cell? ⟨w.heap.size+1+1+1,4,none⟩=some (.slice Z3 y3 u3):=HC6.cell 4;have q5:(WE.drew.putObj D (.deferred none)).cell? ⟨w.heap.size+1+1+1,5,none⟩=some (.slice Z4 y4 u4):=HC6.cell 5;obtain⟨hz1,hz2,hz3⟩:=HFIN.out;refine⟨by simp,.inl ⟨_,_,rfl,run_takeDeferred (w:=WE.drew) HKD.out,?_⟩⟩;exact⟨.tuple #[.agg #[.int .i64 za,.int .i64 zb,.slice Z1 y1 u1,.slice Z2 y2 u2,.slice Z3 y3 u3,.slice Z4 y4 u4],.int .i64 (Rn.came L:Int),.int .i64 0],by simp[results,Tryz.results24,go_sem,q0,q1,q2,q3,q4,q5],⟨za,zb,Z1,y1,u1,Z2,y2,u2,Z3,y3,u3,Z4,y4,u4,zs,zc⟩,rfl,hz1,hz2,⟨hz3.os,hz3.tape,hz3.output,hz3.size,hz3.block⟩⟩
 ·have hnz:((c:Int) != 0)=true:=by rw[bne_iff_ne];omega
  clear hy;refine(callsIn_wide (n:=5)).1 ?_;refine callsIn_of_wp_marks Tryz.func24 rfl trivial ?_ rfl;simp only[Tryz.ntmps24,List.size_toArray,List.length_cons,List.length_nil,Nat.reduceAdd,Nat.reduceSub,Array.replicate_succ,Array.replicate_zero,List.push_toArray,List.append_toArray,List.nil_append,List.cons_append]
  gi_wp2_with (fail)
  refine(callsIn_wide.2 HCK.out).mono ?_;rintro e w1 ⟨rfl,hb1⟩;have hB1:=HB.out.trans (hb1.mono HB.out.size);have hre:=HP3.out.below hb1 HP3.out.lt;obtain⟨r0,r1,r2,r3,r4,r5⟩:=ζ6 hre;have f0:w1.frozen? ⟨w.heap.size+1+1+1,0,none⟩=false:=hre.frozen 0;have f1:w1.frozen? ⟨w.heap.size+1+1+1,1,none⟩=false:=hre.frozen 1;have f2:w1.frozen? ⟨w.heap.size+1+1+1,2,none⟩=false:=hre.frozen 2;have f3:w1.frozen? ⟨w.heap.size+1+1+1,3,none⟩=false:=hre.frozen 3;have f4:w1.frozen? ⟨w.heap.size+1+1+1,4,none⟩=false:=hre.frozen 4;have f5:w1.frozen? ⟨w.heap.size+1+1+1,5,none⟩=false:=hre.frozen 5;obtain⟨WE,hWE⟩:∃ WE,(((((w1.setCell ⟨w.heap.size+1+1+1,0,none⟩ (.int .i64 0)).setCell ⟨w.heap.size+1+1+1,1,none⟩ (.int .i64 0)).setCell ⟨w.heap.size+1+1+1,2,none⟩ (.slice none 0 0)).setCell ⟨w.heap.size+1+1+1,3,none⟩ (.slice none 0 0)).setCell ⟨w.heap.size+1+1+1,4,none⟩ (.slice none 0 0)).setCell ⟨w.heap.size+1+1+1,5,none⟩ (.slice none 0 0)=WE:=⟨_,rfl⟩;obtain⟨he1,-,-,-⟩:=q26 (show Blk w1 (w.heap.size+1+1+1) 35 _ from hre) (.int .i64 0) (.int .i64 0) (.slice none 0 0) (.slice none 0 0) (.slice none 0 0) (.slice none 0 0) hWE;have hbE:Below w.heap.size w WE:=by
   rw[←hWE];exact(((((hB1.setCell (p:=⟨w.heap.size+1+1+1,0,none⟩) (by simp;omega) _).setCell (p:=⟨w.heap.size+1+1+1,1,none⟩) (by simp;omega) _).setCell (p:=⟨w.heap.size+1+1+1,2,none⟩) (by simp;omega) _).setCell (p:=⟨w.heap.size+1+1+1,3,none⟩) (by simp;omega) _).setCell (p:=⟨w.heap.size+1+1+1,4,none⟩) (by simp;omega) _).setCell (p:=⟨w.heap.size+1+1+1,5,none⟩) (by simp;omega) _
  have HE1:=η he1;have HBE:=η hbE;clear hb1 hB1 hre he1 hbE
  gi_wp2
  clear hWE;obtain⟨q0,q1,q2,q3,q4,q5⟩:=ζ6 HE1.out;exact⟨.tuple #[.agg #[.int .i64 0,.int .i64 0,.slice none 0 0,.slice none 0 0,.slice none 0 0,.slice none 0 0],.int .i64 0,.int .i64 (c:Int)],by simp[results,Tryz.results24,go_sem,q0,q1,q2,q3,q4,q5],zeroEl,rfl,q28 _,rfl,HBE.out⟩
def bIn11:St.State:=⟨⟨0,0⟩,[⟨1,1,0⟩,⟨1,2,0⟩,⟨12,0,0⟩],[],[],[]⟩
def bSts11:List (St.State×Nat):=[(bIn11,0),(⟨⟨1,0⟩,[⟨1,1,0⟩,⟨1,2,0⟩,⟨12,0,0⟩],[],[⟨false,1,0⟩],[]⟩,0),(⟨⟨2,0⟩,[⟨1,1,0⟩,⟨1,2,0⟩,⟨12,0,0⟩],[],[⟨false,1,0⟩,⟨false,2,0⟩],[]⟩,1)]
theorem j2g:chk11 bNames8 bUp8 Tb.usualRows bIn11 9=0:=by decide +kernel
theorem j18:runL bNames8 bUp8 Tb.usualRows bIn11 9=bSts11:=by decide +kernel
theorem j1c:Rn.came bSts11=1:=by decide +kernel
theorem El.stack_len{W:World}{B:Nat}{x:El}{s:St.State}(h:IsSt W B x.val s):x.n3=s.stack.length:=by
 obtain⟨cv,mv,sv,ov,e,-,-,⟨A,c,rfl,-⟩,-⟩:=h;unfold El.val stv at e;injection e with e;simp only[Array.mk.injEq,List.cons.injEq,Value.slice.injEq] at e;exact e.2.2.2.2.1.2.1
theorem z2m(w:World)(hi:Ins w):Calls Tryz.prog 25 #[] w (Tells w true):=by
 have hlat:=z4c w;obtain⟨Wa,hWa⟩:∃ Wa:World,((w.alloc (.cells #[.string ⟨#[97]⟩,.string ⟨#[98]⟩] 9)).alloc (.cells #[.int .u32 3,.int .u32 2] 75)).alloc (.cells #[.slice (some ⟨w.heap.size,0,none⟩) 2 2,.slice (some ⟨w.heap.size+1,0,none⟩) 2 2] 25)=Wa:=⟨_,rfl⟩;have hBa:Below w.heap.size w Wa:=by rw[←hWa];exact(((Below.refl _ w).alloc (Nat.le_refl _) _).alloc (by simp) _).alloc (by simp;omega) _
 have hsa:Wa.heap.size=w.heap.size+3:=by rw[←hWa];simp
 have hla:Blk Wa (w.heap.size+1+1) 25 #[.slice (some ⟨w.heap.size,0,none⟩) 2 2,.slice (some ⟨w.heap.size+1,0,none⟩) 2 2]:=by rw[←hWa];exact Blk.new' _ _ _ _ (by simp)
 rw[hWa,←hsa] at hlat
 obtain⟨Wb,hWb⟩:∃ Wb:World,Wa.alloc (.cells #[.int .i64 1,.int .i64 1,.int .i64 0,.int .i64 1,.int .i64 2,.int .i64 0,.int .i64 12,.int .i64 0,.int .i64 0] 57)=Wb:=⟨_,rfl⟩;have hsb:Wb.heap.size=w.heap.size+4:=by rw[←hWb];simp;omega
 have hab:Below Wa.heap.size Wa Wb:=by rw[←hWb];exact(Below.refl _ Wa).alloc (Nat.le_refl _) _
 have hcb:Blk Wb Wa.heap.size 57 #[.int .i64 1,.int .i64 1,.int .i64 0,.int .i64 1,.int .i64 2,.int .i64 0,.int .i64 12,.int .i64 0,.int .i64 0]:=by rw[←hWb];exact Blk.new _ _ _
 obtain⟨W0,hW0⟩:∃ W0:World,Wb.alloc (.cells #[.int .i64 0,.int .i64 0,.slice (some ⟨Wa.heap.size,0,none⟩) 3 3,.slice none 0 0,.slice none 0 0,.slice none 0 0] 35)=W0:=⟨_,rfl⟩;have hbc:Below Wb.heap.size Wb W0:=by rw[←hW0];exact(Below.refl _ Wb).alloc (Nat.le_refl _) _
 have hsz:W0.heap.size=w.heap.size+5:=by rw[←hW0];simp;omega
 have hst:Blk W0 Wb.heap.size 35 #[.int .i64 0,.int .i64 0,.slice (some ⟨Wa.heap.size,0,none⟩) 3 3,.slice none 0 0,.slice none 0 0,.slice none 0 0]:=by rw[←hW0];exact Blk.new _ _ _
 have hac:Below Wa.heap.size Wa W0:=hab.trans (hbc.mono hab.size);have hB:Below w.heap.size w W0:=hBa.trans (hac.mono hBa.size);have hl0:=hla.below hac hla.lt;have hc0:=hcb.below hbc hcb.lt;have hlat0:=(hlat.below hac).more hac.size;have hin0:IsSt W0 W0.heap.size (.agg #[.int .i64 0,.int .i64 0,.slice (some ⟨Wa.heap.size,0,none⟩) 3 3,.slice none 0 0,.slice none 0 0,.slice none 0 0]) bIn11:=by
  refine⟨_,_,_,_,rfl,⟨some ⟨Wa.heap.size,0,none⟩,3,rfl,?_,Nat.le_refl _⟩,IsL.nil _ _ _,IsL.nil _ _ _,IsL.nil _ _ _⟩;exact hc0.row.more hc0.lt
 have hins:∀ W,Below W0.heap.size W0 W→Ins W∧0<W.heap.size:=fun W hb=>⟨(hi.below hB hi.lt).below hb (Nat.lt_of_lt_of_le hi.lt hB.size),Nat.lt_of_lt_of_le (Nat.lt_of_lt_of_le hi.lt hB.size) hb.size⟩
 have HU:=η (fun(W:World) (hb:Below W0.heap.size W0 W)=>z7u W (hins W hb).1);have hrun:=fun(W:World) (hb:Below W0.heap.size W0 W) (RA:Option Addr) (rc:Nat) (hr:RowsIn W W.heap.size RA Tb.usualRows)=>z3k (l:=Tb.usualRows) rc 9 W (hins W hb).1 (hins W hb).2 ((hlat0.below hb).more hb.size) ((hin0.below hb).more hb.size) ⟨by decide,by decide,by decide,by decide⟩ hr z2v
 unfold Runs at hrun;rw[j18,j2g] at hrun;have HR:=η hrun;have HB:=η hB;have HL0:=η hl0;have HS0:=η hst;have HSZ:=η hsz;have HW0:=η hW0;clear hW0 hlat hBa hsa hla hsb hab hcb hbc hsz hst hac hB hl0 hc0 hlat0 hin0 hins hrun hi;obtain⟨l0,l1⟩:=ζ2 HL0.out;obtain⟨b0,b1,b2,b3,b4,b5⟩:=ζ6 HS0.out;go_enter Tryz.func25,Tryz.ntmps25;go_wp2;rw[HW0.out];clear hWa hWb HW0;refine Free.region_seq [1,3] [0,2] 3 (fun W'=>W'.cell? ⟨w.heap.size+1+1,0,none⟩=some (.slice (some ⟨w.heap.size,0,none⟩) 2 2)∧W'.cell? ⟨w.heap.size+1+1,1,none⟩=some (.slice (some ⟨w.heap.size+1,0,none⟩) 2 2)∧W'.cell? ⟨Wb.heap.size,0,none⟩=some (.int .i64 0)∧W'.cell? ⟨Wb.heap.size,1,none⟩=some (.int .i64 0)∧W'.cell? ⟨Wb.heap.size,2,none⟩=some (.slice (some ⟨Wa.heap.size,0,none⟩) 3 3)∧W'.cell? ⟨Wb.heap.size,3,none⟩=some (.slice none 0 0)∧W'.cell? ⟨Wb.heap.size,4,none⟩=some (.slice none 0 0)∧W'.cell? ⟨Wb.heap.size,5,none⟩=some (.slice none 0 0)) (by kernel_rfl) (by kernel_rfl) (by kernel_rfl) (by kernel_rfl) (⟨l0,l1,b0,b1,b2,b3,b4,b5⟩) (fun ops hops=>?_);clear hops;iterate 1
  refine Free.Seq.quiet (v:=?_) (a':=?_) rfl rfl (fun W' hW'=>?_) ?_ ?_
  rotate_left 2
  ·first|obtain⟨l0,l1,b0,b1,b2,b3,b4,b5⟩:=hW' rfl|skip
   go_simp;try with_reducible rfl
  ·simp only[Act.put,List.setIfInBounds_toArray,List.set_cons_zero,List.set_cons_succ];try with_reducible rfl
 refine Free.Seq.loud_ rfl (.inl rfl) (fun K hK=>?_);go_simp;refine(HU.out W0.drew (Below.refl _ W0).drew).mono ?_;rintro e w1 ⟨v,rfl,⟨TA,tc,rfl,htr,-⟩,hb1⟩;have hb1:=(Below.refl _ W0).drew.trans hb1;have hl1:=HL0.out.below hb1 HL0.out.lt;have hs1:=HS0.out.below hb1 HS0.out.lt;have HB1:=η hb1;have HTR:=η htr;refine hK.out _ _ rfl (fun _=>⟨hl1.cell 0,hl1.cell 1,hs1.cell 0,hs1.cell 1,hs1.cell 2,hs1.cell 3,hs1.cell 4,hs1.cell 5⟩) ?_;clear hK K hl1 hs1 hb1 htr;iterate 1
  refine Free.Seq.quiet (v:=?_) (a':=?_) rfl rfl (fun W' hW'=>?_) ?_ ?_
  rotate_left 2
  ·first|obtain⟨l0,l1,b0,b1,b2,b3,b4,b5⟩:=hW' rfl|skip
   go_simp;try with_reducible rfl
  ·simp only[Act.put,List.setIfInBounds_toArray,List.set_cons_zero,List.set_cons_succ];try with_reducible rfl
 refine Free.Seq.loud_ rfl (.inl rfl) (fun K hK=>?_);go_simp;refine(HR.out w1 HB1.out TA tc HTR.out).mono ?_;rintro e w2 ⟨RA,xs,cap,rfl,hcap,hxs,hpl,hb2⟩;have HB2:=η (HB1.out.trans (hb2.mono HB1.out.size));refine hK.out _ _ rfl (fun h=>absurd h (by decide)) ?_;clear hK K hb2;iterate 7
  refine Free.Seq.quiet (v:=?_) (a':=?_) rfl rfl (fun W' hW'=>?_) ?_ ?_
  rotate_left 2
  ·skip
   go_simp;try with_reducible rfl
  ·simp only[Act.put,List.setIfInBounds_toArray,List.set_cons_zero,List.set_cons_succ];try with_reducible rfl
 refine Free.Seq.nil_ ?_;have hlen:xs.length=3:=by rw[←List.length_map (f:=El.pl),hpl];rfl
 obtain⟨ad,x,rfl,had,hx2,x0,x1,x2,x3,x4,x5⟩:=q4s (k:=2) hxs.row (by omega);have hn3:x.n3=2:=by
  have h1:=El.stack_len (hxs.el x (List.mem_of_getElem? hx2));have h2:(xs.map El.pl)[2]? = some (x.s,x.came):=by rw[List.getElem?_map,hx2];rfl
  rw[hpl] at h2;have h3:bSts11[2]? = some (⟨⟨2,0⟩,[⟨1,1,0⟩,⟨1,2,0⟩,⟨12,0,0⟩],[],[⟨false,1,0⟩,⟨false,2,0⟩],[]⟩,1):=rfl;rw[h3] at h2;injection h2 with h2;injection h2 with h2 h4;rw[h1,←h2];rfl
 rw[hlen,j1c];rw[hlen] at hcap;rw[hn3] at x4;have e12:ad.add (2*6)=⟨ad.block,ad.off+12,none⟩:=by unfold Addr.add;rfl
 rw[e12] at x4;have x4':w2.cell? ⟨ad.block,ad.off+12+4,none⟩=some (.slice x.A3 2 x.d3):=x4;clear x0 x1 x2 x3 x4 x5 e12;clear l0 l1 b0 b1 b2 b3 b4 b5;go_wp2;go_ret;exact⟨rfl,HB.out.trans (HB2.out.mono HB.out.size)⟩
end Go.Proofs.YtjobifclmcdjcaaGreatDoor
