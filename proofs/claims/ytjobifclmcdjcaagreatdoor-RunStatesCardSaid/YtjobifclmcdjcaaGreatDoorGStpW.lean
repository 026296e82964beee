import Derived.Test.YtjobifclmcdjcaaGreatDoorGStpK
import Derived.Test.YtjobifclmcdjcaaGreatDoorGStpR
import Derived.Test.YtjobifclmcdjcaaGreatDoorGTabO
import Derived.Test.YtjobifclmcdjcaaGreatDoorGCodK
import Derived.Test.YtjobifclmcdjcaaGreatDoorGFree
import Derived.Test.YtjobifclmcdjcaaGreatDoorGCodE
import Derived.Test.YtjobifclmcdjcaaGreatDoorGLawO
import Derived.Test.YtjobifclmcdjcaaGreatDoorGPairs
import Derived.Test.YtjobifclmcdjcaaGreatDoorGCodP
set_option maxHeartbeats 64000000
set_option maxRecDepth 100000
namespace Go.Proofs.YtjobifclmcdjcaaGreatDoor
open Go.RowKit Go.Shelf
attribute [local go_sem] Oper.semAt_some
end Go.Proofs.YtjobifclmcdjcaaGreatDoor
namespace Go.Proofs.YtjobifclmcdjcaaGreatDoor
open Go.RowKit Go.Shelf Go.Sort
attribute [local go_sem] Oper.semAt_some
theorem q9i{k:Nat}{s:St.State}(h:St.rightB k s=true):SmallS s:=by
 unfold St.rightB at h;simp only[Bool.and_eq_true] at h;obtain⟨⟨⟨⟨r1,-⟩,⟨r3,-⟩⟩,⟨r4,-⟩⟩,⟨r5,-⟩⟩:=h;unfold Cd.rightB at r1;rw[Bool.and_eq_true] at r1;have a:=of_decide_eq_true r1.1;have b:=of_decide_eq_true r3;have c:=of_decide_eq_true r4;have d:=of_decide_eq_true r5;exact⟨by omega,by omega,by omega,by omega⟩
structure Law10 (w:World) (x0 x1:Value) (names:List ByteArray) (up:List Nat) (tv:Value) (l:List Tb.PR) (cs:Array Value) (W:World):Prop where
 one:One w x0 x1 names up W
 tb:Blk W (w.heap.size+1) 28 #[tv]
 ta:IsTab W W.heap.size tv l
 st:Blk W (w.heap.size+2) 35 cs
theorem Law10.next{w:World}{x0 x1:Value}{names:List ByteArray}{up:List Nat}{tv:Value}{l:List Tb.PR}{cs:Array Value}{W W':World}(h:Law10 w x0 x1 names up tv l cs W)(hb:Below W.heap.size W W'):Law10 w x0 x1 names up tv l cs W' :=
 ⟨z35 _ _ _ _ _ _ _ h.one hb,h.tb.below hb h.tb.lt,(h.ta.below hb).more hb.size,h.st.below hb h.st.lt⟩
end Go.Proofs.YtjobifclmcdjcaaGreatDoor
namespace Go.Proofs.YtjobifclmcdjcaaGreatDoor
open Go.RowKit Go.Shelf
structure El where
 a:Int
 b:Int
 A1:Option Addr
 n1:Nat
 d1:Nat
 A2:Option Addr
 n2:Nat
 d2:Nat
 A3:Option Addr
 n3:Nat
 d3:Nat
 A4:Option Addr
 n4:Nat
 d4:Nat
 s:St.State
 came:Nat
def El.cells(x:El):List Value:=[.int .i64 x.a,.int .i64 x.b,.slice x.A1 x.n1 x.d1,.slice x.A2 x.n2 x.d2,.slice x.A3 x.n3 x.d3,.slice x.A4 x.n4 x.d4]
def El.val(x:El):Value:=.agg #[.int .i64 x.a,.int .i64 x.b,.slice x.A1 x.n1 x.d1,.slice x.A2 x.n2 x.d2,.slice x.A3 x.n3 x.d3,.slice x.A4 x.n4 x.d4]
def El.pl(x:El):St.State×Nat:=(x.s,x.came)
structure El.In (B:Nat) (x:El) (W:World):Prop where
 eq:x.val=stv x.s (.slice x.A1 x.n1 x.d1) (.slice x.A2 x.n2 x.d2) (.slice x.A3 x.n3 x.d3) (.slice x.A4 x.n4 x.d4)
 copy:CopyOf B x.s (.slice x.A1 x.n1 x.d1) (.slice x.A2 x.n2 x.d2) (.slice x.A3 x.n3 x.d3) (.slice x.A4 x.n4 x.d4) W
theorem El.In.below{B:Nat}{x:El}{W W':World}(h:x.In B W)(hb:Below W.heap.size W W'):x.In B W':=⟨h.eq,h.copy.below hb⟩
theorem El.In.mono{B B':Nat}{x:El}{W:World}(h:x.In B W)(hb:B'≤B):x.In B' W:=⟨h.eq,h.copy.mono hb⟩
theorem El.In.set_{B g i:Nat}{x:El}{W:World}{cs:Array Value}(h:x.In B W)(hb:Blk W g 35 cs)(u:Value):x.In B (W.setCell ⟨g,i,none⟩ u):=⟨h.eq,h.copy.set_ hb u⟩
theorem El.In.isSt{B:Nat}{x:El}{W:World}(h:x.In B W):IsSt W W.heap.size x.val x.s:=by rw[h.eq];exact h.copy.isSt
theorem El.In.came{B:Nat}{x:El}{W:World}(h:x.In B W)(c:Nat):El.In B { x with came:=c } W:=⟨h.eq,h.copy⟩
theorem q4y{W W':World}{base e sz n:Nat}{v:Value}{xs:List Value}(h:W.ownsRow base e sz v n xs)(hk:∀ k,base≤k→k<W.heap.size→v.ownBlock=some k→W'.heap[k]? = W.heap[k]?):W'.ownsRow base e sz v n xs:=by
 obtain⟨h1,h2⟩:=h;refine⟨h1,?_⟩;rcases h2 with hn|⟨g,cap,cur,rfl,hb,hh,r⟩
 ·exact .inl hn
 ·exact .inr ⟨g,cap,cur,rfl,hb,(hk g hb (Array.getElem?_eq_some_iff.1 hh).1 rfl).trans hh,r⟩
theorem CopyOf.hold{B:Nat}{s:St.State}{cv mv tv ov:Value}{W W':World}(h:CopyOf B s cv mv tv ov W)(hk:∀ k,B≤k→k<W.heap.size→W'.heap[k]? = W.heap[k]?):CopyOf B s cv mv tv ov W' :=
 ⟨q4y h.code fun k h1 h2 _=>hk k h1 h2,q4y h.mem fun k h1 h2 _=>hk k h1 h2,q4y h.stack fun k h1 h2 _=>hk k h1 h2,q4y h.out fun k h1 h2 _=>hk k h1 h2,h.mo⟩
theorem El.In.hold{B:Nat}{x:El}{W W':World}(h:x.In B W)(hk:∀ k,B≤k→k<W.heap.size→W'.heap[k]? = W.heap[k]?):x.In B W':=⟨h.eq,h.copy.hold hk⟩
theorem q24{W W':World}{base sz n:Nat}{e:TypeId}{v:Value}{xs:List Value}(h:W.ownsRow base e sz v n xs)(hk:∀ k cs,Blk W k e cs→W'.heap[k]? = W.heap[k]?):W'.ownsRow base e sz v n xs:=by
 obtain⟨h1,h2⟩:=h;refine⟨h1,?_⟩;rcases h2 with hn|⟨g,cap,cur,rfl,hb,hh,r⟩
 ·exact .inl hn
 ·exact .inr ⟨g,cap,cur,rfl,hb,(hk g cur hh).trans hh,r⟩
theorem El.In.type{B:Nat}{x:El}{W W':World}(h:x.In B W)(hk:∀ k t cs,Blk W k t cs→t≠35→W'.heap[k]? = W.heap[k]?):x.In B W' :=
 ⟨h.eq,⟨q24 h.copy.code fun k cs hb=>hk k _ cs hb (by decide),q24 h.copy.mem fun k cs hb=>hk k _ cs hb (by decide),q24 h.copy.stack fun k cs hb=>hk k _ cs hb (by decide),q24 h.copy.out fun k cs hb=>hk k _ cs hb (by decide),h.copy.mo⟩⟩
theorem El.In.putObj{B:Nat}{x:El}{W:World}(h:x.In B W){l:Nat}{o o':Obj}(hl:W.heap[l]? = some o)(hc:o.isCells=false):x.In B (W.putObj l o') :=
 h.type fun k t cs hb _=>World.putObj_heap_other (fun e=>by subst e;unfold Blk at hb;rw[hb] at hl;cases hl;cases hc)
theorem Oned.el{o:St.State×Nat×Nat}{w:World}{e:Ending}{w':World}(h:Oned o w e w') :
  ∃(x:El),x.s=o.1∧x.came=0∧e=.returned (.tuple #[x.val,.int .i64 (o.2.1:Int),.int .i64 (o.2.2:Int)])∧x.In w.heap.size w'∧Below w.heap.size w w':=by
 obtain⟨a,b,A1,n1,d1,A2,n2,d2,A3,n3,d3,A4,n4,d4,rfl,hv,hc,hb⟩:=h;exact⟨⟨a,b,A1,n1,d1,A2,n2,d2,A3,n3,d3,A4,n4,d4,o.1,0⟩,rfl,rfl,rfl,⟨hv,hc⟩,hb⟩
theorem z6k{tv:Value}{s:St.State}(w:World)(h:IsSt w w.heap.size tv s)(hsm:SmallS s) :
  Calls Tryz.prog 31 #[tv] w fun e w'=>∃(x:El),x.s=s∧x.came=0∧e=.returned x.val∧x.In w.heap.size w'∧Below w.heap.size w w':=by
 refine(q5c w h hsm).mono ?_;rintro e w' ⟨cv,mv,sv,ov,rfl,hc,hb⟩;obtain⟨A1,d1,rfl⟩:=q0b hc.code;obtain⟨A2,d2,rfl⟩:=q0b hc.mem;obtain⟨A3,d3,rfl⟩:=q0b hc.stack;obtain⟨A4,d4,rfl⟩:=q0b hc.out;exact⟨⟨s.pc.v,s.pc.l,A1,s.code.length,d1,A2,s.mem.length,d2,A3,s.stack.length,d3,A4,s.out.length,d4,s,0⟩,rfl,rfl,rfl,⟨rfl,hc⟩,hb⟩
theorem z5j{β:Type}{B:Nat}{J:(Nat→Prop)→β→World→Prop}(hJ:Stands B 35 J){O:Nat→Prop}{b:β}{W:World}{g:Nat}{c0 c1 c2 c3 c4 c5:Value}(h:J O b W)(hB:B≤g)(hg:O g)(hb:Blk W g 35 #[c0,c1,c2,c3,c4,c5])(a0 a1 a2 a3 a4 a5:Value) :
  J O b ((((((W.setCell ⟨g,0,none⟩ a0).setCell ⟨g,1,none⟩ a1).setCell ⟨g,2,none⟩ a2).setCell ⟨g,3,none⟩ a3).setCell ⟨g,4,none⟩ a4).setCell ⟨g,5,none⟩ a5) :=
 hJ.set_ _ (hJ.set_ _ (hJ.set_ _ (hJ.set_ _ (hJ.set_ _ (hJ.set_ _ h hB hg hb) hB hg (hb.set_ 0 a0)) hB hg ((hb.set_ 0 a0).set_ 1 a1)) hB hg (((hb.set_ 0 a0).set_ 1 a1).set_ 2 a2)) hB hg ((((hb.set_ 0 a0).set_ 1 a1).set_ 2 a2).set_ 3 a3)) hB hg (((((hb.set_ 0 a0).set_ 1 a1).set_ 2 a2).set_ 3 a3).set_ 4 a4)
end Go.Proofs.YtjobifclmcdjcaaGreatDoor
namespace Go.Proofs.YtjobifclmcdjcaaGreatDoor
open Go.RowKit Go.Shelf
attribute [local go_sem] Oper.semAt_some
def chk11(names:List ByteArray)(up:List Nat)(l:List Tb.PR)(s:St.State)(fuel:Int):Nat :=
 if chk10 names up l s=0 then(if fuel<0∨40<fuel then 1 else 0) else chk10 names up l s
theorem z8f(names:List ByteArray)(up:List Nat)(l:List Tb.PR)(s:St.State):(oneR names up l s).2.2=chk10 names up l s:=by
 unfold oneR;split
 ·next h=>exact h.symm
 ·rfl
theorem q6k{v tv:Value}{names:List ByteArray}{up:List Nat}{s:St.State}{RA:Option Addr}{l:List Tb.PR}(rc:Nat)(fuel:Int)(w:World)(hi:Ins w)(hg:0<w.heap.size)(h:IsLat w w.heap.size v names up)(hst:IsSt w w.heap.size tv s)(hsm:SmallS s)(hr:RowsIn w w.heap.size RA l)(hrs:∀ x ∈ l,Small x) :
  Calls Tryz.prog 48 #[v,.agg #[.slice RA l.length rc],tv,.int .i64 fuel] w fun e w'=>e=.returned (.int .i64 (chk11 names up l s fuel:Nat))∧Below w.heap.size w w':=by
 obtain⟨⟨N,U,c1,c2,rfl,hN,hU⟩,hsh,hfew,hcaps⟩:=id h;have hst':=hst;obtain⟨cv,mv,stv_,ov,hsv,⟨cA,cc,rfl,hcr,hcc⟩,⟨mA,mc,rfl,hmr,hmc⟩,⟨sA,sc,rfl,hsr,hsc⟩,⟨oA,oc,rfl,hor,hoc⟩⟩:=hst;unfold stv at hsv;subst hsv;have q0:=Blk.new w 25 #[.slice N names.length c1,.slice U up.length c2];have q1:=Blk.new (w.alloc (.cells #[.slice N names.length c1,.slice U up.length c2] 25)) 28 #[.slice RA l.length rc];rw[show(w.alloc (.cells #[.slice N names.length c1,.slice U up.length c2] 25)).heap.size=w.heap.size+1 by simp] at q1;have q2:=Blk.new ((w.alloc (.cells #[.slice N names.length c1,.slice U up.length c2] 25)).alloc (.cells #[.slice RA l.length rc] 28)) 35 #[.int .i64 s.pc.v,.int .i64 s.pc.l,.slice cA s.code.length cc,.slice mA s.mem.length mc,.slice sA s.stack.length sc,.slice oA s.out.length oc];rw[show((w.alloc (.cells #[.slice N names.length c1,.slice U up.length c2] 25)).alloc (.cells #[.slice RA l.length rc] 28)).heap.size=w.heap.size+2 by simp] at q2;have hbox:=(((Below.refl w.heap.size w).alloc (by simp<;>omega) (.cells #[.slice N names.length c1,.slice U up.length c2] 25)).alloc (by simp<;>omega) (.cells #[.slice RA l.length rc] 28)).alloc (by simp<;>omega) (.cells #[.int .i64 s.pc.v,.int .i64 s.pc.l,.slice cA s.code.length cc,.slice mA s.mem.length mc,.slice sA s.stack.length sc,.slice oA s.out.length oc] 35);obtain⟨W,hW⟩:∃ W,((w.alloc (.cells #[.slice N names.length c1,.slice U up.length c2] 25)).alloc (.cells #[.slice RA l.length rc] 28)).alloc (.cells #[.int .i64 s.pc.v,.int .i64 s.pc.l,.slice cA s.code.length cc,.slice mA s.mem.length mc,.slice sA s.stack.length sc,.slice oA s.out.length oc] 35)=W:=⟨_,rfl⟩;have p0:=((q0.alloc (.cells #[.slice RA l.length rc] 28)).alloc (.cells #[.int .i64 s.pc.v,.int .i64 s.pc.l,.slice cA s.code.length cc,.slice mA s.mem.length mc,.slice sA s.stack.length sc,.slice oA s.out.length oc] 35));have p1:=(q1.alloc (.cells #[.int .i64 s.pc.v,.int .i64 s.pc.l,.slice cA s.code.length cc,.slice mA s.mem.length mc,.slice sA s.stack.length sc,.slice oA s.out.length oc] 35));rw[hW] at hbox p0 p1 q2;have HC:=η (z3o (s:=s) (tv:=.agg #[.int .i64 s.pc.v,.int .i64 s.pc.l,.slice cA s.code.length cc,.slice mA s.mem.length mc,.slice sA s.stack.length sc,.slice oA s.out.length oc]) rc W (hi.below hbox hg) (Nat.lt_of_lt_of_le hg hbox.size) ((h.below hbox).more hbox.size) ((hst'.below hbox).more hbox.size) hsm ((hr.below hbox).more hbox.size) hrs);obtain⟨l0,l1⟩:=ζ2 p0;have t0:W.cell? ⟨w.heap.size+1,0,none⟩=some (.slice RA l.length rc):=p1.cell 0;obtain⟨s0,s1,s2,s3,s4,s5⟩:=ζ6 q2;have HB:=η hbox;unfold chk11;have he:=z8f names up l s;obtain⟨⟨o1,o2,o3⟩,ho⟩:∃ o,oneR names up l s=o:=⟨_,rfl⟩;rw[ho] at he HC;dsimp only at he;rw[←he];clear he ho q0 q1 q2 p0 p1 hbox h hst' hr hrs hsm hi hcr hcc hmr hmc hsr hsc hor hoc hN hU hsh hfew hcaps;by_cases z:o3=0
 ·subst z;rw[if_pos rfl];obtain⟨r,hr9⟩:∃ r,(if fuel<0∨40<fuel then(1:Nat) else 0)=r:=⟨_,rfl⟩;rw[hr9];have HR9:=η hr9;clear hr9;by_cases f0:fuel<0
  ·go_enter Tryz.func48,Tryz.ntmps48;go_wp2_with (fail);refine HC.out.mono ?_;rintro e w1 hx;obtain⟨⟨a,b,A1,n1,d1,A2,n2,d2,A3,n3,d3,A4,n4,d4,s9,c9⟩,-,-,rfl,-,hb1⟩:=hx.el;unfold El.val;dsimp only;have HB1:=η ((HB.out.trans (hb1.mono HB.out.size)).alloc (Nat.le_trans HB.out.size hb1.size) (.cells #[.int .i64 a,.int .i64 b,.slice A1 n1 d1,.slice A2 n2 d2,.slice A3 n3 d3,.slice A4 n4 d4] 35));clear hb1 hx HC;go_wp2;go_ret;exact⟨by rw[←HR9.out,if_pos (.inl f0)];rfl,HB1.out⟩
  ·by_cases f1:40<fuel
   ·go_enter Tryz.func48,Tryz.ntmps48;go_wp2_with (fail);refine HC.out.mono ?_;rintro e w1 hx;obtain⟨⟨a,b,A1,n1,d1,A2,n2,d2,A3,n3,d3,A4,n4,d4,s9,c9⟩,-,-,rfl,-,hb1⟩:=hx.el;unfold El.val;dsimp only;have HB1:=η ((HB.out.trans (hb1.mono HB.out.size)).alloc (Nat.le_trans HB.out.size hb1.size) (.cells #[.int .i64 a,.int .i64 b,.slice A1 n1 d1,.slice A2 n2 d2,.slice A3 n3 d3,.slice A4 n4 d4] 35));clear hb1 hx HC;go_wp2;go_ret;exact⟨by rw[←HR9.out,if_pos (.inr f1)];rfl,HB1.out⟩
   ·go_enter Tryz.func48,Tryz.ntmps48;go_wp2_with (fail);refine HC.out.mono ?_;rintro e w1 hx;obtain⟨⟨a,b,A1,n1,d1,A2,n2,d2,A3,n3,d3,A4,n4,d4,s9,c9⟩,-,-,rfl,-,hb1⟩:=hx.el;unfold El.val;dsimp only;have HB1:=η ((HB.out.trans (hb1.mono HB.out.size)).alloc (Nat.le_trans HB.out.size hb1.size) (.cells #[.int .i64 a,.int .i64 b,.slice A1 n1 d1,.slice A2 n2 d2,.slice A3 n3 d3,.slice A4 n4 d4] 35));clear hb1 hx HC;go_wp2;go_ret;exact⟨by rw[←HR9.out,if_neg (by omega)];rfl,HB1.out⟩
 ·rw[if_neg z];have hnz:((o3:Int) != 0)=true:=by rw[bne_iff_ne];omega
  go_enter Tryz.func48,Tryz.ntmps48;go_wp2_with (fail);refine HC.out.mono ?_;rintro e w1 hx;obtain⟨⟨a,b,A1,n1,d1,A2,n2,d2,A3,n3,d3,A4,n4,d4,s9,c9⟩,-,-,rfl,-,hb1⟩:=hx.el;unfold El.val;dsimp only;have HB1:=η ((HB.out.trans (hb1.mono HB.out.size)).alloc (Nat.le_trans HB.out.size hb1.size) (.cells #[.int .i64 a,.int .i64 b,.slice A1 n1 d1,.slice A2 n2 d2,.slice A3 n3 d3,.slice A4 n4 d4] 35));clear hb1 hx HC;go_wp2;go_ret;exact⟨rfl,HB1.out⟩
theorem q6y{N U RA:Option Addr}{n1 c1 n2 c2 nl rc:Nat}{a b:Int}{A1 A2 A3 A4:Option Addr}{m1 d1 m2 d2 m3 d3 m4 d4:Nat}(fuel:Int)(w:World) :
  Calls Tryz.prog 49 #[.agg #[.slice N n1 c1,.slice U n2 c2],.agg #[.slice RA nl rc],.agg #[.int .i64 a,.int .i64 b,.slice A1 m1 d1,.slice A2 m2 d2,.slice A3 m3 d3,.slice A4 m4 d4],.int .i64 fuel] w fun e w' =>
   e=.returned (.func (.func 77) #[] #[.pointer (some ⟨w.heap.size+2,0,none⟩),.pointer (some ⟨w.heap.size+3,0,none⟩),.pointer (some ⟨w.heap.size,0,none⟩),.pointer (some ⟨w.heap.size+1,0,none⟩)]) ∧
   (((w.alloc (.cells #[.slice N n1 c1,.slice U n2 c2] 25)).alloc (.cells #[.slice RA nl rc] 28)).alloc (.cells #[.int .i64 a,.int .i64 b,.slice A1 m1 d1,.slice A2 m2 d2,.slice A3 m3 d3,.slice A4 m4 d4] 35)).alloc (.cells #[.int .i64 fuel] 3)=w':=by
 have hmf:∀(fn:Fn) (first cap:Array Value) (w:World),(Instr.makeFunc fn first cap).run Tryz.prog w=.ok (.func fn first cap) w:=fun _ _ _ _=>rfl
 go_enter Tryz.func49,Tryz.ntmps49;go_wp2;go_ret;exact⟨rfl,rfl⟩
def stepF(names:List ByteArray)(up:List Nat)(l:List Tb.PR)(s:St.State):St.State×Nat:=Sp.step up.length (bottomR names up:Nat) (rwT up l) s
theorem z47{names:List ByteArray}{up:List Nat}{l:List Tb.PR}{s s':St.State}(h:chk10 names up l s=0)(h':St.rightB up.length s'=true):chk10 names up l s'=0:=by
 unfold chk10 at h ⊢;rw[if_pos h'];split at h
 ·next h1 =>
  rw[if_pos h1];split at h
  ·next h2=>rw[if_pos h2]
  ·next h2=>exact absurd h h2
 ·next h1=>exact absurd h h1
theorem q7a{names:List ByteArray}{up:List Nat}{l:List Tb.PR}{s:St.State}(h:chk10 names up l s=0):chk10 names up l (stepF names up l s).1=0∧oneR names up l s=((stepF names up l s).1,(stepF names up l s).2,0)∧((stepF names up l s).2≠0→(stepF names up l s).1=s):=by
 obtain⟨z1,-,z4⟩:=q3t h;have hs:=Sp.step_stays z4 (bottomR names up:Nat) (rwT up l);refine⟨z47 h hs.right,?_,fun hn=>(hs.same hn).1⟩;unfold oneR;rw[if_pos h];rfl
theorem q38{names:List ByteArray}{up:List Nat}{l:List Tb.PR}{s:St.State}(h:chk10 names up l s=0):SmallS s:=q9i (q3t h).2.2
def El.encs(x:El):Array Value:=#[x.val,.int .i64 (x.came:Int)]
structure RBox (names:List ByteArray) (up:List Nat) (l:List Tb.PR) (s:St.State) (b c0:Nat) (N U RA:Option Addr) (n1 c1 n2 c2 nl rc:Nat) (y:El) (fuel:Nat) (W:World):Prop where
 ins:Ins W
 low:0<b∧b≤c0
 lat:IsLat W b (.agg #[.slice N n1 c1,.slice U n2 c2]) names up
 rows:RowsIn W b RA l∧l.length=nl
 st:IsSt W b y.val s
 k0:Blk W c0 25 #[.slice N n1 c1,.slice U n2 c2]
 k1:Blk W (c0+1) 28 #[.slice RA nl rc]
 k2:Blk W (c0+2) 35 #[.int .i64 y.a,.int .i64 y.b,.slice y.A1 y.n1 y.d1,.slice y.A2 y.n2 y.d2,.slice y.A3 y.n3 y.d3,.slice y.A4 y.n4 y.d4]
 k3:Blk W (c0+3) 3 #[.int .i64 (fuel:Int)]
def O11(b c0:Nat):Nat→Prop:=fun k=>k<b∨(c0≤k∧k<c0+4)
theorem RBox.holds{names:List ByteArray}{up:List Nat}{l:List Tb.PR}{s:St.State}{b c0:Nat}{N U RA:Option Addr}{n1 c1 n2 c2 nl rc:Nat}{y:El}{fuel:Nat}{W W':World}(h:RBox names up l s b c0 N U RA n1 c1 n2 c2 nl rc y fuel W)(hh:HoldsOn (O11 b c0) W W'):RBox names up l s b c0 N U RA n1 c1 n2 c2 nl rc y fuel W':=by
 have hb:Below b W W':=hh.below fun k hk=>.inl hk
 exact⟨h.ins.below hb h.low.1,h.low,h.lat.below hb,⟨h.rows.1.below hb,h.rows.2⟩,h.st.below hb,h.k0.holds hh (.inr (by omega)),h.k1.holds hh (.inr (by omega)),h.k2.holds hh (.inr (by omega)),h.k3.holds hh (.inr (by omega))⟩
theorem RBox.below{names:List ByteArray}{up:List Nat}{l:List Tb.PR}{s:St.State}{b c0:Nat}{N U RA:Option Addr}{n1 c1 n2 c2 nl rc:Nat}{y:El}{fuel:Nat}{W W':World}(h:RBox names up l s b c0 N U RA n1 c1 n2 c2 nl rc y fuel W)(hh:Below W.heap.size W W'):RBox names up l s b c0 N U RA n1 c1 n2 c2 nl rc y fuel W' :=
 h.holds (HoldsOn.of_below hh fun k hk=>by have:=h.k3.lt;have:=h.low;unfold O11 at hk;omega)
structure RInv (J:(Nat→Prop)→List El→World→Prop) (names:List ByteArray) (up:List Nat) (l:List Tb.PR) (s:St.State) (fuel b c0 g:Nat) (W:World) (a:Nat) (x:El) (O:Nat→Prop) (pre:List El) (wr:World):Prop where
 seq:pre.map El.pl++Rn.seq (stepF names up l) (fuel-a) x.s=Rn.seq (stepF names up l) fuel s
 j:J O pre wr
 o0:∀ k,O11 b c0 k→O k
 og:O g
 lt:∀ k,O k→k<wr.heap.size
 blk:Blk wr g 35 #[.int .i64 x.a,.int .i64 x.b,.slice x.A1 x.n1 x.d1,.slice x.A2 x.n2 x.d2,.slice x.A3 x.n3 x.d3,.slice x.A4 x.n4 x.d4]
 el:x.In b wr
 holds:HoldsOn (O11 b c0) W wr
 ok:chk10 names up l x.s=0
def GRun(names:List ByteArray)(up:List Nat)(l:List Tb.PR)(s:St.State)(fuel b:Nat)(pre:List El)(x:El)(W:World):Prop:=x.In b W∧(pre++[x]).map El.pl <+: Rn.seq (stepF names up l) fuel s
theorem z0u{names:List ByteArray}{up:List Nat}{l:List Tb.PR}{s s' s2:St.State}{fuel a c:Nat}{L:List (St.State×Nat)}(h:L++Rn.seq (stepF names up l) (fuel-a) s'=Rn.seq (stepF names up l) fuel s)(ha:a<fuel)(hf:stepF names up l s'=(s2,c))(hc:c≠0) :
  L++[(s',c)]=Rn.seq (stepF names up l) fuel s:=by
 rw[←h,show fuel-a=(fuel-a-1)+1 by omega];unfold Rn.seq;rw[hf,if_neg hc]
theorem z7v{names:List ByteArray}{up:List Nat}{l:List Tb.PR}{s s' s2:St.State}{fuel a:Nat}{L:List (St.State×Nat)}(h:L++Rn.seq (stepF names up l) (fuel-a) s'=Rn.seq (stepF names up l) fuel s)(ha:a<fuel)(hf:stepF names up l s'=(s2,0)) :
  L++[(s',0)]++Rn.seq (stepF names up l) (fuel-(a+1)) s2=Rn.seq (stepF names up l) fuel s:=by
 rw[←h,show fuel-a=(fuel-(a+1))+1 by omega]
 conv=>rhs;unfold Rn.seq
 rw[hf,if_pos rfl];simp
theorem q26{W:World}{g:Nat}{c0 c1 c2 c3 c4 c5:Value}(h:Blk W g 35 #[c0,c1,c2,c3,c4,c5])(a0 a1 a2 a3 a4 a5:Value){W':World}(hW:(((((W.setCell ⟨g,0,none⟩ a0).setCell ⟨g,1,none⟩ a1).setCell ⟨g,2,none⟩ a2).setCell ⟨g,3,none⟩ a3).setCell ⟨g,4,none⟩ a4).setCell ⟨g,5,none⟩ a5=W') :
  Blk W' g 35 #[a0,a1,a2,a3,a4,a5]∧(∀(B:Nat) (x:El),x.In B W→x.In B W')∧(∀ O:Nat→Prop,¬O g→HoldsOn O W W')∧W'.heap.size=W.heap.size:=by
 subst hW;refine⟨(((((h.set_ 0 a0).set_ 1 a1).set_ 2 a2).set_ 3 a3).set_ 4 a4).set_ 5 a5,fun B x hc=>?_,fun O hO=>?_,by simp⟩
 ·exact(((((hc.set_ h a0).set_ (h.set_ 0 a0) a1).set_ ((h.set_ 0 a0).set_ 1 a1) a2).set_ (((h.set_ 0 a0).set_ 1 a1).set_ 2 a2) a3).set_ ((((h.set_ 0 a0).set_ 1 a1).set_ 2 a2).set_ 3 a3) a4).set_ (((((h.set_ 0 a0).set_ 1 a1).set_ 2 a2).set_ 3 a3).set_ 4 a4) a5
 ·exact(((((HoldsOn.setCell W (p:=⟨g,0,none⟩) a0 hO).trans (.setCell _ (p:=⟨g,1,none⟩) a1 hO)).trans (.setCell _ (p:=⟨g,2,none⟩) a2 hO)).trans (.setCell _ (p:=⟨g,3,none⟩) a3 hO)).trans (.setCell _ (p:=⟨g,4,none⟩) a4 hO)).trans (.setCell _ (p:=⟨g,5,none⟩) a5 hO)
theorem run1_holds{names:List ByteArray}{up:List Nat}{l:List Tb.PR}{s:St.State}{b c0:Nat}{N U RA:Option Addr}{n1 c1 n2 c2 nl rc:Nat}{y:El}{fuel:Nat}(M B:Nat)(hM:1≤M)(w0:World)(hx:RBox names up l s b c0 N U RA n1 c1 n2 c2 nl rc y fuel w0)(hrs:∀ x ∈ l,Small x)(hck:chk10 names up l s=0)(hfu:fuel≤40) :
  SeqHolds Fence.wide M Tryz.prog 77 #[.pointer (some ⟨c0+2,0,none⟩),.pointer (some ⟨c0+3,0,none⟩),.pointer (some ⟨c0,0,none⟩),.pointer (some ⟨c0+1,0,none⟩)] El.encs 35 (GRun names up l s fuel b) (fun xs=>xs.map El.pl=Rn.seq (stepF names up l) fuel s) (O11 b c0) B w0:=fun lp J W hW hBW hJ hY h0=>by
 have hwf:∀ f,Fence.wide.fn f:=fun _=>trivial
 have hxW:=hx.below hW;have hsm:=q38 hck;have h1:1≤M:=hM;have HX:=η hxW;have HJ:=η hJ;have HY:=η hY;have H0:=η h0;have HCK:=η hck;have HBW:=η hBW;have hcw:∀ k,O11 b c0 k→k<W.heap.size:=fun k hk=>by have:=hxW.k3.lt;have:=hxW.low;unfold O11 at hk;omega
 have HCW:=η hcw;have hbw:b≤W.heap.size:=by have:=hxW.k3.lt;have:=hxW.low;omega
 have HBb:=η hbw;have HC:=η (z6k W ((hxW.st).more hbw) hsm);unfold El.val at HC;obtain⟨ya,yb,Y1,m1,e1,Y2,m2,e2,Y3,m3,e3,Y4,m4,e4,ys,yc⟩:=y;have k2:=hxW.k2;dsimp only at HC k2;obtain⟨s0,s1,s2,s3,s4,s5⟩:=ζ6 k2;clear k2 hx hxW hJ hY h0 hck hcw hBW hbw;refine callsIn_of_wp Tryz.func77 rfl trivial ?_ rfl;simp only[Tryz.ntmps77,List.size_toArray,List.length_cons,List.length_nil,Nat.reduceAdd,Nat.reduceSub,Array.replicate_succ,Array.replicate_zero,List.push_toArray,List.append_toArray,List.nil_append,List.cons_append]
 gi_wp2_with (fail)
 refine(callsIn_wide.2 HC.out).mono ?_;rintro e w1 ⟨⟨a,b9,A1,n1',d1,A2,n2',d2,A3,n3',d3,A4,n4',d4,s9,c9⟩,hs9,hc9,rfl,hin,hb1⟩;dsimp only at hs9 hc9 hin ⊢;subst hs9 hc9;clear s0 s1 s2 s3 s4 s5 HC;have hb2:=(hb1.alloc hb1.size (.cells #[.int .i64 a,.int .i64 b9,.slice A1 n1' d1,.slice A2 n2' d2,.slice A3 n3' d3,.slice A4 n4' d4] 35));have hk2:=Blk.new w1 35 #[.int .i64 a,.int .i64 b9,.slice A1 n1' d1,.slice A2 n2' d2,.slice A3 n3' d3,.slice A4 n4' d4];have hal:=(Below.refl w1.heap.size w1).alloc (Nat.le_refl _) (.cells #[.int .i64 a,.int .i64 b9,.slice A1 n1' d1,.slice A2 n2' d2,.slice A3 n3' d3,.slice A4 n4' d4] 35);have hin2:=hin.below hal;obtain⟨W2,hW2⟩:∃ W2,w1.alloc (.cells #[.int .i64 a,.int .i64 b9,.slice A1 n1' d1,.slice A2 n2' d2,.slice A3 n3' d3,.slice A4 n4' d4] 35)=W2:=⟨_,rfl⟩;have hz2:W2.heap.size=w1.heap.size+1:=by rw[←hW2];simp
 rw[hW2] at hb2 hk2 hin2;clear hal hin;have hinv:RInv J names up l s9 fuel b c0 w1.heap.size W 0 ⟨a,b9,A1,n1',d1,A2,n2',d2,A3,n3',d3,A4,n4',d4,s9,0⟩ (Plus (O11 b c0) W W2) [] W2:=by
  refine⟨rfl,HJ.out.grow H0.out hb2,fun k hk=>.inl hk,.inr ⟨hb1.size,by omega⟩,?_,hk2,hin2.mono HBb.out,HoldsOn.of_below hb2 HCW.out,HCK.out⟩;rintro k (hk|⟨-,hk⟩)
  ·have:=HCW.out k hk;have:=hb2.size;omega
  ·exact hk
 have hgB:B≤w1.heap.size:=Nat.le_trans HBW.out hb1.size;have HGB:=η hgB;have HGW:=η (show W.heap.size≤w1.heap.size from hb1.size);have hx2:=(HX.out.holds hinv.holds).k3;have HINV:=η hinv;clear hinv hgB hb1 hb2 hk2 hin2 hz2;obtain⟨g,hg⟩:∃ g,w1.heap.size=g:=⟨_,rfl⟩;rw[hg] at HINV HGB HGW;have f0:W2.cell? ⟨c0+3,0,none⟩=some (.int .i64 (fuel:Int)):=hx2.cell 0;clear hx2
 gi_wp2
 gi_loopw [13] (fun i wr=>∃(k:Nat) (x:El) (O:Nat→Prop) (pre:List El),k≤fuel∧i=.int .i64 (k:Int)∧Hid (RInv J names up l s9 fuel b c0 g W k x O pre wr)) (fun i _=>fuel-(intOf i).toNat)
 case atStart=>exact⟨0,_,_,_,Nat.zero_le _,rfl,HINV⟩
 case round =>
  clear HINV H0 f0;obtain⟨k,⟨a,b9,A1,n1',d1,A2,n2',d2,A3,n3',d3,A4,n4',d4,s,c9⟩,O,pre,hk,rfl,HR⟩:=hrel;have hxr:=HX.out.holds HR.out.holds;by_cases hlt:k<fuel
  ·have hblk:=HR.out.blk;have hst:=HR.out.el.isSt;have hck:=HR.out.ok;obtain⟨hnx,hone,hsame⟩:=q7a hck;obtain⟨⟨s2,c⟩,hf⟩:∃ r,stepF names up l s=r:=⟨_,rfl⟩;dsimp only at hblk hst hck;rw[hf] at hnx hone hsame;dsimp only at hnx hone hsame;have HC:=η (z3o (l:=l) (RA:=RA) rc wr hxr.ins (by have:=hxr.low;have:=hxr.k0.lt;omega) (hxr.lat.more (by have:=hxr.low;have:=hxr.k0.lt;omega)) hst (q38 hck) (hxr.rows.1.more (by have:=hxr.low;have:=hxr.k0.lt;omega)) hrs);rw[hone,hxr.rows.2] at HC;unfold El.val at HC;dsimp only at HC;obtain⟨b0,b1,b2,b3,b4,b5⟩:=ζ6 hblk;obtain⟨l0,l1⟩:=ζ2 hxr.k0;have t0:wr.cell? ⟨c0+1,0,none⟩=some (.slice RA nl rc):=hxr.k1.cell 0;have HNX:=η hnx;have HSAME:=η hsame;have HF:=η hf;clear hblk hst hck hnx hone hsame hf hxr
   gi_wp2_with (fail)
   refine(callsIn_wide.2 HC.out).mono ?_;rintro e w4 hx4;obtain⟨⟨a',b9',B1,m1',q1,B2,m2',q2,B3,m3',q3,B4,m4',q4,s2',c9'⟩,h1',rfl,rfl,hin4,hb4⟩:=hx4.el;dsimp only at h1' hin4;subst h1';unfold El.val;dsimp only;clear hx4 HC b0 b1 b2 b3 b4 b5 l0 l1 t0;have hal:=(Below.refl w4.heap.size w4).alloc (Nat.le_refl _) (.cells #[.int .i64 a',.int .i64 b9',.slice B1 m1' q1,.slice B2 m2' q2,.slice B3 m3' q3,.slice B4 m4' q4] 35);have hk4:=Blk.new w4 35 #[.int .i64 a',.int .i64 b9',.slice B1 m1' q1,.slice B2 m2' q2,.slice B3 m3' q3,.slice B4 m4' q4];have hz5:(w4.alloc (.cells #[.int .i64 a',.int .i64 b9',.slice B1 m1' q1,.slice B2 m2' q2,.slice B3 m3' q3,.slice B4 m4' q4] 35)).heap.size=w4.heap.size+1:=by simp
   obtain⟨W5,hW5⟩:∃ W5,w4.alloc (.cells #[.int .i64 a',.int .i64 b9',.slice B1 m1' q1,.slice B2 m2' q2,.slice B3 m3' q3,.slice B4 m4' q4] 35)=W5:=⟨_,rfl⟩;rw[hW5] at hal hk4 hz5;have hb5:Below wr.heap.size wr W5:=hb4.trans (hal.mono hb4.size);have hin5:=hin4.below hal;have hj5:=HJ.out.grow HR.out.j hb5;have hel5:El.In b ⟨a,b9,A1,n1',d1,A2,n2',d2,A3,n3',d3,A4,n4',d4,s,c⟩ W5:=(HR.out.el.below hb5).came c;have hlt5:∀ k,Plus O wr W5 k→k<W5.heap.size:=by
    rintro k (hk|⟨-,hk⟩)
    ·have:=HR.out.lt k hk;have:=hb5.size;omega
    ·exact hk
   have hpre:(pre++[(⟨a,b9,A1,n1',d1,A2,n2',d2,A3,n3',d3,A4,n4',d4,s,c⟩:El)]).map El.pl <+: Rn.seq (stepF names up l) fuel s9:=by
    rw[List.map_append];by_cases hc0:c=0
    ·subst hc0;exact⟨_,z7v HR.out.seq hlt HF.out⟩
    ·exact⟨[],by rw[List.append_nil];exact z0u HR.out.seq hlt HF.out hc0⟩
   obtain⟨fn,tmps,assign,body,hy,hR⟩:=HY.out (Plus O wr W5) pre ⟨a,b9,A1,n1',d1,A2,n2',d2,A3,n3',d3,A4,n4',d4,s,c⟩ W5 hj5 ⟨hel5,hpre⟩ hlt5;have hg5:Blk W5 g 35 #[.int .i64 a,.int .i64 b9,.slice A1 n1' d1,.slice A2 n2' d2,.slice A3 n3' d3,.slice A4 n4' d4]:=HR.out.blk.below hb5 HR.out.blk.lt;dsimp only[El.encs,El.val] at hy;obtain⟨x0,x1,x2,x3,x4,x5⟩:=ζ6 hg5;have HRR:=η hR;have HK4:=η hk4;have HG5:=η hg5;have HB5:=η hb5;have HIN5:=η hin5;have HZ5:=η hz5;have HB4:=η hb4.size;clear hal hk4 hz5 hb5 hin4 hin5 hj5 hel5 hlt5 hpre hR hg5 hb4;by_cases hc0:c=0
   ·subst hc0;rw[show((0:Nat):Int)=0 from rfl] at hy
    gi_wp2
    refine HRR.out.mono ?_;rintro e W6 ⟨rfl,hj6,hh6⟩;have hz6:=hh6.size;have hk6:=HK4.out.holds hh6 (.inr ⟨HB4.out,by rw[HZ5.out];exact Nat.lt_succ_self _⟩);have hg6:=HG5.out.holds hh6 (.inl HR.out.og);obtain⟨y0,y1,y2,y3,y4,y5⟩:=ζ6 hk6;have v0:=hg6.cell 0;have v1:=hg6.cell 1;have v2:=hg6.cell 2;have v3:=hg6.cell 3;have v4:=hg6.cell 4;have v5:=hg6.cell 5;have z0:=hg6.frozen 0;have z1:=hg6.frozen 1;have z2:=hg6.frozen 2;have z3:=hg6.frozen 3;have z4:=hg6.frozen 4;have z5:=hg6.frozen 5;have hin6:=HIN5.out.hold (W':=W6) (fun k h1 h2=>hh6.block k (.inr ⟨h1,h2⟩));have hho6:=HR.out.holds.trans ((HoldsOn.of_below HB5.out (fun k hk=>HR.out.lt k (HR.out.o0 k hk))).trans (hh6.less (fun k hk=>.inl (HR.out.o0 k hk))));have hj7:=z5j HJ.out hj6 HGB.out (.inl HR.out.og) hg6 (.int .i64 a') (.int .i64 b9') (.slice B1 m1' q1) (.slice B2 m2' q2) (.slice B3 m3' q3) (.slice B4 m4' q4);obtain⟨W7,hW7⟩:∃ W7,(((((W6.setCell ⟨g,0,none⟩ (.int .i64 a')).setCell ⟨g,1,none⟩ (.int .i64 b9')).setCell ⟨g,2,none⟩ (.slice B1 m1' q1)).setCell ⟨g,3,none⟩ (.slice B2 m2' q2)).setCell ⟨g,4,none⟩ (.slice B3 m3' q3)).setCell ⟨g,5,none⟩ (.slice B4 m4' q4)=W7:=⟨_,rfl⟩;obtain⟨hg7,hin7,hho7,hz7⟩:=q26 hg6 (.int .i64 a') (.int .i64 b9') (.slice B1 m1' q1) (.slice B2 m2' q2) (.slice B3 m3' q3) (.slice B4 m4' q4) hW7;rw[hW7] at hj7;have hinv:RInv J names up l s9 fuel b c0 g W (k+1) ⟨a',b9',B1,m1',q1,B2,m2',q2,B3,m3',q3,B4,m4',q4,s2',0⟩ (Plus O wr W5) (pre++[⟨a,b9,A1,n1',d1,A2,n2',d2,A3,n3',d3,A4,n4',d4,s,0⟩]) W7:=by
     refine⟨?_,hj7,fun k hk=>.inl (HR.out.o0 k hk),.inl HR.out.og,?_,hg7,(hin7 _ _ hin6).mono (Nat.le_trans HBb.out HR.out.holds.size),hho6.trans (hho7 _ (fun hk=>by have:=HCW.out _ hk;have:=HGW.out;omega)),HNX.out⟩
     ·rw[List.map_append];exact z7v HR.out.seq hlt HF.out
     ·rintro k (hk|⟨-,hk⟩)
      ·have:=HR.out.lt k hk;have:=HB5.out.size;omega
      ·omega
    have HINV:=η hinv;clear hh6 hk6 hg6 HRR HK4 HG5 hy x0 x1 x2 x3 x4 x5 hinv hg7 hin7 hho7 hz7 hj6 hj7 hin6 hho6
    gi_wp2
    go_roundw;case rel=>exact⟨k+1,_,_,_,by omega,by simp,HINV⟩
    case measure=>simp[intOf];omega
   ·have hnz:((c:Int) != 0)=true:=by rw[bne_iff_ne];omega
    gi_wp2
    refine HRR.out.mono ?_;rintro e W6 ⟨rfl,hj6,hh6⟩;clear hh6 HRR HK4 HG5 hy x0 x1 x2 x3 x4 x5
    gi_wp2
    refine bodyPost_ret (results_none rfl _ _ _) rfl ?_;exact⟨⟨_,rfl⟩,_,_,by rw[List.map_append];exact z0u HR.out.seq hlt HF.out hc0,hj6⟩
  ·obtain rfl:k=fuel:=by omega
   have hseq:=HR.out.seq;rw[Nat.sub_self] at hseq;have hblk:=HR.out.blk;dsimp only at hblk hseq;have hpre:(pre++[(⟨a,b9,A1,n1',d1,A2,n2',d2,A3,n3',d3,A4,n4',d4,s,0⟩:El)]).map El.pl=Rn.seq (stepF names up l) k s9:=by
    rw[List.map_append,←hseq];rfl
   obtain⟨fn,tmps,assign,body,hy,hR⟩:=HY.out O pre ⟨a,b9,A1,n1',d1,A2,n2',d2,A3,n3',d3,A4,n4',d4,s,0⟩ wr HR.out.j ⟨HR.out.el.came 0,hpre▸List.prefix_rfl⟩ HR.out.lt;dsimp only[El.encs,El.val] at hy;rw[show((0:Nat):Int)=0 from rfl] at hy;obtain⟨b0,b1,b2,b3,b4,b5⟩:=ζ6 hblk;have HRR:=η hR;have HPRE:=η hpre;clear hR hpre hseq hblk hxr
   gi_wp2
   refine HRR.out.mono ?_;rintro e W6 ⟨rfl,hj6,hh6⟩;clear hh6 HRR hy b0 b1 b2 b3 b4 b5
   gi_wp2
   go_end0;exact⟨⟨_,rfl⟩,_,_,HPRE.out,hj6⟩
end Go.Proofs.YtjobifclmcdjcaaGreatDoor
