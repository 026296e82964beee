import Derived.Test.YtjobifclmcdjcaaGreatDoorQZNotG
import Derived.Test.YtjobifclmcdjcaaGreatDoorQZFree
import Derived.Test.YtjobifclmcdjcaaGreatDoorQZCodK
import Derived.Test.YtjobifclmcdjcaaGreatDoorQZCodP
import Derived.Test.YtjobifclmcdjcaaGreatDoorQZCodA
import Derived.Test.YtjobifclmcdjcaaGreatDoorQZTabE
set_option maxHeartbeats 64000000
set_option maxRecDepth 100000
namespace Go.Proofs.YtjobifclmcdjcaaGreatDoor
open Go.RowKit Go.Shelf Go.Sort
attribute [local go_sem] Oper.semAt_some
end Go.Proofs.YtjobifclmcdjcaaGreatDoor
namespace Go.Proofs.YtjobifclmcdjcaaGreatDoor
open Go.RowKit Go.Shelf Go.Sort
end Go.Proofs.YtjobifclmcdjcaaGreatDoor
namespace Go.Proofs.YtjobifclmcdjcaaGreatDoor
open Lx (Tk)
open Tb (tok Fine)
end Go.Proofs.YtjobifclmcdjcaaGreatDoor
namespace Go.Proofs.YtjobifclmcdjcaaGreatDoor
open Go.RowKit Go.Shelf
attribute [local go_sem] Oper.semAt_some
def avs(x:St.Atom):List Value:=[.int .i64 x.v,.int .i64 x.l]
def svs(x:St.Slot):List Value:=[.bool x.ret,.int .i64 x.v,.int .i64 x.l]
theorem q2h(x:St.Atom):(avs x).length=2:=rfl
theorem q07(x:St.Slot):(svs x).length=3:=rfl
theorem q1q{w:World}{B:Nat}{A:Option Addr}{l:List St.Atom}{k:Nat}(h:Row w B A (fcells avs l))(hk:k<l.length):∃ ad t,A=some ad∧ad.block<B∧l[k]? = some t∧w.cell? (ad.add (k*2))=some (.int .i64 t.v) ∧
  w.cell? ⟨(ad.add (k*2)).block,(ad.add (k*2)).off+1,none⟩=some (.int .i64 t.l):=by
 have hlen:=q01 q2h l;obtain⟨ad,e,hb,hc⟩:=h (by intro e;rw[e] at hlen;simp at hlen;omega);have h0:=q16 q2h l k l[k] (List.getElem?_eq_getElem hk) 0 (by decide);have h1:=q16 q2h l k l[k] (List.getElem?_eq_getElem hk) 1 (by decide);exact⟨ad,l[k],e,hb,List.getElem?_eq_getElem hk,hc _ _ h0,by rw[←q03 _ _ _ (by decide)];exact hc _ _ h1⟩
theorem q06{w:World}{B:Nat}{A:Option Addr}{l:List St.Slot}{k:Nat}(h:Row w B A (fcells svs l))(hk:k<l.length):∃ ad t,A=some ad∧ad.block<B∧l[k]? = some t∧w.cell? (ad.add (k*3))=some (.bool t.ret) ∧
  w.cell? ⟨(ad.add (k*3)).block,(ad.add (k*3)).off+1,none⟩=some (.int .i64 t.v)∧w.cell? ⟨(ad.add (k*3)).block,(ad.add (k*3)).off+2,none⟩=some (.int .i64 t.l):=by
 have hlen:=q01 q07 l;obtain⟨ad,e,hb,hc⟩:=h (by intro e;rw[e] at hlen;simp at hlen;omega);have h0:=q16 q07 l k l[k] (List.getElem?_eq_getElem hk) 0 (by decide);have h1:=q16 q07 l k l[k] (List.getElem?_eq_getElem hk) 1 (by decide);have h2:=q16 q07 l k l[k] (List.getElem?_eq_getElem hk) 2 (by decide);exact⟨ad,l[k],e,hb,List.getElem?_eq_getElem hk,hc _ _ h0,by rw[←q03 _ _ _ (by decide)];exact hc _ _ h1,by rw[←q03 _ _ _ (by decide)];exact hc _ _ h2⟩
def IsL{α:Type}(f:α→List Value)(w:World)(B:Nat)(v:Value)(l:List α):Prop:=∃ A c,v=.slice A l.length c∧Row w B A (fcells f l)∧l.length≤c
section
variable {α:Type} {f:α→List Value} {w w':World} {B B' R:Nat} {v:Value} {l:List α}
theorem IsL.below(h:IsL f w B v l)(hb:Below B w w'):IsL f w' B v l:=by
 obtain⟨A,c,e,hr,hc⟩:=h;exact⟨A,c,e,hr.below hb,hc⟩
theorem IsL.more(h:IsL f w B v l)(hB:B≤B'):IsL f w B' v l:=by
 obtain⟨A,c,e,hr,hc⟩:=h;exact⟨A,c,e,hr.more hB,hc⟩
theorem IsL.nil(f:α→List Value)(w:World)(B:Nat):IsL f w B (.slice none 0 0) []:=⟨none,0,rfl,Row.nil,Nat.le_refl _⟩
end
def stv(s:St.State)(cv mv sv ov:Value):Value:=.agg #[.int .i64 s.pc.v,.int .i64 s.pc.l,cv,mv,sv,ov]
def IsSt(w:World)(B:Nat)(v:Value)(s:St.State):Prop:=∃ cv mv sv ov,v=stv s cv mv sv ov∧IsIns w B cv s.code∧IsL avs w B mv s.mem∧IsL svs w B sv s.stack∧IsL avs w B ov s.out
theorem IsSt.below{w w':World}{B:Nat}{v:Value}{s:St.State}(h:IsSt w B v s)(hb:Below B w w'):IsSt w' B v s:=by
 obtain⟨cv,mv,sv,ov,e,h1,h2,h3,h4⟩:=h;exact⟨cv,mv,sv,ov,e,h1.below hb,h2.below hb,h3.below hb,h4.below hb⟩
theorem IsSt.more{w:World}{B B':Nat}{v:Value}{s:St.State}(h:IsSt w B v s)(hB:B≤B'):IsSt w B' v s:=by
 obtain⟨cv,mv,sv,ov,e,h1,h2,h3,h4⟩:=h;exact⟨cv,mv,sv,ov,e,h1.more hB,h2.more hB,h3.more hB,h4.more hB⟩
def zstv:Value:=.agg #[.int .i64 0,.int .i64 0,.slice none 0 0,.slice none 0 0,.slice none 0 0,.slice none 0 0]
theorem IsSt.zero(w:World)(B:Nat):IsSt w B zstv St.zero:=⟨_,_,_,_,rfl,IsIns.nil _ _,IsL.nil _ _ _,IsL.nil _ _ _,IsL.nil _ _ _⟩
end Go.Proofs.YtjobifclmcdjcaaGreatDoor
namespace Go.Proofs.YtjobifclmcdjcaaGreatDoor
open Go.RowKit Go.Shelf Go.Sort
attribute [local go_sem] Oper.semAt_some
structure Op10 (w:World) (s:St.State) (pv pl:Int) (cA:Option Addr) (cN cc:Nat) (mA:Option Addr) (mN mc:Nat) (sA:Option Addr) (sN sc:Nat) (oA:Option Addr) (oN oc:Nat):Prop where
 pv:s.pc.v=pv
 pl:s.pc.l=pl
 cn:s.code.length=cN
 mn:s.mem.length=mN
 sn:s.stack.length=sN
 on:s.out.length=oN
 rc:Row w w.heap.size cA (icells s.code)
 rm:Row w w.heap.size mA (fcells avs s.mem)
 rs:Row w w.heap.size sA (fcells svs s.stack)
 ro:Row w w.heap.size oA (fcells avs s.out)
 kc:cN≤cc
 km:mN≤mc
 ks:sN≤sc
 ko:oN≤oc
theorem q9c{w:World}{v:Value}{s:St.State}(h:IsSt w w.heap.size v s):∃ pv pl cA cN cc mA mN mc sA sN sc oA oN oc,v=.agg #[.int .i64 pv,.int .i64 pl,.slice cA cN cc,.slice mA mN mc,.slice sA sN sc,.slice oA oN oc]∧Op10 w s pv pl cA cN cc mA mN mc sA sN sc oA oN oc:=by
 obtain⟨cv,mv,tv,ov,rfl,⟨cA,cc,rfl,h1,k1⟩,⟨mA,mc,rfl,h2,k2⟩,⟨sA,sc,rfl,h3,k3⟩,⟨oA,oc,rfl,h4,k4⟩⟩:=h;exact⟨_,_,_,_,_,_,_,_,_,_,_,_,_,_,rfl,rfl,rfl,rfl,rfl,rfl,rfl,h1,h2,h3,h4,k1,k2,k3,k4⟩
section
variable {pv pl:Int} {cA mA sA oA:Option Addr} {cN cc mN mc sN sc oN oc:Nat} {s:St.State}
theorem Op10.isSt{w:World}(h:Op10 w s pv pl cA cN cc mA mN mc sA sN sc oA oN oc):IsSt w w.heap.size (.agg #[.int .i64 pv,.int .i64 pl,.slice cA cN cc,.slice mA mN mc,.slice sA sN sc,.slice oA oN oc]) s:=by
 obtain⟨rfl,rfl,rfl,rfl,rfl,rfl,h1,h2,h3,h4,k1,k2,k3,k4⟩:=h;exact⟨_,_,_,_,rfl,⟨_,_,rfl,h1,k1⟩,⟨_,_,rfl,h2,k2⟩,⟨_,_,rfl,h3,k3⟩,⟨_,_,rfl,h4,k4⟩⟩
theorem Op10.below{w w':World}(h:Op10 w s pv pl cA cN cc mA mN mc sA sN sc oA oN oc)(hb:Below w.heap.size w w'):Op10 w' s pv pl cA cN cc mA mN mc sA sN sc oA oN oc :=
 ⟨h.pv,h.pl,h.cn,h.mn,h.sn,h.on,(h.rc.below hb).more hb.size,(h.rm.below hb).more hb.size,(h.rs.below hb).more hb.size,(h.ro.below hb).more hb.size,h.kc,h.km,h.ks,h.ko⟩
theorem z2u(d:Nat)(w:World)(h:Op10 w s pv pl cA cN cc mA mN mc sA sN sc oA oN oc)(hd:d≤1000)(hl:sN≤1000) :
  Calls Tryz.prog 70 #[.agg #[.int .i64 pv,.int .i64 pl,.slice cA cN cc,.slice mA mN mc,.slice sA sN sc,.slice oA oN oc],.int .i64 (d:Int)] w (Tells w (Sp.atomAt s.stack d)):=by
 obtain⟨res,hres⟩:∃ res,Sp.atomAt s.stack d=res:=⟨_,rfl⟩;rw[hres];unfold Sp.atomAt at hres;have hb0:=(Below.refl _ w).alloc (Nat.le_refl _) (.cells #[.int .i64 pv,.int .i64 pl,.slice cA cN cc,.slice mA mN mc,.slice sA sN sc,.slice oA oN oc] 35);have hp0:=Blk.new w 35 #[.int .i64 pv,.int .i64 pl,.slice cA cN cc,.slice mA mN mc,.slice sA sN sc,.slice oA oN oc];obtain⟨W0,hW0⟩:∃ W0,w.alloc (.cells #[.int .i64 pv,.int .i64 pl,.slice cA cN cc,.slice mA mN mc,.slice sA sN sc,.slice oA oN oc] 35)=W0:=⟨_,rfl⟩;rw[hW0] at hb0 hp0;have f4:W0.cell? ⟨w.heap.size,4,none⟩=some (.slice sA sN sc):=hp0.cell 4;have HB:=η hb0;by_cases hk:d+1≤sN
 ·obtain⟨k,hkk⟩:∃ k,sN=k+1+d:=⟨sN-1-d,by omega⟩;obtain⟨ad,y,rfl,hab,hy,y0,y1,y2⟩:=q06 (k:=k) (h.rs.below hb0) (by have:=h.sn;omega);have hg:s.stack.getD (s.stack.length-1-d) Sp.slot0=y:=by rw[h.sn,show sN-1-d=k by omega,List.getD_eq_getElem?_getD,hy];rfl
  rw[h.sn,decide_eq_true hk,Bool.true_and,←h.sn,hg] at hres;have HR:=η hres;subst hkk;have e1:((k+1+d:Nat):Int)-1-(d:Int)=(k:Int):=by omega
  have hab2:(ad.add (k*3)).block<W0.heap.size:=by rw[q0a];have:=hb0.size;omega
  clear h hres hb0 hp0 hy hg y1 y2;go_enter Tryz.func70,Tryz.ntmps70;go_wp2;go_ret;exact⟨retb HR.out,HB.out⟩
 ·rw[h.sn,decide_eq_false hk,Bool.false_and] at hres;have HR:=η hres;clear h hres hb0 hp0;go_enter Tryz.func70,Tryz.ntmps70;go_wp2;go_ret;exact⟨retb HR.out,HB.out⟩
def frI:Option Nat→Int
 | some k=>k
 | none=>-1
theorem q3l{a b:Int}(h:a=b):Ending.returned (.int .i64 a)=.returned (.int .i64 b):=by rw[h]
theorem z04(b:Nat)(w:World)(h:Op10 w s pv pl cA cN cc mA mN mc sA sN sc oA oN oc)(hb:b≤sN)(hl:sN≤1000) :
  Calls Tryz.prog 71 #[.agg #[.int .i64 pv,.int .i64 pl,.slice cA cN cc,.slice mA mN mc,.slice sA sN sc,.slice oA oN oc],.int .i64 (b:Int)] w fun e w'=>e=.returned (.int .i64 (frI (Sp.frameAt s.stack b)))∧Below w.heap.size w w':=by
 obtain⟨o,ho⟩:∃ o,Sp.frameAt s.stack b=o:=⟨_,rfl⟩;rw[ho];have hb0:=(Below.refl _ w).alloc (Nat.le_refl _) (.cells #[.int .i64 pv,.int .i64 pl,.slice cA cN cc,.slice mA mN mc,.slice sA sN sc,.slice oA oN oc] 35);have hp0:=Blk.new w 35 #[.int .i64 pv,.int .i64 pl,.slice cA cN cc,.slice mA mN mc,.slice sA sN sc,.slice oA oN oc];obtain⟨W0,hW0⟩:∃ W0,w.alloc (.cells #[.int .i64 pv,.int .i64 pl,.slice cA cN cc,.slice mA mN mc,.slice sA sN sc,.slice oA oN oc] 35)=W0:=⟨_,rfl⟩;rw[hW0] at hb0 hp0;have f4:W0.cell? ⟨w.heap.size,4,none⟩=some (.slice sA sN sc):=hp0.cell 4;have HB:=η hb0;have HF0:=η (show o=Sp.frameAt s.stack b from ho.symm);have HS:=η (h.rs.below hb0);have HN:=η h.sn;clear h hp0 hb0 ho;go_enter Tryz.func71,Tryz.ntmps71;go_wp2;go_loopw [5] (fun i wr=>∃ j:Nat,j≤b∧i=.int .i64 ((j:Int)-1)∧Hid (o=Sp.frameAt s.stack j)∧wr=W0) (fun i _=>(intOf i+1).toNat);case atStart=>exact⟨b,Nat.le_refl _,by first|rfl|go_num,HF0,rfl⟩
 case round =>
  obtain⟨j,hj,rfl,HF,rfl⟩:=hrel;cases j with
  | zero =>
   have e0:((0:Nat):Int)-1 = -1:=by omega
   have HR:=η (show(-1:Int)=frI o by rw[HF.out];rfl);rw[e0];go_wp2;go_ret;exact⟨q3l HR.out,HB.out⟩
  | succ j =>
   have e0:((j+1:Nat):Int)-1=(j:Int):=by omega
   rw[e0];obtain⟨ad,y,hsA,hab,hy,y0,y1,y2⟩:=q06 (k:=j) HS.out (by rw[HN.out];omega);have hge:decide ((0:Int)≤(j:Int))=true:=decide_eq_true (by omega);have hgd:s.stack.getD j Sp.slot0=y:=by rw[List.getD_eq_getElem?_getD,hy];rfl
   have hfr:Sp.frameAt s.stack (j+1)=if y.ret=true then some j else Sp.frameAt s.stack j:=by
    show(if(s.stack.getD j Sp.slot0).ret=true then some j else _)=_;rw[hgd]
   rw[hsA] at f4;cases hyr:y.ret with
   | false =>
    rw[hyr] at y0 hfr;have HF2:=η (show o=Sp.frameAt s.stack j by rw[HF.out,hfr];rfl);clear hfr hgd hy y1 y2;go_wp2;go_roundw;case rel=>exact⟨j,by omega,by first|rfl|go_num,HF2,trivial⟩
    case measure=>simp[intOf]
   | true =>
    rw[hyr] at y0 hfr;have HR:=η (show(j:Int)=frI o by rw[HF.out,hfr];rfl);clear hfr hgd hy y1 y2;go_wp2;go_ret;exact⟨q3l HR.out,HB.out⟩
theorem z1a(o:Nat)(n l:Int)(w:World)(ho:o<13)(hn:o=10→0≤n) :
  Calls Tryz.prog 69 #[.agg #[.int .i64 (o:Int),.int .i64 n,.int .i64 l]] w fun e w'=>e=.returned (.int .i64 (Sp.takesN ⟨o,n,l⟩:Nat))∧Below w.heap.size w w':=by
 obtain⟨t,ht⟩:∃ t,Sp.takesN ⟨o,n,l⟩=t:=⟨_,rfl⟩;rw[ht];unfold Sp.takesN at ht;dsimp only at ht;have hb0:=(Below.refl _ w).alloc (Nat.le_refl _) (.cells #[.int .i64 (o:Int),.int .i64 n,.int .i64 l] 57);have HB0:=η hb0;have HB1:=η (hb0.alloc hb0.size (.cells #[.int .i64 0,.int .i64 0,.int .i64 1,.int .i64 2,.int .i64 2,.int .i64 1,.int .i64 2,.int .i64 1,.int .i64 1,.int .i64 1,.int .i64 0,.int .i64 1,.int .i64 0] 3));by_cases h10:o=10
 ·subst h10;rw[if_pos (show((10:Nat):Int)=10 from rfl)] at ht;have e:n=(t:Int):=by have:=hn rfl;omega
  subst e;clear ht hn hb0 HB1;go_enter Tryz.func69,Tryz.ntmps69;go_wp2;go_ret;exact⟨rfl,HB0.out⟩
 ·rw[if_neg (by omega),Int.toNat_natCast] at ht;clear hn;obtain rfl|rfl|rfl|rfl|rfl|rfl|rfl|rfl|rfl|rfl|rfl|rfl:o=0∨o=1∨o=2∨o=3∨o=4∨o=5∨o=6∨o=7∨o=8∨o=9∨o=11∨o=12:=by omega
  all_goals
   subst ht;clear h10 hb0 HB0 ho;go_enter Tryz.func69,Tryz.ntmps69;go_wp2;go_ret;exact⟨rfl,HB1.out⟩
end
section
variable {v:Value} {names:List ByteArray} {up:List Nat}
theorem q6h(a:Int)(w:World)(h:IsLat w w.heap.size v names up):Calls Tryz.prog 75 #[v,.int .i64 a] w (Tells w (St.labB up.length a)):=by
 obtain⟨⟨N,U,c1,c2,rfl,hN,hU⟩,hsh,hfew,hcaps⟩:=h;clear hN hU;have HB0:=η ((Below.refl _ w).alloc (Nat.le_refl _) (.cells #[.slice N names.length c1,.slice U up.length c2] 25));by_cases h0:0≤a
 ·have hr:St.labB up.length a=decide (a<(up.length:Int)):=by unfold St.labB;exact decide_eq_decide.2 ⟨fun h=>h.2,fun h=>⟨h0,h⟩⟩
  rw[hr];clear hr;go_enter Tryz.func75,Tryz.ntmps75;go_wp2;go_ret;exact⟨rfl,HB0.out⟩
 ·have hr:St.labB up.length a=false:=by unfold St.labB;exact decide_eq_false fun h=>h0 h.1
  rw[hr];clear hr;go_enter Tryz.func75,Tryz.ntmps75;go_wp2;go_ret;exact⟨rfl,HB0.out⟩
theorem q6i(x:St.Atom)(w:World)(h:IsLat w w.heap.size v names up):Calls Tryz.prog 43 #[v,.agg #[.int .i64 x.v,.int .i64 x.l]] w (Tells w (St.pcB x.v&&St.labB up.length x.l)):=by
 obtain⟨⟨N,U,c1,c2,rfl,hN,hU⟩,hsh,hfew,hcaps⟩:=id h;obtain⟨a,l⟩:=x;dsimp only;have hb0:=(((Below.refl _ w).alloc (Nat.le_refl _) (.cells #[.slice N names.length c1,.slice U up.length c2] 25)).alloc (by simp) (.cells #[.int .i64 a,.int .i64 l] 30));have HL:=η (q6h l _ ((h.below hb0).more hb0.size));have HB0:=η hb0;clear h hN hU hb0;by_cases h0:0≤a
 ·by_cases h1:a≤12
  ·have hr:St.pcB a=true:=by unfold St.pcB;exact decide_eq_true ⟨h0,h1⟩
   rw[hr,Bool.true_and];generalize St.labB up.length l=b at *;clear hr;go_enter Tryz.func43,Tryz.ntmps43;go_wp2_with (fail);refine HL.out.mono ?_;rintro e w1 ⟨rfl,hb1⟩;have HB1:=η (HB0.out.trans (hb1.mono HB0.out.size));clear hb1 HL;go_wp2;go_ret;exact⟨rfl,HB1.out⟩
  ·have hr:St.pcB a=false:=by unfold St.pcB;exact decide_eq_false fun h=>h1 h.2
   rw[hr,Bool.false_and];clear hr HL;go_enter Tryz.func43,Tryz.ntmps43;go_wp2;go_ret;exact⟨rfl,HB0.out⟩
 ·have hr:St.pcB a=false:=by unfold St.pcB;exact decide_eq_false fun h=>h0 h.1
  rw[hr,Bool.false_and];clear hr HL;go_enter Tryz.func43,Tryz.ntmps43;go_wp2;go_ret;exact⟨rfl,HB0.out⟩
theorem q7f(x:St.Atom)(w:World)(h:IsLat w w.heap.size v names up):Calls Tryz.prog 45 #[v,.agg #[.int .i64 x.v,.int .i64 x.l]] w (Tells w (St.valB x.v&&St.labB up.length x.l)):=by
 obtain⟨⟨N,U,c1,c2,rfl,hN,hU⟩,hsh,hfew,hcaps⟩:=id h;obtain⟨a,l⟩:=x;dsimp only;have hb0:=(((Below.refl _ w).alloc (Nat.le_refl _) (.cells #[.slice N names.length c1,.slice U up.length c2] 25)).alloc (by simp) (.cells #[.int .i64 a,.int .i64 l] 30));have HL:=η (q6h l _ ((h.below hb0).more hb0.size));have HB0:=η hb0;clear h hN hU hb0;by_cases h0:-20≤a
 ·by_cases h1:a≤20
  ·have hr:St.valB a=true:=by unfold St.valB;exact decide_eq_true ⟨h0,h1⟩
   rw[hr,Bool.true_and];generalize St.labB up.length l=b at *;clear hr;go_enter Tryz.func45,Tryz.ntmps45;go_wp2_with (fail);refine HL.out.mono ?_;rintro e w1 ⟨rfl,hb1⟩;have HB1:=η (HB0.out.trans (hb1.mono HB0.out.size));clear hb1 HL;go_wp2;go_ret;exact⟨rfl,HB1.out⟩
  ·have hr:St.valB a=false:=by unfold St.valB;exact decide_eq_false fun h=>h1 h.2
   rw[hr,Bool.false_and];clear hr HL;go_enter Tryz.func45,Tryz.ntmps45;go_wp2;go_ret;exact⟨rfl,HB0.out⟩
 ·have hr:St.valB a=false:=by unfold St.valB;exact decide_eq_false fun h=>h0 h.1
  rw[hr,Bool.false_and];clear hr HL;go_enter Tryz.func45,Tryz.ntmps45;go_wp2;go_ret;exact⟨rfl,HB0.out⟩
theorem z3b(x:St.Slot)(w:World):Calls Tryz.prog 76 #[.agg #[.bool x.ret,.int .i64 x.v,.int .i64 x.l]] w fun e w'=>e=.returned (.agg #[.int .i64 x.v,.int .i64 x.l])∧Below w.heap.size w w':=by
 obtain⟨r,a,l⟩:=x;dsimp only;go_enter Tryz.func76,Tryz.ntmps76;go_wp2;go_returns;exact⟨rfl,((Below.refl _ w).alloc (Nat.le_refl _) _).alloc (by simp) _⟩
theorem z92(k:Nat)(x:St.Slot):St.slotB k x=if x.ret=true then St.pcB x.v&&St.labB k x.l else St.valB x.v&&St.labB k x.l:=by
 unfold St.slotB;cases x.ret with
 | false=>simp
 | true =>
  simp only[Bool.not_true,Bool.false_or,if_true];cases hp:St.pcB x.v with
  | false=>simp
  | true =>
   have hv:St.valB x.v=true:=by
    unfold St.pcB at hp;unfold St.valB;have:=of_decide_eq_true hp;exact decide_eq_true (by omega)
   rw[hv];simp
theorem z3c(x:St.Slot)(w:World)(h:IsLat w w.heap.size v names up):Calls Tryz.prog 47 #[v,.agg #[.bool x.ret,.int .i64 x.v,.int .i64 x.l]] w (Tells w (St.slotB up.length x)):=by
 obtain⟨⟨N,U,c1,c2,rfl,hN,hU⟩,hsh,hfew,hcaps⟩:=id h;rw[z92];have HPL:=η (fun W (h:IsLat W W.heap.size (.agg #[.slice N names.length c1,.slice U up.length c2]) names up)=>q6i ⟨x.v,x.l⟩ W h);have HAT:=η (fun W (h:IsLat W W.heap.size (.agg #[.slice N names.length c1,.slice U up.length c2]) names up)=>q7f ⟨x.v,x.l⟩ W h);have HOF:=η (fun W=>z3b x W);obtain⟨r,a,l⟩:=x;dsimp only at HPL HAT HOF ⊢;have hb0:=(((Below.refl _ w).alloc (Nat.le_refl _) (.cells #[.slice N names.length c1,.slice U up.length c2] 25)).alloc (by simp) (.cells #[.bool r,.int .i64 a,.int .i64 l] 78));obtain⟨W0,hW0⟩:∃ W0,(w.alloc (.cells #[.slice N names.length c1,.slice U up.length c2] 25)).alloc (.cells #[.bool r,.int .i64 a,.int .i64 l] 78)=W0:=⟨_,rfl⟩;have hp0:Blk W0 w.heap.size 25 #[.slice N names.length c1,.slice U up.length c2]:=hW0▸(Blk.new _ _ _).alloc _;have hp1:Blk W0 (w.heap.size+1) 78 #[.bool r,.int .i64 a,.int .i64 l]:=by
  have h1:=Blk.new (w.alloc (.cells #[.slice N names.length c1,.slice U up.length c2] 25)) 78 #[.bool r,.int .i64 a,.int .i64 l];rw[show(w.alloc (.cells #[.slice N names.length c1,.slice U up.length c2] 25)).heap.size=w.heap.size+1 by simp] at h1;rw[←hW0];exact h1
 rw[hW0] at hb0;have HB0:=η hb0;have H:=η ((h.below hb0).more hb0.size);obtain⟨a0,a1⟩:=ζ2 hp0;obtain⟨s0,s1,s2⟩:=ζ3 hp1;have g0:=fun d os=>cell_regrown a0 d os
 have g1:=fun d os=>cell_regrown a1 d os
 have g2:=fun d os=>cell_regrown s0 d os
 have g3:=fun d os=>cell_regrown s1 d os
 have g4:=fun d os=>cell_regrown s2 d os
 clear h hN hU hb0 hp0 hp1;cases r with
 | true =>
  rw[if_pos rfl];generalize (St.pcB a&&St.labB up.length l)=b at *;go_enter Tryz.func47,Tryz.ntmps47;go_wp2;refine wp_region_quiet_below (by kernel_rfl) (by kernel_rfl) ?_;repeat (quiet_step (first|(go_at_call 76;exact Calls.regrown_of (HOF.out _))|(go_at_call 43;exact Calls.regrown_of (HPL.out _ ((H.out.below (below_regrown _ _ _)).more (below_regrown _ _ _).size)))))
  refine wpQuiet_nil ?_;rintro _ ⟨⟨d,os⟩,rfl⟩;have HB5:=η (HB0.out.trans ((below_regrown W0 d os).mono HB0.out.size));clear g0 g1 g2 g3 g4;generalize grow (redrawn W0 d) os=w5 at *;go_wp2;go_ret;exact⟨rfl,HB5.out⟩
 | false =>
  rw[if_neg (by decide)];generalize (St.valB a&&St.labB up.length l)=b at *;go_enter Tryz.func47,Tryz.ntmps47;go_wp2;refine wp_region_quiet_below (by kernel_rfl) (by kernel_rfl) ?_;repeat (quiet_step (first|(go_at_call 76;exact Calls.regrown_of (HOF.out _))|(go_at_call 45;exact Calls.regrown_of (HAT.out _ ((H.out.below (below_regrown _ _ _)).more (below_regrown _ _ _).size)))))
  refine wpQuiet_nil ?_;rintro _ ⟨⟨d,os⟩,rfl⟩;have HB5:=η (HB0.out.trans ((below_regrown W0 d os).mono HB0.out.size));clear g0 g1 g2 g3 g4;generalize grow (redrawn W0 d) os=w5 at *;go_wp2;go_ret;exact⟨rfl,HB5.out⟩
theorem q3w{α:Type}{f:α→Bool}{l:List α}{j m:Nat}{x:α}(h:l[j]? = some x)(hx:f x=false):(decide (l.length≤m)&&l.all f)=false:=by
 rw[Bool.and_eq_false_iff];refine .inr ?_;rw[List.all_eq_false];exact⟨x,List.mem_of_getElem? h,by rw[hx];decide⟩
theorem z3l{α:Type}{f:α→Bool}{l:List α}{m:Nat}(hl:l.length≤m)(h:∀(j:Nat) x,l[j]? = some x→f x=true):(decide (l.length≤m)&&l.all f)=true:=by
 rw[Bool.and_eq_true];refine⟨decide_eq_true hl,List.all_eq_true.2 fun x hx=>?_⟩;obtain⟨j,hj,rfl⟩:=List.getElem_of_mem hx;exact h j _ (List.getElem?_eq_getElem hj)
theorem q90{A:Option Addr}{l:List St.Atom}(c m:Nat)(hm:m≤100)(w:World)(h:IsLat w w.heap.size v names up)(hr:Row w w.heap.size A (fcells avs l))(hl:l.length≤1000) :
  Calls Tryz.prog 44 #[v,.slice A l.length c,.int .i64 (m:Int),.func (.func 45) #[] #[]] w (Tells w (decide (l.length≤m)&&l.all (St.atomB up.length))):=by
 obtain⟨⟨N,U,c1,c2,rfl,hN,hU⟩,hsh,hfew,hcaps⟩:=id h;obtain⟨res,hres⟩:∃ res,(decide (l.length≤m)&&l.all (St.atomB up.length))=res:=⟨_,rfl⟩;rw[hres];have HRES:=η hres;clear hres;have hb0:Below w.heap.size w (w.alloc (.cells #[.slice N names.length c1,.slice U up.length c2] 25)):=(Below.refl _ w).alloc (Nat.le_refl _) _;have p0:=Blk.new w 25 #[.slice N names.length c1,.slice U up.length c2];have HB0:=η hb0;have hcf:=Tryz.call45;by_cases h12:m<l.length
 ·have HR2:=η (show false=res by rw[←HRES.out,decide_eq_false (by omega)];rfl);clear h hN hU hr hb0 p0;go_enter Tryz.func44,Tryz.ntmps44;go_wp2;go_ret;exact⟨retb HR2.out,HB0.out⟩
 ·have HONE:=η (fun(x:St.Atom) W (hb:Below w.heap.size w W)=>q7f (v:=.agg #[.slice N names.length c1,.slice U up.length c2]) x W ((h.below hb).more hb.size));have H:=η hr;have P0:=η p0;clear h hN hU hr hb0 p0;go_enter Tryz.func44,Tryz.ntmps44;go_wp2;go_loopw [17] (fun i wr=>∃ k:Nat,k≤l.length∧i=.int .i64 k∧Hid (∀(j:Nat) (x:St.Atom),j<k→l[j]? = some x→St.atomB up.length x=true)∧Hid (Below w.heap.size w wr)∧Hid (Blk wr w.heap.size 25 #[.slice N names.length c1,.slice U up.length c2])) (fun i _=>l.length-(intOf i).toNat);case atStart=>exact⟨0,Nat.zero_le _,rfl,η fun j x hj=>absurd hj (Nat.not_lt_zero _),HB0,P0⟩
  case round =>
   clear HB0 P0;obtain⟨k,hk,rfl,HS,HBW,P0⟩:=hrel;by_cases hlt:k<l.length
   ·obtain⟨ad,x,rfl,hxb,hx,x0,x1⟩:=q1q (H.out.below HBW.out) hlt;have hz:=HBW.out.size;have hxb2:(ad.add (k*2)).block<wr.heap.size:=by rw[q0a];omega
    have HX:=η hx;have hal:=(Below.refl wr.heap.size wr).alloc (Nat.le_refl _) (.cells #[.int .i64 x.v,.int .i64 x.l] 30);have hbw1:=HBW.out.trans (hal.mono HBW.out.size);have hp1:=P0.out.below hal P0.out.lt;have hbx:=Blk.new wr 30 #[.int .i64 x.v,.int .i64 x.l];have hc:=HONE.out x _ hbw1;obtain⟨W1,hW1⟩:∃ W1,wr.alloc (.cells #[.int .i64 x.v,.int .i64 x.l] 30)=W1:=⟨_,rfl⟩;rw[hW1] at hbw1 hp1 hbx hc;obtain⟨a0,a1⟩:=ζ2 hp1;have s0:=hbx.cell 0;have s1:=hbx.cell 1
    skip
    have HB1:=η hbw1;have HP1:=η hp1;have hz1:=hbw1.size;clear hx hal hbw1 hp1 hbx P0;cases hi:St.atomB up.length x with
    | true =>
     have HC:=η (show Calls _ _ _ _ (Tells W1 true) by rw[←hi];exact hc);have HI:=η hi;clear hi hc;go_wp2_with (fail);refine HC.out.mono ?_;rintro e w2 ⟨rfl,hb2⟩;have HB2:=η (HB1.out.trans (hb2.mono HB1.out.size));have HP2:=η (HP1.out.below hb2 HP1.out.lt);clear hb2 a0 a1 s0 s1;go_wp2;go_roundw
     case rel=>exact⟨k+1,by omega,by go_num,η fun j u hj hu=>by
      rcases Nat.lt_or_eq_of_le (Nat.le_of_lt_succ hj) with h|rfl
      ·exact HS.out j u h hu
      ·rw[HX.out] at hu;injection hu with hu
       rw[←hu];exact HI.out,HB2,HP2⟩
     case measure=>simp[intOf];omega
    | false =>
     have HC:=η (show Calls _ _ _ _ (Tells W1 false) by rw[←hi];exact hc);have HR2:=η (show false=res by rw[←HRES.out];exact(q3w HX.out hi).symm);clear hi hc;go_wp2_with (fail);refine HC.out.mono ?_;rintro e w2 ⟨rfl,hb2⟩;have HB2:=η (HB1.out.trans (hb2.mono HB1.out.size));clear hb2;go_wp2;go_ret;exact⟨retb HR2.out,HB2.out⟩
   ·obtain rfl:k=l.length:=by omega
    have HR2:=η (show true=res by rw[←HRES.out];exact(z3l (by omega) fun j x hx=>HS.out j x (List.getElem?_eq_some_iff.1 hx).1 hx).symm);go_wp2;go_ret;exact⟨retb HR2.out,HBW.out⟩
theorem z75{A:Option Addr}{l:List St.Slot}(c m:Nat)(hm:m≤100)(w:World)(h:IsLat w w.heap.size v names up)(hr:Row w w.heap.size A (fcells svs l))(hl:l.length≤1000) :
  Calls Tryz.prog 46 #[v,.slice A l.length c,.int .i64 (m:Int),.func (.func 47) #[] #[]] w (Tells w (decide (l.length≤m)&&l.all (St.slotB up.length))):=by
 obtain⟨⟨N,U,c1,c2,rfl,hN,hU⟩,hsh,hfew,hcaps⟩:=id h;obtain⟨res,hres⟩:∃ res,(decide (l.length≤m)&&l.all (St.slotB up.length))=res:=⟨_,rfl⟩;rw[hres];have HRES:=η hres;clear hres;have hb0:Below w.heap.size w (w.alloc (.cells #[.slice N names.length c1,.slice U up.length c2] 25)):=(Below.refl _ w).alloc (Nat.le_refl _) _;have p0:=Blk.new w 25 #[.slice N names.length c1,.slice U up.length c2];have HB0:=η hb0;have hcf:=Tryz.call47;by_cases h12:m<l.length
 ·have HR2:=η (show false=res by rw[←HRES.out,decide_eq_false (by omega)];rfl);clear h hN hU hr hb0 p0;go_enter Tryz.func46,Tryz.ntmps46;go_wp2;go_ret;exact⟨retb HR2.out,HB0.out⟩
 ·have HONE:=η (fun(x:St.Slot) W (hb:Below w.heap.size w W)=>z3c (v:=.agg #[.slice N names.length c1,.slice U up.length c2]) x W ((h.below hb).more hb.size));have H:=η hr;have P0:=η p0;clear h hN hU hr hb0 p0;go_enter Tryz.func46,Tryz.ntmps46;go_wp2;go_loopw [17] (fun i wr=>∃ k:Nat,k≤l.length∧i=.int .i64 k∧Hid (∀(j:Nat) (x:St.Slot),j<k→l[j]? = some x→St.slotB up.length x=true)∧Hid (Below w.heap.size w wr)∧Hid (Blk wr w.heap.size 25 #[.slice N names.length c1,.slice U up.length c2])) (fun i _=>l.length-(intOf i).toNat);case atStart=>exact⟨0,Nat.zero_le _,rfl,η fun j x hj=>absurd hj (Nat.not_lt_zero _),HB0,P0⟩
  case round =>
   clear HB0 P0;obtain⟨k,hk,rfl,HS,HBW,P0⟩:=hrel;by_cases hlt:k<l.length
   ·obtain⟨ad,x,rfl,hxb,hx,x0,x1,x2⟩:=q06 (H.out.below HBW.out) hlt;have hz:=HBW.out.size;have hxb2:(ad.add (k*3)).block<wr.heap.size:=by rw[q0a];omega
    have HX:=η hx;have hal:=(Below.refl wr.heap.size wr).alloc (Nat.le_refl _) (.cells #[.bool x.ret,.int .i64 x.v,.int .i64 x.l] 78);have hbw1:=HBW.out.trans (hal.mono HBW.out.size);have hp1:=P0.out.below hal P0.out.lt;have hbx:=Blk.new wr 78 #[.bool x.ret,.int .i64 x.v,.int .i64 x.l];have hc:=HONE.out x _ hbw1;obtain⟨W1,hW1⟩:∃ W1,wr.alloc (.cells #[.bool x.ret,.int .i64 x.v,.int .i64 x.l] 78)=W1:=⟨_,rfl⟩;rw[hW1] at hbw1 hp1 hbx hc;obtain⟨a0,a1⟩:=ζ2 hp1;have s0:=hbx.cell 0;have s1:=hbx.cell 1;have s2:=hbx.cell 2;have HB1:=η hbw1;have HP1:=η hp1;have hz1:=hbw1.size;clear hx hal hbw1 hp1 hbx P0;cases hi:St.slotB up.length x with
    | true =>
     have HC:=η (show Calls _ _ _ _ (Tells W1 true) by rw[←hi];exact hc);have HI:=η hi;clear hi hc;go_wp2_with (fail);refine HC.out.mono ?_;rintro e w2 ⟨rfl,hb2⟩;have HB2:=η (HB1.out.trans (hb2.mono HB1.out.size));have HP2:=η (HP1.out.below hb2 HP1.out.lt);clear hb2 a0 a1 s0 s1 s2;go_wp2;go_roundw
     case rel=>exact⟨k+1,by omega,by go_num,η fun j u hj hu=>by
      rcases Nat.lt_or_eq_of_le (Nat.le_of_lt_succ hj) with h|rfl
      ·exact HS.out j u h hu
      ·rw[HX.out] at hu;injection hu with hu
       rw[←hu];exact HI.out,HB2,HP2⟩
     case measure=>simp[intOf];omega
    | false =>
     have HC:=η (show Calls _ _ _ _ (Tells W1 false) by rw[←hi];exact hc);have HR2:=η (show false=res by rw[←HRES.out];exact(q3w HX.out hi).symm);clear hi hc;go_wp2_with (fail);refine HC.out.mono ?_;rintro e w2 ⟨rfl,hb2⟩;have HB2:=η (HB1.out.trans (hb2.mono HB1.out.size));clear hb2;go_wp2;go_ret;exact⟨retb HR2.out,HB2.out⟩
   ·obtain rfl:k=l.length:=by omega
    have HR2:=η (show true=res by rw[←HRES.out];exact(z3l (by omega) fun j x hx=>HS.out j x (List.getElem?_eq_some_iff.1 hx).1 hx).symm);go_wp2;go_ret;exact⟨retb HR2.out,HBW.out⟩
end
def pubS(names:List ByteArray)(up:List Nat)(s:St.State):Bool:=decide (checkN names up=0)&&St.rightB up.length s
structure SmallS (s:St.State):Prop where
 code:s.code.length≤1000
 mem:s.mem.length≤1000
 stack:s.stack.length≤1000
 out:s.out.length≤1000
theorem z65(names:List ByteArray)(up:List Nat)(s:St.State):pubS names up s=(Cd.pubB names up s.code&&((St.pcB s.pc.v&&St.labB up.length s.pc.l)&&((decide (s.mem.length≤6)&&s.mem.all (St.atomB up.length))&&((decide (s.stack.length≤12)&&s.stack.all (St.slotB up.length))&&(decide (s.out.length≤8)&&s.out.all (St.atomB up.length)))))):=by
 unfold pubS St.rightB Cd.pubB;simp only[Bool.and_assoc]
theorem q5m{v sv:Value}{names:List ByteArray}{up:List Nat}{s:St.State}(w:World)(h:IsLat w w.heap.size v names up)(hs:IsSt w w.heap.size sv s)(hsm:SmallS s) :
  Calls Tryz.prog 16 #[v,sv] w (Tells w (pubS names up s)):=by
 obtain⟨⟨N,U,c1,c2,rfl,hN,hU⟩,hsh,hfew,hcaps⟩:=id h;obtain⟨⟨pv,pl⟩,code,mem,stack,out⟩:=s;obtain⟨cv,mv,stv_,ov,rfl,⟨cA,cc,rfl,hcr,hcc⟩,⟨mA,mc,rfl,hmr,hmc⟩,⟨sA,sc,rfl,hsr,hsc⟩,⟨oA,oc,rfl,hor,hoc⟩⟩:=hs;obtain⟨hs1,hs2,hs3,hs4⟩:=hsm;rw[z65];dsimp only at hcr hcc hmr hmc hsr hsc hor hoc hs1 hs2 hs3 hs4 ⊢;unfold stv;dsimp only;have HC1:=η (fun W (hb:Below w.heap.size w W)=>z4f cc W ((h.below hb).more hb.size) ((hcr.below hb).more hb.size) hs1);have HC2:=η (fun W (hb:Below w.heap.size w W)=>q6i ⟨pv,pl⟩ W ((h.below hb).more hb.size));have HC3:=η (fun W (hb:Below w.heap.size w W)=>q90 mc 6 (by decide) W ((h.below hb).more hb.size) ((hmr.below hb).more hb.size) hs2);have HC4:=η (fun W (hb:Below w.heap.size w W)=>z75 sc 12 (by decide) W ((h.below hb).more hb.size) ((hsr.below hb).more hb.size) hs3);have HC5:=η (fun W (hb:Below w.heap.size w W)=>q90 oc 8 (by decide) W ((h.below hb).more hb.size) ((hor.below hb).more hb.size) hs4);have hb:=(((Below.refl _ w).alloc (Nat.le_refl _) (.cells #[.slice N names.length c1,.slice U up.length c2] 25)).alloc (by simp) (.cells #[.int .i64 pv,.int .i64 pl,.slice cA code.length cc,.slice mA mem.length mc,.slice sA stack.length sc,.slice oA out.length oc] 35));obtain⟨W0,hW0⟩:∃ W0,(w.alloc (.cells #[.slice N names.length c1,.slice U up.length c2] 25)).alloc (.cells #[.int .i64 pv,.int .i64 pl,.slice cA code.length cc,.slice mA mem.length mc,.slice sA stack.length sc,.slice oA out.length oc] 35)=W0:=⟨_,rfl⟩;have hp0:Blk W0 w.heap.size 25 #[.slice N names.length c1,.slice U up.length c2]:=hW0▸(Blk.new _ _ _).alloc _;have hp1:Blk W0 (w.heap.size+1) 35 #[.int .i64 pv,.int .i64 pl,.slice cA code.length cc,.slice mA mem.length mc,.slice sA stack.length sc,.slice oA out.length oc]:=by
  have h1:=Blk.new (w.alloc (.cells #[.slice N names.length c1,.slice U up.length c2] 25)) 35 #[.int .i64 pv,.int .i64 pl,.slice cA code.length cc,.slice mA mem.length mc,.slice sA stack.length sc,.slice oA out.length oc];rw[show(w.alloc (.cells #[.slice N names.length c1,.slice U up.length c2] 25)).heap.size=w.heap.size+1 by simp] at h1;rw[←hW0];exact h1
 rw[hW0] at hb;clear h hN hU hcr hmr hsr hor;obtain⟨a0,a1⟩:=ζ2 hp0;obtain⟨s0,s1,s2,s3,s4,s5⟩:=ζ6 hp1;have HB:=η hb;have HP0:=η hp0;have HP1:=η hp1;clear hb hp0 hp1;dsimp only at HC2;generalize Cd.pubB names up code=b1 at *;generalize (St.pcB pv&&St.labB up.length pl)=b2 at *;generalize (decide (mem.length≤6)&&mem.all (St.atomB up.length))=b3 at *;generalize (decide (stack.length≤12)&&stack.all (St.slotB up.length))=b4 at *;generalize (decide (out.length≤8)&&out.all (St.atomB up.length))=b5 at *;cases b1 with
 | false =>
  rw[Bool.false_and];go_enter Tryz.func16,Tryz.ntmps16;go_wp2_with (fail);refine(HC1.out W0 HB.out).mono ?_;rintro e W1 ⟨rfl,hb9⟩;have HB9:=η (HB.out.trans (hb9.mono HB.out.size));clear hb9 a0 a1 s0 s1 s2 s3 s4 s5;go_wp2;go_ret;exact⟨rfl,HB9.out⟩
 | true =>
  rw[Bool.true_and];cases b2 with
  | false =>
   rw[Bool.false_and];go_enter Tryz.func16,Tryz.ntmps16;go_wp2_with (fail);refine(HC1.out W0 HB.out).mono ?_;rintro e W1 ⟨rfl,hb9⟩;have hp0:=HP0.out.below hb9 HP0.out.lt;have hp1:=HP1.out.below hb9 HP1.out.lt;have hb:=HB.out.trans (hb9.mono HB.out.size);clear hb9 HB HP0 HP1 a0 a1 s0 s1 s2 s3 s4 s5;obtain⟨a0,a1⟩:=ζ2 hp0;obtain⟨s0,s1,s2,s3,s4,s5⟩:=ζ6 hp1;have HB:=η hb;have HP0:=η hp0;have HP1:=η hp1;clear hb hp0 hp1;go_wp2_with (fail);refine(HC2.out W1 HB.out).mono ?_;rintro e W2 ⟨rfl,hb9⟩;have HB9:=η (HB.out.trans (hb9.mono HB.out.size));clear hb9 a0 a1 s0 s1 s2 s3 s4 s5;go_wp2;go_ret;exact⟨rfl,HB9.out⟩
  | true =>
   rw[Bool.true_and];cases b3 with
   | false =>
    rw[Bool.false_and];go_enter Tryz.func16,Tryz.ntmps16;go_wp2_with (fail);refine(HC1.out W0 HB.out).mono ?_;rintro e W1 ⟨rfl,hb9⟩;have hp0:=HP0.out.below hb9 HP0.out.lt;have hp1:=HP1.out.below hb9 HP1.out.lt;have hb:=HB.out.trans (hb9.mono HB.out.size);clear hb9 HB HP0 HP1 a0 a1 s0 s1 s2 s3 s4 s5;obtain⟨a0,a1⟩:=ζ2 hp0;obtain⟨s0,s1,s2,s3,s4,s5⟩:=ζ6 hp1;have HB:=η hb;have HP0:=η hp0;have HP1:=η hp1;clear hb hp0 hp1;go_wp2_with (fail);refine(HC2.out W1 HB.out).mono ?_;rintro e W2 ⟨rfl,hb9⟩;have hp0:=HP0.out.below hb9 HP0.out.lt;have hp1:=HP1.out.below hb9 HP1.out.lt;have hb:=HB.out.trans (hb9.mono HB.out.size);clear hb9 HB HP0 HP1 a0 a1 s0 s1 s2 s3 s4 s5;obtain⟨a0,a1⟩:=ζ2 hp0;obtain⟨s0,s1,s2,s3,s4,s5⟩:=ζ6 hp1;have HB:=η hb;have HP0:=η hp0;have HP1:=η hp1;clear hb hp0 hp1;go_wp2_with (fail);refine(HC3.out W2 HB.out).mono ?_;rintro e W3 ⟨rfl,hb9⟩;have HB9:=η (HB.out.trans (hb9.mono HB.out.size));clear hb9 a0 a1 s0 s1 s2 s3 s4 s5;go_wp2;go_ret;exact⟨rfl,HB9.out⟩
   | true =>
    rw[Bool.true_and];cases b4 with
    | false =>
     rw[Bool.false_and];go_enter Tryz.func16,Tryz.ntmps16;go_wp2_with (fail);refine(HC1.out W0 HB.out).mono ?_;rintro e W1 ⟨rfl,hb9⟩;have hp0:=HP0.out.below hb9 HP0.out.lt;have hp1:=HP1.out.below hb9 HP1.out.lt;have hb:=HB.out.trans (hb9.mono HB.out.size);clear hb9 HB HP0 HP1 a0 a1 s0 s1 s2 s3 s4 s5;obtain⟨a0,a1⟩:=ζ2 hp0;obtain⟨s0,s1,s2,s3,s4,s5⟩:=ζ6 hp1;have HB:=η hb;have HP0:=η hp0;have HP1:=η hp1;clear hb hp0 hp1;go_wp2_with (fail);refine(HC2.out W1 HB.out).mono ?_;rintro e W2 ⟨rfl,hb9⟩;have hp0:=HP0.out.below hb9 HP0.out.lt;have hp1:=HP1.out.below hb9 HP1.out.lt;have hb:=HB.out.trans (hb9.mono HB.out.size);clear hb9 HB HP0 HP1 a0 a1 s0 s1 s2 s3 s4 s5;obtain⟨a0,a1⟩:=ζ2 hp0;obtain⟨s0,s1,s2,s3,s4,s5⟩:=ζ6 hp1;have HB:=η hb;have HP0:=η hp0;have HP1:=η hp1;clear hb hp0 hp1;go_wp2_with (fail);refine(HC3.out W2 HB.out).mono ?_;rintro e W3 ⟨rfl,hb9⟩;have hp0:=HP0.out.below hb9 HP0.out.lt;have hp1:=HP1.out.below hb9 HP1.out.lt;have hb:=HB.out.trans (hb9.mono HB.out.size);clear hb9 HB HP0 HP1 a0 a1 s0 s1 s2 s3 s4 s5;obtain⟨a0,a1⟩:=ζ2 hp0;obtain⟨s0,s1,s2,s3,s4,s5⟩:=ζ6 hp1;have HB:=η hb;have HP0:=η hp0;have HP1:=η hp1;clear hb hp0 hp1;go_wp2_with (fail);refine(HC4.out W3 HB.out).mono ?_;rintro e W4 ⟨rfl,hb9⟩;have HB9:=η (HB.out.trans (hb9.mono HB.out.size));clear hb9 a0 a1 s0 s1 s2 s3 s4 s5;go_wp2;go_ret;exact⟨rfl,HB9.out⟩
    | true =>
     rw[Bool.true_and];go_enter Tryz.func16,Tryz.ntmps16;go_wp2_with (fail);refine(HC1.out W0 HB.out).mono ?_;rintro e W1 ⟨rfl,hb9⟩;have hp0:=HP0.out.below hb9 HP0.out.lt;have hp1:=HP1.out.below hb9 HP1.out.lt;have hb:=HB.out.trans (hb9.mono HB.out.size);clear hb9 HB HP0 HP1 a0 a1 s0 s1 s2 s3 s4 s5;obtain⟨a0,a1⟩:=ζ2 hp0;obtain⟨s0,s1,s2,s3,s4,s5⟩:=ζ6 hp1;have HB:=η hb;have HP0:=η hp0;have HP1:=η hp1;clear hb hp0 hp1;go_wp2_with (fail);refine(HC2.out W1 HB.out).mono ?_;rintro e W2 ⟨rfl,hb9⟩;have hp0:=HP0.out.below hb9 HP0.out.lt;have hp1:=HP1.out.below hb9 HP1.out.lt;have hb:=HB.out.trans (hb9.mono HB.out.size);clear hb9 HB HP0 HP1 a0 a1 s0 s1 s2 s3 s4 s5;obtain⟨a0,a1⟩:=ζ2 hp0;obtain⟨s0,s1,s2,s3,s4,s5⟩:=ζ6 hp1;have HB:=η hb;have HP0:=η hp0;have HP1:=η hp1;clear hb hp0 hp1;go_wp2_with (fail);refine(HC3.out W2 HB.out).mono ?_;rintro e W3 ⟨rfl,hb9⟩;have hp0:=HP0.out.below hb9 HP0.out.lt;have hp1:=HP1.out.below hb9 HP1.out.lt;have hb:=HB.out.trans (hb9.mono HB.out.size);clear hb9 HB HP0 HP1 a0 a1 s0 s1 s2 s3 s4 s5;obtain⟨a0,a1⟩:=ζ2 hp0;obtain⟨s0,s1,s2,s3,s4,s5⟩:=ζ6 hp1;have HB:=η hb;have HP0:=η hp0;have HP1:=η hp1;clear hb hp0 hp1;go_wp2_with (fail);refine(HC4.out W3 HB.out).mono ?_;rintro e W4 ⟨rfl,hb9⟩;have hp0:=HP0.out.below hb9 HP0.out.lt;have hp1:=HP1.out.below hb9 HP1.out.lt;have hb:=HB.out.trans (hb9.mono HB.out.size);clear hb9 HB HP0 HP1 a0 a1 s0 s1 s2 s3 s4 s5;obtain⟨a0,a1⟩:=ζ2 hp0;obtain⟨s0,s1,s2,s3,s4,s5⟩:=ζ6 hp1;have HB:=η hb;have HP0:=η hp0;have HP1:=η hp1;clear hb hp0 hp1;go_wp2_with (fail);refine(HC5.out W4 HB.out).mono ?_;rintro e W5 ⟨rfl,hb9⟩;have HB9:=η (HB.out.trans (hb9.mono HB.out.size));clear hb9 a0 a1 s0 s1 s2 s3 s4 s5;go_wp2;go_ret;exact⟨rfl,HB9.out⟩
theorem Tryz.infoAtom:(Tryz.prog.info? 30).map (fun i=>(i.zero,i.size,i.bytes))=some (some (.agg #[.int .i64 0,.int .i64 0]),2,16):=by kernel_rfl
theorem Tryz.infoSlot:(Tryz.prog.info? 78).map (fun i=>(i.zero,i.size,i.bytes))=some (some (.agg #[.bool false,.int .i64 0,.int .i64 0]),3,24):=by kernel_rfl
section
variable {v:Value} {names:List ByteArray} {up:List Nat}
theorem q5e(a:Int)(w:World)(h:IsLat w w.heap.size v names up):Calls Tryz.prog 64 #[v,.int .i64 a] w (Tells w (St.labB up.length a)):=by
 obtain⟨⟨N,U,c1,c2,rfl,hN,hU⟩,hsh,hfew,hcaps⟩:=h;clear hN hU;have HB0:=η ((Below.refl _ w).alloc (Nat.le_refl _) (.cells #[.slice N names.length c1,.slice U up.length c2] 25));by_cases h0:0≤a
 ·have hr:St.labB up.length a=decide (a<(up.length:Int)):=by unfold St.labB;exact decide_eq_decide.2 ⟨fun h=>h.2,fun h=>⟨h0,h⟩⟩
  rw[hr];clear hr;go_enter Tryz.func64,Tryz.ntmps64;go_wp2;go_ret;exact⟨rfl,HB0.out⟩
 ·have hr:St.labB up.length a=false:=by unfold St.labB;exact decide_eq_false fun h=>h0 h.1
  rw[hr];clear hr;go_enter Tryz.func64,Tryz.ntmps64;go_wp2;go_ret;exact⟨rfl,HB0.out⟩
theorem q8j{α:Type}{f:α→Bool}{l:List α}{j:Nat}{x:α}(h:l[j]? = some x)(hx:f x=false):l.all f=false:=by
 rw[List.all_eq_false];exact⟨x,List.mem_of_getElem? h,by rw[hx];decide⟩
theorem q91{α:Type}{f:α→Bool}{l:List α}(h:∀(j:Nat) x,l[j]? = some x→f x=true):l.all f=true:=by
 refine List.all_eq_true.2 fun x hx=>?_
 obtain⟨j,hj,rfl⟩:=List.getElem_of_mem hx;exact h j _ (List.getElem?_eq_getElem hj)
theorem q8c{A:Option Addr}{l:List St.Atom}(c:Nat)(w:World)(h:IsLat w w.heap.size v names up)(hr:Row w w.heap.size A (fcells avs l))(hl:l.length≤1000) :
  Calls Tryz.prog 65 #[v,.slice A l.length c] w (Tells w (l.all (St.atomB up.length))):=by
 obtain⟨⟨N,U,c1,c2,rfl,hN,hU⟩,hsh,hfew,hcaps⟩:=id h;obtain⟨res,hres⟩:∃ res,(l.all (St.atomB up.length))=res:=⟨_,rfl⟩;rw[hres];have HRES:=η hres;clear hres;have HLB:=η (fun a W (hb:Below w.heap.size w W)=>q5e (v:=.agg #[.slice N names.length c1,.slice U up.length c2]) a W ((h.below hb).more hb.size));have HB0:=η ((Below.refl _ w).alloc (Nat.le_refl _) (.cells #[.slice N names.length c1,.slice U up.length c2] 25));have P0:=η (Blk.new w 25 #[.slice N names.length c1,.slice U up.length c2]);have H:=η hr;obtain⟨n,hn⟩:∃ n,l.length=n:=⟨_,rfl⟩;have HN:=η hn;rw[hn] at hl ⊢;clear h hN hU hr hn hsh hfew hcaps;go_enter Tryz.func65,Tryz.ntmps65;go_wp2;go_loopw [9] (fun i wr=>∃ k:Nat,k≤n∧i=.int .i64 k∧Hid (∀(j:Nat) (x:St.Atom),j<k→l[j]? = some x→St.atomB up.length x=true)∧Hid (Below w.heap.size w wr)∧Hid (Blk wr w.heap.size 25 #[.slice N names.length c1,.slice U up.length c2])) (fun i _=>n-(intOf i).toNat);case atStart=>exact⟨0,Nat.zero_le _,rfl,η fun j x hj=>absurd hj (Nat.not_lt_zero _),HB0,P0⟩
 case round =>
  clear HB0 P0;obtain⟨k,hk,rfl,HS,HBW,P0⟩:=hrel;by_cases hlt:k<n
  ·obtain⟨ad,x,rfl,hxb,hx,x0,x1⟩:=q1q (H.out.below HBW.out) (show k<l.length by rw[HN.out];exact hlt);have hz:=HBW.out.size;have hxb2:(ad.add (k*2)).block<wr.heap.size:=by rw[q0a];omega
   have HX:=η hx;obtain⟨xv,xl⟩:=x;dsimp only at x0 x1;have hal:=(Below.refl wr.heap.size wr).alloc (Nat.le_refl _) (.cells #[.int .i64 xv,.int .i64 xl] 30);have hbw1:=HBW.out.trans (hal.mono HBW.out.size);have hp1:=P0.out.below hal P0.out.lt;have hbx:=Blk.new wr 30 #[.int .i64 xv,.int .i64 xl];have hc:=HLB.out xl _ hbw1;obtain⟨W1,hW1⟩:∃ W1,wr.alloc (.cells #[.int .i64 xv,.int .i64 xl] 30)=W1:=⟨_,rfl⟩;rw[hW1] at hbw1 hp1 hbx hc;obtain⟨a0,a1⟩:=ζ2 hp1;have s0:=hbx.cell 0;have s1:=hbx.cell 1
   skip
   have HB1:=η hbw1;have HP1:=η hp1;have HBX:=η hbx;have hz1:=hbw1.size;have hblt:=hbx.lt;have hplt:=hp1.lt;have HC:=η hc;clear hx hal hbw1 hp1 hbx P0 hc HLB;by_cases h1:xv < -20
   ·have HR2:=η (show false=res by rw[←HRES.out];exact(q8j HX.out (show St.atomB up.length _=false by unfold St.atomB St.valB;dsimp only;rw[decide_eq_false (by omega)];rfl)).symm);clear HC;go_wp2;go_ret;exact⟨retb HR2.out,HB1.out⟩
   ·by_cases h2:20<xv
    ·have HR2:=η (show false=res by rw[←HRES.out];exact(q8j HX.out (show St.atomB up.length _=false by unfold St.atomB St.valB;dsimp only;rw[decide_eq_false (by omega)];rfl)).symm);clear HC;go_wp2;go_ret;exact⟨retb HR2.out,HB1.out⟩
    ·cases hb:St.labB up.length xl with
     | false =>
      rw[hb] at HC;have HR2:=η (show false=res by rw[←HRES.out];exact(q8j HX.out (show St.atomB up.length _=false by unfold St.atomB;dsimp only;rw[hb,Bool.and_false])).symm);clear hb;go_wp2_with (fail);refine HC.out.mono ?_;rintro e w2 ⟨rfl,hb2⟩;have HB2:=η (HB1.out.trans (hb2.mono HB1.out.size));clear hb2;go_wp2;go_ret;exact⟨retb HR2.out,HB2.out⟩
     | true =>
      rw[hb] at HC;have HI:Hid (St.atomB up.length ⟨xv,xl⟩=true):=η (by unfold St.atomB St.valB;dsimp only;rw[hb,decide_eq_true (by omega)];rfl);clear hb;go_wp2_with (fail);refine HC.out.mono ?_;rintro e w2 ⟨rfl,hb2⟩;have HB2:=η (HB1.out.trans (hb2.mono HB1.out.size));have HP2:=η (HP1.out.below hb2 HP1.out.lt);clear hb2 a0 a1 s0 s1;go_wp2;go_roundw
      case rel=>exact⟨k+1,by omega,by go_num,η fun j u hj hu=>by
       rcases Nat.lt_or_eq_of_le (Nat.le_of_lt_succ hj) with h|rfl
       ·exact HS.out j u h hu
       ·rw[HX.out] at hu;injection hu with hu
        rw[←hu];exact HI.out,HB2,HP2⟩
      case measure=>simp[intOf];omega
  ·obtain rfl:k=n:=by omega
   have HR2:=η (show true=res by rw[←HRES.out];exact(q91 fun j x hx=>HS.out j x (by have:=(List.getElem?_eq_some_iff.1 hx).1;rw[HN.out] at this;exact this) hx).symm);go_wp2;go_ret;exact⟨retb HR2.out,HBW.out⟩
theorem z5h{A:Option Addr}{l:List St.Slot}(c:Nat)(w:World)(h:IsLat w w.heap.size v names up)(hr:Row w w.heap.size A (fcells svs l))(hl:l.length≤1000) :
  Calls Tryz.prog 66 #[v,.slice A l.length c] w (Tells w (decide (l.length≤12)&&l.all (St.slotB up.length))):=by
 obtain⟨⟨N,U,c1,c2,rfl,hN,hU⟩,hsh,hfew,hcaps⟩:=id h;obtain⟨res,hres⟩:∃ res,(decide (l.length≤12)&&l.all (St.slotB up.length))=res:=⟨_,rfl⟩;rw[hres];have HRES:=η hres;clear hres;have HLB:=η (fun a W (hb:Below w.heap.size w W)=>q5e (v:=.agg #[.slice N names.length c1,.slice U up.length c2]) a W ((h.below hb).more hb.size));have HB0:=η ((Below.refl _ w).alloc (Nat.le_refl _) (.cells #[.slice N names.length c1,.slice U up.length c2] 25));have P0:=η (Blk.new w 25 #[.slice N names.length c1,.slice U up.length c2]);have H:=η hr;obtain⟨n,hn⟩:∃ n,l.length=n:=⟨_,rfl⟩;have HN:=η hn;rw[hn] at hl ⊢;clear h hN hU hr hn hsh hfew hcaps;go_enter Tryz.func66,Tryz.ntmps66;go_wp2;go_loopw [9] (fun i wr=>∃ k:Nat,k≤n∧i=.int .i64 k∧Hid (∀(j:Nat) (x:St.Slot),j<k→l[j]? = some x→St.slotB up.length x=true)∧Hid (Below w.heap.size w wr)∧Hid (Blk wr w.heap.size 25 #[.slice N names.length c1,.slice U up.length c2])) (fun i _=>n-(intOf i).toNat);case atStart=>exact⟨0,Nat.zero_le _,rfl,η fun j x hj=>absurd hj (Nat.not_lt_zero _),HB0,P0⟩
 case round =>
  clear HB0 P0;obtain⟨k,hk,rfl,HS,HBW,P0⟩:=hrel;by_cases hlt:k<n
  ·obtain⟨ad,x,rfl,hxb,hx,x0,x1,x2⟩:=q06 (H.out.below HBW.out) (show k<l.length by rw[HN.out];exact hlt);have hz:=HBW.out.size;have hxb2:(ad.add (k*3)).block<wr.heap.size:=by rw[q0a];omega
   have HX:=η hx;obtain⟨xr,xv,xl⟩:=x;dsimp only at x0 x1 x2;have hal:=(Below.refl wr.heap.size wr).alloc (Nat.le_refl _) (.cells #[.bool xr,.int .i64 xv,.int .i64 xl] 78);have hbw1:=HBW.out.trans (hal.mono HBW.out.size);have hp1:=P0.out.below hal P0.out.lt;have hbx:=Blk.new wr 78 #[.bool xr,.int .i64 xv,.int .i64 xl];have hc:=HLB.out xl _ hbw1;obtain⟨W1,hW1⟩:∃ W1,wr.alloc (.cells #[.bool xr,.int .i64 xv,.int .i64 xl] 78)=W1:=⟨_,rfl⟩;rw[hW1] at hbw1 hp1 hbx hc;obtain⟨a0,a1⟩:=ζ2 hp1;have s0:=hbx.cell 0;have s1:=hbx.cell 1;have s2:=hbx.cell 2;have HB1:=η hbw1;have HP1:=η hp1;have HBX:=η hbx;have hz1:=hbw1.size;have hblt:=hbx.lt;have hplt:=hp1.lt;have HC:=η hc;clear hx hal hbw1 hp1 hbx P0 hc HLB;by_cases h1:xv < -20
   ·have HR2:=η (show false=res by rw[←HRES.out];exact(q3w HX.out (show St.slotB up.length _=false by unfold St.slotB St.valB;dsimp only;rw[decide_eq_false (by omega)];rfl)).symm);clear HC;go_wp2;go_ret;exact⟨retb HR2.out,HB1.out⟩
   ·by_cases h2:20<xv
    ·have HR2:=η (show false=res by rw[←HRES.out];exact(q3w HX.out (show St.slotB up.length _=false by unfold St.slotB St.valB;dsimp only;rw[decide_eq_false (by omega)];rfl)).symm);clear HC;go_wp2;go_ret;exact⟨retb HR2.out,HB1.out⟩
    ·cases hb:St.labB up.length xl with
     | false =>
      rw[hb] at HC;have HR2:=η (show false=res by rw[←HRES.out];exact(q3w HX.out (show St.slotB up.length _=false by unfold St.slotB;dsimp only;rw[hb,Bool.and_false,Bool.false_and])).symm);clear hb;go_wp2_with (fail);refine HC.out.mono ?_;rintro e w2 ⟨rfl,hb2⟩;have HB2:=η (HB1.out.trans (hb2.mono HB1.out.size));have hbx2:=HBX.out.below hb2 HBX.out.lt;have t0:=hbx2.cell 0;have t1:=hbx2.cell 1;have t2:=hbx2.cell 2;have hb2l:=hbx2.lt;clear hbx2;clear hb2;go_wp2;go_ret;exact⟨retb HR2.out,HB2.out⟩
     | true =>
      rw[hb] at HC;cases xr with
      | false =>
       have HI:Hid (St.slotB up.length ⟨false,xv,xl⟩=true):=η (by unfold St.slotB St.valB;dsimp only;rw[hb,decide_eq_true (by omega)];rfl);clear hb;go_wp2_with (fail);refine HC.out.mono ?_;rintro e w2 ⟨rfl,hb2⟩;have HB2:=η (HB1.out.trans (hb2.mono HB1.out.size));have HP2:=η (HP1.out.below hb2 HP1.out.lt);have hbx2:=HBX.out.below hb2 HBX.out.lt;have t0:=hbx2.cell 0;have t1:=hbx2.cell 1;have t2:=hbx2.cell 2;have hb2l:=hbx2.lt;clear hbx2;clear hb2 a0 a1 s0 s1 s2;go_wp2;go_roundw
       case rel=>exact⟨k+1,by omega,by go_num,η fun j u hj hu=>by
        rcases Nat.lt_or_eq_of_le (Nat.le_of_lt_succ hj) with h|rfl
        ·exact HS.out j u h hu
        ·rw[HX.out] at hu;injection hu with hu
         rw[←hu];exact HI.out,HB2,HP2⟩
       case measure=>simp[intOf];omega
      | true =>
       by_cases h3:xv<0
       ·have HR2:=η (show false=res by rw[←HRES.out];exact(q3w HX.out (show St.slotB up.length _=false by unfold St.slotB St.pcB;dsimp only;rw[decide_eq_false (show ¬(0≤xv∧xv≤12) by omega),Bool.not_true,Bool.false_or,Bool.and_false])).symm);clear hb;go_wp2_with (fail);refine HC.out.mono ?_;rintro e w2 ⟨rfl,hb2⟩;have HB2:=η (HB1.out.trans (hb2.mono HB1.out.size));have hbx2:=HBX.out.below hb2 HBX.out.lt;have t0:=hbx2.cell 0;have t1:=hbx2.cell 1;have t2:=hbx2.cell 2;have hb2l:=hbx2.lt;clear hbx2;clear hb2;go_wp2;go_ret;exact⟨retb HR2.out,HB2.out⟩
       ·by_cases h4:12<xv
        ·have HR2:=η (show false=res by rw[←HRES.out];exact(q3w HX.out (show St.slotB up.length _=false by unfold St.slotB St.pcB;dsimp only;rw[decide_eq_false (show ¬(0≤xv∧xv≤12) by omega),Bool.not_true,Bool.false_or,Bool.and_false])).symm);clear hb;go_wp2_with (fail);refine HC.out.mono ?_;rintro e w2 ⟨rfl,hb2⟩;have HB2:=η (HB1.out.trans (hb2.mono HB1.out.size));have hbx2:=HBX.out.below hb2 HBX.out.lt;have t0:=hbx2.cell 0;have t1:=hbx2.cell 1;have t2:=hbx2.cell 2;have hb2l:=hbx2.lt;clear hbx2;clear hb2;go_wp2;go_ret;exact⟨retb HR2.out,HB2.out⟩
        ·have HI:Hid (St.slotB up.length ⟨true,xv,xl⟩=true):=η (by unfold St.slotB St.valB St.pcB;dsimp only;rw[hb,decide_eq_true (show -20≤xv∧xv≤20 by omega),decide_eq_true (show 0≤xv∧xv≤12 by omega)];rfl);clear hb;go_wp2_with (fail);refine HC.out.mono ?_;rintro e w2 ⟨rfl,hb2⟩;have HB2:=η (HB1.out.trans (hb2.mono HB1.out.size));have HP2:=η (HP1.out.below hb2 HP1.out.lt);have hbx2:=HBX.out.below hb2 HBX.out.lt;have t0:=hbx2.cell 0;have t1:=hbx2.cell 1;have t2:=hbx2.cell 2;have hb2l:=hbx2.lt;clear hbx2;clear hb2 a0 a1 s0 s1 s2;go_wp2;go_roundw
         case rel=>exact⟨k+1,by omega,by go_num,η fun j u hj hu=>by
          rcases Nat.lt_or_eq_of_le (Nat.le_of_lt_succ hj) with h|rfl
          ·exact HS.out j u h hu
          ·rw[HX.out] at hu;injection hu with hu
           rw[←hu];exact HI.out,HB2,HP2⟩
         case measure=>simp[intOf];omega
  ·obtain rfl:k=n:=by omega
   have hrt:res=decide (k≤12):=by
    rw[←HRES.out,q91 fun j x hx=>HS.out j x (by have:=(List.getElem?_eq_some_iff.1 hx).1;rw[HN.out] at this;exact this) hx,Bool.and_true,HN.out]
   have hrt2:decide ((k:Int)≤12)=res:=by
    rw[hrt];by_cases h:k≤12
    ·rw[decide_eq_true h,decide_eq_true (by omega)]
    ·rw[decide_eq_false h,decide_eq_false (by omega)]
   have HRT:=η hrt2;clear hrt hrt2;go_wp2;go_ret;exact⟨retb HRT.out,HBW.out⟩
end
theorem z1c(k:Nat)(s:St.State):St.rightB k s=(Cd.rightB k s.code&&(decide (0≤s.pc.v)&&(decide (s.pc.v≤12)&&(St.labB k s.pc.l&&(s.mem.all (St.atomB k)&&(decide (s.mem.length≤6)&&((decide (s.stack.length≤12)&&s.stack.all (St.slotB k))&&(s.out.all (St.atomB k)&&decide (s.out.length≤8))))))))):=by
 unfold St.rightB St.pcB;rw[Bool.eq_iff_iff];simp only[Bool.and_eq_true,decide_eq_true_eq];constructor
 ·rintro⟨⟨⟨⟨a,⟨⟨b,c⟩,d⟩⟩,⟨e,f⟩⟩,⟨g,h⟩⟩,⟨i,j⟩⟩;exact⟨a,b,c,d,f,e,⟨g,h⟩,j,i⟩
 ·rintro⟨a,b,c,d,f,e,⟨g,h⟩,j,i⟩;exact⟨⟨⟨⟨a,⟨⟨b,c⟩,d⟩⟩,⟨e,f⟩⟩,⟨g,h⟩⟩,⟨i,j⟩⟩
theorem q4n{v sv:Value}{names:List ByteArray}{up:List Nat}{s:St.State}(w:World)(h:IsLat w w.heap.size v names up)(hs:IsSt w w.heap.size sv s)(hsm:SmallS s) :
  Calls Tryz.prog 34 #[v,sv] w (Tells w (St.rightB up.length s)):=by
 rw[z1c];obtain⟨⟨N,U,c1,c2,rfl,hN,hU⟩,hsh,hfew,hcaps⟩:=id h;obtain⟨⟨pv,pl⟩,code,mem,stack,out⟩:=s;obtain⟨cv,mv,stv_,ov,rfl,⟨cA,cc,rfl,hcr,hcc⟩,⟨mA,mc,rfl,hmr,hmc⟩,⟨sA,sc,rfl,hsr,hsc⟩,⟨oA,oc,rfl,hor,hoc⟩⟩:=hs;obtain⟨hs1,hs2,hs3,hs4⟩:=hsm;dsimp only at hcr hcc hmr hmc hsr hsc hor hoc hs1 hs2 hs3 hs4 ⊢;unfold stv;dsimp only;have HC1:=η (fun W (hb:Below w.heap.size w W)=>z2x cc W ((h.below hb).more hb.size) ((hcr.below hb).more hb.size) hs1);have HC2:=η (fun W (hb:Below w.heap.size w W)=>q5e pl W ((h.below hb).more hb.size));have HC3:=η (fun W (hb:Below w.heap.size w W)=>q8c mc W ((h.below hb).more hb.size) ((hmr.below hb).more hb.size) hs2);have HC4:=η (fun W (hb:Below w.heap.size w W)=>z5h sc W ((h.below hb).more hb.size) ((hsr.below hb).more hb.size) hs3);have HC5:=η (fun W (hb:Below w.heap.size w W)=>q8c oc W ((h.below hb).more hb.size) ((hor.below hb).more hb.size) hs4);have hb:=(((Below.refl _ w).alloc (Nat.le_refl _) (.cells #[.slice N names.length c1,.slice U up.length c2] 25)).alloc (by simp) (.cells #[.int .i64 pv,.int .i64 pl,.slice cA code.length cc,.slice mA mem.length mc,.slice sA stack.length sc,.slice oA out.length oc] 35));obtain⟨W0,hW0⟩:∃ W0,(w.alloc (.cells #[.slice N names.length c1,.slice U up.length c2] 25)).alloc (.cells #[.int .i64 pv,.int .i64 pl,.slice cA code.length cc,.slice mA mem.length mc,.slice sA stack.length sc,.slice oA out.length oc] 35)=W0:=⟨_,rfl⟩;have hp0:Blk W0 w.heap.size 25 #[.slice N names.length c1,.slice U up.length c2]:=hW0▸(Blk.new _ _ _).alloc _;have hp1:Blk W0 (w.heap.size+1) 35 #[.int .i64 pv,.int .i64 pl,.slice cA code.length cc,.slice mA mem.length mc,.slice sA stack.length sc,.slice oA out.length oc]:=by
  have h1:=Blk.new (w.alloc (.cells #[.slice N names.length c1,.slice U up.length c2] 25)) 35 #[.int .i64 pv,.int .i64 pl,.slice cA code.length cc,.slice mA mem.length mc,.slice sA stack.length sc,.slice oA out.length oc];rw[show(w.alloc (.cells #[.slice N names.length c1,.slice U up.length c2] 25)).heap.size=w.heap.size+1 by simp] at h1;rw[←hW0];exact h1
 rw[hW0] at hb;have HB:=η hb;have HP0:=η hp0;have HP1:=η hp1;clear h hN hU hcr hmr hsr hor hb hp0 hp1;obtain⟨a0,a1⟩:=ζ2 HP0.out;obtain⟨s0,s1,s2,s3,s4,s5⟩:=ζ6 HP1.out;generalize Cd.rightB up.length code=b1 at *;generalize St.labB up.length pl=b2 at *;generalize mem.all (St.atomB up.length)=b3 at *;generalize (decide (stack.length≤12)&&stack.all (St.slotB up.length))=b4 at *;generalize out.all (St.atomB up.length)=b5 at *;cases b1 with
 | false =>
  rw[Bool.false_and];go_enter Tryz.func34,Tryz.ntmps34;go_wp2_with (fail);refine(HC1.out W0 HB.out).mono ?_;rintro e W1 ⟨rfl,hb9⟩;have hp0:=HP0.out.below hb9 HP0.out.lt;have hp1:=HP1.out.below hb9 HP1.out.lt;have hb:=HB.out.trans (hb9.mono HB.out.size);clear hb9 HB HP0 HP1 a0 a1 s0 s1 s2 s3 s4 s5;have HB:=η hb;have HP0:=η hp0;have HP1:=η hp1;clear hb hp0 hp1;obtain⟨a0,a1⟩:=ζ2 HP0.out;obtain⟨s0,s1,s2,s3,s4,s5⟩:=ζ6 HP1.out;go_wp2;go_ret;exact⟨rfl,HB.out⟩
 | true =>
  rw[Bool.true_and];by_cases k0:0≤pv
  ·rw[decide_eq_true k0,Bool.true_and];by_cases k12:pv≤12
   ·rw[decide_eq_true k12,Bool.true_and];cases b2 with
    | false =>
     rw[Bool.false_and];go_enter Tryz.func34,Tryz.ntmps34;go_wp2_with (fail);refine(HC1.out W0 HB.out).mono ?_;rintro e W1 ⟨rfl,hb9⟩;have hp0:=HP0.out.below hb9 HP0.out.lt;have hp1:=HP1.out.below hb9 HP1.out.lt;have hb:=HB.out.trans (hb9.mono HB.out.size);clear hb9 HB HP0 HP1 a0 a1 s0 s1 s2 s3 s4 s5;have HB:=η hb;have HP0:=η hp0;have HP1:=η hp1;clear hb hp0 hp1;obtain⟨a0,a1⟩:=ζ2 HP0.out;obtain⟨s0,s1,s2,s3,s4,s5⟩:=ζ6 HP1.out;go_wp2_with (fail);refine(HC2.out W1 HB.out).mono ?_;rintro e W2 ⟨rfl,hb9⟩;have hp0:=HP0.out.below hb9 HP0.out.lt;have hp1:=HP1.out.below hb9 HP1.out.lt;have hb:=HB.out.trans (hb9.mono HB.out.size);clear hb9 HB HP0 HP1 a0 a1 s0 s1 s2 s3 s4 s5;have HB:=η hb;have HP0:=η hp0;have HP1:=η hp1;clear hb hp0 hp1;obtain⟨a0,a1⟩:=ζ2 HP0.out;obtain⟨s0,s1,s2,s3,s4,s5⟩:=ζ6 HP1.out;go_wp2;go_ret;exact⟨rfl,HB.out⟩
    | true =>
     rw[Bool.true_and];cases b3 with
     | false =>
      rw[Bool.false_and];go_enter Tryz.func34,Tryz.ntmps34;go_wp2_with (fail);refine(HC1.out W0 HB.out).mono ?_;rintro e W1 ⟨rfl,hb9⟩;have hp0:=HP0.out.below hb9 HP0.out.lt;have hp1:=HP1.out.below hb9 HP1.out.lt;have hb:=HB.out.trans (hb9.mono HB.out.size);clear hb9 HB HP0 HP1 a0 a1 s0 s1 s2 s3 s4 s5;have HB:=η hb;have HP0:=η hp0;have HP1:=η hp1;clear hb hp0 hp1;obtain⟨a0,a1⟩:=ζ2 HP0.out;obtain⟨s0,s1,s2,s3,s4,s5⟩:=ζ6 HP1.out;go_wp2_with (fail);refine(HC2.out W1 HB.out).mono ?_;rintro e W2 ⟨rfl,hb9⟩;have hp0:=HP0.out.below hb9 HP0.out.lt;have hp1:=HP1.out.below hb9 HP1.out.lt;have hb:=HB.out.trans (hb9.mono HB.out.size);clear hb9 HB HP0 HP1 a0 a1 s0 s1 s2 s3 s4 s5;have HB:=η hb;have HP0:=η hp0;have HP1:=η hp1;clear hb hp0 hp1;obtain⟨a0,a1⟩:=ζ2 HP0.out;obtain⟨s0,s1,s2,s3,s4,s5⟩:=ζ6 HP1.out;go_wp2_with (fail);refine(HC3.out W2 HB.out).mono ?_;rintro e W3 ⟨rfl,hb9⟩;have hp0:=HP0.out.below hb9 HP0.out.lt;have hp1:=HP1.out.below hb9 HP1.out.lt;have hb:=HB.out.trans (hb9.mono HB.out.size);clear hb9 HB HP0 HP1 a0 a1 s0 s1 s2 s3 s4 s5;have HB:=η hb;have HP0:=η hp0;have HP1:=η hp1;clear hb hp0 hp1;obtain⟨a0,a1⟩:=ζ2 HP0.out;obtain⟨s0,s1,s2,s3,s4,s5⟩:=ζ6 HP1.out;go_wp2;go_ret;exact⟨rfl,HB.out⟩
     | true =>
      rw[Bool.true_and];by_cases k6:mem.length≤6
      ·rw[decide_eq_true k6,Bool.true_and];cases b4 with
       | false =>
        rw[Bool.false_and];go_enter Tryz.func34,Tryz.ntmps34;go_wp2_with (fail);refine(HC1.out W0 HB.out).mono ?_;rintro e W1 ⟨rfl,hb9⟩;have hp0:=HP0.out.below hb9 HP0.out.lt;have hp1:=HP1.out.below hb9 HP1.out.lt;have hb:=HB.out.trans (hb9.mono HB.out.size);clear hb9 HB HP0 HP1 a0 a1 s0 s1 s2 s3 s4 s5;have HB:=η hb;have HP0:=η hp0;have HP1:=η hp1;clear hb hp0 hp1;obtain⟨a0,a1⟩:=ζ2 HP0.out;obtain⟨s0,s1,s2,s3,s4,s5⟩:=ζ6 HP1.out;go_wp2_with (fail);refine(HC2.out W1 HB.out).mono ?_;rintro e W2 ⟨rfl,hb9⟩;have hp0:=HP0.out.below hb9 HP0.out.lt;have hp1:=HP1.out.below hb9 HP1.out.lt;have hb:=HB.out.trans (hb9.mono HB.out.size);clear hb9 HB HP0 HP1 a0 a1 s0 s1 s2 s3 s4 s5;have HB:=η hb;have HP0:=η hp0;have HP1:=η hp1;clear hb hp0 hp1;obtain⟨a0,a1⟩:=ζ2 HP0.out;obtain⟨s0,s1,s2,s3,s4,s5⟩:=ζ6 HP1.out;go_wp2_with (fail);refine(HC3.out W2 HB.out).mono ?_;rintro e W3 ⟨rfl,hb9⟩;have hp0:=HP0.out.below hb9 HP0.out.lt;have hp1:=HP1.out.below hb9 HP1.out.lt;have hb:=HB.out.trans (hb9.mono HB.out.size);clear hb9 HB HP0 HP1 a0 a1 s0 s1 s2 s3 s4 s5;have HB:=η hb;have HP0:=η hp0;have HP1:=η hp1;clear hb hp0 hp1;obtain⟨a0,a1⟩:=ζ2 HP0.out;obtain⟨s0,s1,s2,s3,s4,s5⟩:=ζ6 HP1.out;go_wp2_with (fail);refine(HC4.out W3 HB.out).mono ?_;rintro e W4 ⟨rfl,hb9⟩;have hp0:=HP0.out.below hb9 HP0.out.lt;have hp1:=HP1.out.below hb9 HP1.out.lt;have hb:=HB.out.trans (hb9.mono HB.out.size);clear hb9 HB HP0 HP1 a0 a1 s0 s1 s2 s3 s4 s5;have HB:=η hb;have HP0:=η hp0;have HP1:=η hp1;clear hb hp0 hp1;obtain⟨a0,a1⟩:=ζ2 HP0.out;obtain⟨s0,s1,s2,s3,s4,s5⟩:=ζ6 HP1.out;go_wp2;go_ret;exact⟨rfl,HB.out⟩
       | true =>
        rw[Bool.true_and];cases b5 with
        | false =>
         rw[Bool.false_and];go_enter Tryz.func34,Tryz.ntmps34;go_wp2_with (fail);refine(HC1.out W0 HB.out).mono ?_;rintro e W1 ⟨rfl,hb9⟩;have hp0:=HP0.out.below hb9 HP0.out.lt;have hp1:=HP1.out.below hb9 HP1.out.lt;have hb:=HB.out.trans (hb9.mono HB.out.size);clear hb9 HB HP0 HP1 a0 a1 s0 s1 s2 s3 s4 s5;have HB:=η hb;have HP0:=η hp0;have HP1:=η hp1;clear hb hp0 hp1;obtain⟨a0,a1⟩:=ζ2 HP0.out;obtain⟨s0,s1,s2,s3,s4,s5⟩:=ζ6 HP1.out;go_wp2_with (fail);refine(HC2.out W1 HB.out).mono ?_;rintro e W2 ⟨rfl,hb9⟩;have hp0:=HP0.out.below hb9 HP0.out.lt;have hp1:=HP1.out.below hb9 HP1.out.lt;have hb:=HB.out.trans (hb9.mono HB.out.size);clear hb9 HB HP0 HP1 a0 a1 s0 s1 s2 s3 s4 s5;have HB:=η hb;have HP0:=η hp0;have HP1:=η hp1;clear hb hp0 hp1;obtain⟨a0,a1⟩:=ζ2 HP0.out;obtain⟨s0,s1,s2,s3,s4,s5⟩:=ζ6 HP1.out;go_wp2_with (fail);refine(HC3.out W2 HB.out).mono ?_;rintro e W3 ⟨rfl,hb9⟩;have hp0:=HP0.out.below hb9 HP0.out.lt;have hp1:=HP1.out.below hb9 HP1.out.lt;have hb:=HB.out.trans (hb9.mono HB.out.size);clear hb9 HB HP0 HP1 a0 a1 s0 s1 s2 s3 s4 s5;have HB:=η hb;have HP0:=η hp0;have HP1:=η hp1;clear hb hp0 hp1;obtain⟨a0,a1⟩:=ζ2 HP0.out;obtain⟨s0,s1,s2,s3,s4,s5⟩:=ζ6 HP1.out;go_wp2_with (fail);refine(HC4.out W3 HB.out).mono ?_;rintro e W4 ⟨rfl,hb9⟩;have hp0:=HP0.out.below hb9 HP0.out.lt;have hp1:=HP1.out.below hb9 HP1.out.lt;have hb:=HB.out.trans (hb9.mono HB.out.size);clear hb9 HB HP0 HP1 a0 a1 s0 s1 s2 s3 s4 s5;have HB:=η hb;have HP0:=η hp0;have HP1:=η hp1;clear hb hp0 hp1;obtain⟨a0,a1⟩:=ζ2 HP0.out;obtain⟨s0,s1,s2,s3,s4,s5⟩:=ζ6 HP1.out;go_wp2_with (fail);refine(HC5.out W4 HB.out).mono ?_;rintro e W5 ⟨rfl,hb9⟩;have hp0:=HP0.out.below hb9 HP0.out.lt;have hp1:=HP1.out.below hb9 HP1.out.lt;have hb:=HB.out.trans (hb9.mono HB.out.size);clear hb9 HB HP0 HP1 a0 a1 s0 s1 s2 s3 s4 s5;have HB:=η hb;have HP0:=η hp0;have HP1:=η hp1;clear hb hp0 hp1;obtain⟨a0,a1⟩:=ζ2 HP0.out;obtain⟨s0,s1,s2,s3,s4,s5⟩:=ζ6 HP1.out;go_wp2;go_ret;exact⟨rfl,HB.out⟩
        | true =>
         rw[Bool.true_and];by_cases k8:out.length≤8
         ·rw[decide_eq_true k8];have k8i:((out.length:Int)≤8)=True:=eq_true (by omega);go_enter Tryz.func34,Tryz.ntmps34;go_wp2_with (fail);refine(HC1.out W0 HB.out).mono ?_;rintro e W1 ⟨rfl,hb9⟩;have hp0:=HP0.out.below hb9 HP0.out.lt;have hp1:=HP1.out.below hb9 HP1.out.lt;have hb:=HB.out.trans (hb9.mono HB.out.size);clear hb9 HB HP0 HP1 a0 a1 s0 s1 s2 s3 s4 s5;have HB:=η hb;have HP0:=η hp0;have HP1:=η hp1;clear hb hp0 hp1;obtain⟨a0,a1⟩:=ζ2 HP0.out;obtain⟨s0,s1,s2,s3,s4,s5⟩:=ζ6 HP1.out;go_wp2_with (fail);refine(HC2.out W1 HB.out).mono ?_;rintro e W2 ⟨rfl,hb9⟩;have hp0:=HP0.out.below hb9 HP0.out.lt;have hp1:=HP1.out.below hb9 HP1.out.lt;have hb:=HB.out.trans (hb9.mono HB.out.size);clear hb9 HB HP0 HP1 a0 a1 s0 s1 s2 s3 s4 s5;have HB:=η hb;have HP0:=η hp0;have HP1:=η hp1;clear hb hp0 hp1;obtain⟨a0,a1⟩:=ζ2 HP0.out;obtain⟨s0,s1,s2,s3,s4,s5⟩:=ζ6 HP1.out;go_wp2_with (fail);refine(HC3.out W2 HB.out).mono ?_;rintro e W3 ⟨rfl,hb9⟩;have hp0:=HP0.out.below hb9 HP0.out.lt;have hp1:=HP1.out.below hb9 HP1.out.lt;have hb:=HB.out.trans (hb9.mono HB.out.size);clear hb9 HB HP0 HP1 a0 a1 s0 s1 s2 s3 s4 s5;have HB:=η hb;have HP0:=η hp0;have HP1:=η hp1;clear hb hp0 hp1;obtain⟨a0,a1⟩:=ζ2 HP0.out;obtain⟨s0,s1,s2,s3,s4,s5⟩:=ζ6 HP1.out;go_wp2_with (fail);refine(HC4.out W3 HB.out).mono ?_;rintro e W4 ⟨rfl,hb9⟩;have hp0:=HP0.out.below hb9 HP0.out.lt;have hp1:=HP1.out.below hb9 HP1.out.lt;have hb:=HB.out.trans (hb9.mono HB.out.size);clear hb9 HB HP0 HP1 a0 a1 s0 s1 s2 s3 s4 s5;have HB:=η hb;have HP0:=η hp0;have HP1:=η hp1;clear hb hp0 hp1;obtain⟨a0,a1⟩:=ζ2 HP0.out;obtain⟨s0,s1,s2,s3,s4,s5⟩:=ζ6 HP1.out;go_wp2_with (fail);refine(HC5.out W4 HB.out).mono ?_;rintro e W5 ⟨rfl,hb9⟩;have hp0:=HP0.out.below hb9 HP0.out.lt;have hp1:=HP1.out.below hb9 HP1.out.lt;have hb:=HB.out.trans (hb9.mono HB.out.size);clear hb9 HB HP0 HP1 a0 a1 s0 s1 s2 s3 s4 s5;have HB:=η hb;have HP0:=η hp0;have HP1:=η hp1;clear hb hp0 hp1;obtain⟨a0,a1⟩:=ζ2 HP0.out;obtain⟨s0,s1,s2,s3,s4,s5⟩:=ζ6 HP1.out;go_wp2;go_ret;exact⟨rfl,HB.out⟩
         ·rw[decide_eq_false k8];have k8i:((out.length:Int)≤8)=False:=eq_false (by omega);go_enter Tryz.func34,Tryz.ntmps34;go_wp2_with (fail);refine(HC1.out W0 HB.out).mono ?_;rintro e W1 ⟨rfl,hb9⟩;have hp0:=HP0.out.below hb9 HP0.out.lt;have hp1:=HP1.out.below hb9 HP1.out.lt;have hb:=HB.out.trans (hb9.mono HB.out.size);clear hb9 HB HP0 HP1 a0 a1 s0 s1 s2 s3 s4 s5;have HB:=η hb;have HP0:=η hp0;have HP1:=η hp1;clear hb hp0 hp1;obtain⟨a0,a1⟩:=ζ2 HP0.out;obtain⟨s0,s1,s2,s3,s4,s5⟩:=ζ6 HP1.out;go_wp2_with (fail);refine(HC2.out W1 HB.out).mono ?_;rintro e W2 ⟨rfl,hb9⟩;have hp0:=HP0.out.below hb9 HP0.out.lt;have hp1:=HP1.out.below hb9 HP1.out.lt;have hb:=HB.out.trans (hb9.mono HB.out.size);clear hb9 HB HP0 HP1 a0 a1 s0 s1 s2 s3 s4 s5;have HB:=η hb;have HP0:=η hp0;have HP1:=η hp1;clear hb hp0 hp1;obtain⟨a0,a1⟩:=ζ2 HP0.out;obtain⟨s0,s1,s2,s3,s4,s5⟩:=ζ6 HP1.out;go_wp2_with (fail);refine(HC3.out W2 HB.out).mono ?_;rintro e W3 ⟨rfl,hb9⟩;have hp0:=HP0.out.below hb9 HP0.out.lt;have hp1:=HP1.out.below hb9 HP1.out.lt;have hb:=HB.out.trans (hb9.mono HB.out.size);clear hb9 HB HP0 HP1 a0 a1 s0 s1 s2 s3 s4 s5;have HB:=η hb;have HP0:=η hp0;have HP1:=η hp1;clear hb hp0 hp1;obtain⟨a0,a1⟩:=ζ2 HP0.out;obtain⟨s0,s1,s2,s3,s4,s5⟩:=ζ6 HP1.out;go_wp2_with (fail);refine(HC4.out W3 HB.out).mono ?_;rintro e W4 ⟨rfl,hb9⟩;have hp0:=HP0.out.below hb9 HP0.out.lt;have hp1:=HP1.out.below hb9 HP1.out.lt;have hb:=HB.out.trans (hb9.mono HB.out.size);clear hb9 HB HP0 HP1 a0 a1 s0 s1 s2 s3 s4 s5;have HB:=η hb;have HP0:=η hp0;have HP1:=η hp1;clear hb hp0 hp1;obtain⟨a0,a1⟩:=ζ2 HP0.out;obtain⟨s0,s1,s2,s3,s4,s5⟩:=ζ6 HP1.out;go_wp2_with (fail);refine(HC5.out W4 HB.out).mono ?_;rintro e W5 ⟨rfl,hb9⟩;have hp0:=HP0.out.below hb9 HP0.out.lt;have hp1:=HP1.out.below hb9 HP1.out.lt;have hb:=HB.out.trans (hb9.mono HB.out.size);clear hb9 HB HP0 HP1 a0 a1 s0 s1 s2 s3 s4 s5;have HB:=η hb;have HP0:=η hp0;have HP1:=η hp1;clear hb hp0 hp1;obtain⟨a0,a1⟩:=ζ2 HP0.out;obtain⟨s0,s1,s2,s3,s4,s5⟩:=ζ6 HP1.out;go_wp2;go_ret;exact⟨rfl,HB.out⟩
      ·rw[decide_eq_false k6,Bool.false_and];go_enter Tryz.func34,Tryz.ntmps34;go_wp2_with (fail);refine(HC1.out W0 HB.out).mono ?_;rintro e W1 ⟨rfl,hb9⟩;have hp0:=HP0.out.below hb9 HP0.out.lt;have hp1:=HP1.out.below hb9 HP1.out.lt;have hb:=HB.out.trans (hb9.mono HB.out.size);clear hb9 HB HP0 HP1 a0 a1 s0 s1 s2 s3 s4 s5;have HB:=η hb;have HP0:=η hp0;have HP1:=η hp1;clear hb hp0 hp1;obtain⟨a0,a1⟩:=ζ2 HP0.out;obtain⟨s0,s1,s2,s3,s4,s5⟩:=ζ6 HP1.out;go_wp2_with (fail);refine(HC2.out W1 HB.out).mono ?_;rintro e W2 ⟨rfl,hb9⟩;have hp0:=HP0.out.below hb9 HP0.out.lt;have hp1:=HP1.out.below hb9 HP1.out.lt;have hb:=HB.out.trans (hb9.mono HB.out.size);clear hb9 HB HP0 HP1 a0 a1 s0 s1 s2 s3 s4 s5;have HB:=η hb;have HP0:=η hp0;have HP1:=η hp1;clear hb hp0 hp1;obtain⟨a0,a1⟩:=ζ2 HP0.out;obtain⟨s0,s1,s2,s3,s4,s5⟩:=ζ6 HP1.out;go_wp2_with (fail);refine(HC3.out W2 HB.out).mono ?_;rintro e W3 ⟨rfl,hb9⟩;have hp0:=HP0.out.below hb9 HP0.out.lt;have hp1:=HP1.out.below hb9 HP1.out.lt;have hb:=HB.out.trans (hb9.mono HB.out.size);clear hb9 HB HP0 HP1 a0 a1 s0 s1 s2 s3 s4 s5;have HB:=η hb;have HP0:=η hp0;have HP1:=η hp1;clear hb hp0 hp1;obtain⟨a0,a1⟩:=ζ2 HP0.out;obtain⟨s0,s1,s2,s3,s4,s5⟩:=ζ6 HP1.out;go_wp2;go_ret;exact⟨rfl,HB.out⟩
   ·rw[decide_eq_false k12,Bool.false_and];go_enter Tryz.func34,Tryz.ntmps34;go_wp2_with (fail);refine(HC1.out W0 HB.out).mono ?_;rintro e W1 ⟨rfl,hb9⟩;have hp0:=HP0.out.below hb9 HP0.out.lt;have hp1:=HP1.out.below hb9 HP1.out.lt;have hb:=HB.out.trans (hb9.mono HB.out.size);clear hb9 HB HP0 HP1 a0 a1 s0 s1 s2 s3 s4 s5;have HB:=η hb;have HP0:=η hp0;have HP1:=η hp1;clear hb hp0 hp1;obtain⟨a0,a1⟩:=ζ2 HP0.out;obtain⟨s0,s1,s2,s3,s4,s5⟩:=ζ6 HP1.out;go_wp2;go_ret;exact⟨rfl,HB.out⟩
  ·rw[decide_eq_false k0,Bool.false_and];go_enter Tryz.func34,Tryz.ntmps34;go_wp2_with (fail);refine(HC1.out W0 HB.out).mono ?_;rintro e W1 ⟨rfl,hb9⟩;have hp0:=HP0.out.below hb9 HP0.out.lt;have hp1:=HP1.out.below hb9 HP1.out.lt;have hb:=HB.out.trans (hb9.mono HB.out.size);clear hb9 HB HP0 HP1 a0 a1 s0 s1 s2 s3 s4 s5;have HB:=η hb;have HP0:=η hp0;have HP1:=η hp1;clear hb hp0 hp1;obtain⟨a0,a1⟩:=ζ2 HP0.out;obtain⟨s0,s1,s2,s3,s4,s5⟩:=ζ6 HP1.out;go_wp2;go_ret;exact⟨rfl,HB.out⟩
theorem j2d:SmallS St.zero:=⟨Nat.zero_le _,Nat.zero_le _,Nat.zero_le _,Nat.zero_le _⟩
def ansF(w W:World)(a b c d e f:Value):World:=(((((W.setCell ⟨w.heap.size+1,0,none⟩ a).setCell ⟨w.heap.size+1,1,none⟩ b).setCell ⟨w.heap.size+1,2,none⟩ c).setCell ⟨w.heap.size+1,3,none⟩ d).setCell ⟨w.heap.size+1,4,none⟩ e).setCell ⟨w.heap.size+1,5,none⟩ f
theorem z77{w W:World}{t:TypeId}{a b c d e f y0 y1 y2 y3 y4 y5:Value}(h:Blk W (w.heap.size+1) t #[y0,y1,y2,y3,y4,y5]):Blk (ansF w W a b c d e f) (w.heap.size+1) t #[a,b,c,d,e,f] :=
 (((((h.set_ 0 a).set_ 1 b).set_ 2 c).set_ 3 d).set_ 4 e).set_ 5 f
theorem Blk.drew9{W:World}{t:TypeId}{g:Nat}{cs:Array Value}(h:Blk W g t cs):Blk W.drew g t cs:=h
theorem z4c{w W w0:World}{a b c d e f:Value}(h:Below w.heap.size w0 W):Below w.heap.size w0 (ansF w W a b c d e f) :=
 (((((h.setCell (by show w.heap.size≤w.heap.size+1;omega) a).setCell (by show w.heap.size≤w.heap.size+1;omega) b).setCell (by show w.heap.size≤w.heap.size+1;omega) c).setCell (by show w.heap.size≤w.heap.size+1;omega) d).setCell (by show w.heap.size≤w.heap.size+1;omega) e).setCell (by show w.heap.size≤w.heap.size+1;omega) f
theorem eqF2{P:Program}{it:TypeId}(hu:P.underlying it=some (.int .i64))(hp:P.plainKey it=true)(w:World)(d:Nat)(f0 f1:Field)(h0:f0.name≠ "_"∧f0.type=it∧f0.offset=0)(h1:f1.name≠ "_"∧f1.type=it∧f1.offset=1)(a0 a1 b0 b1:Int) :
  (Op.eqFields (d+1) #[.int .i64 a0,.int .i64 a1] #[.int .i64 b0,.int .i64 b1] [f0,f1]).run P w=.ok (a0==b0&&a1==b1) w:=by
 have p:∀(xs:Array Value) (off:Nat) (v:Value),xs[off]? = some v→(part it xs off).run P w=.ok v w:=fun xs off v h=>run_part_plain w hp h
 have p0:∀ a b:Int,(part it #[.int .i64 a,.int .i64 b] 0).run P w=.ok (.int .i64 a) w:=fun a b=>p _ _ _ rfl
 have p1:∀ a b:Int,(part it #[.int .i64 a,.int .i64 b] 1).run P w=.ok (.int .i64 b) w:=fun a b=>p _ _ _ rfl
 have q:∀ a b:Int,(Op.equalIn (d+1) it (.int .i64 a) (.int .i64 b)).run P w=.ok (a==b) w:=fun a b=>run_equalIn_int w d it .i64 .i64 a b hu
 obtain⟨n0,t0,o0⟩:=h0;obtain⟨n1,t1,o1⟩:=h1;simp only[Op.eqFields,n0,n1,t0,t1,o0,o1,ne_eq,not_false_eq_true,if_true,Sem.run_bind,Sem.run_ite,Sem.run_pure,p0,p1,q,Result.andThen_ok];generalize (a0==b0)=u0;generalize (a1==b1)=u1;clear p p0 p1 q;cases u0<;>cases u1<;>simp
theorem j2b{P:Program}{bt it:TypeId}(hub:P.underlying bt=some .bool)(hpb:P.plainKey bt=true)(hu:P.underlying it=some (.int .i64))(hp:P.plainKey it=true)(w:World)(d:Nat)(f0 f1 f2:Field)(h0:f0.name≠ "_"∧f0.type=bt∧f0.offset=0)(h1:f1.name≠ "_"∧f1.type=it∧f1.offset=1)(h2:f2.name≠ "_"∧f2.type=it∧f2.offset=2)(a0 b0:Bool)(a1 a2 b1 b2:Int) :
  (Op.eqFields (d+1) #[.bool a0,.int .i64 a1,.int .i64 a2] #[.bool b0,.int .i64 b1,.int .i64 b2] [f0,f1,f2]).run P w=.ok (a0==b0&&(a1==b1&&a2==b2)) w:=by
 have p:∀(xs:Array Value) (off:Nat) (v:Value),xs[off]? = some v→(part it xs off).run P w=.ok v w:=fun xs off v h=>run_part_plain w hp h
 have p0:∀(a:Bool) (b c:Int),(part bt #[.bool a,.int .i64 b,.int .i64 c] 0).run P w=.ok (.bool a) w:=fun a b c=>run_part_plain w hpb rfl
 have p1:∀(a:Bool) (b c:Int),(part it #[.bool a,.int .i64 b,.int .i64 c] 1).run P w=.ok (.int .i64 b) w:=fun a b c=>p _ _ _ rfl
 have p2:∀(a:Bool) (b c:Int),(part it #[.bool a,.int .i64 b,.int .i64 c] 2).run P w=.ok (.int .i64 c) w:=fun a b c=>p _ _ _ rfl
 have q0:∀ a b:Bool,(Op.equalIn (d+1) bt (.bool a) (.bool b)).run P w=.ok (a==b) w:=fun a b=>run_equalIn_bool w d bt a b hub
 have q:∀ a b:Int,(Op.equalIn (d+1) it (.int .i64 a) (.int .i64 b)).run P w=.ok (a==b) w:=fun a b=>run_equalIn_int w d it .i64 .i64 a b hu
 obtain⟨n0,t0,o0⟩:=h0;obtain⟨n1,t1,o1⟩:=h1;obtain⟨n2,t2,o2⟩:=h2;simp only[Op.eqFields,n0,n1,n2,t0,t1,t2,o0,o1,o2,ne_eq,not_false_eq_true,if_true,Sem.run_bind,Sem.run_ite,Sem.run_pure,p0,p1,p2,q0,q,Result.andThen_ok];generalize (a0==b0)=u0;generalize (a1==b1)=u1;generalize (a2==b2)=u2;clear p p0 p1 p2 q q0;cases u0<;>cases u1<;>cases u2<;>simp
theorem z9y(x y:St.Atom)(w:World):(Op.equalIn 10000 30 (.agg #[.int .i64 x.v,.int .i64 x.l]) (.agg #[.int .i64 y.v,.int .i64 y.l])).run Tryz.prog w=.ok (decide (x=y)) w:=by
 have hd:decide (x=y)=(x.v==y.v&&x.l==y.l):=by
  obtain⟨a,b⟩:=x;obtain⟨d,e⟩:=y;rw[Bool.eq_iff_iff];simp
 have hl:(Tryz.prog.fieldsOf 30).toList=[(Tryz.prog.fieldsOf 30).getD 0 ⟨ "",0,0,false,"","",0⟩,(Tryz.prog.fieldsOf 30).getD 1 ⟨ "",0,0,false,"","",0⟩]:=by kernel_rfl
 rw[hd,run_equalIn_struct w 9999 30 _ _ (by kernel_rfl) (by kernel_rfl),hl];exact eqF2 Tryz.underlying3 (by kernel_rfl) w 9998 _ _ ⟨by decide +kernel,by kernel_rfl,by kernel_rfl⟩ ⟨by decide +kernel,by kernel_rfl,by kernel_rfl⟩ _ _ _ _
theorem z1g(x y:St.Slot)(w:World):(Op.equalIn 10000 78 (.agg #[.bool x.ret,.int .i64 x.v,.int .i64 x.l]) (.agg #[.bool y.ret,.int .i64 y.v,.int .i64 y.l])).run Tryz.prog w=.ok (decide (x=y)) w:=by
 have hd:decide (x=y)=(x.ret==y.ret&&(x.v==y.v&&x.l==y.l)):=by
  obtain⟨a,b,c⟩:=x;obtain⟨d,e,f⟩:=y;rw[Bool.eq_iff_iff];simp
 have hl:(Tryz.prog.fieldsOf 78).toList=[(Tryz.prog.fieldsOf 78).getD 0 ⟨ "",0,0,false,"","",0⟩,(Tryz.prog.fieldsOf 78).getD 1 ⟨ "",0,0,false,"","",0⟩,(Tryz.prog.fieldsOf 78).getD 2 ⟨ "",0,0,false,"","",0⟩]:=by kernel_rfl
 rw[hd,run_equalIn_struct w 9999 78 _ _ (by kernel_rfl) (by kernel_rfl),hl];exact j2b Tryz.underlying4 (by kernel_rfl) Tryz.underlying3 (by kernel_rfl) w 9998 _ _ _ ⟨by decide +kernel,by kernel_rfl,by kernel_rfl⟩ ⟨by decide +kernel,by kernel_rfl,by kernel_rfl⟩ ⟨by decide +kernel,by kernel_rfl,by kernel_rfl⟩ _ _ _ _ _ _
theorem q5g(x y:St.Atom)(w:World):(binOp .neq 30 (.agg #[.int .i64 x.v,.int .i64 x.l]) (.agg #[.int .i64 y.v,.int .i64 y.l])).run Tryz.prog w=.ok (.bool (!decide (x=y))) w:=by
 rw[run_neq_struct,z9y];rfl
theorem z5p(x y:St.Slot)(w:World):(binOp .neq 78 (.agg #[.bool x.ret,.int .i64 x.v,.int .i64 x.l]) (.agg #[.bool y.ret,.int .i64 y.v,.int .i64 y.l])).run Tryz.prog w=.ok (.bool (!decide (x=y))) w:=by
 rw[run_neq_struct,z1g];rfl
theorem z5o(x y:St.Slot)(w:World):(binOp .eql 78 (.agg #[.bool x.ret,.int .i64 x.v,.int .i64 x.l]) (.agg #[.bool y.ret,.int .i64 y.v,.int .i64 y.l])).run Tryz.prog w=.ok (.bool (decide (x=y))) w:=by
 rw[run_eql_struct,z1g];rfl
theorem q33{b:Nat}{t:TypeId}{c:Array Value}{w:World}(h:Blk w b t c)(n:Nat):Blk (w.drewN n) b t c:=h
theorem q5h{α:Type}{a b:List α}{k:Nat}{x y:α}(ha:a[k]? = some x)(hb:b[k]? = some y)(h:x≠y):a≠b:=fun e=>by
 rw[e,hb] at ha
 injection ha with ha
 exact h ha.symm
theorem q6g{α:Type}{a b:List α}(hl:a.length=b.length)(h:∀(k:Nat) (x y:α),a[k]? = some x→b[k]? = some y→x=y):a=b :=
 List.ext_getElem? fun k=>by
  by_cases hk:k<a.length
  ·rw[List.getElem?_eq_getElem hk,List.getElem?_eq_getElem (by omega),h k _ _ (List.getElem?_eq_getElem hk) (List.getElem?_eq_getElem (by omega))]
  ·rw[List.getElem?_eq_none (by omega),List.getElem?_eq_none (by omega)]
theorem q4u{A B:Option Addr}{a b:List St.Atom}(c d:Nat)(w:World)(h:Row w w.heap.size A (fcells avs a))(h':Row w w.heap.size B (fcells avs b))(ha:a.length≤1000)(_hb:b.length≤1000) :
  Calls Tryz.prog 36 #[.slice A a.length c,.slice B b.length d] w (Tells w (decide (a=b))):=by
 obtain⟨res,hres⟩:∃ res,decide (a=b)=res:=⟨_,rfl⟩;rw[hres];have HA:=η h;have HBR:=η h';have HRES:=η hres;have HB:=η (Below.refl w.heap.size w);clear h h' hres;by_cases hl:a.length=b.length
 ·have h1:((a.length:Int) != (b.length:Int))=false:=by rw[bne_eq_false_iff_eq];omega
  have HL:=η hl;go_enter Tryz.func36,Tryz.ntmps36;go_wp2;go_loopw [13] (fun i wr=>∃ k:Nat,k≤a.length∧i=.int .i64 k∧Hid (∀(j:Nat) (x y:St.Atom),j<k→a[j]? = some x→b[j]? = some y→x=y)∧Hid (Below w.heap.size w wr)) (fun i _=>a.length-(intOf i).toNat);case atStart=>exact⟨0,Nat.zero_le _,rfl,η fun j x y hj=>absurd hj (Nat.not_lt_zero _),HB⟩
  case round =>
   obtain⟨k,hk,rfl,HS,HBW⟩:=hrel;by_cases hlt:k<a.length
   ·obtain⟨ad,x,rfl,hxb,hx,x0,x1⟩:=q1q (HA.out.below HBW.out) hlt;obtain⟨bd,y,rfl,hyb,hy,y0,y1⟩:=q1q (HBR.out.below HBW.out) (show k<b.length by have:=HL.out;omega);have hq:=fun w=>q5g x y w
    have hz:=HBW.out.size;have hxb2:(ad.add (k*2)).block<wr.heap.size:=by rw[q0a];omega
    have hyb2:(bd.add (k*2)).block<wr.heap.size:=by rw[q0a];omega
    have HX:=η hx;have HY:=η hy;clear hx hy;have hlt2:k<b.length:=by have:=HL.out;omega
    by_cases he:x=y
    ·have hf:(!decide (x=y))=false:=by rw[decide_eq_true he];rfl
     rw[hf] at hq;have HE:=η he;clear he hf;generalize hx0:x.v=xv at *;generalize hx1:x.l=xl at *;generalize hy0:y.v=yv at *;generalize hy1:y.l=yl at *;clear hx0 hx1 hy0 hy1;go_wp2;go_quiet (fail);all_goals go_wp2
     go_roundw
     case rel=>exact⟨k+1,by omega,by go_num,η fun j u v hj hu hv=>by
      rcases Nat.lt_or_eq_of_le (Nat.le_of_lt_succ hj) with h|rfl
      ·exact HS.out j u v h hu hv
      ·rw[HX.out] at hu;rw[HY.out] at hv;injection hu with hu;injection hv with hv
       rw[←hu,←hv];exact HE.out,η (q0f HBW.out _)⟩
     case measure=>simp[intOf];omega
    ·have hf:(!decide (x=y))=true:=by rw[decide_eq_false he];rfl
     rw[hf] at hq;have HE:=η he;clear he hf;generalize hx0:x.v=xv at *;generalize hx1:x.l=xl at *;generalize hy0:y.v=yv at *;generalize hy1:y.l=yl at *;clear hx0 hx1 hy0 hy1;go_wp2;go_quiet (fail);all_goals go_wp2
     go_ret;exact⟨retb (by rw[←HRES.out];exact(decide_eq_false (q5h HX.out HY.out HE.out)).symm),q0f HBW.out _⟩
   ·obtain rfl:k=a.length:=by omega
    go_wp2;go_ret;exact⟨retb (by rw[←HRES.out];exact(decide_eq_true (q6g HL.out fun k x y hx hy=>HS.out k x y (List.getElem?_eq_some_iff.1 hx).1 hx hy)).symm),HBW.out⟩
 ·have h1:((a.length:Int) != (b.length:Int))=true:=by rw[bne_iff_ne];omega
  have HR2:=η (show false=res by rw[←HRES.out];exact(decide_eq_false fun e=>hl (by rw[e])).symm);clear hl;go_enter Tryz.func36,Tryz.ntmps36;go_wp2;go_ret;exact⟨retb HR2.out,HB.out⟩
def sameB(s t:St.State):Bool:=decide (s.pc=t.pc)&&(decide (s.code=t.code)&&(decide (s.mem=t.mem)&&(decide (s.out=t.out)&&decide (s.stack=t.stack))))
theorem sameB_iff{s t:St.State}:sameB s t=true↔s=t:=by
 obtain⟨a,b,c,d,e⟩:=s;obtain⟨a',b',c',d',e'⟩:=t;unfold sameB;simp only[Bool.and_eq_true,decide_eq_true_eq,St.State.mk.injEq];constructor
 ·rintro⟨h1,h2,h3,h4,h5⟩;exact⟨h1,h2,h3,h5,h4⟩
 ·rintro⟨h1,h2,h3,h5,h4⟩;exact⟨h1,h2,h3,h4,h5⟩
theorem q2l{sv tv:Value}{s t:St.State}(w:World)(hs:IsSt w w.heap.size sv s)(ht:IsSt w w.heap.size tv t)(hsm:SmallS s)(htm:SmallS t) :
  Calls Tryz.prog 14 #[sv,tv] w (Tells w (sameB s t)):=by
 obtain⟨⟨av,al⟩,acode,amem,astack,aout⟩:=s;obtain⟨⟨bv,bl⟩,bcode,bmem,bstack,bout⟩:=t;obtain⟨cv,mv,stv_,ov,rfl,⟨acA,acc,rfl,hacr,hacc⟩,⟨amA,amc,rfl,hamr,hamc⟩,⟨asA,asc,rfl,hasr,hasc⟩,⟨aoA,aoc,rfl,haor,haoc⟩⟩:=hs;obtain⟨cv,mv,stv_,ov,rfl,⟨bcA,bcc,rfl,hbcr,hbcc⟩,⟨bmA,bmc,rfl,hbmr,hbmc⟩,⟨bsA,bsc,rfl,hbsr,hbsc⟩,⟨boA,boc,rfl,hbor,hboc⟩⟩:=ht;obtain⟨hs1,hs2,hs3,hs4⟩:=hsm;obtain⟨ht1,ht2,ht3,ht4⟩:=htm;unfold stv sameB;dsimp only at hacr hacc hamr hamc hasr hasc haor haoc hbcr hbcc hbmr hbmc hbsr hbsc hbor hboc hs1 hs2 hs3 hs4 ht1 ht2 ht3 ht4 ⊢;have HC1:=η (fun W (hb:Below w.heap.size w W)=>z08 acc bcc W ((hacr.below hb).more hb.size) ((hbcr.below hb).more hb.size) hs1 ht1);have HC2:=η (fun W (hb:Below w.heap.size w W)=>q4u amc bmc W ((hamr.below hb).more hb.size) ((hbmr.below hb).more hb.size) hs2 ht2);have HC3:=η (fun W (hb:Below w.heap.size w W)=>q4u aoc boc W ((haor.below hb).more hb.size) ((hbor.below hb).more hb.size) hs4 ht4);have HA:=η hasr;have HBR:=η hbsr;have hb0:=(((Below.refl _ w).alloc (Nat.le_refl _) (.cells #[.int .i64 av,.int .i64 al,.slice acA acode.length acc,.slice amA amem.length amc,.slice asA astack.length asc,.slice aoA aout.length aoc] 35)).alloc (by simp) (.cells #[.int .i64 bv,.int .i64 bl,.slice bcA bcode.length bcc,.slice bmA bmem.length bmc,.slice bsA bstack.length bsc,.slice boA bout.length boc] 35));obtain⟨W0,hW0⟩:∃ W0,(w.alloc (.cells #[.int .i64 av,.int .i64 al,.slice acA acode.length acc,.slice amA amem.length amc,.slice asA astack.length asc,.slice aoA aout.length aoc] 35)).alloc (.cells #[.int .i64 bv,.int .i64 bl,.slice bcA bcode.length bcc,.slice bmA bmem.length bmc,.slice bsA bstack.length bsc,.slice boA bout.length boc] 35)=W0:=⟨_,rfl⟩;have hp0:Blk W0 w.heap.size 35 #[.int .i64 av,.int .i64 al,.slice acA acode.length acc,.slice amA amem.length amc,.slice asA astack.length asc,.slice aoA aout.length aoc]:=hW0▸(Blk.new _ _ _).alloc _;have hq0:Blk W0 (w.heap.size+1) 35 #[.int .i64 bv,.int .i64 bl,.slice bcA bcode.length bcc,.slice bmA bmem.length bmc,.slice bsA bstack.length bsc,.slice boA bout.length boc]:=by
  have h1:=Blk.new (w.alloc (.cells #[.int .i64 av,.int .i64 al,.slice acA acode.length acc,.slice amA amem.length amc,.slice asA astack.length asc,.slice aoA aout.length aoc] 35)) 35 #[.int .i64 bv,.int .i64 bl,.slice bcA bcode.length bcc,.slice bmA bmem.length bmc,.slice bsA bstack.length bsc,.slice boA bout.length boc];rw[show(w.alloc (.cells #[.int .i64 av,.int .i64 al,.slice acA acode.length acc,.slice amA amem.length amc,.slice asA astack.length asc,.slice aoA aout.length aoc] 35)).heap.size=w.heap.size+1 by simp] at h1;rw[←hW0];exact h1
 rw[hW0] at hb0;have HP:=η hp0;have HQ:=η hq0;have HB:=η hb0;have hpcq:=fun w=>q5g ⟨av,al⟩ ⟨bv,bl⟩ w
 dsimp only at hpcq;clear hb0 hp0 hq0 hacr hamr hasr haor hbcr hbmr hbsr hbor;obtain⟨a0,a1,a2,a3,a4,a5⟩:=ζ6 HP.out;obtain⟨b0,b1,b2,b3,b4,b5⟩:=ζ6 HQ.out;generalize hd1:decide ((⟨av,al⟩:St.Atom)=⟨bv,bl⟩)=d1 at *;generalize hd2:decide (acode=bcode)=d2 at *;generalize hd3:decide (amem=bmem)=d3 at *;generalize hd4:decide (aout=bout)=d4 at *;clear hd1 hd2 hd3 hd4;cases d1 with
 | false =>
  rw[Bool.false_and];simp only[Bool.not_false] at hpcq;clear HC1 HC2 HC3;go_enter Tryz.func14,Tryz.ntmps14;go_wp2;go_ret;exact⟨rfl,HB.out⟩
 | true =>
  rw[Bool.true_and];simp only[Bool.not_true] at hpcq;cases d2 with
  | false =>
   rw[Bool.false_and];clear HC2 HC3;go_enter Tryz.func14,Tryz.ntmps14;go_wp2_with (fail);refine(HC1.out W0 HB.out).mono ?_;rintro e W1 ⟨rfl,hb9⟩;have hb1:=HB.out.trans (hb9.mono HB.out.size);have hp1:=HP.out.below hb9 HP.out.lt;have hq1:=HQ.out.below hb9 HQ.out.lt;clear HB HP HQ hb9;clear a0 b0 a1 b1 a2 b2 a3 b3 a4 b4 a5 b5;have HB:=η hb1;have HP:=η hp1;have HQ:=η hq1;clear hb1 hp1 hq1;go_wp2;go_ret;exact⟨rfl,HB.out⟩
  | true =>
   rw[Bool.true_and];cases d3 with
   | false =>
    rw[Bool.false_and];clear HC3;go_enter Tryz.func14,Tryz.ntmps14;go_wp2_with (fail);refine(HC1.out W0 HB.out).mono ?_;rintro e W1 ⟨rfl,hb9⟩;have hb1:=HB.out.trans (hb9.mono HB.out.size);have hp1:=HP.out.below hb9 HP.out.lt;have hq1:=HQ.out.below hb9 HQ.out.lt;clear HB HP HQ hb9;clear a0 b0 a1 b1 a2 b2 a3 b3 a4 b4 a5 b5;have HB:=η hb1;have HP:=η hp1;have HQ:=η hq1;clear hb1 hp1 hq1;obtain⟨a0,a1,a2,a3,a4,a5⟩:=ζ6 HP.out;obtain⟨b0,b1,b2,b3,b4,b5⟩:=ζ6 HQ.out;go_wp2_with (fail);refine(HC2.out W1 HB.out).mono ?_;rintro e W2 ⟨rfl,hb9⟩;have hb1:=HB.out.trans (hb9.mono HB.out.size);have hp1:=HP.out.below hb9 HP.out.lt;have hq1:=HQ.out.below hb9 HQ.out.lt;clear HB HP HQ hb9;clear a0 b0 a1 b1 a2 b2 a3 b3 a4 b4 a5 b5;have HB:=η hb1;have HP:=η hp1;have HQ:=η hq1;clear hb1 hp1 hq1;go_wp2;go_ret;exact⟨rfl,HB.out⟩
   | true =>
    rw[Bool.true_and];cases d4 with
    | false =>
     rw[Bool.false_and];go_enter Tryz.func14,Tryz.ntmps14;go_wp2_with (fail);refine(HC1.out W0 HB.out).mono ?_;rintro e W1 ⟨rfl,hb9⟩;have hb1:=HB.out.trans (hb9.mono HB.out.size);have hp1:=HP.out.below hb9 HP.out.lt;have hq1:=HQ.out.below hb9 HQ.out.lt;clear HB HP HQ hb9;clear a0 b0 a1 b1 a2 b2 a3 b3 a4 b4 a5 b5;have HB:=η hb1;have HP:=η hp1;have HQ:=η hq1;clear hb1 hp1 hq1;obtain⟨a0,a1,a2,a3,a4,a5⟩:=ζ6 HP.out;obtain⟨b0,b1,b2,b3,b4,b5⟩:=ζ6 HQ.out;go_wp2_with (fail);refine(HC2.out W1 HB.out).mono ?_;rintro e W2 ⟨rfl,hb9⟩;have hb1:=HB.out.trans (hb9.mono HB.out.size);have hp1:=HP.out.below hb9 HP.out.lt;have hq1:=HQ.out.below hb9 HQ.out.lt;clear HB HP HQ hb9;clear a0 b0 a1 b1 a2 b2 a3 b3 a4 b4 a5 b5;have HB:=η hb1;have HP:=η hp1;have HQ:=η hq1;clear hb1 hp1 hq1;obtain⟨a0,a1,a2,a3,a4,a5⟩:=ζ6 HP.out;obtain⟨b0,b1,b2,b3,b4,b5⟩:=ζ6 HQ.out;go_wp2_with (fail);refine(HC3.out W2 HB.out).mono ?_;rintro e W3 ⟨rfl,hb9⟩;have hb1:=HB.out.trans (hb9.mono HB.out.size);have hp1:=HP.out.below hb9 HP.out.lt;have hq1:=HQ.out.below hb9 HQ.out.lt;clear HB HP HQ hb9;clear a0 b0 a1 b1 a2 b2 a3 b3 a4 b4 a5 b5;have HB:=η hb1;have HP:=η hp1;have HQ:=η hq1;clear hb1 hp1 hq1;go_wp2;go_ret;exact⟨rfl,HB.out⟩
    | true =>
     rw[Bool.true_and];obtain⟨res,hres⟩:∃ res,decide (astack=bstack)=res:=⟨_,rfl⟩;rw[hres];have HRES:=η hres;clear hres;by_cases hl:astack.length=bstack.length
     ·have h1:((astack.length:Int) != (bstack.length:Int))=false:=by rw[bne_eq_false_iff_eq];omega
      have HL:=η hl;clear hl;generalize astack=a at *;generalize bstack=b at *;go_enter Tryz.func14,Tryz.ntmps14;go_wp2_with (fail);refine(HC1.out W0 HB.out).mono ?_;rintro e W1 ⟨rfl,hb9⟩;have hb1:=HB.out.trans (hb9.mono HB.out.size);have hp1:=HP.out.below hb9 HP.out.lt;have hq1:=HQ.out.below hb9 HQ.out.lt;clear HB HP HQ hb9;clear a0 b0 a1 b1 a2 b2 a3 b3 a4 b4 a5 b5;have HB:=η hb1;have HP:=η hp1;have HQ:=η hq1;clear hb1 hp1 hq1;obtain⟨a0,a1,a2,a3,a4,a5⟩:=ζ6 HP.out;obtain⟨b0,b1,b2,b3,b4,b5⟩:=ζ6 HQ.out;go_wp2_with (fail);refine(HC2.out W1 HB.out).mono ?_;rintro e W2 ⟨rfl,hb9⟩;have hb1:=HB.out.trans (hb9.mono HB.out.size);have hp1:=HP.out.below hb9 HP.out.lt;have hq1:=HQ.out.below hb9 HQ.out.lt;clear HB HP HQ hb9;clear a0 b0 a1 b1 a2 b2 a3 b3 a4 b4 a5 b5;have HB:=η hb1;have HP:=η hp1;have HQ:=η hq1;clear hb1 hp1 hq1;obtain⟨a0,a1,a2,a3,a4,a5⟩:=ζ6 HP.out;obtain⟨b0,b1,b2,b3,b4,b5⟩:=ζ6 HQ.out;go_wp2_with (fail);refine(HC3.out W2 HB.out).mono ?_;rintro e W3 ⟨rfl,hb9⟩;have hb1:=HB.out.trans (hb9.mono HB.out.size);have hp1:=HP.out.below hb9 HP.out.lt;have hq1:=HQ.out.below hb9 HQ.out.lt;clear HB HP HQ hb9;clear a0 b0 a1 b1 a2 b2 a3 b3 a4 b4 a5 b5;have HB:=η hb1;have HP:=η hp1;have HQ:=η hq1;clear hb1 hp1 hq1;obtain⟨a0,a1,a2,a3,a4,a5⟩:=ζ6 HP.out;obtain⟨b0,b1,b2,b3,b4,b5⟩:=ζ6 HQ.out;go_wp2;go_loopw [47] (fun i wr=>∃ k:Nat,k≤a.length∧i=.int .i64 k∧Hid (∀(j:Nat) (x y:St.Slot),j<k→a[j]? = some x→b[j]? = some y→x=y)∧Hid (Below w.heap.size w wr)∧Hid (Blk wr w.heap.size 35 #[.int .i64 av,.int .i64 al,.slice acA acode.length acc,.slice amA amem.length amc,.slice asA a.length asc,.slice aoA aout.length aoc])∧Hid (Blk wr (w.heap.size+1) 35 #[.int .i64 bv,.int .i64 bl,.slice bcA bcode.length bcc,.slice bmA bmem.length bmc,.slice bsA b.length bsc,.slice boA bout.length boc])) (fun i _=>a.length-(intOf i).toNat);case atStart=>exact⟨0,Nat.zero_le _,rfl,η fun j x y hj=>absurd hj (Nat.not_lt_zero _),HB,HP,HQ⟩
      case round =>
       clear HB HP HQ a0 a1 a2 a3 a4 a5 b0 b1 b2 b3 b4 b5;obtain⟨k,hk,rfl,HS,HBW,HP,HQ⟩:=hrel;by_cases hlt:k<a.length
       ·obtain⟨ad,x,rfl,hxb,hx,x0,x1,x2⟩:=q06 (HA.out.below HBW.out) hlt;obtain⟨bd,y,rfl,hyb,hy,y0,y1,y2⟩:=q06 (HBR.out.below HBW.out) (show k<b.length by have:=HL.out;omega);have hq:=fun w=>z5p x y w
        have hz:=HBW.out.size;have hxb2:(ad.add (k*3)).block<wr.heap.size:=by rw[q0a];omega
        have hyb2:(bd.add (k*3)).block<wr.heap.size:=by rw[q0a];omega
        have HX:=η hx;have HY:=η hy;clear hx hy;have hlt2:k<b.length:=by have:=HL.out;omega
        have a4:wr.cell? ⟨w.heap.size,4,none⟩=some (.slice (some ad) a.length asc):=HP.out.cell 4;have b4:wr.cell? ⟨w.heap.size+1,4,none⟩=some (.slice (some bd) b.length bsc):=HQ.out.cell 4;have hpl:=HP.out.lt;have hql:=HQ.out.lt;by_cases he:x=y
        ·have hf:(!decide (x=y))=false:=by rw[decide_eq_true he];rfl
         rw[hf] at hq;have HE:=η he;clear he hf;generalize hx0:x.ret=xret at *;generalize hx1:x.v=xv at *;generalize hx2:x.l=xl at *;generalize hy0:y.ret=yret at *;generalize hy1:y.v=yv at *;generalize hy2:y.l=yl at *;clear hx0 hx1 hx2 hy0 hy1 hy2;go_wp2;go_quiet (fail);all_goals go_wp2
         go_roundw
         case rel=>exact⟨k+1,by omega,by go_num,η fun j u v hj hu hv=>by
          rcases Nat.lt_or_eq_of_le (Nat.le_of_lt_succ hj) with h|rfl
          ·exact HS.out j u v h hu hv
          ·rw[HX.out] at hu;rw[HY.out] at hv;injection hu with hu;injection hv with hv
           rw[←hu,←hv];exact HE.out,η (q0f HBW.out _),η (q33 HP.out _),η (q33 HQ.out _)⟩
         case measure=>simp[intOf];omega
        ·have hf:(!decide (x=y))=true:=by rw[decide_eq_false he];rfl
         rw[hf] at hq;have HE:=η he;clear he hf;generalize hx0:x.ret=xret at *;generalize hx1:x.v=xv at *;generalize hx2:x.l=xl at *;generalize hy0:y.ret=yret at *;generalize hy1:y.v=yv at *;generalize hy2:y.l=yl at *;clear hx0 hx1 hx2 hy0 hy1 hy2;go_wp2;go_quiet (fail);all_goals go_wp2
         go_ret;exact⟨retb (by rw[←HRES.out];exact(decide_eq_false (q5h HX.out HY.out HE.out)).symm),q0f HBW.out _⟩
       ·obtain rfl:k=a.length:=by omega
        go_wp2;go_ret;exact⟨retb (by rw[←HRES.out];exact(decide_eq_true (q6g HL.out fun k x y hx hy=>HS.out k x y (List.getElem?_eq_some_iff.1 hx).1 hx hy)).symm),HBW.out⟩
     ·have h1:((astack.length:Int) != (bstack.length:Int))=true:=by rw[bne_iff_ne];omega
      have HR2:=η (show false=res by rw[←HRES.out];exact(decide_eq_false fun e=>hl (by rw[e])).symm);clear hl;go_enter Tryz.func14,Tryz.ntmps14;go_wp2_with (fail);refine(HC1.out W0 HB.out).mono ?_;rintro e W1 ⟨rfl,hb9⟩;have hb1:=HB.out.trans (hb9.mono HB.out.size);have hp1:=HP.out.below hb9 HP.out.lt;have hq1:=HQ.out.below hb9 HQ.out.lt;clear HB HP HQ hb9;clear a0 b0 a1 b1 a2 b2 a3 b3 a4 b4 a5 b5;have HB:=η hb1;have HP:=η hp1;have HQ:=η hq1;clear hb1 hp1 hq1;obtain⟨a0,a1,a2,a3,a4,a5⟩:=ζ6 HP.out;obtain⟨b0,b1,b2,b3,b4,b5⟩:=ζ6 HQ.out;go_wp2_with (fail);refine(HC2.out W1 HB.out).mono ?_;rintro e W2 ⟨rfl,hb9⟩;have hb1:=HB.out.trans (hb9.mono HB.out.size);have hp1:=HP.out.below hb9 HP.out.lt;have hq1:=HQ.out.below hb9 HQ.out.lt;clear HB HP HQ hb9;clear a0 b0 a1 b1 a2 b2 a3 b3 a4 b4 a5 b5;have HB:=η hb1;have HP:=η hp1;have HQ:=η hq1;clear hb1 hp1 hq1;obtain⟨a0,a1,a2,a3,a4,a5⟩:=ζ6 HP.out;obtain⟨b0,b1,b2,b3,b4,b5⟩:=ζ6 HQ.out;go_wp2_with (fail);refine(HC3.out W2 HB.out).mono ?_;rintro e W3 ⟨rfl,hb9⟩;have hb1:=HB.out.trans (hb9.mono HB.out.size);have hp1:=HP.out.below hb9 HP.out.lt;have hq1:=HQ.out.below hb9 HQ.out.lt;clear HB HP HQ hb9;clear a0 b0 a1 b1 a2 b2 a3 b3 a4 b4 a5 b5;have HB:=η hb1;have HP:=η hp1;have HQ:=η hq1;clear hb1 hp1 hq1;obtain⟨a0,a1,a2,a3,a4,a5⟩:=ζ6 HP.out;obtain⟨b0,b1,b2,b3,b4,b5⟩:=ζ6 HQ.out;go_wp2;go_ret;exact⟨retb HR2.out,HB.out⟩
theorem q2n{α:Type}{f:α→List Value}{m:Nat}(hf:∀ x,(f x).length=m)(l:List α)(n:Nat):fcells f (l.take n)=(fcells f l).take (n*m):=by
 induction l generalizing n with
 | nil=>simp[fcells]
 | cons x r ih =>
  cases n with
  | zero=>simp[fcells]
  | succ n =>
   have:=ih n;have hx:(f x).length≤n*m+m:=by rw[hf];omega
   rw[List.take_succ_cons,show fcells f (x :: r.take n)=f x++fcells f (r.take n) from rfl,this,show fcells f (x :: r)=f x++fcells f r from rfl,Nat.succ_mul,List.take_append,List.take_of_length_le hx,hf,Nat.add_sub_cancel]
def cutS(s:St.State):St.State:=⟨s.pc,s.code.take 15,s.mem.take 15,s.stack.take 15,s.out.take 15⟩
theorem q4y(s:St.State):SmallS (cutS s):=by
 refine⟨?_,?_,?_,?_⟩<;>(unfold cutS;dsimp only;rw[List.length_take];omega)
structure StIn (w:World) (B:Nat) (s:St.State) (cA:Option Addr) (cc:Nat) (mA:Option Addr) (mc:Nat) (sA:Option Addr) (sc:Nat) (oA:Option Addr) (oc:Nat):Prop where
 rc:Row w B cA (icells s.code)∧s.code.length≤cc∧cc≤maxLen
 rm:Row w B mA (fcells avs s.mem)∧s.mem.length≤mc∧mc≤maxLen
 rs:Row w B sA (fcells svs s.stack)∧s.stack.length≤sc∧sc≤maxLen
 ro:Row w B oA (fcells avs s.out)∧s.out.length≤oc∧oc≤maxLen
def incv(s:St.State)(cA:Option Addr)(cc:Nat)(mA:Option Addr)(mc:Nat)(sA:Option Addr)(sc:Nat)(oA:Option Addr)(oc:Nat):Value:=.agg #[.int .i64 s.pc.v,.int .i64 s.pc.l,.slice cA s.code.length cc,.slice mA s.mem.length mc,.slice sA s.stack.length sc,.slice oA s.out.length oc]
theorem StIn.below{w w':World}{B:Nat}{s:St.State}{cA mA sA oA:Option Addr}{cc mc sc oc:Nat}(h:StIn w B s cA cc mA mc sA sc oA oc)(hb:Below B w w'):StIn w' B s cA cc mA mc sA sc oA oc :=
 ⟨⟨h.rc.1.below hb,h.rc.2⟩,⟨h.rm.1.below hb,h.rm.2⟩,⟨h.rs.1.below hb,h.rs.2⟩,⟨h.ro.1.below hb,h.ro.2⟩⟩
theorem StIn.more{w:World}{B B':Nat}{s:St.State}{cA mA sA oA:Option Addr}{cc mc sc oc:Nat}(h:StIn w B s cA cc mA mc sA sc oA oc)(hB:B≤B'):StIn w B' s cA cc mA mc sA sc oA oc :=
 ⟨⟨h.rc.1.more hB,h.rc.2⟩,⟨h.rm.1.more hB,h.rm.2⟩,⟨h.rs.1.more hB,h.rs.2⟩,⟨h.ro.1.more hB,h.ro.2⟩⟩
theorem StIn.cut{w:World}{B:Nat}{s:St.State}{cA mA sA oA:Option Addr}{cc mc sc oc:Nat}(h:StIn w B s cA cc mA mc sA sc oA oc):StIn w B (cutS s) cA cc mA mc sA sc oA oc:=by
 refine⟨⟨?_,?_,h.rc.2.2⟩,⟨?_,?_,h.rm.2.2⟩,⟨?_,?_,h.rs.2.2⟩,⟨?_,?_,h.ro.2.2⟩⟩
 ·show Row w B cA (icells (s.code.take 15));rw[z8n,q2n z3u];exact h.rc.1.take _
 ·have:=h.rc.2.1;show(s.code.take 15).length≤cc;rw[List.length_take];omega
 ·show Row w B mA (fcells avs (s.mem.take 15));rw[q2n q2h];exact h.rm.1.take _
 ·have:=h.rm.2.1;show(s.mem.take 15).length≤mc;rw[List.length_take];omega
 ·show Row w B sA (fcells svs (s.stack.take 15));rw[q2n q07];exact h.rs.1.take _
 ·have:=h.rs.2.1;show(s.stack.take 15).length≤sc;rw[List.length_take];omega
 ·show Row w B oA (fcells avs (s.out.take 15));rw[q2n q2h];exact h.ro.1.take _
 ·have:=h.ro.2.1;show(s.out.take 15).length≤oc;rw[List.length_take];omega
theorem StIn.isSt{w:World}{B:Nat}{s:St.State}{cA mA sA oA:Option Addr}{cc mc sc oc:Nat}(h:StIn w B s cA cc mA mc sA sc oA oc):IsSt w B (incv s cA cc mA mc sA sc oA oc) s :=
 ⟨_,_,_,_,rfl,⟨cA,cc,rfl,h.rc.1,h.rc.2.1⟩,⟨mA,mc,rfl,h.rm.1,h.rm.2.1⟩,⟨sA,sc,rfl,h.rs.1,h.rs.2.1⟩,⟨oA,oc,rfl,h.ro.1,h.ro.2.1⟩⟩
theorem q42(s:St.State)(cA mA sA oA:Option Addr)(cc mc sc oc:Nat):incv (cutS s) cA cc mA mc sA sc oA oc=.agg #[.int .i64 s.pc.v,.int .i64 s.pc.l,.slice cA (min 15 s.code.length) cc,.slice mA (min 15 s.mem.length) mc,.slice sA (min 15 s.stack.length) sc,.slice oA (min 15 s.out.length) oc]:=by
 unfold incv cutS;simp only[List.length_take]
deriving instance DecidableEq for St.State
end Go.Proofs.YtjobifclmcdjcaaGreatDoor
namespace Go.Proofs.YtjobifclmcdjcaaGreatDoor
open Go.RowKit Go.Shelf
attribute [local go_sem] Oper.semAt_some
theorem z1s{A B:Option Addr}{a b:List St.Atom}(c d:Nat)(w:World)(h:Row w w.heap.size A (fcells avs a))(h':Row w w.heap.size B (fcells avs b))(ha:a.length≤1000)(_hb:b.length≤1000) :
  Calls Tryz.prog 18 #[.slice A a.length c,.slice B b.length d] w (Tells w (decide (a=b))):=by
 obtain⟨res,hres⟩:∃ res,decide (a=b)=res:=⟨_,rfl⟩;rw[hres];have H:=η h;have H':=η h';have HRES:=η hres;have HB:=η (Below.refl w.heap.size w);clear h h' hres;by_cases hl:a.length=b.length
 ·have h1:((a.length:Int) != (b.length:Int))=false:=by rw[bne_eq_false_iff_eq];omega
  have HL:=η hl;go_enter Tryz.func18,Tryz.ntmps18;go_wp2;go_loopw [13] (fun i wr=>∃ k:Nat,k≤a.length∧i=.int .i64 k∧Hid (∀(j:Nat) (x y:St.Atom),j<k→a[j]? = some x→b[j]? = some y→x=y)∧Hid (Below w.heap.size w wr)) (fun i _=>a.length-(intOf i).toNat);case atStart=>exact⟨0,Nat.zero_le _,rfl,η fun j x y hj=>absurd hj (Nat.not_lt_zero _),HB⟩
  case round =>
   obtain⟨k,hk,rfl,HS,HBW⟩:=hrel;by_cases hlt:k<a.length
   ·obtain⟨ad,x,rfl,hxb,hx,x0,x1⟩:=q1q (H.out.below HBW.out) hlt;obtain⟨bd,y,rfl,hyb,hy,y0,y1⟩:=q1q (H'.out.below HBW.out) (show k<b.length by omega);have hq:=fun w=>q5g x y w
    have hz:=HBW.out.size;have hxb2:(ad.add (k*2)).block<wr.heap.size:=by rw[q0a];omega
    have hyb2:(bd.add (k*2)).block<wr.heap.size:=by rw[q0a];omega
    have HX:=η hx;have HY:=η hy;clear hx hy;have hlt2:k<b.length:=by omega
    by_cases he:x=y
    ·have hf:(!decide (x=y))=false:=by rw[decide_eq_true he];rfl
     rw[hf] at hq;have HE:=η he;clear he hf;generalize hx2:x.v=xn at *;generalize hx3:x.l=xl at *;generalize hy2:y.v=yn at *;generalize hy3:y.l=yl at *;clear hx2 hx3 hy2 hy3;go_wp2;go_quiet (fail);all_goals go_wp2
     go_roundw
     case rel=>exact⟨k+1,by omega,by go_num,η fun j u v hj hu hv=>by
      rcases Nat.lt_or_eq_of_le (Nat.le_of_lt_succ hj) with h|rfl
      ·exact HS.out j u v h hu hv
      ·rw[HX.out] at hu;rw[HY.out] at hv;injection hu with hu;injection hv with hv
       rw[←hu,←hv];exact HE.out,η (q0f HBW.out _)⟩
     case measure=>simp[intOf];omega
    ·have hf:(!decide (x=y))=true:=by rw[decide_eq_false he];rfl
     rw[hf] at hq;have HE:=η he;clear he hf;generalize hx2:x.v=xn at *;generalize hx3:x.l=xl at *;generalize hy2:y.v=yn at *;generalize hy3:y.l=yl at *;clear hx2 hx3 hy2 hy3;go_wp2;go_quiet (fail);all_goals go_wp2
     go_ret;exact⟨retb (by rw[←HRES.out];exact(decide_eq_false (q5h HX.out HY.out HE.out)).symm),q0f HBW.out _⟩
   ·obtain rfl:k=a.length:=by omega
    go_wp2;go_ret;exact⟨retb (by rw[←HRES.out];exact(decide_eq_true (q6g HL.out fun k x y hx hy=>HS.out k x y (List.getElem?_eq_some_iff.1 hx).1 hx hy)).symm),HBW.out⟩
 ·have h1:((a.length:Int) != (b.length:Int))=true:=by rw[bne_iff_ne];omega
  have HR2:=η (show false=res by rw[←HRES.out];exact(decide_eq_false fun e=>hl (by rw[e])).symm);clear hl;go_enter Tryz.func18,Tryz.ntmps18;go_wp2;go_ret;exact⟨retb HR2.out,HB.out⟩
end Go.Proofs.YtjobifclmcdjcaaGreatDoor
