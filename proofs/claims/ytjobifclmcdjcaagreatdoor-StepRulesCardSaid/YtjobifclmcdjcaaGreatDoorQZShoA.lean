import Derived.Deep.RegionWith
import Derived.StillTailTactics
import Derived.Handy
import Derived.BigRegion
import Derived.BigQuiet
import Derived.Test.YtjobifclmcdjcaaGreatDoorQZLexP
import Derived.Test.YtjobifclmcdjcaaGreatDoorQZRulA
set_option maxHeartbeats 64000000
set_option maxRecDepth 100000
namespace Go.Proofs.YtjobifclmcdjcaaGreatDoor
open Go.RowKit Go.Shelf
theorem q0i{P:Program}{id:Nat}{Q:Exit→Act→World→Prop}{a:Act}{w:World}{l:List Oper}(n:Nat)(hm:P.follows .mixedOrders=true)(hB:Region.lexTailB .any l.toArray n=true)(h:wpStill P l.toArray w.drew (fun a'=>wpList P l.toArray Q (l.drop n) a' w.drew) (l.take n) a):(Code.region id l.toArray true).wp P Q a w:=wp_region_still_tail n hm hB h
end Go.Proofs.YtjobifclmcdjcaaGreatDoor
namespace Go.Proofs.YtjobifclmcdjcaaGreatDoor
open Go.RowKit Go.Shelf
attribute [local go_sem] Oper.semAt_some
def Ins(w:World):Prop:=∀ k:Nat,k<13→w.cell? ⟨0,k*2,none⟩=some (.string (Tb.word k))∧w.cell? ⟨0,k*2+1,none⟩=some (.int .i64 (Tb.arity k:Nat))
theorem Ins.lt{w:World}(h:Ins w):0<w.heap.size:=World.block_lt_of_cell? w ⟨0,0,none⟩ (h 0 (by decide)).1
theorem Ins.below{w w':World}{B:Nat}(h:Ins w)(hb:Below B w w')(hB:0<B):Ins w':=fun k hk=>⟨(hb.cell hB).trans (h k hk).1,(hb.cell hB).trans (h k hk).2⟩
def TellsE(w:World)(a n:Nat)(e:Ending)(w':World):Prop:=e=.returned (.tuple #[.int .i64 (a:Int),.int .i64 (n:Int)])∧Below w.heap.size w w'
def pfun(b:Nat)(g:FuncId):List Value:=[.func (.func 141) #[] #[.pointer (some ⟨b,0,none⟩)],.func (.func 143) #[] #[.pointer (some ⟨b,0,none⟩)],.func (.func g) #[] #[]]
theorem z45(lab:Bool)(g:FuncId)(w:World):Calls Tryz.prog 105 #[.bool lab,.func (.func g) #[] #[]] w fun e w'=>e=.returned (.agg (pfun w.heap.size g).toArray)∧Below w.heap.size w w'∧Blk w' w.heap.size 4 #[.bool lab]:=by
 have hmf:∀(fn:Fn) (first cap:Array Value) (w:World),(Instr.makeFunc fn first cap).run Tryz.prog w=.ok (.func fn first cap) w:=fun _ _ _ _=>rfl
 have hb:=Blk.new w 4 #[.bool lab];have hlt:=hb.lt;go_enter Tryz.func105,Tryz.ntmps105;go_wp2;go_returns;refine⟨rfl,?_,?_⟩
 ·exact((Below.refl _ w).alloc (Nat.le_refl _) _).alloc (by simp) _
 ·exact hb.alloc _
structure Parts (P b0 b1 b2:Nat) (W:World):Prop where
 blk:Blk W P 167 (pfun b0 106++(pfun b1 107++pfun b2 108)).toArray
 v0:Blk W b0 4 #[.bool false]
 v1:Blk W b1 4 #[.bool true]
 v2:Blk W b2 4 #[.bool true]
theorem Parts.below{P b0 b1 b2 B:Nat}{w w':World}(h:Parts P b0 b1 b2 w)(hb:Below B w w')(hP:P<B)(h0:b0<B)(h1:b1<B)(h2:b2<B):Parts P b0 b1 b2 w' :=
 ⟨h.blk.below hb hP,h.v0.below hb h0,h.v1.below hb h1,h.v2.below hb h2⟩
theorem Parts.keep{P b0 b1 b2:Nat}{w w':World}(h:Parts P b0 b1 b2 w)(hb:Below w.heap.size w w'):Parts P b0 b1 b2 w' :=
 h.below hb h.blk.lt h.v0.lt h.v1.lt h.v2.lt
theorem q9i(w:World):Calls Tryz.prog 81 #[] w fun e w'=>∃ P b0 b1 b2,e=.returned (.slice (some ⟨P,0,none⟩) 3 3)∧Parts P b0 b1 b2 w'∧Below w.heap.size w w'∧w.heap.size≤P∧w.heap.size≤b0∧w.heap.size≤b1∧w.heap.size≤b2:=by
 have hp:=fun(lab:Bool) (g:FuncId) W=>z45 lab g W
 unfold pfun at hp;have HP:=η hp;clear hp;go_enter Tryz.func81,Tryz.ntmps81;go_wp2_with (fail);refine(HP.out _ _ _).mono ?_;rintro e w1 ⟨rfl,hb1,hk1⟩;have HB1:=η hb1;have HK1:=η hk1;clear hb1 hk1;go_wp2_with (fail);refine(HP.out _ _ _).mono ?_;rintro e w2 ⟨rfl,hb2,hk2⟩;have HB2:=η hb2;have HK2:=η hk2;clear hb2 hk2;go_wp2_with (fail);refine(HP.out _ _ _).mono ?_;rintro e w3 ⟨rfl,hb3,hk3⟩;have hz1:=HB1.out.size;have hz2:=HB2.out.size;have hz3:=hb3.size;have hall:Below w.heap.size w (w3.alloc (.cells (pfun w.heap.size 106++(pfun w1.heap.size 107++pfun w2.heap.size 108)).toArray 167)) :=
  ((HB1.out.trans (HB2.out.mono hz1)).trans (hb3.mono (by omega))).alloc (by omega) _
 have hfin:Parts w3.heap.size w.heap.size w1.heap.size w2.heap.size (w3.alloc (.cells (pfun w.heap.size 106++(pfun w1.heap.size 107++pfun w2.heap.size 108)).toArray 167)) :=
  ⟨Blk.new _ _ _,((((HK1.out.below HB2.out HK1.out.lt)).below hb3 (by have:=HK1.out.lt;omega))).alloc _,(HK2.out.below hb3 HK2.out.lt).alloc _,hk3.alloc _⟩
 have HA:=η hall;have HF:=η hfin;have HZ:=η (show w.heap.size≤w3.heap.size∧w.heap.size≤w1.heap.size∧w.heap.size≤w2.heap.size by omega);clear hb3 hk3 hz1 hz2 hz3 hall hfin;go_wp2;go_ret;exact⟨w3.heap.size,w.heap.size,w1.heap.size,w2.heap.size,rfl,HF.out,HA.out,HZ.out.1,Nat.le_refl _,HZ.out.2.1,HZ.out.2.2⟩
theorem z3x(b o:Nat)(w:World):Calls Tryz.prog 106 #[.pointer (some ⟨b,o,none⟩)] w fun e w'=>e=.returned (.pointer (some ⟨b,o,none⟩))∧w=w':=by
 go_enter Tryz.func106,Tryz.ntmps106;go_wp2;go_ret;exact⟨rfl,rfl⟩
theorem z3z(b o:Nat)(w:World):Calls Tryz.prog 107 #[.pointer (some ⟨b,o,none⟩)] w fun e w'=>e=.returned (.pointer (some ⟨b,o+1,none⟩))∧w=w':=by
 go_enter Tryz.func107,Tryz.ntmps107;go_wp2;go_ret;exact⟨rfl,rfl⟩
theorem z3y(b o:Nat)(w:World):Calls Tryz.prog 108 #[.pointer (some ⟨b,o,none⟩)] w fun e w'=>e=.returned (.pointer (some ⟨b,o+2,none⟩))∧w=w':=by
 go_enter Tryz.func108,Tryz.ntmps108;go_wp2;go_ret;exact⟨rfl,rfl⟩
theorem z5l{A:Option Addr}{rule:List Int}(c b:Nat)(lab:Bool)(w:World)(hb:Blk w b 4 #[.bool lab])(h:Row w w.heap.size A (ints rule))(hl:rule.length≤1000000) :
  Calls Tryz.prog 143 #[.slice A rule.length c,.pointer (some ⟨b,0,none⟩)] w (Tells w (Rl.right rule lab)):=by
 have hc:w.cell? ⟨b,0,none⟩=some (.bool lab):=hb.cell 0;have hr:=q2u c lab w h hl;generalize Rl.right rule lab=x at *;have HR:=η hr;clear hr h hb;generalize rule.length=n at *;go_enter Tryz.func143,Tryz.ntmps143;go_wp2_with (fail);refine HR.out.mono ?_;rintro e w1 ⟨rfl,hb1⟩;have HB1:=η hb1;clear hb1;go_wp2;go_ret;exact⟨rfl,HB1.out⟩
theorem z7d{A:Option Addr}{l:List Lx.Tk}(c b:Nat)(i:Int)(lab:Bool)(w:World)(hb:Blk w b 4 #[.bool lab])(hr:Row w w.heap.size A (tcells l))(hl:l.length≤1000000) :
  Calls Tryz.prog 141 #[.slice A l.length c,.int .i64 i,.pointer (some ⟨b,0,none⟩)] w (FromNew w (Rl.from_ l i lab)):=by
 have hc:w.cell? ⟨b,0,none⟩=some (.bool lab):=hb.cell 0;have hf:=z6k c i lab w hr hl;generalize Rl.from_ l i lab=x at *;have HF:=η hf;clear hf hr hb;generalize l.length=n at *;go_enter Tryz.func141,Tryz.ntmps141;go_wp2_with (fail);refine HF.out.mono ?_;rintro e w1 ⟨v,rfl,hv,hb1,hn1⟩;have HV:=η hv;have HN:=η hn1;have HB1:=η hb1;clear hb1 hv hn1;go_wp2;go_ret3;exact⟨v,rfl,HV.out,HB1.out,HN.out⟩
structure PartAt (P b0 b1 b2 k:Nat) (W:World) (g:FuncId) (bk:Nat):Prop where
 c0:W.cell? ⟨P,k*3,none⟩=some (.func (.func 141) #[] #[.pointer (some ⟨bk,0,none⟩)])
 c1:W.cell? ⟨P,k*3+1,none⟩=some (.func (.func 143) #[] #[.pointer (some ⟨bk,0,none⟩)])
 c2:W.cell? ⟨P,k*3+2,none⟩=some (.func (.func g) #[] #[])
 v:Blk W bk 4 #[.bool (decide (k≠0))]
 which:bk=b0∨bk=b1∨bk=b2
 en:∀ args W,(callFunc g args).run Tryz.prog W=.ok (.enter g args) W
 of:∀ b W,Calls Tryz.prog g #[.pointer (some ⟨b,0,none⟩)] W fun e w'=>e=.returned (.pointer (some ⟨b,k,none⟩))∧W=w'
 of2:∀ b o W,Calls Tryz.prog g #[.pointer (some ⟨b,o,none⟩)] W fun e w'=>e=.returned (.pointer (some ⟨b,o+k,none⟩))∧W=w'
theorem Parts.at_{P b0 b1 b2 k:Nat}{W:World}(h:Parts P b0 b1 b2 W)(hk:k<3):∃ g bk,PartAt P b0 b1 b2 k W g bk:=by
 rcases(by omega:k=0∨k=1∨k=2) with rfl|rfl|rfl
 ·exact⟨_,b0,h.blk.cell 0,h.blk.cell 1,h.blk.cell 2,h.v0,.inl rfl,Tryz.call106,fun b W=>z3x b 0 W,fun b o W=>z3x b o W⟩
 ·exact⟨_,b1,h.blk.cell 3,h.blk.cell 4,h.blk.cell 5,h.v1,.inr (.inl rfl),Tryz.call107,fun b W=>z3z b 0 W,fun b o W=>z3z b o W⟩
 ·exact⟨_,b2,h.blk.cell 6,h.blk.cell 7,h.blk.cell 8,h.v2,.inr (.inr rfl),Tryz.call108,fun b W=>z3y b 0 W,fun b o W=>z3y b o W⟩
namespace Tb
def PR.nth(x:PR)(k:Nat):List Int:=if k=0 then x.m else if k=1 then x.r else x.p
theorem arity_le(op:Nat):arity op≤3:=by
 by_cases h:op<13
 ·rcases op_cases h with rfl|rfl|rfl|rfl|rfl|rfl|rfl|rfl|rfl|rfl|rfl|rfl|rfl<;>decide
 ·unfold arity;rw[List.getD_eq_getElem?_getD,List.getElem?_eq_none (by simp;omega)];decide
theorem useOf_lt(l:List Int):useOf l<16:=by
 unfold useOf;split
 ·exact Rl.usesOf_lt l
 ·decide
end Tb
theorem z7z{A:Option Addr}{rule:List Int}(c:Nat)(w:World)(h:Row w w.heap.size A (ints rule))(hl:rule.length≤1000000):Calls Tryz.prog 145 #[.slice A rule.length c] w fun e w'=>∃ n:Nat,e=.returned (.tuple #[.int .u32 (Tb.useOf rule:Nat),.int .i64 (n:Int)])∧Below w.heap.size w w':=by
 cases hm:Rl.made rule
 ·refine(j1u c w h hl hm).mono ?_;rintro e w' ⟨rfl,hb⟩;refine⟨1,?_,hb⟩;unfold Tb.useOf;rw[hm];rfl
 ·refine(j0h c w h hl hm).mono ?_;rintro e w' ⟨rfl,hb⟩;refine⟨0,?_,hb⟩;unfold Tb.useOf;rw[hm];rfl
structure RowAt (b:Nat) (a0 a1 a2:Value) (x:Tb.PR) (B:Nat) (W:World):Prop where
 blk:Blk W b 55 #[a0,a1,a2]
 i0:IsInts W B a0 x.m
 i1:IsInts W B a1 x.r
 i2:IsInts W B a2 x.p
theorem RowAt.below{b B:Nat}{a0 a1 a2:Value}{x:Tb.PR}{w w':World}(h:RowAt b a0 a1 a2 x B w)(hb:Below w.heap.size w w')(hB:B≤w.heap.size):RowAt b a0 a1 a2 x B w' :=
 ⟨h.blk.below hb h.blk.lt,h.i0.below (hb.mono hB),h.i1.below (hb.mono hB),h.i2.below (hb.mono hB)⟩
theorem RowAt.at_{b B k:Nat}{a0 a1 a2:Value}{x:Tb.PR}{W:World}(h:RowAt b a0 a1 a2 x B W)(hk:k<3):∃ A c,W.cell? ⟨b,k,none⟩=some (.slice A (x.nth k).length c)∧Row W B A (ints (x.nth k)):=by
 rcases(by omega:k=0∨k=1∨k=2) with rfl|rfl|rfl
 ·obtain⟨A,c,e,hr,_⟩:=h.i0;exact⟨A,c,by rw[h.blk.cell];exact congrArg some e,hr⟩
 ·obtain⟨A,c,e,hr,_⟩:=h.i1;exact⟨A,c,by rw[h.blk.cell];exact congrArg some e,hr⟩
 ·obtain⟨A,c,e,hr,_⟩:=h.i2;exact⟨A,c,by rw[h.blk.cell];exact congrArg some e,hr⟩
def Small(x:Tb.PR):Prop:=∀ k,(x.nth k).length≤1000000
structure PartsAt (w0:World) (P b0 b1 b2 b:Nat) (a0 a1 a2:Value) (x:Tb.PR) (W:World):Prop where
 below:Below w0.heap.size w0 W
 parts:Parts P b0 b1 b2 W
 row:RowAt b a0 a1 a2 x W.heap.size W
theorem PartsAt.step{w0:World}{P b0 b1 b2 b:Nat}{a0 a1 a2:Value}{x:Tb.PR}{W W':World}(h:PartsAt w0 P b0 b1 b2 b a0 a1 a2 x W)(hb:Below W.heap.size W W'):PartsAt w0 P b0 b1 b2 b a0 a1 a2 x W' :=
 ⟨h.below.trans (hb.mono h.below.size),h.parts.keep hb,by
  have:=h.row.below hb (Nat.le_refl _)
  exact⟨this.blk,this.i0.more hb.size,this.i1.more hb.size,this.i2.more hb.size⟩⟩
theorem j03{op:Nat}{x:Tb.PR}(h:∀ k,k<3→Tb.over op (x.nth k)=false):Tb.labE op x=0:=by
 have h0:Tb.over op x.m=false:=h 0 (by decide);have h1:Tb.over op x.r=false:=h 1 (by decide);have h2:Tb.over op x.p=false:=h 2 (by decide);unfold Tb.labE;rw[h0,h1,h2];rfl
theorem z8u{op k:Nat}{x:Tb.PR}(hk:k<3)(h:Tb.over op (x.nth k)=true):Tb.labE op x=7:=by
 unfold Tb.labE;rw[if_pos];rcases(by omega:k=0∨k=1∨k=2) with rfl|rfl|rfl
 ·rw[show Tb.over op x.m=true from h];rfl
 ·rw[show Tb.over op x.r=true from h];simp
 ·rw[show Tb.over op x.p=true from h];simp
theorem q75{P b0 b1 b2 op:Nat}{a0 a1 a2:Value}{x:Tb.PR}(hop:op<13)(w:World)(hi:Ins w)(hp:Parts P b0 b1 b2 w)(h0:IsInts w w.heap.size a0 x.m)(h1:IsInts w w.heap.size a1 x.r)(h2:IsInts w w.heap.size a2 x.p)(hs:Small x) :
  Calls Tryz.prog 109 #[.slice (some ⟨P,0,none⟩) 3 3,.int .i64 (op:Int),.agg #[a0,a1,a2]] w (TellsN w (Tb.labE op x:Nat)):=by
 have hst:PartsAt w P b0 b1 b2 w.heap.size a0 a1 a2 x (w.alloc (.cells #[a0,a1,a2] 55)):=by
  have hb:Below w.heap.size w (w.alloc (.cells #[a0,a1,a2] 55)):=(Below.refl _ w).alloc (Nat.le_refl _) _;exact⟨hb,hp.keep hb,Blk.new _ _ _,(h0.below hb).more hb.size,(h1.below hb).more hb.size,(h2.below hb).more hb.size⟩
 have HST:=η hst;have HI:=η hi;have HS:=η hs;have hg0:=hi.lt;clear hp h0 h1 h2 hst hi hs;go_enter Tryz.func109,Tryz.ntmps109;go_wp2;go_loopw [13] (fun i wr=>∃(k:Nat),k≤3∧i=.int .i64 k∧Hid (PartsAt w P b0 b1 b2 w.heap.size a0 a1 a2 x wr)∧Hid (∀ j,j<k→Tb.over op (x.nth j)=false)) (fun i _=>3-(intOf i).toNat);case atStart=>exact⟨0,by decide,rfl,HST,η fun j hj=>absurd hj (by omega)⟩
 case round =>
  obtain⟨k,hk,rfl,HP,HO⟩:=hrel;by_cases hlt:k<3
  ·obtain⟨g,bk,hpa⟩:=HP.out.parts.at_ hlt;obtain⟨A,c,hsl,hrow⟩:=HP.out.row.at_ hlt;obtain⟨c0,c1,c2,-,-,hen,hof,-⟩:=hpa;have hus:∀ W,Below wr.heap.size wr W→Calls Tryz.prog 145 #[.slice A (x.nth k).length c] W fun e w'=>∃ n:Nat,e=.returned (.tuple #[.int .u32 (Tb.useOf (x.nth k):Nat),.int .i64 (n:Int)])∧Below W.heap.size W w' :=
    fun W hb=>z7z c W ((hrow.below hb).more hb.size) (HS.out k)
   have hal:=(Below.refl wr.heap.size wr).alloc (Nat.le_refl _) (.cells #[.func (.func 141) #[] #[.pointer (some ⟨bk,0,none⟩)],.func (.func 143) #[] #[.pointer (some ⟨bk,0,none⟩)],.func (.func g) #[] #[]] 167);have hur:=Tb.useOf_lt (x.nth k);obtain⟨q,hq⟩:∃ q,Tb.useOf (x.nth k) / 2 ^ (1+Tb.arity op)=q:=⟨_,rfl⟩;have hov:Tb.over op (x.nth k)=decide (q≠0):=by unfold Tb.over;rw[hq]
   generalize (x.nth k).length=n at *;generalize Tb.useOf (x.nth k)=u at *;have har:=Tb.arity_le op;have hic:∀ W,Below w.heap.size w W→W.cell? ⟨0,op*2+1,none⟩=some (.int .i64 (Tb.arity op:Nat)):=fun W hb=>(HI.out.below hb hg0 op hop).2
   generalize Tb.arity op=ar at *;have hsh:(u:Int) / 2 ^ (1+(ar:Int)).toNat=(q:Int):=by
    rw[←hq,show(1+(ar:Int)).toNat=1+ar by omega]
    norm_cast
   have hblk:=HP.out.row.blk.lt;have HOV:=η hov;have HUS:=η hus;have HAL:=η hal;have HIC:=η hic;clear hus hal hq hov hrow hic;go_wp2_with (fail);refine(hof _ _).mono ?_;rintro e w1 ⟨rfl,rfl⟩;go_wp2_with (fail);refine(HUS.out _ HAL.out).mono ?_;rintro e w2 ⟨m,rfl,hb2⟩;have HP2:=η (HP.out.step (HAL.out.trans (hb2.mono HAL.out.size)));have hic2:=HIC.out w2 HP2.out.below;clear hb2 c0 c1 c2 hsl hof hen;by_cases hq0:q=0
   ·subst hq0;have HO2:Hid (∀ j,j<k+1→Tb.over op (x.nth j)=false):=η fun j hj=>by
     by_cases e:j=k
     ·subst e;rw[HOV.out];rfl
     ·exact HO.out j (by omega)
    go_wp2;go_roundw;case rel=>exact⟨k+1,by omega,by go_num,HP2,HO2⟩
    case measure=>simp[intOf];omega
   ·have hq1:((q:Int) != 0)=true:=by rw[bne_iff_ne];omega
    have HL:=η (z8u (op:=op) hlt (by rw[HOV.out];exact decide_eq_true hq0));go_wp2;go_ret;rw[HL.out];exact⟨rfl,HP2.out.below⟩
  ·obtain rfl:k=3:=by omega
   have HL:=η (j03 HO.out);go_wp2;go_ret;rw[HL.out];exact⟨rfl,HP.out.below⟩
def Tb.PR.rightAt(x:Tb.PR)(k:Nat):Bool:=Rl.right (x.nth k) (decide (k≠0))
theorem z40{x:Tb.PR}{k:Nat}(hk:k<3)(h:x.rightAt k=false):Tb.okRules x=false:=by
 unfold Tb.okRules;rcases(by omega:k=0∨k=1∨k=2) with rfl|rfl|rfl
 ·rw[show Rl.right x.m false=false from h];rfl
 ·rw[show Rl.right x.r true=false from h];simp
 ·rw[show Rl.right x.p true=false from h];simp
theorem z2q{x:Tb.PR}(h:∀ k,k<3→x.rightAt k=true):Tb.okRules x=true:=by
 unfold Tb.okRules;rw[show Rl.right x.m false=true from h 0 (by decide),show Rl.right x.r true=true from h 1 (by decide),show Rl.right x.p true=true from h 2 (by decide)];rfl
theorem j1o{op:Nat}{x:Tb.PR}{k:Nat}(hk:k<3)(h:x.rightAt k=false):Tb.rowE op x=1:=by
 unfold Tb.rowE;rw[z40 hk h];rfl
theorem z9t{op:Nat}{x:Tb.PR}(h:∀ k,k<3→x.rightAt k=true):Tb.rowE op x=Tb.labE op x:=by
 unfold Tb.rowE;rw[z2q h];rfl
theorem q96{P b0 b1 b2 op:Nat}{a0 a1 a2:Value}{x:Tb.PR}(hop:op<13)(w:World)(hi:Ins w)(hp:Parts P b0 b1 b2 w)(h0:IsInts w w.heap.size a0 x.m)(h1:IsInts w w.heap.size a1 x.r)(h2:IsInts w w.heap.size a2 x.p)(hs:Small x) :
  Calls Tryz.prog 82 #[.slice (some ⟨P,0,none⟩) 3 3,.int .i64 (op:Int),.agg #[a0,a1,a2]] w (TellsN w (Tb.rowE op x:Nat)):=by
 have hst:PartsAt w P b0 b1 b2 w.heap.size a0 a1 a2 x (w.alloc (.cells #[a0,a1,a2] 55)):=by
  have hb:Below w.heap.size w (w.alloc (.cells #[a0,a1,a2] 55)):=(Below.refl _ w).alloc (Nat.le_refl _) _;exact⟨hb,hp.keep hb,Blk.new _ _ _,(h0.below hb).more hb.size,(h1.below hb).more hb.size,(h2.below hb).more hb.size⟩
 have hlab:=fun W (H:PartsAt w P b0 b1 b2 w.heap.size a0 a1 a2 x W)=>q75 (a0:=a0) (a1:=a1) (a2:=a2) (x:=x) hop W (hi.below H.below hi.lt) H.parts (H.row.i0) (H.row.i1) (H.row.i2) hs
 have HLB:=η hlab;have HST:=η hst;have HS:=η hs;clear hp h0 h1 h2 hst hi hs hlab;go_enter Tryz.func82,Tryz.ntmps82;go_wp2;go_loopw [11] (fun i wr=>∃(k:Nat),k≤3∧i=.int .i64 k∧Hid (PartsAt w P b0 b1 b2 w.heap.size a0 a1 a2 x wr)∧Hid (∀ j,j<k→x.rightAt j=true)) (fun i _=>3-(intOf i).toNat);case atStart=>exact⟨0,by decide,rfl,HST,η fun j hj=>absurd hj (by omega)⟩
 case round =>
  obtain⟨k,hk,rfl,HP,HO⟩:=hrel;by_cases hlt:k<3
  ·obtain⟨g,bk,hpa⟩:=HP.out.parts.at_ hlt;obtain⟨A,c,hsl,hrow⟩:=HP.out.row.at_ hlt;obtain⟨c0,c1,c2,hv,-,hen,hof,-⟩:=hpa;have hus:∀ W,Below wr.heap.size wr W→Calls Tryz.prog 143 #[.slice A (x.nth k).length c,.pointer (some ⟨bk,0,none⟩)] W (Tells W (x.rightAt k)) :=
    fun W hb=>z5l c bk _ W (hv.below hb hv.lt) ((hrow.below hb).more hb.size) (HS.out k)
   have hal:Below wr.heap.size wr (wr.alloc (.cells #[.func (.func 141) #[] #[.pointer (some ⟨bk,0,none⟩)],.func (.func 143) #[] #[.pointer (some ⟨bk,0,none⟩)],.func (.func g) #[] #[]] 167)).drew:=((Below.refl wr.heap.size wr).alloc (Nat.le_refl _) _).drew;obtain⟨q,hq⟩:∃ q,x.rightAt k=q:=⟨_,rfl⟩;rw[hq] at hus;generalize (x.nth k).length=n at *;have hblk:=HP.out.row.blk.lt;have HQ:=η hq;have HUS:=η hus;have HAL:=η hal;have hof2:=fun b W=>(hof b W).mono (R':=fun e w'=>e=.returned (.pointer (some ⟨b,k,none⟩))∧w'=W) (fun e w' h=>⟨h.1,h.2.symm⟩)
   have HOF:=η hof2;clear hus hal hq hrow hof hof2;go_wp2;refine q0i 7 (by kernel_rfl) (by kernel_rfl) ?_;simp only[List.take_succ_cons,List.take_zero,List.drop_succ_cons,List.drop_zero];repeat still_step
   still_call (HOF.out _ _)
   repeat still_step
   refine wpStill_nil ?_;go_wp2_with (fail);refine(HUS.out _ HAL.out).mono ?_;rintro e w2 ⟨rfl,hb2⟩;have HP2:=η (HP.out.step (HAL.out.trans (hb2.mono HAL.out.size)));clear hb2 c0 c1 c2 hsl hen hv;cases q
   ·have HL:=η (j1o (op:=op) hlt HQ.out);go_wp2;go_ret;rw[HL.out];exact⟨rfl,HP2.out.below⟩
   ·have HO2:Hid (∀ j,j<k+1→x.rightAt j=true):=η fun j hj=>by
     by_cases e:j=k
     ·subst e;exact HQ.out
     ·exact HO.out j (by omega)
    go_wp2;go_roundw;case rel=>exact⟨k+1,by omega,by go_num,HP2,HO2⟩
    case measure=>simp[intOf];omega
  ·obtain rfl:k=3:=by omega
   have HL:=η (z9t (op:=op) HO.out);obtain⟨r0,r1,r2⟩:=ζ3 HP.out.row.blk;go_wp2_with (fail);refine(HLB.out _ HP.out).mono ?_;rintro e w1 ⟨rfl,hb1⟩;have HB:=η (HP.out.below.trans (hb1.mono HP.out.below.size));clear hb1;go_wp2;go_ret;rw[HL.out];exact⟨rfl,HB.out⟩
def RowsIn(w:World)(B:Nat)(A:Option Addr)(l:List Tb.PR):Prop :=
 ∃ vs:List Value,vs.length=l.length*3∧Row w B A vs∧∀ k x,l[k]? = some x→∃ a0 a1 a2,vs[k*3]? = some a0∧vs[k*3+1]? = some a1∧vs[k*3+2]? = some a2∧IsInts w B a0 x.m∧IsInts w B a1 x.r∧IsInts w B a2 x.p
theorem RowsIn.below{w w':World}{B:Nat}{A:Option Addr}{l:List Tb.PR}(h:RowsIn w B A l)(hb:Below B w w'):RowsIn w' B A l:=by
 obtain⟨vs,h1,h2,h3⟩:=h;refine⟨vs,h1,h2.below hb,fun k x hk=>?_⟩;obtain⟨a0,a1,a2,e0,e1,e2,i0,i1,i2⟩:=h3 k x hk;exact⟨a0,a1,a2,e0,e1,e2,i0.below hb,i1.below hb,i2.below hb⟩
theorem RowsIn.more{w:World}{B B':Nat}{A:Option Addr}{l:List Tb.PR}(h:RowsIn w B A l)(hB:B≤B'):RowsIn w B' A l:=by
 obtain⟨vs,h1,h2,h3⟩:=h;refine⟨vs,h1,h2.more hB,fun k x hk=>?_⟩;obtain⟨a0,a1,a2,e0,e1,e2,i0,i1,i2⟩:=h3 k x hk;exact⟨a0,a1,a2,e0,e1,e2,i0.more hB,i1.more hB,i2.more hB⟩
theorem RowsIn.nil(w:World)(B:Nat)(A:Option Addr):RowsIn w B A []:=⟨[],rfl,Row.nil,fun k x hk=>by simp at hk⟩
theorem RowsIn.at_{w:World}{B k:Nat}{A:Option Addr}{l:List Tb.PR}(h:RowsIn w B A l)(hk:k<l.length):∃ ad a0 a1 a2,A=some ad∧ad.block<B∧w.cell? (ad.add (k*3))=some a0 ∧
  w.cell? ⟨(ad.add (k*3)).block,(ad.add (k*3)).off+1,none⟩=some a1∧w.cell? ⟨(ad.add (k*3)).block,(ad.add (k*3)).off+2,none⟩=some a2∧IsInts w B a0 l[k].m∧IsInts w B a1 l[k].r∧IsInts w B a2 l[k].p:=by
 obtain⟨vs,h1,h2,h3⟩:=h;obtain⟨a0,a1,a2,e0,e1,e2,i0,i1,i2⟩:=h3 k _ (List.getElem?_eq_getElem hk);obtain⟨ad,e,hb,hc⟩:=h2 (by rintro rfl;simp at h1;omega);exact⟨ad,a0,a1,a2,e,hb,hc _ _ e0,by rw[←q03 _ _ _ (by decide)];exact hc _ _ e1,by rw[←q03 _ _ _ (by decide)];exact hc _ _ e2,i0,i1,i2⟩
def IsTab(w:World)(B:Nat)(v:Value)(l:List Tb.PR):Prop:=∃ A c,v=.slice A l.length c∧RowsIn w B A l∧l.length≤c
theorem IsTab.below{w w':World}{B:Nat}{v:Value}{l:List Tb.PR}(h:IsTab w B v l)(hb:Below B w w'):IsTab w' B v l:=by
 obtain⟨A,c,e,hr,hc⟩:=h;exact⟨A,c,e,hr.below hb,hc⟩
theorem IsTab.more{w:World}{B B':Nat}{v:Value}{l:List Tb.PR}(h:IsTab w B v l)(hB:B≤B'):IsTab w B' v l:=by
 obtain⟨A,c,e,hr,hc⟩:=h;exact⟨A,c,e,hr.more hB,hc⟩
theorem IsTab.nil(w:World)(B:Nat):IsTab w B (.slice none 0 0) []:=⟨none,0,rfl,RowsIn.nil _ _ _,Nat.le_refl _⟩
theorem z8b{A:Option Addr}{l:List Tb.PR}(c:Nat)(w:World)(h:l.length≠13):Calls Tryz.prog 51 #[.agg #[.slice A l.length c]] w (TellsE w (Tb.check l).1 (Tb.check l).2):=by
 have e:Tb.check l=(0,1):=by unfold Tb.check;rw[if_neg h]
 rw[e];have h1:(((l.length:Nat):Int) != 13)=true:=by rw[bne_iff_ne];omega
 generalize l.length=n at *;go_enter Tryz.func51,Tryz.ntmps51;go_wp2;go_ret2;exact⟨rfl,(Below.refl _ _).alloc (Nat.le_refl _) _⟩
structure RowsAt (w0:World) (P b0 b1 b2:Nat) (W:World):Prop where
 below:Below w0.heap.size w0 W
 parts:Parts P b0 b1 b2 W
theorem RowsAt.step{w0:World}{P b0 b1 b2:Nat}{W W':World}(h:RowsAt w0 P b0 b1 b2 W)(hb:Below W.heap.size W W'):RowsAt w0 P b0 b1 b2 W' :=
 ⟨h.below.trans (hb.mono h.below.size),h.parts.keep hb⟩
theorem q62{l:List Tb.PR}{k:Nat}(hk:k<l.length):Tb.firstBad k (l.drop k)=if Tb.rowE k l[k]=0 then Tb.firstBad (k+1) (l.drop (k+1)) else(k,Tb.rowE k l[k]):=by
 rw[List.drop_eq_getElem_cons hk];rfl
theorem z8a{A:Option Addr}{l:List Tb.PR}(c:Nat)(w:World)(hi:Ins w)(h:RowsIn w w.heap.size A l)(hl:l.length=13)(hs:∀ x ∈ l,Small x):Calls Tryz.prog 51 #[.agg #[.slice A 13 c]] w (TellsE w (Tb.check l).1 (Tb.check l).2):=by
 have e:Tb.check l=Tb.firstBad 0 l:=by unfold Tb.check;rw[if_pos hl]
 rw[e];have HI:=η hi;have H:=η h;have HS:=η hs;have HL:=η hl;have hg0:=hi.lt;clear e hi h hs hl;have hpa:=fun W=>q9i W
 have HPA:=η hpa;clear hpa;go_enter Tryz.func51,Tryz.ntmps51;go_wp2_with (fail);refine(HPA.out _).mono ?_;rintro e w1 ⟨P,b0,b1,b2,rfl,hp,hb1,-,-,-,-⟩;have hal:Below w.heap.size w (w.alloc (.cells #[.slice A 13 c] 28)):=(Below.refl _ w).alloc (Nat.le_refl _) _;have hc0:w1.cell? ⟨w.heap.size,0,none⟩=some (.slice A 13 c):=by
  have hk:=Blk.new w 28 #[.slice A 13 c];rw[(hk.below hb1 hk.lt).cell];rfl
 have HR:=η (show RowsAt w P b0 b1 b2 w1 from⟨hal.trans (hb1.mono hal.size),hp⟩);clear hp hb1 hal;go_wp2;go_loopw [16] (fun i wr=>∃(k:Nat),k≤13∧i=.int .i64 k∧Hid (RowsAt w P b0 b1 b2 wr)∧Hid (Tb.firstBad 0 l=Tb.firstBad k (l.drop k))) (fun i _=>13-(intOf i).toNat);case atStart=>exact⟨0,by decide,rfl,HR,η rfl⟩
 case round =>
  obtain⟨k,hk,rfl,HP,HF⟩:=hrel;by_cases hlt:k<13
  ·have hkl:k<l.length:=by rw[HL.out];exact hlt
   obtain⟨ad,a0,a1,a2,rfl,hb,c0,c1,c2,i0,i1,i2⟩:=(H.out.below HP.out.below).at_ hkl;have hz:=HP.out.below.size;have hal:Below wr.heap.size wr (wr.alloc (.cells #[a0,a1,a2] 55)):=(Below.refl _ wr).alloc (Nat.le_refl _) _;have hcr:=q96 (a0:=a0) (a1:=a1) (a2:=a2) (x:=l[k]) hlt (wr.alloc (.cells #[a0,a1,a2] 55)) ((HI.out.below HP.out.below hg0).below hal (by omega)) (HP.out.parts.keep hal)
    ((i0.below (hal.mono hz)).more (by simp;omega)) ((i1.below (hal.mono hz)).more (by simp;omega)) ((i2.below (hal.mono hz)).more (by simp;omega)) (HS.out _ (List.getElem_mem hkl))
   have hon:=HF.out.trans (q62 hkl);obtain⟨A0,d0,rfl,-,-⟩:=i0;obtain⟨A1,d1,rfl,-,-⟩:=i1;obtain⟨A2,d2,rfl,-,-⟩:=i2;generalize Tb.rowE k l[k]=q at *;have HCR:=η hcr;have HON:=η hon;have HAL:=η hal;clear hcr hon hal;go_wp2_with (fail);refine HCR.out.mono ?_;rintro e w2 ⟨rfl,hb2⟩;have HP2:=η (HP.out.step (HAL.out.trans (hb2.mono HAL.out.size)));clear hb2 c0 c1 c2;by_cases hq0:q=0
   ·subst hq0;have HF2:=η (HON.out.trans (if_pos rfl));go_wp2;go_roundw;case rel=>exact⟨k+1,by omega,by go_num,HP2,HF2⟩
    case measure=>simp[intOf];omega
   ·have hq1:((q:Int) != 0)=true:=by rw[bne_iff_ne];omega
    have HF2:=η (HON.out.trans (if_neg hq0));go_wp2;go_ret2;rw[HF2.out];exact⟨rfl,HP2.out.below⟩
  ·obtain rfl:k=13:=by omega
   have HF2:=η (HF.out.trans (by rw[List.drop_eq_nil_of_le (by rw[HL.out];omega)];rfl:_=((0,0):Nat×Nat)));go_wp2;go_ret2;rw[HF2.out];exact⟨rfl,HP.out.below⟩
theorem z4h{A:Option Addr}{l:List Tb.PR}(c:Nat)(w:World)(hi:Ins w)(h:RowsIn w w.heap.size A l)(hs:∀ x ∈ l,Small x):Calls Tryz.prog 51 #[.agg #[.slice A l.length c]] w (TellsE w (Tb.check l).1 (Tb.check l).2):=by
 by_cases hl:l.length=13
 ·rw[hl];exact z8a c w hi h hl hs
 ·exact z8b c w hl
def TellsI(w:World)(n:Nat)(e:Ending)(w':World):Prop:=e=.returned (.int .i64 (n:Int))∧Below w.heap.size w w'
theorem z49(op:Nat)(hop:op<13)(w:World):Calls Tryz.prog 133 #[.int .i64 op] w (TellsI w (Tb.arity op)):=by
 rcases Tb.op_cases hop with rfl|rfl|rfl|rfl|rfl|rfl|rfl|rfl|rfl|rfl|rfl|rfl|rfl;all_goals
  go_enter Tryz.func133,Tryz.ntmps133;go_wp2;go_ret;exact⟨rfl,(Below.refl _ w).alloc (Nat.le_refl _) _⟩
def noOver(op:Nat)(l:List Int):Bool:=decide (∀ j:Nat,j<4→Tb.arity op<j→¬(8+(j:Int)) ∈ l)
theorem arity_le{op:Nat}(h:op<13):Tb.arity op≤3:=by
 rcases Tb.op_cases h with rfl|rfl|rfl|rfl|rfl|rfl|rfl|rfl|rfl|rfl|rfl|rfl|rfl<;>decide
theorem q8w{op:Nat}(h:op<13){l:List Int}(hm:Rl.made l=true):Tb.over op l = !noOver op l:=by
 have ha:=arity_le h;unfold Tb.over noOver Tb.useOf;rw[if_pos hm];generalize Tb.arity op=a at *;have hall:(∀ j:Nat,j<4→a<j→¬(8+(j:Int)) ∈ l)↔(a<1→¬(9:Int) ∈ l)∧(a<2→¬(10:Int) ∈ l)∧(a<3→¬(11:Int) ∈ l):=by
  constructor
  ·intro h;exact⟨fun h1=>h 1 (by decide) h1,fun h1=>h 2 (by decide) h1,fun h1=>h 3 (by decide) h1⟩
  ·rintro⟨h1,h2,h3⟩ j hj haj;rcases(by omega:j=1∨j=2∨j=3) with rfl|rfl|rfl
   ·exact h1 haj
   ·exact h2 haj
   ·exact h3 haj
 rw[Bool.eq_iff_iff];simp only[decide_eq_true_eq,Bool.not_eq_true',decide_eq_false_iff_not,hall];unfold Rl.usesOf;by_cases h8:(8:Int) ∈ l<;>by_cases h9:(9:Int) ∈ l<;>by_cases h10:(10:Int) ∈ l<;>by_cases h11:(11:Int) ∈ l <;>
  rcases(by omega:a=0∨a=1∨a=2∨a=3) with rfl|rfl|rfl|rfl<;>simp[h8,h9,h10,h11]
theorem q47{l:List Int}{b:Bool}(h:Rl.right l b=true):Rl.made l=true:=by
 unfold Rl.made;cases b<;>rw[h]<;>simp
theorem q7u{A:Option Addr}{l:List Int}(c op:Nat)(hop:op<13)(w:World)(h:Row w w.heap.size A (ints l))(hl:l.length≤100000):Calls Tryz.prog 92 #[.int .i64 op,.slice A l.length c] w (Tells w (noOver op l)):=by
 have HA:=η (z49 op hop w);have HH:=η (fun j hj W (hb:Below w.heap.size w W)=>j01 c j W ((h.below hb).more hb.size) hl hj);have ha:=arity_le hop;obtain⟨a,hae⟩:∃ a,Tb.arity op=a:=⟨_,rfl⟩;obtain⟨res,hres⟩:∃ res,noOver op l=res:=⟨_,rfl⟩;rw[hres];rw[hae] at HA ha;have HRES:=η hres;have HAE:=η hae;clear h hres hae;generalize l.length=n at *;go_enter Tryz.func92,Tryz.ntmps92;go_wp2_with (fail);refine HA.out.mono ?_;rintro e w1 ⟨rfl,hb1⟩;have HB1:=η hb1;clear hb1;go_wp2;go_loop [5] (fun i=>∃ k:Nat,a<k∧k≤4∧i=.int .i64 k∧Hid (∀ j:Nat,j<k→a<j→¬(8+(j:Int)) ∈ l)) (fun i=>4-(intOf i).toNat);case atStart=>exact⟨a+1,by omega,by omega,by go_num,fun j h1 h2=>by omega⟩
 case round =>
  obtain⟨k,hk0,hk,rfl,HK⟩:=hrel;by_cases hlt:k<4
  ·have HC:=η (HH.out k (by omega) _ HB1.out);obtain⟨b,hb⟩:∃ b,decide ((8+(k:Int)) ∈ l)=b:=⟨_,rfl⟩;rw[hb] at HC;have HBE:=η hb;clear hb;have hltI:(k:Int)<4:=by omega
   cases b
   ·go_wp2_with (fail);refine HC.out.mono ?_;rintro e w2 ⟨rfl,rfl⟩;go_wp2;go_round
    case rel=>exact⟨k+1,by omega,by omega,by go_num,fun j h1 h2=>by
     by_cases e:j=k
     ·subst e;exact of_decide_eq_false HBE.out
     ·exact HK.out j (by omega) h2⟩
    case measure=>simp[intOf];omega
   ·go_wp2_with (fail);refine HC.out.mono ?_;rintro e w2 ⟨rfl,rfl⟩
    have HF:=η (show false=res by
     rw[←HRES.out]
     symm;unfold noOver;rw[decide_eq_false_iff_not,HAE.out];intro h
     exact h k hlt hk0 (of_decide_eq_true HBE.out))
    go_wp2;go_ret;exact⟨retb HF.out,HB1.out⟩
  ·obtain rfl:k=4:=by omega
   have HT:=η (show true=res by
    rw[←HRES.out]
    symm;unfold noOver;rw[decide_eq_true_eq,HAE.out]
    exact HK.out)
   go_wp2;go_ret;exact⟨retb HT.out,HB1.out⟩
def rowR(q0 q1 q2 p0 p1 p2:Bool):Nat:=if q0&&(q1&&q2) then(if p0&&(p1&&p2) then 0 else 7) else 1
theorem z5g{A0 A1 A2:Option Addr}{n0 n1 n2 c0 c1 c2 op:Nat}{q0 q1 q2 p0 p1 p2:Bool}(w:World)(R0:Hid (∀ W,Below w.heap.size w W→Calls Tryz.prog 91 #[.slice A0 n0 c0,.bool false] W (Tells W q0)))(R1:Hid (∀ W,Below w.heap.size w W→Calls Tryz.prog 91 #[.slice A1 n1 c1,.bool true] W (Tells W q1)))(R2:Hid (∀ W,Below w.heap.size w W→Calls Tryz.prog 91 #[.slice A2 n2 c2,.bool true] W (Tells W q2)))(N0:Hid (∀ W,Below w.heap.size w W→Calls Tryz.prog 92 #[.int .i64 op,.slice A0 n0 c0] W (Tells W p0)))(N1:Hid (∀ W,Below w.heap.size w W→Calls Tryz.prog 92 #[.int .i64 op,.slice A1 n1 c1] W (Tells W p1)))(N2:Hid (∀ W,Below w.heap.size w W→Calls Tryz.prog 92 #[.int .i64 op,.slice A2 n2 c2] W (Tells W p2))) :
  Calls Tryz.prog 62 #[.int .i64 op,.agg #[.slice A0 n0 c0,.slice A1 n1 c1,.slice A2 n2 c2]] w (TellsI w (rowR q0 q1 q2 p0 p1 p2)):=by
 obtain⟨w1,hw1⟩:∃ w1,w.alloc (.cells #[.slice A0 n0 c0,.slice A1 n1 c1,.slice A2 n2 c2] 55)=w1:=⟨_,rfl⟩;have HBw1:Hid (Below w.heap.size w w1):=hw1▸η ((Below.refl _ w).alloc (Nat.le_refl _) _);have HKw1:Hid (Blk w1 w.heap.size 55 #[.slice A0 n0 c0,.slice A1 n1 c1,.slice A2 n2 c2]):=hw1▸η (Blk.new w _ _);go_enter Tryz.func62,Tryz.ntmps62;cases q0
 ·have HC:=η (R0.out w1 HBw1.out);have hc0:=HKw1.out.cell 0;have hc1:=HKw1.out.cell 1;have hc2:=HKw1.out.cell 2;go_wp2_with (fail);refine HC.out.mono ?_;rintro e w2 ⟨rfl,hb⟩;have HBw2:=η (HBw1.out.trans (hb.mono HBw1.out.size));have HKw2:=η (HKw1.out.below hb HKw1.out.lt);clear hb HC hc0 hc1 hc2;go_wp2;go_ret;exact⟨rfl,HBw2.out⟩
 ·have HC:=η (R0.out w1 HBw1.out);have hc0:=HKw1.out.cell 0;have hc1:=HKw1.out.cell 1;have hc2:=HKw1.out.cell 2;go_wp2_with (fail);refine HC.out.mono ?_;rintro e w2 ⟨rfl,hb⟩;have HBw2:=η (HBw1.out.trans (hb.mono HBw1.out.size));have HKw2:=η (HKw1.out.below hb HKw1.out.lt);clear hb HC hc0 hc1 hc2;cases q1
  ·have HC:=η (R1.out w2 HBw2.out);have hc0:=HKw2.out.cell 0;have hc1:=HKw2.out.cell 1;have hc2:=HKw2.out.cell 2;go_wp2_with (fail);refine HC.out.mono ?_;rintro e w3 ⟨rfl,hb⟩;have HBw3:=η (HBw2.out.trans (hb.mono HBw2.out.size));have HKw3:=η (HKw2.out.below hb HKw2.out.lt);clear hb HC hc0 hc1 hc2;go_wp2;go_ret;exact⟨rfl,HBw3.out⟩
  ·have HC:=η (R1.out w2 HBw2.out);have hc0:=HKw2.out.cell 0;have hc1:=HKw2.out.cell 1;have hc2:=HKw2.out.cell 2;go_wp2_with (fail);refine HC.out.mono ?_;rintro e w3 ⟨rfl,hb⟩;have HBw3:=η (HBw2.out.trans (hb.mono HBw2.out.size));have HKw3:=η (HKw2.out.below hb HKw2.out.lt);clear hb HC hc0 hc1 hc2;cases q2
   ·have HC:=η (R2.out w3 HBw3.out);have hc0:=HKw3.out.cell 0;have hc1:=HKw3.out.cell 1;have hc2:=HKw3.out.cell 2;go_wp2_with (fail);refine HC.out.mono ?_;rintro e w4 ⟨rfl,hb⟩;have HBw4:=η (HBw3.out.trans (hb.mono HBw3.out.size));have HKw4:=η (HKw3.out.below hb HKw3.out.lt);clear hb HC hc0 hc1 hc2;go_wp2;go_ret;exact⟨rfl,HBw4.out⟩
   ·have HC:=η (R2.out w3 HBw3.out);have hc0:=HKw3.out.cell 0;have hc1:=HKw3.out.cell 1;have hc2:=HKw3.out.cell 2;go_wp2_with (fail);refine HC.out.mono ?_;rintro e w4 ⟨rfl,hb⟩;have HBw4:=η (HBw3.out.trans (hb.mono HBw3.out.size));have HKw4:=η (HKw3.out.below hb HKw3.out.lt);clear hb HC hc0 hc1 hc2;cases p0
    ·have HC:=η (N0.out w4 HBw4.out);have hc0:=HKw4.out.cell 0;have hc1:=HKw4.out.cell 1;have hc2:=HKw4.out.cell 2;go_wp2_with (fail);refine HC.out.mono ?_;rintro e w5 ⟨rfl,hb⟩;have HBw5:=η (HBw4.out.trans (hb.mono HBw4.out.size));have HKw5:=η (HKw4.out.below hb HKw4.out.lt);clear hb HC hc0 hc1 hc2;go_wp2;go_ret;exact⟨rfl,HBw5.out⟩
    ·have HC:=η (N0.out w4 HBw4.out);have hc0:=HKw4.out.cell 0;have hc1:=HKw4.out.cell 1;have hc2:=HKw4.out.cell 2;go_wp2_with (fail);refine HC.out.mono ?_;rintro e w5 ⟨rfl,hb⟩;have HBw5:=η (HBw4.out.trans (hb.mono HBw4.out.size));have HKw5:=η (HKw4.out.below hb HKw4.out.lt);clear hb HC hc0 hc1 hc2;cases p1
     ·have HC:=η (N1.out w5 HBw5.out);have hc0:=HKw5.out.cell 0;have hc1:=HKw5.out.cell 1;have hc2:=HKw5.out.cell 2;go_wp2_with (fail);refine HC.out.mono ?_;rintro e w6 ⟨rfl,hb⟩;have HBw6:=η (HBw5.out.trans (hb.mono HBw5.out.size));have HKw6:=η (HKw5.out.below hb HKw5.out.lt);clear hb HC hc0 hc1 hc2;go_wp2;go_ret;exact⟨rfl,HBw6.out⟩
     ·have HC:=η (N1.out w5 HBw5.out);have hc0:=HKw5.out.cell 0;have hc1:=HKw5.out.cell 1;have hc2:=HKw5.out.cell 2;go_wp2_with (fail);refine HC.out.mono ?_;rintro e w6 ⟨rfl,hb⟩;have HBw6:=η (HBw5.out.trans (hb.mono HBw5.out.size));have HKw6:=η (HKw5.out.below hb HKw5.out.lt);clear hb HC hc0 hc1 hc2;cases p2
      ·have HC:=η (N2.out w6 HBw6.out);have hc0:=HKw6.out.cell 0;have hc1:=HKw6.out.cell 1;have hc2:=HKw6.out.cell 2;go_wp2_with (fail);refine HC.out.mono ?_;rintro e w7 ⟨rfl,hb⟩;have HBw7:=η (HBw6.out.trans (hb.mono HBw6.out.size));have HKw7:=η (HKw6.out.below hb HKw6.out.lt);clear hb HC hc0 hc1 hc2;go_wp2;go_ret;exact⟨rfl,HBw7.out⟩
      ·have HC:=η (N2.out w6 HBw6.out);have hc0:=HKw6.out.cell 0;have hc1:=HKw6.out.cell 1;have hc2:=HKw6.out.cell 2;go_wp2_with (fail);refine HC.out.mono ?_;rintro e w7 ⟨rfl,hb⟩;have HBw7:=η (HBw6.out.trans (hb.mono HBw6.out.size));have HKw7:=η (HKw6.out.below hb HKw6.out.lt);clear hb HC hc0 hc1 hc2;go_wp2;go_ret;exact⟨rfl,HBw7.out⟩
end Go.Proofs.YtjobifclmcdjcaaGreatDoor
namespace Go.Proofs.YtjobifclmcdjcaaGreatDoor
open Go.RowKit Go.Shelf
theorem op_cases{n:Int}(h:1≤n∧n≤13):n=1∨n=2∨n=3∨n=4∨n=5∨n=6∨n=7∨n=8∨n=9∨n=10∨n=11∨n=12∨n=13:=by omega
end Go.Proofs.YtjobifclmcdjcaaGreatDoor
