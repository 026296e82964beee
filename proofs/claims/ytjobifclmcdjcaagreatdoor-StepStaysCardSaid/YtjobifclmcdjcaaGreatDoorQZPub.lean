import Derived.Deep.RegionWith
import Derived.Test.YtjobifclmcdjcaaGreatDoorQZOrd
import Derived.Test.YtjobifclmcdjcaaGreatDoorQZLat
set_option maxHeartbeats 64000000
set_option maxRecDepth 100000
namespace Go.Proofs.YtjobifclmcdjcaaGreatDoor
open Go.RowKit
theorem q6z{names:List ByteArray}{up:List Nat}(h:checkN names up=0):mayB names up=true∧Lat.isOrder up=true∧Lat.isLattice up=true:=by
 unfold checkN at h;cases h1:mayB names up<;>rw[h1] at h<;>simp at h
 cases h2:Lat.isOrder up<;>rw[h2] at h<;>simp at h
 cases h3:Lat.isLattice up<;>rw[h3] at h<;>simp at h
 exact⟨rfl,rfl,rfl⟩
theorem q52{names:List ByteArray}{up:List Nat}{a b:Int}(h:labN names up a b=0):checkN names up=0∧(∃ a':Nat,a=a'∧a'<up.length)∧(∃ b':Nat,b=b'∧b'<up.length):=by
 unfold labN at h;by_cases h1:checkN names up=0
 ·rw[if_pos h1] at h;by_cases h2:(isLab up a&&isLab up b)=true
  ·simp only[Bool.and_eq_true,isLab,decide_eq_true_eq] at h2;exact⟨h1,⟨a.toNat,by omega,by omega⟩,⟨b.toNat,by omega,by omega⟩⟩
  ·rw[if_neg h2] at h;omega
 ·rw[if_neg h1] at h;exact absurd h h1
theorem q1i{names:List ByteArray}{up:List Nat}(h:checkN names up=0):1≤up.length∧up.length≤8:=by
 have:=z0o (q6z h).1;exact⟨this.1,this.2.1⟩
theorem q6d{x y:Int}{a b:Bool}(h':a=b)(h:x=y):Ending.returned (.tuple #[.bool a,.int .i64 x])=.returned (.tuple #[.bool b,.int .i64 y]):=by rw[h,h']
theorem q2d{x y a b:Int}(h':a=b)(h:x=y):Ending.returned (.tuple #[.int .i64 a,.int .i64 x])=.returned (.tuple #[.int .i64 b,.int .i64 y]):=by rw[h,h']
def flowsR(names:List ByteArray)(up:List Nat)(a b:Int):Bool:=if labN names up a b=0 then Lat.fl up a.toNat b.toNat else false
def joinR(names:List ByteArray)(up:List Nat)(a b:Int):Nat:=if labN names up a b=0 then Lat.leastN up (Lat.joinS up a.toNat b.toNat) else 0
def meetR(names:List ByteArray)(up:List Nat)(a b:Int):Nat:=if labN names up a b=0 then Lat.leastN (Lat.turned up) (Lat.joinS (Lat.turned up) a.toNat b.toNat) else 0
def bottomR(names:List ByteArray)(up:List Nat):Nat:=if checkN names up=0 then Lat.leastN up (Lat.allS up.length) else 0
def topR(names:List ByteArray)(up:List Nat):Nat:=if checkN names up=0 then Lat.leastN (Lat.turned up) (Lat.allS up.length) else 0
theorem z5z{v:Value}{names:List ByteArray}{up:List Nat}(a b:Int)(w:World)(h:IsLat w w.heap.size v names up) :
  Calls Tryz.prog 211 #[v,.int .i64 a,.int .i64 b] w fun e w'=>e=.returned (.tuple #[.bool (flowsR names up a b),.int .i64 (labN names up a b:Nat)])∧Below w.heap.size w w':=by
 have h':=h;obtain⟨⟨A,A',c,c',rfl,hN,hU⟩,hshort,⟨hf1,hf2⟩,-⟩:=h';have hb0:Below w.heap.size w (w.alloc (.cells #[.slice A names.length c,.slice A' up.length c'] 25)):=(Below.refl _ w).alloc (Nat.le_refl _) _;have p0:Blk (w.alloc (.cells #[.slice A names.length c,.slice A' up.length c'] 25)) w.heap.size 25 #[.slice A names.length c,.slice A' up.length c']:=Blk.new _ _ _;have HP0:=η p0;have hch:=q2x a b _ (h.boxed (.cells #[.slice A names.length c,.slice A' up.length c'] 25));have HR:Hid (flowsR names up a b=if labN names up a b=0 then Lat.fl up a.toNat b.toNat else false):=rfl;clear p0 h;obtain⟨n,hn⟩:∃ n,labN names up a b=n:=⟨_,rfl⟩;rw[hn] at hch;have HN:=η hn;rw[hn];clear hn;by_cases hz:n=0
 ·subst hz;obtain⟨hz1,⟨a,rfl,ha⟩,⟨b,rfl,hb⟩⟩:=q52 HN.out;obtain⟨l1,l2⟩:=q1i hz1;have HCH:=η hch;clear hch hz1;go_enter Tryz.func211,Tryz.ntmps211;go_wp2_with (go_at_call 214;refine HCH.out.mono ?_);rintro e w1 ⟨rfl,hb1⟩;have hp1:=HP0.out.below hb1 (by simp);have hbw1:Below w.heap.size w w1:=hb0.trans (hb1.mono (by simp));have hc1:w1.cell? ⟨w.heap.size,1,none⟩=some (.slice A' up.length c'):=by rw[hp1.cell];rfl
  have hfl:=q1k c' a b w1 (hU.below hbw1) ha (by omega);have HFL:=η hfl;clear hfl hb1 HCH;go_wp2_with (go_at_call 102;refine HFL.out.mono ?_);rintro e w2 ⟨rfl,rfl⟩;go_wp2;go_ret2;exact⟨q6d (by rw[HR.out,HN.out];simp) rfl,hbw1⟩
 ·have hz1:((n:Int)==0)=false:=by rw[beq_eq_false_iff_ne];omega
  have hz2:((n:Int) != 0)=true:=by rw[bne_iff_ne];omega
  have HCH:=η hch;clear hch;go_enter Tryz.func211,Tryz.ntmps211;go_wp2_with (go_at_call 214;refine HCH.out.mono ?_);rintro e w1 ⟨rfl,hb1⟩;go_wp2;go_ret2;exact⟨q6d (by rw[HR.out,HN.out,if_neg hz]) rfl,hb0.trans (hb1.mono (by simp))⟩
theorem z71{v:Value}{names:List ByteArray}{up:List Nat}(a b:Int)(w:World)(h:IsLat w w.heap.size v names up) :
  Calls Tryz.prog 212 #[v,.int .i64 a,.int .i64 b] w fun e w'=>e=.returned (.tuple #[.int .i64 (joinR names up a b:Nat),.int .i64 (labN names up a b:Nat)])∧Below w.heap.size w w':=by
 have h':=h;obtain⟨⟨A,A',c,c',rfl,hN,hU⟩,hshort,⟨hf1,hf2⟩,-⟩:=h';have hb0:Below w.heap.size w (w.alloc (.cells #[.slice A names.length c,.slice A' up.length c'] 25)):=(Below.refl _ w).alloc (Nat.le_refl _) _;have p0:Blk (w.alloc (.cells #[.slice A names.length c,.slice A' up.length c'] 25)) w.heap.size 25 #[.slice A names.length c,.slice A' up.length c']:=Blk.new _ _ _;have HP0:=η p0;have hch:=q2x a b _ (h.boxed (.cells #[.slice A names.length c,.slice A' up.length c'] 25));have HR:Hid (joinR names up a b=if labN names up a b=0 then Lat.leastN up (Lat.joinS up a.toNat b.toNat) else 0):=rfl;clear p0 h;obtain⟨n,hn⟩:∃ n,labN names up a b=n:=⟨_,rfl⟩;rw[hn] at hch;have HN:=η hn;rw[hn];clear hn;by_cases hz:n=0
 ·subst hz;obtain⟨hz1,⟨a,rfl,ha⟩,⟨b,rfl,hb⟩⟩:=q52 HN.out;obtain⟨l1,l2⟩:=q1i hz1;have HCH:=η hch;clear hch hz1;go_enter Tryz.func212,Tryz.ntmps212;go_wp2_with (go_at_call 214;refine HCH.out.mono ?_);rintro e w1 ⟨rfl,hb1⟩;have hp1:=HP0.out.below hb1 (by simp);have hbw1:Below w.heap.size w w1:=hb0.trans (hb1.mono (by simp));have hc1:w1.cell? ⟨w.heap.size,1,none⟩=some (.slice A' up.length c'):=by rw[hp1.cell];rfl
  have hjn:=q44 c' a b w1 (hU.below hbw1) (by omega) ha hb;have HJN:=η hjn;clear hjn hb1 HCH;go_wp2_with (go_at_call 104;refine HJN.out.mono ?_);rintro e w2 ⟨rfl,nq,rfl⟩;go_wp2;go_ret2;exact⟨q2d (by rw[HR.out,HN.out];simp) rfl,q0e hbw1 nq⟩
 ·have hz1:((n:Int)==0)=false:=by rw[beq_eq_false_iff_ne];omega
  have hz2:((n:Int) != 0)=true:=by rw[bne_iff_ne];omega
  have HCH:=η hch;clear hch;go_enter Tryz.func212,Tryz.ntmps212;go_wp2_with (go_at_call 214;refine HCH.out.mono ?_);rintro e w1 ⟨rfl,hb1⟩;go_wp2;go_ret2;exact⟨q2d (by rw[HR.out,HN.out,if_neg hz];rfl) rfl,hb0.trans (hb1.mono (by simp))⟩
theorem z72{v:Value}{names:List ByteArray}{up:List Nat}(a b:Int)(w:World)(h:IsLat w w.heap.size v names up) :
  Calls Tryz.prog 213 #[v,.int .i64 a,.int .i64 b] w fun e w'=>e=.returned (.tuple #[.int .i64 (meetR names up a b:Nat),.int .i64 (labN names up a b:Nat)])∧Below w.heap.size w w':=by
 have h':=h;obtain⟨⟨A,A',c,c',rfl,hN,hU⟩,hshort,⟨hf1,hf2⟩,-⟩:=h';have hb0:Below w.heap.size w (w.alloc (.cells #[.slice A names.length c,.slice A' up.length c'] 25)):=(Below.refl _ w).alloc (Nat.le_refl _) _;have p0:Blk (w.alloc (.cells #[.slice A names.length c,.slice A' up.length c'] 25)) w.heap.size 25 #[.slice A names.length c,.slice A' up.length c']:=Blk.new _ _ _;have HP0:=η p0;have hch:=q2x a b _ (h.boxed (.cells #[.slice A names.length c,.slice A' up.length c'] 25));have HR:Hid (meetR names up a b=if labN names up a b=0 then Lat.leastN (Lat.turned up) (Lat.joinS (Lat.turned up) a.toNat b.toNat) else 0):=rfl;clear p0 h;obtain⟨n,hn⟩:∃ n,labN names up a b=n:=⟨_,rfl⟩;rw[hn] at hch;have HN:=η hn;rw[hn];clear hn;by_cases hz:n=0
 ·subst hz;obtain⟨hz1,⟨a,rfl,ha⟩,⟨b,rfl,hb⟩⟩:=q52 HN.out;obtain⟨l1,l2⟩:=q1i hz1;have HCH:=η hch;clear hch hz1;go_enter Tryz.func213,Tryz.ntmps213;go_wp2_with (go_at_call 214;refine HCH.out.mono ?_);rintro e w1 ⟨rfl,hb1⟩;have hp1:=HP0.out.below hb1 (by simp);have hbw1:Below w.heap.size w w1:=hb0.trans (hb1.mono (by simp));have hc1:w1.cell? ⟨w.heap.size,1,none⟩=some (.slice A' up.length c'):=by rw[hp1.cell];rfl
  have htn:=q5p c' w1 ((hU.below hbw1).more hbw1.size) (by omega);have HTN:=η htn;clear htn hb1 HCH;go_wp2_with (go_at_call 103;refine HTN.out.mono ?_);rintro e w2 ⟨g,rfl,hblk,hb2⟩;have hbw2:=hbw1.trans (hb2.mono hbw1.size);have hUd:Ups w2 (g+1) (some ⟨g,0,none⟩) (Lat.turned up):=q8n hblk (q6o (by omega));have hjn:=q44 up.length a b w2 hUd (by rw[Lat.turned_length];omega) (by rw[Lat.turned_length];exact ha) (by rw[Lat.turned_length];exact hb);rw[Lat.turned_length] at hjn;have HJN:=η hjn;clear hjn hb2 HTN;go_wp2_with (go_at_call 104;refine HJN.out.mono ?_);rintro e w3 ⟨rfl,nq,rfl⟩;go_wp2;go_ret2;exact⟨q2d (by rw[HR.out,HN.out];simp) rfl,q0e hbw2 nq⟩
 ·have hz1:((n:Int)==0)=false:=by rw[beq_eq_false_iff_ne];omega
  have hz2:((n:Int) != 0)=true:=by rw[bne_iff_ne];omega
  have HCH:=η hch;clear hch;go_enter Tryz.func213,Tryz.ntmps213;go_wp2_with (go_at_call 214;refine HCH.out.mono ?_);rintro e w1 ⟨rfl,hb1⟩;go_wp2;go_ret2;exact⟨q2d (by rw[HR.out,HN.out,if_neg hz];rfl) rfl,hb0.trans (hb1.mono (by simp))⟩
theorem q7x{v:Value}{names:List ByteArray}{up:List Nat}(w:World)(h:IsLat w w.heap.size v names up) :
  Calls Tryz.prog 83 #[v] w fun e w'=>e=.returned (.tuple #[.int .i64 (bottomR names up:Nat),.int .i64 (checkN names up:Nat)])∧Below w.heap.size w w':=by
 have h':=h;obtain⟨⟨A,A',c,c',rfl,hN,hU⟩,hshort,⟨hf1,hf2⟩,-⟩:=h';have hb0:Below w.heap.size w (w.alloc (.cells #[.slice A names.length c,.slice A' up.length c'] 25)):=(Below.refl _ w).alloc (Nat.le_refl _) _;have p0:Blk (w.alloc (.cells #[.slice A names.length c,.slice A' up.length c'] 25)) w.heap.size 25 #[.slice A names.length c,.slice A' up.length c']:=Blk.new _ _ _;have HP0:=η p0;have hch:=q2r _ (h.boxed (.cells #[.slice A names.length c,.slice A' up.length c'] 25));have HR:Hid (bottomR names up=if checkN names up=0 then Lat.leastN up (Lat.allS up.length) else 0):=rfl;clear p0 h;obtain⟨n,hn⟩:∃ n,checkN names up=n:=⟨_,rfl⟩;rw[hn] at hch;have HN:=η hn;rw[hn];clear hn;by_cases hz:n=0
 ·subst hz;obtain⟨l1,l2⟩:=q1i HN.out;have HCH:=η hch;clear hch;go_enter Tryz.func83,Tryz.ntmps83;go_wp2_with (go_at_call 50;refine HCH.out.mono ?_);rintro e w1 ⟨rfl,hb1⟩;have hp1:=HP0.out.below hb1 (by simp);have hbw1:Below w.heap.size w w1:=hb0.trans (hb1.mono (by simp));have hc1:w1.cell? ⟨w.heap.size,1,none⟩=some (.slice A' up.length c'):=by rw[hp1.cell];rfl
  have hall32:Lat.allS up.length<4294967296:=by
   unfold Lat.allS;have:2 ^ up.length<2 ^ 32:=Nat.pow_lt_pow_right (by decide) (by omega);omega
  have hle:=fun nq=>q53 c' (Lat.allS up.length) (w1.drewN nq) ((hU.below hbw1).drewN nq) (by omega) hall32
  have HLE:=η hle;clear hle hb1 HCH hall32;go_wp2_with (fail);go_quiet (first|(go_at_call 99;exact q2c (q4s _ _ (by omega)))|(go_at_call 110;exact q2c (HLE.out _)));go_wp2;go_ret2;exact⟨q2d (by rw[HR.out,HN.out];rfl) rfl,q0e hbw1 _⟩
 ·have hz1:((n:Int)==0)=false:=by rw[beq_eq_false_iff_ne];omega
  have hz2:((n:Int) != 0)=true:=by rw[bne_iff_ne];omega
  have HCH:=η hch;clear hch;go_enter Tryz.func83,Tryz.ntmps83;go_wp2_with (go_at_call 50;refine HCH.out.mono ?_);rintro e w1 ⟨rfl,hb1⟩;go_wp2;go_ret2;exact⟨q2d (by rw[HR.out,HN.out,if_neg hz];rfl) rfl,hb0.trans (hb1.mono (by simp))⟩
theorem j0o{v:Value}{names:List ByteArray}{up:List Nat}(w:World)(h:IsLat w w.heap.size v names up) :
  Calls Tryz.prog 166 #[v] w fun e w'=>e=.returned (.tuple #[.int .i64 (topR names up:Nat),.int .i64 (checkN names up:Nat)])∧Below w.heap.size w w':=by
 have h':=h;obtain⟨⟨A,A',c,c',rfl,hN,hU⟩,hshort,⟨hf1,hf2⟩,-⟩:=h';have hb0:Below w.heap.size w (w.alloc (.cells #[.slice A names.length c,.slice A' up.length c'] 25)):=(Below.refl _ w).alloc (Nat.le_refl _) _;have p0:Blk (w.alloc (.cells #[.slice A names.length c,.slice A' up.length c'] 25)) w.heap.size 25 #[.slice A names.length c,.slice A' up.length c']:=Blk.new _ _ _;have HP0:=η p0;have hch:=q2r _ (h.boxed (.cells #[.slice A names.length c,.slice A' up.length c'] 25));have HR:Hid (topR names up=if checkN names up=0 then Lat.leastN (Lat.turned up) (Lat.allS up.length) else 0):=rfl;clear p0 h;obtain⟨n,hn⟩:∃ n,checkN names up=n:=⟨_,rfl⟩;rw[hn] at hch;have HN:=η hn;rw[hn];clear hn;by_cases hz:n=0
 ·subst hz;obtain⟨l1,l2⟩:=q1i HN.out;have HCH:=η hch;clear hch;go_enter Tryz.func166,Tryz.ntmps166;go_wp2_with (go_at_call 50;refine HCH.out.mono ?_);rintro e w1 ⟨rfl,hb1⟩;have hp1:=HP0.out.below hb1 (by simp);have hbw1:Below w.heap.size w w1:=hb0.trans (hb1.mono (by simp));have hlt1:=hp1.lt;have hc1:w1.cell? ⟨w.heap.size,1,none⟩=some (.slice A' up.length c'):=by rw[hp1.cell];rfl
  have hall32:Lat.allS up.length<4294967296:=by
   unfold Lat.allS;have:2 ^ up.length<2 ^ 32:=Nat.pow_lt_pow_right (by decide) (by omega);omega
  have htn:∀ W:World,Below w.heap.size w W→Blk W w.heap.size 25 #[.slice A names.length c,.slice A' up.length c']→Calls Tryz.prog 103 #[.slice A' up.length c'] W fun e w' =>
    ∃ g,e=.returned (.slice (some ⟨g,0,none⟩) up.length up.length)∧(∀ s,s<4294967296→Calls Tryz.prog 110 #[.slice (some ⟨g,0,none⟩) up.length up.length,.int .u32 (s:Nat)] w' fun e w''=>e=.returned (.tuple #[.int .i64 (Lat.leastN (Lat.turned up) s:Nat),.bool (Lat.leastB (Lat.turned up) s)])∧w'=w'')∧w'.cell? ⟨w.heap.size,1,none⟩=some (.slice A' up.length c')∧Below w.heap.size w w':=by
   intro W hW hbl;refine(q5p c' W ((hU.below hW).more hW.size) (by omega)).mono ?_;rintro e w' ⟨g,rfl,hblk,hb⟩;refine⟨g,rfl,fun s hs=>?_,?_,hW.trans (hb.mono hW.size)⟩
   ·have:=q53 up.length s w' (q8n hblk (q6o (by omega))) (by rw[Lat.turned_length];omega) hs;rw[Lat.turned_length] at this;exact this
   ·have:=hbl.below hb hbl.lt;rw[this.cell];rfl
  have HTN:=η htn;have HBW:=η hbw1;clear htn hb1 HCH hU hN;go_wp2_with (fail)
  go_region_with (first
   | (go_at_call 99;refine(q4s _ _ (by omega)).mono ?_;rintro e w' ⟨rfl,rfl⟩)
   | (go_at_call 103;refine(HTN.out _ HBW.out.drew hp1.drew).mono ?_;rintro e w' ⟨g,rfl,hleast,hc2,hbw2⟩)
   | (go_at_call 110;refine(hleast _ hall32).mono ?_;rintro e w' ⟨rfl,rfl⟩))
  all_goals go_wp2
  all_goals go_ret2
  all_goals exact⟨q2d (by rw[HR.out,HN.out];rfl) rfl,by first|exact hbw2|exact hbw2.drew⟩
 ·have hz1:((n:Int)==0)=false:=by rw[beq_eq_false_iff_ne];omega
  have hz2:((n:Int) != 0)=true:=by rw[bne_iff_ne];omega
  have HCH:=η hch;clear hch;go_enter Tryz.func166,Tryz.ntmps166;go_wp2_with (go_at_call 50;refine HCH.out.mono ?_);rintro e w1 ⟨rfl,hb1⟩;go_wp2;go_ret2;exact⟨q2d (by rw[HR.out,HN.out,if_neg hz];rfl) rfl,hb0.trans (hb1.mono (by simp))⟩
theorem half(x k:Nat):((x / 2 ^ k:Nat):Int) / 2=((x / 2 ^ (k+1):Nat):Int):=by rw[Nat.pow_succ,←Nat.div_div_eq_div_mul];simp
theorem q8d{v:Value}{names:List ByteArray}{up:List Nat}(a b:Nat)(w:World)(h:IsLat w w.heap.size v names up)(ha:a<up.length)(hb:b≤1000) :
  Calls Tryz.prog 90 #[v,.int .i64 a,.int .i64 b] w fun e w'=>e=.returned (.bool (Lat.fl up a b))∧Below w.heap.size w w':=by
 obtain⟨⟨A,A',c,c',rfl,hN,hU⟩,hshort,⟨hf1,hf2⟩,-⟩:=h;have hb0:Below w.heap.size w (w.alloc (.cells #[.slice A names.length c,.slice A' up.length c'] 25)):=(Below.refl _ w).alloc (Nat.le_refl _) _;obtain⟨ad,x,rfl,had,hx,hx32,hc⟩:=hU.at_ ha;have hc':=(hb0.cell (p:=ad.add a) (by rw[q0a];exact had)).trans hc;have hf:Lat.fl up a b=x.testBit b:=by unfold Lat.fl;rw[List.getD_eq_getElem?_getD,hx];rfl
 have HF:=η hf;clear hf hx hN hU;go_enter Tryz.func90,Tryz.ntmps90;go_wp2;go_loop [7,8] (fun y i=>∃ k:Nat,k≤b∧i=.int .i64 k∧y=.int .u32 ((x / 2 ^ k:Nat):Int)) (fun _ i=>b-(intOf i).toNat);case atStart=>exact⟨0,Nat.zero_le _,rfl,by simp⟩
 case round =>
  obtain⟨k,hk,rfl,rfl⟩:=hrel;have hbd:x / 2 ^ k<4294967296:=Nat.lt_of_le_of_lt (Nat.div_le_self _ _) hx32;obtain⟨y,hy⟩:∃ y,x / 2 ^ k=y:=⟨_,rfl⟩;rw[hy] at hbd ⊢;have HY:=η hy;clear hy;by_cases hlt:k<b
  ·go_wp2;go_round;case rel=>exact⟨k+1,by omega,by go_num,by rw[←half,HY.out]⟩
   case measure=>simp[intOf];omega
  ·obtain rfl:k=b:=by omega
   go_wp2;go_ret;exact⟨q0k (by rw[HF.out,Nat.testBit_eq_decide_div_mod_eq,HY.out,Bool.eq_iff_iff];simp;omega),hb0⟩
def At(w:World)(x0 x1:Value)(W:World):Prop:=Blk W w.heap.size 25 #[x0,x1]∧Below w.heap.size w W
theorem At.c0{w:World}{x0 x1:Value}{W:World}(h:At w x0 x1 W):W.cell? ⟨w.heap.size,0,none⟩=some x0:=by rw[h.1.cell];rfl
theorem At.c1{w:World}{x0 x1:Value}{W:World}(h:At w x0 x1 W):W.cell? ⟨w.heap.size,1,none⟩=some x1:=by rw[h.1.cell];rfl
theorem At.start(w:World)(x0 x1:Value):At w x0 x1 (w.alloc (.cells #[x0,x1] 25)):=⟨Blk.new _ _ _,(Below.refl _ w).alloc (Nat.le_refl _) _⟩
theorem At.next{w:World}{x0 x1:Value}{W W':World}(h:At w x0 x1 W)(hb:Below W.heap.size W W'):At w x0 x1 W':=⟨h.1.below hb h.1.lt,h.2.trans (hb.mono h.2.size)⟩
theorem At.lat{w:World}{x0 x1:Value}{W:World}{v:Value}{names:List ByteArray}{up:List Nat}(h:At w x0 x1 W)(hl:IsLat w w.heap.size v names up):IsLat W W.heap.size v names up:=(hl.below h.2).more h.2.size
theorem At.flows{v x0 x1:Value}{names:List ByteArray}{up:List Nat}{w:World}(h:IsLat w w.heap.size v names up)(a b:Nat){W:World}(hW:At w x0 x1 W)(ha:a<up.length)(hb:b<up.length) :
  Calls Tryz.prog 90 #[v,.int .i64 a,.int .i64 b] W fun e w'=>e=.returned (.bool (Lat.fl up a b))∧At w x0 x1 w'∧w'.cell? ⟨w.heap.size,0,none⟩=some x0∧w'.cell? ⟨w.heap.size,1,none⟩=some x1 :=
 (q8d a b W (hW.lat h) ha (by have:=h.few.2;omega)).mono fun _ _ ⟨he,hb⟩=>⟨he,hW.next hb,(hW.next hb).c0,(hW.next hb).c1⟩
def jAll(up:List Nat)(a b c d:Nat):Bool:=!(Lat.fl up a d&&Lat.fl up b d&&!Lat.fl up c d)
def jOk(up:List Nat)(a b c:Nat):Bool:=Lat.fl up a c&&Lat.fl up b c&&(List.range up.length).all (jAll up a b c)
def rJoin(up:List Nat)(a b:Nat):Int:=match (List.range up.length).find? (jOk up a b) with|some c=>(c:Int)|none=>-1
def mAll(up:List Nat)(a b c d:Nat):Bool:=!(Lat.fl up d a&&Lat.fl up d b&&!Lat.fl up d c)
def mOk(up:List Nat)(a b c:Nat):Bool:=Lat.fl up c a&&Lat.fl up c b&&(List.range up.length).all (mAll up a b c)
def rMeet(up:List Nat)(a b:Nat):Int:=match (List.range up.length).find? (mOk up a b) with|some c=>(c:Int)|none=>-1
def jTo(up:List Nat)(a b c d:Nat):Bool:=Lat.fl up a c&&Lat.fl up b c&&(List.range d).all (jAll up a b c)
theorem z8r(up:List Nat)(a b c:Nat):jTo up a b c 0=(Lat.fl up a c&&Lat.fl up b c):=by simp[jTo]
theorem z8q(up:List Nat)(a b c d:Nat):jTo up a b c (d+1)=(jTo up a b c d&&jAll up a b c d):=by simp[jTo,List.range_succ,Bool.and_assoc]
def mTo(up:List Nat)(a b c d:Nat):Bool:=Lat.fl up c a&&Lat.fl up c b&&(List.range d).all (mAll up a b c)
theorem z81(up:List Nat)(a b c:Nat):mTo up a b c 0=(Lat.fl up c a&&Lat.fl up c b):=by simp[mTo]
theorem z80(up:List Nat)(a b c d:Nat):mTo up a b c (d+1)=(mTo up a b c d&&mAll up a b c d):=by simp[mTo,List.range_succ,Bool.and_assoc]
theorem q6b{v:Value}{names:List ByteArray}{up:List Nat}(a b:Nat)(w:World)(h:IsLat w w.heap.size v names up)(ha:a<up.length)(hb:b<up.length) :
  Calls Tryz.prog 60 #[v,.int .i64 a,.int .i64 b] w fun e w'=>e=.returned (.int .i64 (rJoin up a b))∧Below w.heap.size w w':=by
 have h':=h;obtain⟨⟨A,A',c,c',rfl,-,-⟩,-,⟨hf1,hf2⟩,-⟩:=h';have hst:=At.start w (.slice A names.length c) (.slice A' up.length c');have HFL:=η (fun(i j:Nat) (W:World) (hW:At w (.slice A names.length c) (.slice A' up.length c') W) hi hj=>At.flows h i j hW hi hj);have HR:Hid (rJoin up a b=match (List.range up.length).find? (jOk up a b) with|some c=>(c:Int)|none=>-1):=rfl;clear h;go_enter Tryz.func60,Tryz.ntmps60;go_wp2;go_loopw [13] (fun i wr=>∃ k:Nat,k≤up.length∧i=.int .i64 k∧(∀ j,j<k→jOk up a b j=false)∧At w (.slice A names.length c) (.slice A' up.length c') wr) (fun i _=>up.length-(intOf i).toNat);case atStart=>exact⟨0,Nat.zero_le _,rfl,fun j hj=>absurd hj (Nat.not_lt_zero j),hst⟩
 case round =>
  obtain⟨k,hk,rfl,hno,hat⟩:=hrel;have HNO:=η hno;have hc0:=hat.c0;have hc1:=hat.c1;clear hno hst;by_cases hlt:k<up.length
  ·obtain⟨wo,rfl⟩:∃ wo:World,wo=wr:=⟨_,rfl⟩;have hz:=z8r up a b k;cases e1:Lat.fl up a k<;>cases e2:Lat.fl up b k
   all_goals
    rw[e1,e2] at hz;have HZ:=η hz;clear hz;go_wp2_with (go_at_call 90;refine(HFL.out _ _ _ (by assumption) (by omega) (by omega)).mono ?_;rintro e w' ⟨rfl,hat',hc0',hc1'⟩);go_loopw [8,29] (fun y i wr=>∃ d:Nat,d≤up.length∧i=.int .i64 d∧y=.bool (jTo up a b k d)∧At w (.slice A names.length c) (.slice A' up.length c') wr) (fun _ i _=>up.length-(intOf i).toNat);case atStart=>exact⟨0,Nat.zero_le _,rfl,by rw[HZ.out];rfl,by assumption⟩
    case round =>
     obtain⟨d,hd,rfl,rfl,hatd⟩:=hrel;have hcd0:=hatd.c0;have hcd1:=hatd.c1;have HS:Hid (jTo up a b k (d+1)=(jTo up a b k d&&!(Lat.fl up a d&&Lat.fl up b d&&!Lat.fl up k d))):=z8q up a b k d;obtain⟨t,ht⟩:∃ t,jTo up a b k d=t:=⟨_,rfl⟩;have HT:=η ht;rw[ht];clear ht;by_cases hld:d<up.length
     ·cases e3:Lat.fl up a d
      ·have HE3:=η e3;go_wp2_with (go_at_call 90;refine(HFL.out _ _ _ (by assumption) (by omega) (by omega)).mono ?_;rintro e w' ⟨rfl,hat',hc0',hc1'⟩);go_roundw;case rel=>exact⟨d+1,by omega,by go_num,by rw[HS.out,HT.out,HE3.out];simp,by assumption⟩
       case measure=>simp[intOf];omega
      ·have HE3:=η e3;cases e4:Lat.fl up b d
       ·have HE4:=η e4;go_wp2_with (go_at_call 90;refine(HFL.out _ _ _ (by assumption) (by omega) (by omega)).mono ?_;rintro e w' ⟨rfl,hat',hc0',hc1'⟩);go_roundw;case rel=>exact⟨d+1,by omega,by go_num,by rw[HS.out,HT.out,HE3.out,HE4.out];simp,by assumption⟩
        case measure=>simp[intOf];omega
       ·have HE4:=η e4;cases e5:Lat.fl up k d;all_goals
         have HE5:=η e5;go_wp2_with (go_at_call 90;refine(HFL.out _ _ _ (by assumption) (by omega) (by omega)).mono ?_;rintro e w' ⟨rfl,hat',hc0',hc1'⟩);go_roundw;case rel=>exact⟨d+1,by omega,by go_num,by rw[HS.out,HT.out,HE3.out,HE4.out,HE5.out];simp,by assumption⟩
         case measure=>simp[intOf];omega
     ·obtain rfl:d=up.length:=by omega
      cases t
      ·have hkk:jOk up a b k=false:=HT.out;have HKK:=η hkk;clear hkk;go_wp2;go_roundw
       case rel=>exact⟨k+1,by omega,by go_num,fun j hj=>by
        rcases Nat.lt_or_eq_of_le (Nat.le_of_lt_succ hj) with h|rfl
        ·exact HNO.out j h
        ·exact HKK.out,hatd⟩
       case measure=>simp[intOf];omega
      ·have hkk:jOk up a b k=true:=HT.out;have HKK:=η hkk;clear hkk;go_wp2;go_ret;exact⟨q0v (by rw[HR.out,Lat.find_range _ _ _ hlt HNO.out HKK.out]),hatd.2⟩
  ·obtain rfl:k=up.length:=by omega
   go_wp2;go_ret;exact⟨q0v (by rw[HR.out,Lat.find_range_none _ _ HNO.out]),hat.2⟩
theorem q6c{v:Value}{names:List ByteArray}{up:List Nat}(a b:Nat)(w:World)(h:IsLat w w.heap.size v names up)(ha:a<up.length)(hb:b<up.length) :
  Calls Tryz.prog 61 #[v,.int .i64 a,.int .i64 b] w fun e w'=>e=.returned (.int .i64 (rMeet up a b))∧Below w.heap.size w w':=by
 have h':=h;obtain⟨⟨A,A',c,c',rfl,-,-⟩,-,⟨hf1,hf2⟩,-⟩:=h';have hst:=At.start w (.slice A names.length c) (.slice A' up.length c');have HFL:=η (fun(i j:Nat) (W:World) (hW:At w (.slice A names.length c) (.slice A' up.length c') W) hi hj=>At.flows h i j hW hi hj);have HR:Hid (rMeet up a b=match (List.range up.length).find? (mOk up a b) with|some c=>(c:Int)|none=>-1):=rfl;clear h;go_enter Tryz.func61,Tryz.ntmps61;go_wp2;go_loopw [13] (fun i wr=>∃ k:Nat,k≤up.length∧i=.int .i64 k∧(∀ j,j<k→mOk up a b j=false)∧At w (.slice A names.length c) (.slice A' up.length c') wr) (fun i _=>up.length-(intOf i).toNat);case atStart=>exact⟨0,Nat.zero_le _,rfl,fun j hj=>absurd hj (Nat.not_lt_zero j),hst⟩
 case round =>
  obtain⟨k,hk,rfl,hno,hat⟩:=hrel;have HNO:=η hno;have hc0:=hat.c0;have hc1:=hat.c1;clear hno hst;by_cases hlt:k<up.length
  ·obtain⟨wo,rfl⟩:∃ wo:World,wo=wr:=⟨_,rfl⟩;have hz:=z81 up a b k;cases e1:Lat.fl up k a<;>cases e2:Lat.fl up k b
   all_goals
    rw[e1,e2] at hz;have HZ:=η hz;clear hz;go_wp2_with (go_at_call 90;refine(HFL.out _ _ _ (by assumption) (by omega) (by omega)).mono ?_;rintro e w' ⟨rfl,hat',hc0',hc1'⟩);go_loopw [8,29] (fun y i wr=>∃ d:Nat,d≤up.length∧i=.int .i64 d∧y=.bool (mTo up a b k d)∧At w (.slice A names.length c) (.slice A' up.length c') wr) (fun _ i _=>up.length-(intOf i).toNat);case atStart=>exact⟨0,Nat.zero_le _,rfl,by rw[HZ.out];rfl,by assumption⟩
    case round =>
     obtain⟨d,hd,rfl,rfl,hatd⟩:=hrel;have hcd0:=hatd.c0;have hcd1:=hatd.c1;have HS:Hid (mTo up a b k (d+1)=(mTo up a b k d&&!(Lat.fl up d a&&Lat.fl up d b&&!Lat.fl up d k))):=z80 up a b k d;obtain⟨t,ht⟩:∃ t,mTo up a b k d=t:=⟨_,rfl⟩;have HT:=η ht;rw[ht];clear ht;by_cases hld:d<up.length
     ·cases e3:Lat.fl up d a
      ·have HE3:=η e3;go_wp2_with (go_at_call 90;refine(HFL.out _ _ _ (by assumption) (by omega) (by omega)).mono ?_;rintro e w' ⟨rfl,hat',hc0',hc1'⟩);go_roundw;case rel=>exact⟨d+1,by omega,by go_num,by rw[HS.out,HT.out,HE3.out];simp,by assumption⟩
       case measure=>simp[intOf];omega
      ·have HE3:=η e3;cases e4:Lat.fl up d b
       ·have HE4:=η e4;go_wp2_with (go_at_call 90;refine(HFL.out _ _ _ (by assumption) (by omega) (by omega)).mono ?_;rintro e w' ⟨rfl,hat',hc0',hc1'⟩);go_roundw;case rel=>exact⟨d+1,by omega,by go_num,by rw[HS.out,HT.out,HE3.out,HE4.out];simp,by assumption⟩
        case measure=>simp[intOf];omega
       ·have HE4:=η e4;cases e5:Lat.fl up d k;all_goals
         have HE5:=η e5;go_wp2_with (go_at_call 90;refine(HFL.out _ _ _ (by assumption) (by omega) (by omega)).mono ?_;rintro e w' ⟨rfl,hat',hc0',hc1'⟩);go_roundw;case rel=>exact⟨d+1,by omega,by go_num,by rw[HS.out,HT.out,HE3.out,HE4.out,HE5.out];simp,by assumption⟩
         case measure=>simp[intOf];omega
     ·obtain rfl:d=up.length:=by omega
      cases t
      ·have hkk:mOk up a b k=false:=HT.out;have HKK:=η hkk;clear hkk;go_wp2;go_roundw
       case rel=>exact⟨k+1,by omega,by go_num,fun j hj=>by
        rcases Nat.lt_or_eq_of_le (Nat.le_of_lt_succ hj) with h|rfl
        ·exact HNO.out j h
        ·exact HKK.out,hatd⟩
       case measure=>simp[intOf];omega
      ·have hkk:mOk up a b k=true:=HT.out;have HKK:=η hkk;clear hkk;go_wp2;go_ret;exact⟨q0v (by rw[HR.out,Lat.find_range _ _ _ hlt HNO.out HKK.out]),hatd.2⟩
  ·obtain rfl:k=up.length:=by omega
   go_wp2;go_ret;exact⟨q0v (by rw[HR.out,Lat.find_range_none _ _ HNO.out]),hat.2⟩
def tri(up:List Nat)(a b c:Nat):Bool:=!(Lat.fl up a b&&Lat.fl up b c&&!Lat.fl up a c)
def duo(up:List Nat)(a b:Nat):Bool:=!(a != b&&Lat.fl up a b&&Lat.fl up b a)&&(List.range up.length).all (tri up a b)
def uno(up:List Nat)(a:Nat):Bool:=Lat.fl up a a&&(List.range up.length).all (duo up a)
def rOrder(up:List Nat):Bool:=(List.range up.length).all (uno up)
theorem q0w{f:Nat→Bool}(k:Nat):(List.range (k+1)).all f=((List.range k).all f&&f k):=by simp[List.range_succ]
theorem z5f{v : Value}{names : List ByteArray}{up : List Nat}(w : World)(h : IsLat w w.heap.size v names up) :
    Calls Tryz.prog 59 #[v] w fun e w' => e = .returned (.bool (rOrder up)) ∧ Below w.heap.size w w' := by
  have h' := h;obtain ⟨⟨A, A', c, c', rfl, -, -⟩, -, ⟨hf1, hf2⟩, -⟩ := h';have hst := At.start w (.slice A names.length c) (.slice A' up.length c');have HFL := η (fun (i j : Nat) (W : World) (hW : At w (.slice A names.length c) (.slice A' up.length c') W) hi hj => At.flows h i j hW hi hj);have HR : Hid (rOrder up = (List.range up.length).all (uno up)) := rfl;clear h;go_enter Tryz.func59, Tryz.ntmps59;go_wp2;go_loopw [9] (fun i wr => ∃ a : Nat, a ≤ up.length ∧ i = .int .i64 a ∧ (List.range a).all (uno up) = true ∧ At w (.slice A names.length c) (.slice A' up.length c') wr) (fun i _ => up.length - (intOf i).toNat);case atStart => exact ⟨0, Nat.zero_le _, rfl, rfl, hst⟩
  case round =>
    obtain ⟨a, ha, rfl, hall, hat⟩ := hrel;have HALL := η hall;have hc0 := hat.c0;have hc1 := hat.c1;clear hall hst;by_cases hla : a < up.length
    · have HU : Hid (uno up a = (Lat.fl up a a && (List.range up.length).all (duo up a))) := rfl
      obtain ⟨wo, rfl⟩ : ∃ wo : World, wo = wr := ⟨_, rfl⟩;cases e0 : Lat.fl up a a
      · have HE0 := η e0
        go_wp2_with (go_at_call 90; refine (HFL.out _ _ _ (by assumption) (by omega) (by omega)).mono ?_; rintro e w' ⟨rfl, hat', hc0', hc1'⟩);go_ret;exact ⟨q0k (by rw [HR.out, q0d hla (by rw [HU.out, HE0.out]; rfl)]), (show At w (.slice A names.length c) (.slice A' up.length c') _ by assumption).2⟩
      · have HE0 := η e0
        go_wp2_with (go_at_call 90; refine (HFL.out _ _ _ (by assumption) (by omega) (by omega)).mono ?_; rintro e w1 ⟨rfl, hat1, hc01, hc11⟩);go_loopw [20] (fun i wr => ∃ b : Nat, b ≤ up.length ∧ i = .int .i64 b ∧ (List.range b).all (duo up a) = true ∧ At w (.slice A names.length c) (.slice A' up.length c') wr) (fun i _ => up.length - (intOf i).toNat);case atStart => exact ⟨0, Nat.zero_le _, rfl, rfl, by assumption⟩
        case round =>
          obtain ⟨b, hb, rfl, hallb, hatb⟩ := hrel;have HALLB := η hallb;have hcb0 := hatb.c0;have hcb1 := hatb.c1;clear hallb hat hc0 hc1 hat1 hc01 hc11;by_cases hlb : b < up.length
          · have HD : Hid (duo up a b = (!(a != b && Lat.fl up a b && Lat.fl up b a) && (List.range up.length).all (tri up a b))) := rfl
            obtain ⟨wo2, rfl⟩ : ∃ wo : World, wo = wr := ⟨_, rfl⟩;by_cases hab : a = b
            · have hb2 : ((a : Int) != (b : Int)) = false := by rw [bne_eq_false_iff_eq]; omega
              have HDB : Hid ((!(a != b && Lat.fl up a b && Lat.fl up b a)) = true) := by unfold Hid; simp [hab]
              have HAB := η hab;clear hab;cases e1 : Lat.fl up a b
              · have HE1 := η e1
                go_wp2_with (go_at_call 90; refine (HFL.out _ _ _ (by assumption) (by omega) (by omega)).mono ?_; rintro e w' ⟨rfl, hat', hc0', hc1'⟩);go_loopw [41] (fun i wr => ∃ c₂ : Nat, c₂ ≤ up.length ∧ i = .int .i64 c₂ ∧ (List.range c₂).all (tri up a b) = true ∧ At w (.slice A names.length c) (.slice A' up.length c') wr) (fun i _ => up.length - (intOf i).toNat);case atStart => exact ⟨0, Nat.zero_le _, rfl, rfl, by assumption⟩
                case round =>
                  obtain ⟨d, hd, rfl, hallc, hatd⟩ := hrel;have HALLC := η hallc;have hcd0 := hatd.c0;have hcd1 := hatd.c1;clear hallc;by_cases hld : d < up.length
                  · have HT : Hid (tri up a b d = !(Lat.fl up a b && Lat.fl up b d && !Lat.fl up a d)) := rfl
                    cases e4 : Lat.fl up b d
                    · have HE4 := η e4
                      go_wp2_with (go_at_call 90; refine (HFL.out _ _ _ (by assumption) (by omega) (by omega)).mono ?_; rintro e w' ⟨rfl, hatq, hcq0, hcq1⟩);go_roundw;case rel => exact ⟨d + 1, by omega, by go_num, by rw [q0w, HALLC.out, HT.out, HE4.out]; simp, by assumption⟩
                      case measure => simp [intOf]; omega
                    · have HE4 := η e4
                      cases e5 : Lat.fl up a d
                      · have HE5 := η e5
                        go_wp2_with (go_at_call 90; refine (HFL.out _ _ _ (by assumption) (by omega) (by omega)).mono ?_; rintro e w' ⟨rfl, hatq, hcq0, hcq1⟩);go_roundw;case rel => exact ⟨d + 1, by omega, by go_num, by rw [q0w, HALLC.out, HT.out, HE1.out]; simp, by assumption⟩
                        case measure => simp [intOf]; omega
                      · have HE5 := η e5
                        go_wp2_with (go_at_call 90; refine (HFL.out _ _ _ (by assumption) (by omega) (by omega)).mono ?_; rintro e w' ⟨rfl, hatq, hcq0, hcq1⟩);go_roundw;case rel => exact ⟨d + 1, by omega, by go_num, by rw [q0w, HALLC.out, HT.out, HE4.out, HE5.out]; simp, by assumption⟩
                        case measure => simp [intOf]; omega
                  · obtain rfl : d = up.length := by omega
                    have hdd : duo up a b = true := by rw [HD.out, HALLC.out, HDB.out]; rfl
                    have HDD := η hdd;clear hdd;go_wp2;go_roundw;case rel => exact ⟨b + 1, by omega, by go_num, by rw [q0w, HALLB.out, HDD.out]; rfl, hatd⟩
                    case measure => simp [intOf]; omega
              · have HE1 := η e1
                go_wp2_with (go_at_call 90; refine (HFL.out _ _ _ (by assumption) (by omega) (by omega)).mono ?_; rintro e w' ⟨rfl, hat', hc0', hc1'⟩);go_loopw [41] (fun i wr => ∃ c₂ : Nat, c₂ ≤ up.length ∧ i = .int .i64 c₂ ∧ (List.range c₂).all (tri up a b) = true ∧ At w (.slice A names.length c) (.slice A' up.length c') wr) (fun i _ => up.length - (intOf i).toNat);case atStart => exact ⟨0, Nat.zero_le _, rfl, rfl, by assumption⟩
                case round =>
                  obtain ⟨d, hd, rfl, hallc, hatd⟩ := hrel;have HALLC := η hallc;have hcd0 := hatd.c0;have hcd1 := hatd.c1;clear hallc;by_cases hld : d < up.length
                  · have HT : Hid (tri up a b d = !(Lat.fl up a b && Lat.fl up b d && !Lat.fl up a d)) := rfl
                    cases e4 : Lat.fl up b d
                    · have HE4 := η e4
                      go_wp2_with (go_at_call 90; refine (HFL.out _ _ _ (by assumption) (by omega) (by omega)).mono ?_; rintro e w' ⟨rfl, hatq, hcq0, hcq1⟩);go_roundw;case rel => exact ⟨d + 1, by omega, by go_num, by rw [q0w, HALLC.out, HT.out, HE4.out]; simp, by assumption⟩
                      case measure => simp [intOf]; omega
                    · have HE4 := η e4
                      cases e5 : Lat.fl up a d
                      · have HE5 := η e5
                        go_wp2_with (go_at_call 90; refine (HFL.out _ _ _ (by assumption) (by omega) (by omega)).mono ?_; rintro e w' ⟨rfl, hatq, hcq0, hcq1⟩)
                        (go_ret
                         exact ⟨q0k (by rw [HR.out, q0d hla (by rw [HU.out, HE0.out, q0d hlb (by rw [HD.out, q0d hld (by rw [HT.out, HE1.out, HE4.out, HE5.out]; rfl)]; simp)]; rfl)]), (show At w (.slice A names.length c) (.slice A' up.length c') _ by assumption).2⟩)
                      · have HE5 := η e5
                        go_wp2_with (go_at_call 90; refine (HFL.out _ _ _ (by assumption) (by omega) (by omega)).mono ?_; rintro e w' ⟨rfl, hatq, hcq0, hcq1⟩);go_roundw;case rel => exact ⟨d + 1, by omega, by go_num, by rw [q0w, HALLC.out, HT.out, HE4.out, HE5.out]; simp, by assumption⟩
                        case measure => simp [intOf]; omega
                  · obtain rfl : d = up.length := by omega
                    have hdd : duo up a b = true := by rw [HD.out, HALLC.out, HDB.out]; rfl
                    have HDD := η hdd;clear hdd;go_wp2;go_roundw;case rel => exact ⟨b + 1, by omega, by go_num, by rw [q0w, HALLB.out, HDD.out]; rfl, hatd⟩
                    case measure => simp [intOf]; omega
            · have hb2 : ((a : Int) != (b : Int)) = true := by rw [bne_iff_ne]; omega
              cases e1 : Lat.fl up a b
              · have HE1 := η e1
                have HDB : Hid ((!(a != b && Lat.fl up a b && Lat.fl up b a)) = true) := by unfold Hid; simp [e1]
                go_wp2_with (go_at_call 90; refine (HFL.out _ _ _ (by assumption) (by omega) (by omega)).mono ?_; rintro e w' ⟨rfl, hat', hc0', hc1'⟩);go_loopw [41] (fun i wr => ∃ c₂ : Nat, c₂ ≤ up.length ∧ i = .int .i64 c₂ ∧ (List.range c₂).all (tri up a b) = true ∧ At w (.slice A names.length c) (.slice A' up.length c') wr) (fun i _ => up.length - (intOf i).toNat);case atStart => exact ⟨0, Nat.zero_le _, rfl, rfl, by assumption⟩
                case round =>
                  obtain ⟨d, hd, rfl, hallc, hatd⟩ := hrel;have HALLC := η hallc;have hcd0 := hatd.c0;have hcd1 := hatd.c1;clear hallc;by_cases hld : d < up.length
                  · have HT : Hid (tri up a b d = !(Lat.fl up a b && Lat.fl up b d && !Lat.fl up a d)) := rfl
                    cases e4 : Lat.fl up b d
                    · have HE4 := η e4
                      go_wp2_with (go_at_call 90; refine (HFL.out _ _ _ (by assumption) (by omega) (by omega)).mono ?_; rintro e w' ⟨rfl, hatq, hcq0, hcq1⟩);go_roundw;case rel => exact ⟨d + 1, by omega, by go_num, by rw [q0w, HALLC.out, HT.out, HE4.out]; simp, by assumption⟩
                      case measure => simp [intOf]; omega
                    · have HE4 := η e4
                      cases e5 : Lat.fl up a d
                      · have HE5 := η e5
                        go_wp2_with (go_at_call 90; refine (HFL.out _ _ _ (by assumption) (by omega) (by omega)).mono ?_; rintro e w' ⟨rfl, hatq, hcq0, hcq1⟩);go_roundw;case rel => exact ⟨d + 1, by omega, by go_num, by rw [q0w, HALLC.out, HT.out, HE1.out]; simp, by assumption⟩
                        case measure => simp [intOf]; omega
                      · have HE5 := η e5
                        go_wp2_with (go_at_call 90; refine (HFL.out _ _ _ (by assumption) (by omega) (by omega)).mono ?_; rintro e w' ⟨rfl, hatq, hcq0, hcq1⟩);go_roundw;case rel => exact ⟨d + 1, by omega, by go_num, by rw [q0w, HALLC.out, HT.out, HE4.out, HE5.out]; simp, by assumption⟩
                        case measure => simp [intOf]; omega
                  · obtain rfl : d = up.length := by omega
                    have hdd : duo up a b = true := by rw [HD.out, HALLC.out, HDB.out]; rfl
                    have HDD := η hdd;clear hdd;go_wp2;go_roundw;case rel => exact ⟨b + 1, by omega, by go_num, by rw [q0w, HALLB.out, HDD.out]; rfl, hatd⟩
                    case measure => simp [intOf]; omega
              · have HE1 := η e1
                cases e2 : Lat.fl up b a
                · have HE2 := η e2
                  have HDB : Hid ((!(a != b && Lat.fl up a b && Lat.fl up b a)) = true) := by unfold Hid; simp [e2]
                  go_wp2_with (go_at_call 90; refine (HFL.out _ _ _ (by assumption) (by omega) (by omega)).mono ?_; rintro e w' ⟨rfl, hat', hc0', hc1'⟩);go_loopw [41] (fun i wr => ∃ c₂ : Nat, c₂ ≤ up.length ∧ i = .int .i64 c₂ ∧ (List.range c₂).all (tri up a b) = true ∧ At w (.slice A names.length c) (.slice A' up.length c') wr) (fun i _ => up.length - (intOf i).toNat);case atStart => exact ⟨0, Nat.zero_le _, rfl, rfl, by assumption⟩
                  case round =>
                    obtain ⟨d, hd, rfl, hallc, hatd⟩ := hrel;have HALLC := η hallc;have hcd0 := hatd.c0;have hcd1 := hatd.c1;clear hallc;by_cases hld : d < up.length
                    · have HT : Hid (tri up a b d = !(Lat.fl up a b && Lat.fl up b d && !Lat.fl up a d)) := rfl
                      cases e4 : Lat.fl up b d
                      · have HE4 := η e4
                        go_wp2_with (go_at_call 90; refine (HFL.out _ _ _ (by assumption) (by omega) (by omega)).mono ?_; rintro e w' ⟨rfl, hatq, hcq0, hcq1⟩);go_roundw;case rel => exact ⟨d + 1, by omega, by go_num, by rw [q0w, HALLC.out, HT.out, HE4.out]; simp, by assumption⟩
                        case measure => simp [intOf]; omega
                      · have HE4 := η e4
                        cases e5 : Lat.fl up a d
                        · have HE5 := η e5
                          go_wp2_with (go_at_call 90; refine (HFL.out _ _ _ (by assumption) (by omega) (by omega)).mono ?_; rintro e w' ⟨rfl, hatq, hcq0, hcq1⟩)
                          (go_ret
                           exact ⟨q0k (by rw [HR.out, q0d hla (by rw [HU.out, HE0.out, q0d hlb (by rw [HD.out, q0d hld (by rw [HT.out, HE1.out, HE4.out, HE5.out]; rfl)]; simp)]; rfl)]), (show At w (.slice A names.length c) (.slice A' up.length c') _ by assumption).2⟩)
                        · have HE5 := η e5
                          go_wp2_with (go_at_call 90; refine (HFL.out _ _ _ (by assumption) (by omega) (by omega)).mono ?_; rintro e w' ⟨rfl, hatq, hcq0, hcq1⟩);go_roundw;case rel => exact ⟨d + 1, by omega, by go_num, by rw [q0w, HALLC.out, HT.out, HE4.out, HE5.out]; simp, by assumption⟩
                          case measure => simp [intOf]; omega
                    · obtain rfl : d = up.length := by omega
                      have hdd : duo up a b = true := by rw [HD.out, HALLC.out, HDB.out]; rfl
                      have HDD := η hdd;clear hdd;go_wp2;go_roundw;case rel => exact ⟨b + 1, by omega, by go_num, by rw [q0w, HALLB.out, HDD.out]; rfl, hatd⟩
                      case measure => simp [intOf]; omega
                · have HE2 := η e2
                  go_wp2_with (go_at_call 90; refine (HFL.out _ _ _ (by assumption) (by omega) (by omega)).mono ?_; rintro e w' ⟨rfl, hat', hc0', hc1'⟩);go_ret;exact ⟨q0k (by rw [HR.out, q0d hla (by rw [HU.out, HE0.out, q0d hlb (by rw [HD.out, HE1.out, HE2.out]; simp [hab])]; rfl)]), (show At w (.slice A names.length c) (.slice A' up.length c') _ by assumption).2⟩
          · obtain rfl : b = up.length := by omega
            go_wp2;go_roundw;case rel => exact ⟨a + 1, by omega, by go_num, by rw [q0w, HALL.out, HU.out, HE0.out, HALLB.out]; rfl, hatb⟩
            case measure => simp [intOf]; omega
    · obtain rfl : a = up.length := by omega
      go_wp2;go_ret;exact ⟨q0k (by rw [HR.out, HALL.out]), hat.2⟩
def nameAt(names:List ByteArray)(k:Nat):ByteArray:=names.getD k ByteArray.empty
def dist(names:List ByteArray)(i j:Nat):Bool:=!streq (nameAt names j) (nameAt names i)
def lineOk(names:List ByteArray)(up:List Nat)(i:Nat):Bool:=(nameOk (nameAt names i)&&!highB (up.getD i 0) up.length)&&(List.range i).all (dist names i)
def rMay(names:List ByteArray)(up:List Nat):Bool :=
 (decide (1≤up.length)&&decide (up.length≤8)&&decide (names.length=up.length))&&(List.range names.length).all (lineOk names up)
theorem z9m{v:Value}{names:List ByteArray}{up:List Nat}(w:World)(h:IsLat w w.heap.size v names up) :
  Calls Tryz.prog 58 #[v] w fun e w'=>e=.returned (.bool (rMay names up))∧Below w.heap.size w w':=by
 have h':=h;obtain⟨⟨A,A',c,c',rfl,hN,hU⟩,hshort,⟨hf1,hf2⟩,hcaps⟩:=h';obtain⟨hcap,hcap'⟩:=hcaps _ _ _ _ _ _ rfl;have hst:=At.start w (.slice A names.length c) (.slice A' up.length c');have HST:=η hst;clear h hst hcaps;by_cases z1:up.length<1
 ·have HM:Hid (rMay names up=false):=by unfold Hid rMay;simp;omega
  go_enter Tryz.func58,Tryz.ntmps58;go_wp2;go_ret;exact⟨q0k (by rw[HM.out]),HST.out.2⟩
 by_cases z2:8<up.length
 ·have HM:Hid (rMay names up=false):=by unfold Hid rMay;simp;omega
  go_enter Tryz.func58,Tryz.ntmps58;go_wp2;go_ret;exact⟨q0k (by rw[HM.out]),HST.out.2⟩
 by_cases z3:¬names.length=up.length
 ·have HM:Hid (rMay names up=false):=by unfold Hid rMay;simp[z3]
  have z4:((names.length:Int) != (up.length:Int))=true:=by rw[bne_iff_ne];omega
  go_enter Tryz.func58,Tryz.ntmps58;go_wp2;go_ret;exact⟨q0k (by rw[HM.out]),HST.out.2⟩
 have z3:names.length=up.length:=Decidable.not_not.1 z3;have HM:Hid (rMay names up=(List.range names.length).all (lineOk names up)):=by unfold Hid rMay;simp[z3];omega
 have z4:((names.length:Int) != (up.length:Int))=false:=by rw[bne_eq_false_iff_eq];omega
 have Z3:=η z3;clear z3;go_enter Tryz.func58,Tryz.ntmps58;go_wp2;go_loopw [29] (fun i wr=>∃ k:Nat,k≤names.length∧i=.int .i64 k∧(List.range k).all (lineOk names up)=true∧At w (.slice A names.length c) (.slice A' up.length c') wr) (fun i _=>names.length-(intOf i).toNat);case atStart=>exact⟨0,Nat.zero_le _,rfl,rfl,HST.out⟩
 case round =>
  obtain⟨k,hk,rfl,hall,hat⟩:=hrel;have HALL:=η hall;have hc0:=hat.c0;have hc1:=hat.c1;clear hall;by_cases hlt:k<names.length
  ·have hlu:k<up.length:=by rw[←Z3.out];exact hlt
   obtain⟨ad,x,rfl,_,hx,hx32,hcx⟩:=(hU.below hat.2).at_ hlu;obtain⟨ad2,s,rfl,_,hs,hcs⟩:=q2m (hN.below hat.2) hlt;have hsl:=hshort s (List.mem_of_getElem? hs);have hline:lineOk names up k=((nameOk s&&!highB x up.length)&&(List.range k).all (dist names k)):=by unfold lineOk nameAt;simp only[List.getD_eq_getElem?_getD,hx,hs,Option.getD_some]
   have HLINE:=η hline;have HX:=η hx;have HS:=η hs;clear hx hs hline;have hnm:=fun nq=>z27 s (wr.drewN nq) hsl
   have hhi:=fun nq=>z8m x up.length (wr.drewN nq) hx32 hf2
   cases e1:nameOk s
   ·rw[e1] at hnm;have HNM:=η hnm;have HE1:=η e1;clear hnm hhi e1;go_wp2_with (fail);go_quiet (first|(go_at_call 88;exact q2c (HNM.out _)));go_wp2;go_ret;exact⟨q0k (by rw[HM.out,q0d hlt (by rw[HLINE.out,HE1.out];rfl)]),q0e hat.2 _⟩
   ·rw[e1] at hnm;have HNM:=η hnm;have HE1:=η e1;clear hnm e1;cases e2:highB x up.length
    ·rw[e2] at hhi;have HHI:=η hhi;have HE2:=η e2;clear hhi e2;go_wp2_with (fail);go_quiet (first|(go_at_call 88;exact q2c (HNM.out _))|(go_at_call 89;exact q2c (HHI.out _)));go_wp2;have hatq:At w (.slice (some ad2) names.length c) (.slice (some ad) up.length c') (wr.drewN nq):=⟨hat.1.drewN nq,q0e hat.2 nq⟩;go_loopw [53] (fun i wr=>∃ j:Nat,j≤k∧i=.int .i64 j∧(List.range j).all (dist names k)=true∧At w (.slice (some ad2) names.length c) (.slice (some ad) up.length c') wr) (fun i _=>k-(intOf i).toNat);case atStart=>exact⟨0,Nat.zero_le _,rfl,rfl,hatq⟩
     case round =>
      clear hatq hat hc0 hc1 hcs hcx;obtain⟨j,hj,rfl,hallj,hatj⟩:=hrel;have HALLJ:=η hallj;have hcj0:=hatj.c0;have hcj1:=hatj.c1;clear hallj;by_cases hlj:j<k
      ·obtain⟨ad3,t,he,_,ht,hct⟩:=q2m (hN.below hatj.2) (show j<names.length by omega);obtain rfl:ad3=ad2:=by injection he with he;exact he.symm
       have hds:dist names k j = !streq t s:=by unfold dist nameAt;simp only[List.getD_eq_getElem?_getD,HS.out,ht,Option.getD_some]
       have HDS:=η hds;clear he hds ht;cases hst:(t.toList==s.toList)
       ·have HST':Hid (streq t s=false):=hst;go_wp2;go_roundw;case rel=>exact⟨j+1,by omega,by go_num,by rw[q0w,HALLJ.out,HDS.out,HST'.out];rfl,hatj⟩
        case measure=>simp[intOf];omega
       ·have HST':Hid (streq t s=true):=hst;go_wp2;go_ret;exact⟨q0k (by rw[HM.out,q0d hlt (by rw[HLINE.out,HE1.out,HE2.out,q0d hlj (by rw[HDS.out,HST'.out];rfl)];rfl)]),hatj.2⟩
      ·obtain rfl:j=k:=by omega
       go_wp2;go_roundw;case rel=>exact⟨j+1,by omega,by go_num,by rw[q0w,HALL.out,HLINE.out,HE1.out,HE2.out,HALLJ.out];rfl,hatj⟩
       case measure=>simp[intOf];omega
    ·rw[e2] at hhi;have HHI:=η hhi;have HE2:=η e2;clear hhi e2;go_wp2_with (fail);go_quiet (first|(go_at_call 88;exact q2c (HNM.out _))|(go_at_call 89;exact q2c (HHI.out _)));go_wp2;go_ret;exact⟨q0k (by rw[HM.out,q0d hlt (by rw[HLINE.out,HE1.out,HE2.out];rfl)]),q0e hat.2 _⟩
  ·obtain rfl:k=names.length:=by omega
   go_wp2;go_ret;exact⟨q0k (by rw[HM.out,HALL.out]),hat.2⟩
def bothOk(up:List Nat)(a b:Nat):Bool:=!(decide (rJoin up a b<0) || decide (rMeet up a b<0))
def rBoth(up:List Nat)(a:Nat):Bool:=(List.range up.length).all (bothOk up a)
def rCheckN(names:List ByteArray)(up:List Nat):Nat:=if rMay names up then if rOrder up then if(List.range up.length).all (rBoth up) then 0 else 3 else 2 else 1
theorem z06{up:List Nat}{a b:Nat}(h:0≤rMeet up a b):∃ c:Nat,rMeet up a b=c∧c<up.length∧mOk up a b c=true:=by
 unfold rMeet at h ⊢;cases e:(List.range up.length).find? (mOk up a b) with
 | none=>rw[e] at h;simp at h
 | some c=>exact⟨c,rfl,by simpa using List.mem_of_find?_eq_some e,List.find?_some e⟩
theorem z05{up:List Nat}{a b:Nat}(h:0≤rJoin up a b):∃ c:Nat,rJoin up a b=c∧c<up.length∧jOk up a b c=true:=by
 unfold rJoin at h ⊢;cases e:(List.range up.length).find? (jOk up a b) with
 | none=>rw[e] at h;simp at h
 | some c=>exact⟨c,rfl,by simpa using List.mem_of_find?_eq_some e,List.find?_some e⟩
theorem z5a{v:Value}{names:List ByteArray}{up:List Nat}(w:World)(h:IsLat w w.heap.size v names up) :
  Calls Tryz.prog 32 #[v] w fun e w'=>e=.returned (.int .i64 (rCheckN names up:Nat))∧Below w.heap.size w w':=by
 have h':=h;obtain⟨⟨A,A',c,c',rfl,-,-⟩,-,⟨hf1,hf2⟩,-⟩:=h';have hst:=At.start w (.slice A names.length c) (.slice A' up.length c');have HMAY:=η (fun(W:World) (hW:At w (.slice A names.length c) (.slice A' up.length c') W)=>(z9m W (hW.lat h)).mono (R':=fun e w'=>e=.returned (.bool (rMay names up))∧At w (.slice A names.length c) (.slice A' up.length c') w'∧w'.cell? ⟨w.heap.size,0,none⟩=some (.slice A names.length c)∧w'.cell? ⟨w.heap.size,1,none⟩=some (.slice A' up.length c')) fun _ _ ⟨he,hb⟩=>⟨he,hW.next hb,(hW.next hb).c0,(hW.next hb).c1⟩);have HORD:=η (fun(W:World) (hW:At w (.slice A names.length c) (.slice A' up.length c') W)=>(z5f W (hW.lat h)).mono (R':=fun e w'=>e=.returned (.bool (rOrder up))∧At w (.slice A names.length c) (.slice A' up.length c') w'∧w'.cell? ⟨w.heap.size,0,none⟩=some (.slice A names.length c)∧w'.cell? ⟨w.heap.size,1,none⟩=some (.slice A' up.length c')) fun _ _ ⟨he,hb⟩=>⟨he,hW.next hb,(hW.next hb).c0,(hW.next hb).c1⟩);have HJ:=η (fun(a b:Nat) (W:World) (hW:At w (.slice A names.length c) (.slice A' up.length c') W) (ha:a<up.length) (hb:b<up.length)=>(q6b a b W (hW.lat h) ha hb).mono (R':=fun e w'=>e=.returned (.int .i64 (rJoin up a b))∧At w (.slice A names.length c) (.slice A' up.length c') w'∧w'.cell? ⟨w.heap.size,0,none⟩=some (.slice A names.length c)∧w'.cell? ⟨w.heap.size,1,none⟩=some (.slice A' up.length c')) fun _ _ ⟨he,hb⟩=>⟨he,hW.next hb,(hW.next hb).c0,(hW.next hb).c1⟩);have HM:=η (fun(a b:Nat) (W:World) (hW:At w (.slice A names.length c) (.slice A' up.length c') W) (ha:a<up.length) (hb:b<up.length)=>(q6c a b W (hW.lat h) ha hb).mono (R':=fun e w'=>e=.returned (.int .i64 (rMeet up a b))∧At w (.slice A names.length c) (.slice A' up.length c') w'∧w'.cell? ⟨w.heap.size,0,none⟩=some (.slice A names.length c)∧w'.cell? ⟨w.heap.size,1,none⟩=some (.slice A' up.length c')) fun _ _ ⟨he,hb⟩=>⟨he,hW.next hb,(hW.next hb).c0,(hW.next hb).c1⟩);have HR:Hid (rCheckN names up=if rMay names up then if rOrder up then if(List.range up.length).all (rBoth up) then 0 else 3 else 2 else 1):=rfl;clear h;cases e1:rMay names up
 ·have HE1:=η e1;go_enter Tryz.func32,Tryz.ntmps32;go_wp2_with (go_at_call 58;refine(HMAY.out _ (by assumption)).mono ?_;rintro e w' ⟨rfl,hat,hc0,hc1⟩);go_ret;exact⟨q0v (by rw[HR.out,HE1.out];rfl),(show At w (.slice A names.length c) (.slice A' up.length c') _ by assumption).2⟩
 ·have HE1:=η e1;cases e2:rOrder up
  ·have HE2:=η e2;go_enter Tryz.func32,Tryz.ntmps32;go_wp2_with (first|(go_at_call 58;refine(HMAY.out _ (by assumption)).mono ?_;rintro e w' ⟨rfl,hat,hc0,hc1⟩)|(go_at_call 59;refine(HORD.out _ (by assumption)).mono ?_;rintro e w' ⟨rfl,hat,hc0,hc1⟩));go_ret;exact⟨q0v (by rw[HR.out,HE1.out,HE2.out];rfl),(show At w (.slice A names.length c) (.slice A' up.length c') _ by assumption).2⟩
  ·have HE2:=η e2;go_enter Tryz.func32,Tryz.ntmps32;go_wp2_with (first|(go_at_call 58;refine(HMAY.out _ (by assumption)).mono ?_;rintro e w' ⟨rfl,hat,hc0,hc1⟩)|(go_at_call 59;refine(HORD.out _ (by assumption)).mono ?_;rintro e w' ⟨rfl,hat,hc0,hc1⟩));go_loopw [14] (fun i wr=>∃ a:Nat,a≤up.length∧i=.int .i64 a∧(List.range a).all (rBoth up)=true∧At w (.slice A names.length c) (.slice A' up.length c') wr) (fun i _=>up.length-(intOf i).toNat);case atStart=>exact⟨0,Nat.zero_le _,rfl,rfl,by assumption⟩
   case round =>
    obtain⟨a,ha,rfl,hall,hata⟩:=hrel;have HALL:=η hall;have hca0:=hata.c0;have hca1:=hata.c1;clear hall hst;by_cases hla:a<up.length
    ·obtain⟨wo,rfl⟩:∃ wo:World,wo=wr:=⟨_,rfl⟩;go_wp2;go_loopw [20] (fun i wr=>∃ b:Nat,b≤up.length∧i=.int .i64 b∧(List.range b).all (bothOk up a)=true∧At w (.slice A names.length c) (.slice A' up.length c') wr) (fun i _=>up.length-(intOf i).toNat);case atStart=>exact⟨0,Nat.zero_le _,rfl,rfl,hata⟩
     case round =>
      obtain⟨b,hb,rfl,hallb,hatb⟩:=hrel;have HALLB:=η hallb;have hcb0:=hatb.c0;have hcb1:=hatb.c1;clear hallb hata hca0 hca1;by_cases hlb:b<up.length
      ·have hbo:bothOk up a b = !(decide (rJoin up a b<0) || decide (rMeet up a b<0)):=rfl;have HBO:=η hbo;have hj:=fun W hW=>HJ.out a b W hW hla hlb
       have hm:=fun W hW=>HM.out a b W hW hla hlb
       obtain⟨x,hx⟩:∃ x,rJoin up a b=x:=⟨_,rfl⟩;obtain⟨y,hy⟩:∃ y,rMeet up a b=y:=⟨_,rfl⟩;rw[hx] at hj;rw[hy] at hm;have HX:=η hx;have HY:=η hy;have HJ':=η hj;have HM':=η hm;clear hbo hj hm hx hy;by_cases x0:x<0
       ·go_wp2_with (first|(go_at_call 60;refine(HJ'.out _ (by assumption)).mono ?_;rintro e w' ⟨rfl,hat,hc0,hc1⟩)|(go_at_call 61;refine(HM'.out _ (by assumption)).mono ?_;rintro e w' ⟨rfl,hat,hc0,hc1⟩));go_ret;exact⟨q0v (by rw[HR.out,HE1.out,HE2.out,q0d hla (q0d hlb (by rw[HBO.out,HX.out];simp[x0]))];rfl),(show At w (.slice A names.length c) (.slice A' up.length c') _ by assumption).2⟩
       ·by_cases y0:y<0
        ·go_wp2_with (first|(go_at_call 60;refine(HJ'.out _ (by assumption)).mono ?_;rintro e w' ⟨rfl,hat,hc0,hc1⟩)|(go_at_call 61;refine(HM'.out _ (by assumption)).mono ?_;rintro e w' ⟨rfl,hat,hc0,hc1⟩));go_ret;exact⟨q0v (by rw[HR.out,HE1.out,HE2.out,q0d hla (q0d hlb (by rw[HBO.out,HY.out];simp[y0]))];rfl),(show At w (.slice A names.length c) (.slice A' up.length c') _ by assumption).2⟩
        ·go_wp2_with (first|(go_at_call 60;refine(HJ'.out _ (by assumption)).mono ?_;rintro e w' ⟨rfl,hat,hc0,hc1⟩)|(go_at_call 61;refine(HM'.out _ (by assumption)).mono ?_;rintro e w' ⟨rfl,hat,hc0,hc1⟩));go_roundw;case rel=>exact⟨b+1,by omega,by go_num,by rw[q0w,HALLB.out,HBO.out,HX.out,HY.out];simp;omega,by assumption⟩
         case measure=>simp[intOf];omega
      ·obtain rfl:b=up.length:=by omega
       go_wp2;go_roundw;case rel=>exact⟨a+1,by omega,by go_num,by rw[q0w,HALL.out];exact HALLB.out,hatb⟩
       case measure=>simp[intOf];omega
    ·obtain rfl:a=up.length:=by omega
     go_wp2;go_ret;exact⟨q0v (by rw[HR.out,HE1.out,HE2.out,HALL.out];rfl),hata.2⟩
def rBotTo(up:List Nat):Nat→Nat
 | 0=>0
 | k+1=>(rMeet up (rBotTo up k) k).toNat
def rTopTo(up:List Nat):Nat→Nat
 | 0=>0
 | k+1=>(rJoin up (rTopTo up k) k).toNat
theorem z2v{v:Value}{names:List ByteArray}{up:List Nat}(w:World)(h:IsLat w w.heap.size v names up)(hn:1≤up.length)(hok:∀ a b,a<up.length→b<up.length→0≤rMeet up a b) :
  Calls Tryz.prog 68 #[v] w fun e w'=>e=.returned (.int .i64 (rBotTo up up.length:Nat))∧Below w.heap.size w w':=by
 have h':=h;obtain⟨⟨A,A',c,c',rfl,-,-⟩,-,⟨hf1,hf2⟩,-⟩:=h';have hst:=At.start w (.slice A names.length c) (.slice A' up.length c');have HM:=η (fun(a b:Nat) (W:World) (hW:At w (.slice A names.length c) (.slice A' up.length c') W) (ha:a<up.length) (hb:b<up.length)=>(q6c a b W (hW.lat h) ha hb).mono (R':=fun e w'=>e=.returned (.int .i64 (rMeet up a b))∧At w (.slice A names.length c) (.slice A' up.length c') w'∧w'.cell? ⟨w.heap.size,0,none⟩=some (.slice A names.length c)∧w'.cell? ⟨w.heap.size,1,none⟩=some (.slice A' up.length c')) fun _ _ ⟨he,hb⟩=>⟨he,hW.next hb,(hW.next hb).c0,(hW.next hb).c1⟩);have HOK:=η hok;clear h hok;go_enter Tryz.func68,Tryz.ntmps68;go_wp2;go_loopw [3,8] (fun y i wr=>∃ a:Nat,a≤up.length∧i=.int .i64 a∧y=.int .i64 (rBotTo up a:Nat)∧rBotTo up a<up.length∧At w (.slice A names.length c) (.slice A' up.length c') wr) (fun _ i _=>up.length-(intOf i).toNat);case atStart=>exact⟨0,Nat.zero_le _,rfl,rfl,by simp only[rBotTo];omega,hst⟩
 case round =>
  obtain⟨a,ha,rfl,rfl,ho,hat⟩:=hrel;have hc0:=hat.c0;have hc1:=hat.c1;clear hst;have hs:rBotTo up (a+1)=(rMeet up (rBotTo up a) a).toNat:=rfl;obtain⟨o,hoo⟩:∃ o,rBotTo up a=o:=⟨_,rfl⟩;rw[hoo] at hs ho ⊢;have HS:=η hs;have HO:=η hoo;clear hs hoo;by_cases hla:a<up.length
  ·obtain⟨m,hm,hml,-⟩:=z06 (HOK.out o a ho hla);have hcon:=HM.out o a wr hat ho hla;rw[hm] at hcon;have HCON:=η hcon;have HMM:=η hm;clear hcon hm;go_wp2_with (go_at_call 61;refine HCON.out.mono ?_;rintro e w' ⟨rfl,hat',hc0',hc1'⟩);go_roundw;case rel=>exact⟨a+1,by omega,by go_num,by rw[HS.out,HMM.out];simp,by rw[HS.out,HMM.out];simpa using hml,hat'⟩
   case measure=>simp[intOf];omega
  ·obtain rfl:a=up.length:=by omega
   go_wp2;go_ret;exact⟨q0v (by rw[HO.out]),hat.2⟩
theorem z9r{v:Value}{names:List ByteArray}{up:List Nat}(w:World)(h:IsLat w w.heap.size v names up)(hn:1≤up.length)(hok:∀ a b,a<up.length→b<up.length→0≤rJoin up a b) :
  Calls Tryz.prog 97 #[v] w fun e w'=>e=.returned (.int .i64 (rTopTo up up.length:Nat))∧Below w.heap.size w w':=by
 have h':=h;obtain⟨⟨A,A',c,c',rfl,-,-⟩,-,⟨hf1,hf2⟩,-⟩:=h';have hst:=At.start w (.slice A names.length c) (.slice A' up.length c');have HM:=η (fun(a b:Nat) (W:World) (hW:At w (.slice A names.length c) (.slice A' up.length c') W) (ha:a<up.length) (hb:b<up.length)=>(q6b a b W (hW.lat h) ha hb).mono (R':=fun e w'=>e=.returned (.int .i64 (rJoin up a b))∧At w (.slice A names.length c) (.slice A' up.length c') w'∧w'.cell? ⟨w.heap.size,0,none⟩=some (.slice A names.length c)∧w'.cell? ⟨w.heap.size,1,none⟩=some (.slice A' up.length c')) fun _ _ ⟨he,hb⟩=>⟨he,hW.next hb,(hW.next hb).c0,(hW.next hb).c1⟩);have HOK:=η hok;clear h hok;go_enter Tryz.func97,Tryz.ntmps97;go_wp2;go_loopw [3,8] (fun y i wr=>∃ a:Nat,a≤up.length∧i=.int .i64 a∧y=.int .i64 (rTopTo up a:Nat)∧rTopTo up a<up.length∧At w (.slice A names.length c) (.slice A' up.length c') wr) (fun _ i _=>up.length-(intOf i).toNat);case atStart=>exact⟨0,Nat.zero_le _,rfl,rfl,by simp only[rTopTo];omega,hst⟩
 case round =>
  obtain⟨a,ha,rfl,rfl,ho,hat⟩:=hrel;have hc0:=hat.c0;have hc1:=hat.c1;clear hst;have hs:rTopTo up (a+1)=(rJoin up (rTopTo up a) a).toNat:=rfl;obtain⟨o,hoo⟩:∃ o,rTopTo up a=o:=⟨_,rfl⟩;rw[hoo] at hs ho ⊢;have HS:=η hs;have HO:=η hoo;clear hs hoo;by_cases hla:a<up.length
  ·obtain⟨m,hm,hml,-⟩:=z05 (HOK.out o a ho hla);have hcon:=HM.out o a wr hat ho hla;rw[hm] at hcon;have HCON:=η hcon;have HMM:=η hm;clear hcon hm;go_wp2_with (go_at_call 60;refine HCON.out.mono ?_;rintro e w' ⟨rfl,hat',hc0',hc1'⟩);go_roundw;case rel=>exact⟨a+1,by omega,by go_num,by rw[HS.out,HMM.out];simp,by rw[HS.out,HMM.out];simpa using hml,hat'⟩
   case measure=>simp[intOf];omega
  ·obtain rfl:a=up.length:=by omega
   go_wp2;go_ret;exact⟨q0v (by rw[HO.out]),hat.2⟩
end Go.Proofs.YtjobifclmcdjcaaGreatDoor
namespace Go.Proofs.YtjobifclmcdjcaaGreatDoor
open Lat
def Rows(up:List Nat):Prop:=∀ a,up.getD a 0<2 ^ up.length
theorem q82{x n:Nat}:sub x (allS n) = !highB x n:=by
 have h2:0<2 ^ n:=Nat.pow_pos (by decide);rw[Bool.eq_iff_iff];unfold highB;simp only[Bool.not_eq_true',decide_eq_false_iff_not,Nat.not_lt,Nat.le_zero_eq];rw[Nat.div_eq_zero_iff];constructor
 ·intro h;right;unfold sub allS at h;rw[beq_iff_eq,Nat.and_two_pow_sub_one_eq_mod] at h;rw[←h];exact Nat.mod_lt _ h2
 ·intro h;have hx:x<2 ^ n:=by rcases h with h|h<;>omega
  unfold sub allS;rw[beq_iff_eq,Nat.and_two_pow_sub_one_eq_mod,Nat.mod_eq_of_lt hx]
theorem z6v{x n:Nat}(h:sub x (allS n)=true):x<2 ^ n:=by
 rw[q82] at h;unfold highB at h;simp only[Bool.not_eq_true',decide_eq_false_iff_not,Nat.not_lt,Nat.le_zero_eq] at h;rw[Nat.div_eq_zero_iff] at h;have:0<2 ^ n:=Nat.pow_pos (by decide);rcases h with h|h<;>omega
theorem q8h(s t:ByteArray):streq s t=streq t s:=by
 unfold streq;rw[Bool.eq_iff_iff,beq_iff_eq,beq_iff_eq];exact⟨fun h=>h.symm,fun h=>h.symm⟩
theorem q0q{f:Nat→Bool}{n:Nat}:(List.range n).all f=true↔∀ i,i<n→f i=true:=by
 rw[List.all_eq_true];simp[List.mem_range]
theorem q3j{f:Nat×Nat→Bool}{n:Nat}:(pairs n).all f=true↔∀ a b,a<n→b<n→f (a,b)=true:=by
 rw[List.all_eq_true];constructor
 ·intro h a b ha hb;exact h _ (mem_pairs.2 ⟨ha,hb⟩)
 ·rintro h ⟨a,b⟩ hp;exact h a b (mem_pairs.1 hp).1 (mem_pairs.1 hp).2
theorem z85(names:List ByteArray)(up:List Nat):mayB names up=rMay names up:=by
 unfold mayB rMay;cases hl:(decide (1≤up.length)&&decide (up.length≤8)&&decide (names.length=up.length)) with
 | false=>rfl
 | true =>
  simp only[Bool.and_eq_true,decide_eq_true_eq] at hl;obtain⟨_,hlen⟩:=hl;rw[hlen,Bool.true_and,Bool.true_and,Bool.eq_iff_iff,Bool.and_eq_true,q0q,q0q,q3j];constructor
  ·rintro⟨h1,h2⟩ i hi;have hr:=h1 i hi;unfold rowOk at hr;rw[Bool.and_eq_true,q82] at hr;unfold lineOk;rw[Bool.and_eq_true,Bool.and_eq_true,q0q];refine⟨⟨hr.2,hr.1⟩,fun j hj=>?_⟩;have:=h2 i j hi (by omega);unfold twoOk at this;have hne:(i != j)=true:=by rw[bne_iff_ne];omega
   simp only[hne,Bool.true_and] at this;unfold dist nameAt;rw[q8h];exact this
  ·intro h;refine⟨fun i hi=>?_,fun a b ha hb=>?_⟩
   ·have:=h i hi;unfold lineOk at this;rw[Bool.and_eq_true,Bool.and_eq_true] at this;unfold rowOk;rw[Bool.and_eq_true,q82];exact⟨this.1.2,this.1.1⟩
   ·unfold twoOk;rcases Nat.lt_trichotomy a b with hab|hab|hab
    ·have:=h b hb;unfold lineOk at this;rw[Bool.and_eq_true,q0q] at this;have:=this.2 a hab;unfold dist nameAt at this;have hne:(a != b)=true:=by rw[bne_iff_ne];omega
     simp only[hne,Bool.true_and];exact this
    ·subst hab;simp
    ·have:=h a ha;unfold lineOk at this;rw[Bool.and_eq_true,q0q] at this;have:=this.2 b hab;unfold dist nameAt at this;have hne:(a != b)=true:=by rw[bne_iff_ne];omega
     simp only[hne,Bool.true_and];rw[q8h];exact this
theorem q7e{names:List ByteArray}{up:List Nat}(h:mayB names up=true):Rows up:=by
 unfold mayB at h;simp only[Bool.and_eq_true] at h;have h1:=h.2.1;rw[q0q] at h1;intro a;by_cases ha:a<up.length
 ·have:=h1 a ha;unfold rowOk at this;rw[Bool.and_eq_true] at this;exact z6v this.1
 ·rw[List.getD_eq_getElem?_getD,List.getElem?_eq_none (by omega)];exact Nat.pow_pos (by decide)
theorem j0n{up:List Nat}(h:Rows up){a b:Nat}(hf:fl up a b=true):b<up.length:=by
 rcases Nat.lt_or_ge b up.length with hb|hb
 ·exact hb
 ·unfold fl at hf;rw[Nat.testBit_lt_two_pow (Nat.lt_of_lt_of_le (h a) (Nat.pow_le_pow_right (show 2 > 0 by decide) hb))] at hf;cases hf
theorem sub_rows{up:List Nat}(h:Rows up)(a b:Nat):sub (up.getD b 0) (up.getD a 0)=true↔∀ c,c<up.length→fl up b c=true→fl up a c=true:=by
 constructor
 ·intro hs c _ hc;exact q6u hs c hc
 ·intro hc;exact q4q fun i hi=>hc i (j0n h hi) hi
theorem z42{up:List Nat}(h:Rows up):isOrder up=rOrder up:=by
 rw[Bool.eq_iff_iff];unfold isOrder rOrder;rw[q3j,q0q];constructor
 ·intro ho;have ho':isOrder up=true:=by unfold isOrder;rw[q3j];exact ho
  intro a ha;unfold uno;rw[Bool.and_eq_true,q0q];refine⟨z9e ho' ha,fun b hb=>?_⟩;unfold duo;rw[Bool.and_eq_true,q0q];refine⟨?_,fun c hc=>?_⟩
  ·cases e1:fl up a b<;>cases e2:fl up b a<;>simp
   exact q7p ho' ha hb e1 e2
  ·unfold tri;cases e1:fl up a b<;>cases e2:fl up b c<;>simp
   exact q59 ho' ha hb e1 e2
 ·intro ho a b ha hb;have h1:=ho a ha;unfold uno at h1;rw[Bool.and_eq_true,q0q] at h1;have h2:=h1.2 b hb;unfold duo at h2;rw[Bool.and_eq_true,q0q] at h2;unfold ordOk;by_cases hab:a=b
  ·subst hab;simp[h1.1]
  ·simp only[hab,if_false];cases e1:fl up a b with
   | false=>rfl
   | true =>
    have hba:fl up b a=false:=by
     have:=h2.1;simp only[e1,Bool.and_true] at this;have hne:(a != b)=true:=by rw[bne_iff_ne];exact hab
     simp only[hne,Bool.true_and] at this
     simpa using this
    simp only[Bool.not_true,Bool.false_or,hba,Bool.not_false,Bool.true_and];rw[sub_rows h];intro c hc hbc;have:=h2.2 c hc;unfold tri at this
    simpa [e1,hbc] using this
theorem q50(up:List Nat)(a b c:Nat):(joinS up a b).testBit c=(fl up a c&&fl up b c):=by
 unfold joinS fl;rw[Nat.testBit_and]
theorem z0j{up:List Nat}(h:Rows up)(a b c:Nat):leastF up (joinS up a b) c=jOk up a b c:=by
 unfold leastF jOk;rw[q50]
 congr 1
 rw[Bool.eq_iff_iff,q0q];constructor
 ·intro hs d _;unfold jAll;cases e1:fl up a d<;>cases e2:fl up b d<;>simp
  exact q6u hs d (by rw[q50,e1,e2];rfl)
 ·intro hd;refine q4q fun i hi=>?_
  rw[q50,Bool.and_eq_true] at hi;have:=hd i (j0n h hi.1);unfold jAll at this;have:fl up c i=true:=by simpa [hi.1,hi.2] using this
  exact this
theorem q9a{f g:Nat→Bool}{n:Nat}(h:∀ i,i<n→f i=g i):(List.range n).find? f=(List.range n).find? g:=by
 cases e:(List.range n).find? g with
 | none =>
  rw[List.find?_eq_none] at e ⊢;intro x hx;rw[h x (by simpa using hx)];exact e x hx
 | some k =>
  have hk:k<n:=by simpa using List.mem_of_find?_eq_some e
  refine find_range f n k hk (fun j hj=>?_) (by rw[h k hk];exact List.find?_some e);rw[h j (by omega)];rw[List.find?_eq_some_iff_append] at e;obtain⟨_,l1,l2,hl,hno⟩:=e;have hjm:j ∈ l1:=by
   have hlen:l1.length=k:=by
    have:=congrArg (fun l=>l[l1.length]?) hl;simp only[List.getElem?_append_right (Nat.le_refl _),Nat.sub_self,List.getElem?_cons_zero] at this;have hlt:l1.length<n:=by
     have:=congrArg List.length hl;simp at this;omega
    rw[List.getElem?_range hlt] at this;injection this
   have hj2:(List.range n)[j]? = l1[j]?:=by rw[hl,List.getElem?_append_left (by omega)]
   rw[List.getElem?_range (by omega)] at hj2;exact List.mem_of_getElem? hj2.symm
  simpa using hno j hjm
theorem q51{up:List Nat}(h:Rows up)(a b:Nat):rJoin up a b=if leastB up (joinS up a b) then(leastN up (joinS up a b):Int) else -1:=by
 unfold rJoin leastB leastN least;rw[q9a (fun i _=>(z0j h a b i).symm)];cases (List.range up.length).find? (leastF up (joinS up a b))<;>simp
theorem z3a(up:List Nat):Rows (turned up):=by
 intro a;rw[turned_length,List.getD_eq_getElem?_getD];cases e:(turned up)[a]? with
 | none=>exact Nat.pow_pos (by decide)
 | some x=>exact turnTo_lt (n:=up.length) (fun p hp=>(mem_pairs.1 hp).1) a x e
theorem z8v{up:List Nat}{a b c:Nat}(ha:a<up.length)(hb:b<up.length)(hc:c<up.length):leastF (turned up) (joinS (turned up) a b) c=mOk up a b c:=by
 rw[z0j (z3a up)];unfold jOk mOk;rw[q1n hc ha,q1n hc hb,turned_length]
 congr 1
 rw[Bool.eq_iff_iff,q0q,q0q];have:∀ d,d<up.length→jAll (turned up) a b c d=mAll up a b c d:=by
  intro d hd;unfold jAll mAll;rw[q1n hd ha,q1n hd hb,q1n hd hc]
 constructor
 ·intro h d hd;rw[←this d hd];exact h d hd
 ·intro h d hd;rw[this d hd];exact h d hd
theorem q55{up:List Nat}{a b:Nat}(ha:a<up.length)(hb:b<up.length):rMeet up a b=if leastB (turned up) (joinS (turned up) a b) then(leastN (turned up) (joinS (turned up) a b):Int) else -1:=by
 unfold rMeet leastB leastN least;rw[turned_length,q9a (fun i hi=>(z8v ha hb hi).symm)];cases (List.range up.length).find? (leastF (turned up) (joinS (turned up) a b))<;>simp
theorem z0i{up:List Nat}(h:Rows up):isLattice up=(List.range up.length).all (rBoth up):=by
 rw[Bool.eq_iff_iff];unfold isLattice;rw[q3j,q0q];have:∀ a b,a<up.length→b<up.length→latOk up (a,b)=bothOk up a b:=by
  intro a b ha hb;unfold latOk bothOk;rw[q51 h,q55 ha hb];cases leastB up (joinS up a b)<;>cases leastB (turned up) (joinS (turned up) a b)<;>simp
  all_goals omega
 constructor
 ·intro hl a ha;unfold rBoth;rw[q0q];intro b hb;rw[←this a b ha hb];exact hl a b ha hb
 ·intro hl a b ha hb;have:=hl a ha;unfold rBoth at this;rw[q0q] at this;rw[‹∀ a b,a<up.length→b<up.length→latOk up (a,b)=bothOk up a b› a b ha hb];exact this b hb
theorem z4i(names:List ByteArray)(up:List Nat):checkN names up=rCheckN names up:=by
 unfold checkN rCheckN;rw[←z85];cases hm:mayB names up with
 | false=>rfl
 | true =>
  have h:=q7e hm;rw[z42 h,z0i h]
structure Latt (up:List Nat):Prop where
 one:1≤up.length
 few:up.length≤8
 rows:Rows up
 ord:isOrder up=true
 lat:isLattice up=true
theorem q2s{names:List ByteArray}{up:List Nat}(h:checkN names up=0):Latt up:=by
 obtain⟨h1,h2,h3⟩:=q6z h;have hl:=q1i h;exact⟨hl.1,hl.2,q7e h1,h2,h3⟩
section
variable {up:List Nat} (h:Latt up)
include h
theorem Latt.both{a b:Nat}(ha:a<up.length)(hb:b<up.length):leastB up (joinS up a b)=true∧leastB (turned up) (joinS (turned up) a b)=true:=by
 have:=h.lat
 unfold isLattice at this;rw[q3j] at this;have:=this a b ha hb;unfold latOk at this;rw[Bool.and_eq_true] at this;exact this
theorem Latt.meet{a b:Nat}(ha:a<up.length)(hb:b<up.length):0≤rMeet up a b:=by
 rw[q55 ha hb,if_pos (h.both ha hb).2];omega
theorem Latt.join{a b:Nat}(ha:a<up.length)(hb:b<up.length):0≤rJoin up a b:=by
 rw[q51 h.rows,if_pos (h.both ha hb).1];omega
theorem Latt.rMeet_eq{a b:Nat}(ha:a<up.length)(hb:b<up.length):rMeet up a b=(leastN (turned up) (joinS (turned up) a b):Int):=by
 rw[q55 ha hb,if_pos (h.both ha hb).2]
theorem Latt.rJoin_eq{a b:Nat}(ha:a<up.length)(hb:b<up.length):rJoin up a b=(leastN up (joinS up a b):Int):=by
 rw[q51 h.rows,if_pos (h.both ha hb).1]
theorem Latt.meet_spec{a b:Nat}(ha:a<up.length)(hb:b<up.length):∃ c:Nat,rMeet up a b=c∧c<up.length∧fl up c a=true∧fl up c b=true∧∀ d,d<up.length→fl up d a=true→fl up d b=true→fl up d c=true:=by
 obtain⟨c,hc,hcl,hm⟩:=z06 (h.meet ha hb);unfold mOk at hm;rw[Bool.and_eq_true,Bool.and_eq_true,q0q] at hm;refine⟨c,hc,hcl,hm.1.1,hm.1.2,fun d hd h1 h2=>?_⟩;have:=hm.2 d hd;unfold mAll at this
 simpa [h1,h2] using this
theorem Latt.join_spec{a b:Nat}(ha:a<up.length)(hb:b<up.length):∃ c:Nat,rJoin up a b=c∧c<up.length∧fl up a c=true∧fl up b c=true∧∀ d,d<up.length→fl up a d=true→fl up b d=true→fl up c d=true:=by
 obtain⟨c,hc,hcl,hm⟩:=z05 (h.join ha hb);unfold jOk at hm;rw[Bool.and_eq_true,Bool.and_eq_true,q0q] at hm;refine⟨c,hc,hcl,hm.1.1,hm.1.2,fun d hd h1 h2=>?_⟩;have:=hm.2 d hd;unfold jAll at this
 simpa [h1,h2] using this
theorem Latt.bot_to:∀ k,k≤up.length→rBotTo up k<up.length∧∀ d,d<k→fl up (rBotTo up k) d=true:=by
 intro k
 induction k with
 | zero=>intro _;exact⟨by simp only[rBotTo];have:=h.one;omega,fun d hd=>absurd hd (Nat.not_lt_zero d)⟩
 | succ k ih =>
  intro hk;obtain⟨h1,h2⟩:=ih (by omega);obtain⟨c,hc,hcl,hca,hcb,_⟩:=h.meet_spec h1 (show k<up.length by omega);have e:rBotTo up (k+1)=c:=by simp only[rBotTo];rw[hc];simp
  rw[e];refine⟨hcl,fun d hd=>?_⟩;rcases Nat.lt_or_eq_of_le (Nat.le_of_lt_succ hd) with hd|rfl
  ·exact q59 h.ord hcl h1 hca (h2 d hd)
  ·exact hcb
theorem Latt.top_to:∀ k,k≤up.length→rTopTo up k<up.length∧∀ d,d<k→fl up d (rTopTo up k)=true:=by
 intro k
 induction k with
 | zero=>intro _;exact⟨by simp only[rTopTo];have:=h.one;omega,fun d hd=>absurd hd (Nat.not_lt_zero d)⟩
 | succ k ih =>
  intro hk;obtain⟨h1,h2⟩:=ih (by omega);obtain⟨c,hc,hcl,hca,hcb,_⟩:=h.join_spec h1 (show k<up.length by omega);have e:rTopTo up (k+1)=c:=by simp only[rTopTo];rw[hc];simp
  rw[e];refine⟨hcl,fun d hd=>?_⟩;rcases Nat.lt_or_eq_of_le (Nat.le_of_lt_succ hd) with hd|rfl
  ·exact q59 h.ord (by omega) h1 (h2 d hd) hca
  ·exact hcb
end
theorem q76{up:List Nat}{k:Nat}(hk:k<up.length):leastF up (allS up.length) k=true↔∀ d,d<up.length→fl up k d=true:=by
 unfold leastF;rw[q7g,Bool.and_eq_true];constructor
 ·rintro⟨_,hs⟩ d hd;exact q6u hs d (by rw[q7g];simpa using hd)
 ·intro hd;refine⟨by simpa using hk,q4q fun i hi=>?_⟩;rw[q7g] at hi;exact hd i (by simpa using hi)
theorem q77{up:List Nat}(hanti:∀ a b,a<up.length→b<up.length→fl up a b=true→fl up b a=true→a=b){o:Nat}(ho:o<up.length)(hall:∀ d,d<up.length→fl up o d=true):leastN up (allS up.length)=o:=by
 refine(least_some ho (fun j hj=>?_) ((q76 ho).2 hall)).1;cases e:leastF up (allS up.length) j with
 | false=>rfl
 | true =>
  have:=(q76 (show j<up.length by omega)).1 e;have:=hanti j o (by omega) ho (this o ho) (hall j (by omega));omega
theorem Latt.bottom{up:List Nat}(h:Latt up):leastN up (allS up.length)=rBotTo up up.length:=by
 obtain⟨h1,h2⟩:=h.bot_to _ (Nat.le_refl _);exact q77 (fun a b ha hb=>q7p h.ord ha hb) h1 h2
theorem Latt.top{up:List Nat}(h:Latt up):leastN (turned up) (allS up.length)=rTopTo up up.length:=by
 obtain⟨h1,h2⟩:=h.top_to _ (Nat.le_refl _)
 have:=q77 (up:=turned up) (o:=rTopTo up up.length) (fun a b ha hb h1 h2=>by
  rw[turned_length] at ha hb;rw[q1n hb ha] at h1;rw[q1n ha hb] at h2;exact q7p h.ord ha hb h2 h1) (by rw[turned_length];exact h1) (fun d hd=>by
  rw[turned_length] at hd;rw[q1n hd h1]
  exact h2 d hd)
 rw[turned_length] at this;exact this
end Go.Proofs.YtjobifclmcdjcaaGreatDoor
