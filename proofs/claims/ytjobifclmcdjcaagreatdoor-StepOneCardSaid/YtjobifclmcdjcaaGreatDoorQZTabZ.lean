import Derived.Deep.RegionHeld3
import Derived.Deep.Cut
import Derived.Test.YtjobifclmcdjcaaGreatDoorQZShoA
import Derived.Test.YtjobifclmcdjcaaGreatDoorQZTabF
set_option maxHeartbeats 64000000
set_option maxRecDepth 100000
namespace Go.Proofs.YtjobifclmcdjcaaGreatDoor
open Go.RowKit Go.Shelf
end Go.Proofs.YtjobifclmcdjcaaGreatDoor
namespace Go.Proofs.YtjobifclmcdjcaaGreatDoor
open Go.RowKit Go.Shelf
attribute [local go_sem] Oper.semAt_some
theorem j1p{op:Nat}(hop:op<13)(x:Tb.PR):rowR (Rl.right x.m false) (Rl.right x.r true) (Rl.right x.p true) (noOver op x.m) (noOver op x.r) (noOver op x.p)=Tb.rowE op x:=by
 unfold rowR Tb.rowE;by_cases ho:Tb.okRules x=true
 ·have ho2:=ho;unfold Tb.okRules at ho2;rw[if_pos ho,if_pos ho2];simp only[Bool.and_eq_true] at ho2;unfold Tb.labE;rw[q8w hop (q47 ho2.1),q8w hop (q47 ho2.2.1),q8w hop (q47 ho2.2.2)];cases noOver op x.m<;>cases noOver op x.r<;>cases noOver op x.p<;>rfl
 ·have ho2:=ho;unfold Tb.okRules at ho2;rw[if_neg ho,if_neg ho2]
def Fits(x:Tb.PR):Prop:=x.m.length≤100000∧x.r.length≤100000∧x.p.length≤100000
theorem z9n{a0 a1 a2:Value}{op:Nat}{x:Tb.PR}(hop:op<13)(w:World)(h0:IsInts w w.heap.size a0 x.m)(h1:IsInts w w.heap.size a1 x.r)(h2:IsInts w w.heap.size a2 x.p)(hf:Fits x) :
  Calls Tryz.prog 62 #[.int .i64 op,.agg #[a0,a1,a2]] w (TellsI w (Tb.rowE op x)):=by
 obtain⟨A0,c0,rfl,r0,-⟩:=h0;obtain⟨A1,c1,rfl,r1,-⟩:=h1;obtain⟨A2,c2,rfl,r2,-⟩:=h2;rw[←j1p hop x];exact z5g w (η fun W hb=>q5a c0 false W ((r0.below hb).more hb.size) hf.1) (η fun W hb=>q5a c1 true W ((r1.below hb).more hb.size) hf.2.1) (η fun W hb=>q5a c2 true W ((r2.below hb).more hb.size) hf.2.2)
  (η fun W hb=>q7u c0 op hop W ((r0.below hb).more hb.size) hf.1) (η fun W hb=>q7u c1 op hop W ((r1.below hb).more hb.size) hf.2.1) (η fun W hb=>q7u c2 op hop W ((r2.below hb).more hb.size) hf.2.2)
def TellsW(w:World)(a n:Nat)(e:Ending)(w':World):Prop:=e=.returned (.agg #[.int .i64 (a:Int),.int .i64 (n:Int)])∧Below w.heap.size w w'
structure CheckAt (w:World) (A:Option Addr) (n c:Nat) (W:World):Prop where
 below:Below w.heap.size w W
 k0:Blk W w.heap.size 28 #[.slice A n c]
 k2:Blk W (w.heap.size+1) 73 #[.int .i64 0,.int .i64 0]
theorem CheckAt.step{w W W':World}{A:Option Addr}{n c:Nat}(h:CheckAt w A n c W)(hb:Below W.heap.size W W'):CheckAt w A n c W' :=
 ⟨h.below.trans (hb.mono h.below.size),h.k0.below hb h.k0.lt,h.k2.below hb h.k2.lt⟩
theorem z2z{A:Option Addr}{l:List Tb.PR}(c:Nat)(w:World)(h:RowsIn w w.heap.size A l)(hs:∀ x ∈ l,Fits x):Calls Tryz.prog 33 #[.agg #[.slice A l.length c]] w (TellsW w (Tb.check l).1 (Tb.check l).2):=by
 have hal0:Below w.heap.size w ((w.alloc (.cells #[.slice A l.length c] 28)).alloc (.cells #[.int .i64 0,.int .i64 0] 73)):=((Below.refl _ w).alloc (Nat.le_refl _) _).alloc (by simp) _;have hk0:=(Blk.new w 28 #[.slice A l.length c]).alloc (.cells #[.int .i64 0,.int .i64 0] 73);have hk1:=Blk.new (w.alloc (.cells #[.slice A l.length c] 28)) 73 #[.int .i64 0,.int .i64 0];rw[World.size_alloc] at hk1;obtain⟨w1,hw1⟩:∃ w1,(w.alloc (.cells #[.slice A l.length c] 28)).alloc (.cells #[.int .i64 0,.int .i64 0] 73)=w1:=⟨_,rfl⟩;have HP:Hid (CheckAt w A l.length c w1):=hw1▸η ⟨hal0,hk0,hk1⟩;have c0:=HP.out.k0.cell 0;have f0:=HP.out.k2.frozen 0;have f1:=HP.out.k2.frozen 1;have d0:=HP.out.k2.cell 0;have d1:=HP.out.k2.cell 1;have hne:w.heap.size≠w.heap.size+1:=by omega
 clear hal0 hk0 hk1;by_cases hl:l.length=13
 ·have e:Tb.check l=Tb.firstBad 0 l:=by unfold Tb.check;rw[if_pos hl]
  rw[e];have H:=η h;have HS:=η hs;have HL:=η hl;clear e h hs;rw[hl] at c0 HP hw1 ⊢;clear hl;go_enter Tryz.func33,Tryz.ntmps33;go_wp2;go_loopw [14] (fun i wr=>∃(k:Nat),k≤13∧i=.int .i64 k∧Hid (CheckAt w A 13 c wr)∧Hid (Tb.firstBad 0 l=Tb.firstBad k (l.drop k))) (fun i _=>13-(intOf i).toNat);case atStart=>exact⟨0,by decide,rfl,HP,η rfl⟩
  case round =>
   clear HP c0 f0 f1 d0 d1;obtain⟨k,hk,rfl,HP,HF⟩:=hrel;by_cases hlt:k<13
   ·have hkl:k<l.length:=by rw[HL.out];exact hlt
    obtain⟨ad,a0,a1,a2,rfl,hb,c0,c1,c2,i0,i1,i2⟩:=(H.out.below HP.out.below).at_ hkl;have hz:=HP.out.below.size;have hal:Below wr.heap.size wr (wr.alloc (.cells #[a0,a1,a2] 55)):=(Below.refl _ wr).alloc (Nat.le_refl _) _;have hcr:=z9n (a0:=a0) (a1:=a1) (a2:=a2) (x:=l[k]) hlt (wr.alloc (.cells #[a0,a1,a2] 55))
     ((i0.below (hal.mono hz)).more (by simp;omega)) ((i1.below (hal.mono hz)).more (by simp;omega)) ((i2.below (hal.mono hz)).more (by simp;omega)) (HS.out _ (List.getElem_mem hkl))
    have hon:=HF.out.trans (q62 hkl);obtain⟨A0,d0,rfl,-,-⟩:=i0;obtain⟨A1,d1,rfl,-,-⟩:=i1;obtain⟨A2,d2,rfl,-,-⟩:=i2;generalize Tb.rowE k l[k]=q at *;have HCR:=η hcr;have HON:=η hon;have HAL:=η hal;have hadb:(ad.add (k*3)).block<wr.heap.size:=by rw[q0a];omega
    clear hcr hon hal;go_wp2_with (fail);refine HCR.out.mono ?_;rintro e w2 ⟨rfl,hb2⟩;have HP2:=η (HP.out.step (HAL.out.trans (hb2.mono HAL.out.size)));clear hb2 c0 c1 c2;by_cases hq0:q=0
    ·subst hq0;have HF2:=η (HON.out.trans (if_pos rfl));go_wp2;go_roundw;case rel=>exact⟨k+1,by omega,by go_num,HP2,HF2⟩
     case measure=>simp[intOf];omega
    ·have hq1:((q:Int) != 0)=true:=by rw[bne_iff_ne];omega
     have HF2:=η (HON.out.trans (if_neg hq0));have f0:=HP2.out.k2.frozen 0;have f1:=HP2.out.k2.frozen 1;have d0:=HP2.out.k2.cell 0;have d1:=HP2.out.k2.cell 1;go_wp2;have hkk:=(HP2.out.k2.set_ 0 (.int .i64 (k:Int))).set_ 1 (.int .i64 (q:Int));have e0:=hkk.cell 0;have e1:=hkk.cell 1;have hBk:=(HP2.out.below.setCell (p:=⟨w.heap.size+1,0,none⟩) (by simp) (.int .i64 (k:Int))).setCell (p:=⟨w.heap.size+1,1,none⟩) (by simp) (.int .i64 (q:Int));exact bodyPost_ret (v:=.agg #[.int .i64 (k:Int),.int .i64 (q:Int)]) (by simp[results,Tryz.results33,go_sem,e0,e1]) rfl ⟨by rw[HF2.out],hBk⟩
   ·obtain rfl:k=13:=by omega
    have HF2:=η (HF.out.trans (by rw[List.drop_eq_nil_of_le (by rw[HL.out];omega)];rfl:_=((0,0):Nat×Nat)));have f0:=HP.out.k2.frozen 0;have f1:=HP.out.k2.frozen 1;have d0:=HP.out.k2.cell 0;have d1:=HP.out.k2.cell 1;go_wp2;have hkk:=(HP.out.k2.set_ 0 (.int .i64 0)).set_ 1 (.int .i64 0);have e0:=hkk.cell 0;have e1:=hkk.cell 1;have hBk:=(HP.out.below.setCell (p:=⟨w.heap.size+1,0,none⟩) (by simp) (.int .i64 0)).setCell (p:=⟨w.heap.size+1,1,none⟩) (by simp) (.int .i64 0);exact bodyPost_ret (v:=.agg #[.int .i64 0,.int .i64 0]) (by simp[results,Tryz.results33,go_sem,e0,e1]) rfl ⟨by rw[HF2.out];rfl,hBk⟩
 ·have e:Tb.check l=(0,1):=by unfold Tb.check;rw[if_neg hl]
  rw[e];have h1:(((l.length:Nat):Int) != 13)=true:=by rw[bne_iff_ne];omega
  clear e h hs;generalize l.length=n at *;go_enter Tryz.func33,Tryz.ntmps33;go_wp2;have hkk:=(HP.out.k2.set_ 0 (.int .i64 0)).set_ 1 (.int .i64 1);have e0:=hkk.cell 0;have e1:=hkk.cell 1;have hBk:=(HP.out.below.setCell (p:=⟨w.heap.size+1,0,none⟩) (by simp) (.int .i64 0)).setCell (p:=⟨w.heap.size+1,1,none⟩) (by simp) (.int .i64 1);exact bodyPost_ret (v:=.agg #[.int .i64 0,.int .i64 1]) (by simp[results,Tryz.results33,go_sem,e0,e1]) rfl ⟨rfl,hBk⟩
end Go.Proofs.YtjobifclmcdjcaaGreatDoor
