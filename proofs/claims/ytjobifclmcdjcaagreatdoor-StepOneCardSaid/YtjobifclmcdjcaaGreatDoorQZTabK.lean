import Derived.Deep.RegionHeld3
import Derived.Lib.QuietBelow
import Derived.Handy
import Derived.Test.YtjobifclmcdjcaaGreatDoorQZTabJ
import Derived.Test.YtjobifclmcdjcaaGreatDoorQZLexD
set_option maxHeartbeats 64000000
set_option maxRecDepth 100000
namespace Go.Proofs.YtjobifclmcdjcaaGreatDoor
open Go.RowKit Go.Shelf
attribute [local go_sem] Oper.semAt_some
section
variable {R Q P b0 b1 b2 c:Nat} {A:Option Addr} {l:List Lx.Tk} {s:Tb.St}
def partV(bk:Nat)(g:FuncId):Value:=.agg #[.func (.func 141) #[] #[.pointer (some ⟨bk,0,none⟩)],.func (.func 143) #[] #[.pointer (some ⟨bk,0,none⟩)],.func (.func g) #[] #[]]
def partC(bk:Nat)(g:FuncId):Array Value:=#[.func (.func 141) #[] #[.pointer (some ⟨bk,0,none⟩)],.func (.func 143) #[] #[.pointer (some ⟨bk,0,none⟩)],.func (.func g) #[] #[]]
theorem z7t(hf:Fast R Q P b0 b1 b2)(hfi:Tb.Fine l)(hl:l.length≤200){op j:Nat}(hop:op<13)(hj:j<3){g:FuncId}{bk:Nat}(w:World)(h:TRd R Q P b0 b1 b2 A c l s w)(hp:PartAt P b0 b1 b2 j w g bk) :
  Calls Tryz.prog 157 #[.pointer (some ⟨R,0,none⟩),partV bk g,.int .i64 (op:Nat)] w (ToldT R Q P b0 b1 b2 A c l w (Tb.partP l op j s)):=by
 have hal:Below w.heap.size w (w.alloc (.cells (partC bk g) 167)).drew:=((Below.refl _ w).alloc (Nat.le_refl _) _).drew;have hT1:=h.keep hf hal;have hpos:=h.st.pos;have hR:=h.lt;have hQ:=h.rows.lt;have hbx:=Blk.new w 167 (partC bk g);have hread:=z7d c bk s.pos (decide (j≠0)) (w.alloc (.cells (partC bk g) 167)).drew (hp.v.below hal hp.v.lt) hT1.toks.row (by omega);have hlt:=(Tb.from_lt hfi hpos (decide (j≠0))).1;have c0:=h.c0;have c1:=h.c1;unfold Tb.partP;unfold partV;unfold partC at hal hT1 hbx hread;generalize Rl.from_ l s.pos (decide (j≠0))=r at *;obtain⟨out,at_,en⟩:=r;dsimp only at hread hlt ⊢;have hen:=hp.en;have hof2:=fun b o W=>(hp.of2 b o W).mono (R':=fun e w'=>e=.returned (.pointer (some ⟨b,o+j,none⟩))∧w'=W) (fun e w' h=>⟨h.1,h.2.symm⟩)
 have HOF:=η hof2;have HT1:=η hT1;have HBX:=η hbx;have HRD:=η hread;have HAL:=η hal;have HPL:=η (show s.rows.length=13 from h.st.rows);have HHL:=η (show s.had.length=13 from h.st.had);have HN:=η hl;clear hof2 hT1 hbx hread hal h hp;generalize hnl:l.length=n at *;by_cases he:en=0
 ·subst he;rw[if_pos rfl];go_enter Tryz.func157,Tryz.ntmps157;have q0:(w.alloc (.cells #[.func (.func 141) #[] #[.pointer (some ⟨bk,0,none⟩)],.func (.func 143) #[] #[.pointer (some ⟨bk,0,none⟩)],.func (.func g) #[] #[]] 167)).cell? ⟨w.heap.size,0,none⟩=some (.func (.func 141) #[] #[.pointer (some ⟨bk,0,none⟩)]):=HBX.out.cell 0;have q1:(w.alloc (.cells #[.func (.func 141) #[] #[.pointer (some ⟨bk,0,none⟩)],.func (.func 143) #[] #[.pointer (some ⟨bk,0,none⟩)],.func (.func g) #[] #[]] 167)).cell? ⟨R,0,none⟩=some (.slice A n c):=by have:=HT1.out.c0;rw[hnl] at this;exact this
  have q2:(w.alloc (.cells #[.func (.func 141) #[] #[.pointer (some ⟨bk,0,none⟩)],.func (.func 143) #[] #[.pointer (some ⟨bk,0,none⟩)],.func (.func g) #[] #[]] 167)).cell? ⟨R,1,none⟩=some (.int .i64 (s.pos:Int)):=HT1.out.c1;go_wp2;go_region_held3 (fun W=>W.cell? ⟨w.heap.size,0,none⟩=some (.func (.func 141) #[] #[.pointer (some ⟨bk,0,none⟩)])∧W.cell? ⟨R,0,none⟩=some (.slice A n c)∧W.cell? ⟨R,1,none⟩=some (.int .i64 (s.pos:Int)))
   (first|exact⟨q0,q1,q2⟩|exact⟨p0,p1,p2⟩)
   (first|(go_at_call 141;refine HRD.out.mono ?_;rintro e w2 ⟨v,rfl,hv,hb2,hnw⟩;obtain⟨A1,d1,rfl,hr1,hd1⟩:=hv;have p0:=(HBX.out.drew.below hb2 HBX.out.lt).cell 0;have hT2:=HT1.out.keep hf hb2;have p1:=hT2.c0;rw[hnl] at p1;have p2:=hT2.c1;have HB2:=η hb2;have HV:=η (AInts.of_new ⟨A1,d1,rfl,hr1,hd1⟩ hnw (show R<_ by simp;omega) (show Q<_ by simp;omega));have HT2:=η hT2;clear hb2 hT2 hr1 hd1 hnw))
  have hb3:=HAL.out.trans (HB2.out.mono HAL.out.size);have hfz:w2.frozen? ⟨R,1,none⟩=false:=HT2.out.blk.frozen _;have hT3:=HT2.out.set_ hf (q22 _ at_) rfl ⟨by rw[hnl];exact hlt,HPL.out,HHL.out⟩;have hK3:=(Kept.of (R:=R) (Q:=Q) hb3).set_ (p:=⟨R,1,none⟩) (.inl rfl) (.int .i64 (at_:Int));have hK23:=(Kept.refl R Q w2).set_ (p:=⟨R,1,none⟩) (.inl rfl) (.int .i64 (at_:Int));have hBX3:=(HBX.out.drew.below HB2.out HBX.out.lt).other (p:=⟨R,1,none⟩) (show R≠w.heap.size by omega) (.int .i64 (at_:Int));clear hb3 q0 q1 q2 p0;go_wp2;obtain⟨W3,hW3⟩:∃ W,w2.setCell ⟨R,1,none⟩ (.int .i64 (at_:Int))=W:=⟨_,rfl⟩;rw[hW3] at hT3 hK3 hK23 hBX3 ⊢;have hV3:=HV.out.kept hK23;have g2:W3.cell? ⟨w.heap.size,2,none⟩=some (.func (.func g) #[] #[]):=hBX3.cell 2;have g3:=hT3.c3;obtain⟨u,hu,hfu⟩:=hT3.rows.cell (show op*3+j<39 by omega);have hop2:(op:Int)<13:=by omega
  have hT4:=hT3.row_ hf hop hj hV3;have hmk:=q6m hf hfi Tb.mSemi Tb.semi_ne _ (hT4.keep hf ((Below.refl _ (W3.setCell ⟨Q,op*3+j,none⟩ (.slice A1 out.length d1))).drew)) (by rw[hnl];exact HN.out);have HMK:=η hmk;have HK4:=η (hK3.set_ (p:=⟨Q,op*3+j,none⟩) (.inr rfl) (.slice A1 out.length d1));clear hT3 hT4 hK3 hK23 hBX3 hW3 hV3 hmk;refine q0i 11 (by kernel_rfl) (by kernel_rfl) ?_;simp only[List.take_succ_cons,List.take_zero,List.drop_succ_cons,List.drop_zero];repeat still_step
  still_call (HOF.out _ _ _)
  repeat still_step
  refine wpStill_nil ?_;go_wp2_with (fail);refine HMK.out.mono ?_;rintro e w5 ⟨rfl,hT5,hK5⟩;have HT5:=η hT5;have HK5:=η (HK4.out.trans ⟨hK5.os,hK5.tape,hK5.output,hK5.size,hK5.block⟩);clear hT5 hK5;go_wp2;go_ret;exact⟨rfl,HT5.out,HK5.out⟩
 ·rw[if_neg he];have he1:((en:Int) != 0)=true:=by rw[bne_iff_ne];omega
  go_enter Tryz.func157,Tryz.ntmps157;have q0:(w.alloc (.cells #[.func (.func 141) #[] #[.pointer (some ⟨bk,0,none⟩)],.func (.func 143) #[] #[.pointer (some ⟨bk,0,none⟩)],.func (.func g) #[] #[]] 167)).cell? ⟨w.heap.size,0,none⟩=some (.func (.func 141) #[] #[.pointer (some ⟨bk,0,none⟩)]):=HBX.out.cell 0;have q1:(w.alloc (.cells #[.func (.func 141) #[] #[.pointer (some ⟨bk,0,none⟩)],.func (.func 143) #[] #[.pointer (some ⟨bk,0,none⟩)],.func (.func g) #[] #[]] 167)).cell? ⟨R,0,none⟩=some (.slice A n c):=by have:=HT1.out.c0;rw[hnl] at this;exact this
  have q2:(w.alloc (.cells #[.func (.func 141) #[] #[.pointer (some ⟨bk,0,none⟩)],.func (.func 143) #[] #[.pointer (some ⟨bk,0,none⟩)],.func (.func g) #[] #[]] 167)).cell? ⟨R,1,none⟩=some (.int .i64 (s.pos:Int)):=HT1.out.c1;go_wp2;go_region_held3 (fun W=>W.cell? ⟨w.heap.size,0,none⟩=some (.func (.func 141) #[] #[.pointer (some ⟨bk,0,none⟩)])∧W.cell? ⟨R,0,none⟩=some (.slice A n c)∧W.cell? ⟨R,1,none⟩=some (.int .i64 (s.pos:Int)))
   (first|exact⟨q0,q1,q2⟩|exact⟨p0,p1,p2⟩)
   (first|(go_at_call 141;refine HRD.out.mono ?_;rintro e w2 ⟨v,rfl,-,hb2,-⟩;have p0:=(HBX.out.drew.below hb2 HBX.out.lt).cell 0;have hT2:=HT1.out.keep hf hb2;have p1:=hT2.c0;rw[hnl] at p1;have p2:=hT2.c1;have HB2:=η hb2;have HT2:=η hT2;clear hb2 hT2))
  have hb3:=HAL.out.trans (HB2.out.mono HAL.out.size);have hfz:w2.frozen? ⟨R,1,none⟩=false:=HT2.out.blk.frozen _;have hT3:=HT2.out.set_ hf (q22 _ at_) rfl ⟨by rw[hnl];exact hlt,HPL.out,HHL.out⟩;have HT:=η hT3;have HK:=η ((Kept.of (R:=R) (Q:=Q) hb3).set_ (p:=⟨R,1,none⟩) (.inl rfl) (.int .i64 (at_:Int)));clear hb3 hT3 q0 q1 q2;go_wp2;go_ret;exact⟨rfl,HT.out,HK.out⟩
end
end Go.Proofs.YtjobifclmcdjcaaGreatDoor
namespace Go.Proofs.YtjobifclmcdjcaaGreatDoor
open Go.RowKit Go.Shelf Go.Sort
attribute [local go_sem] Oper.semAt_some
section
variable {R Q P b0 b1 b2 c:Nat} {A:Option Addr} {l:List Lx.Tk} {s:Tb.St}
theorem z7i{s:Tb.St}(h:(Tb.wordP l s).2.2≠0):Tb.rowP l s=((Tb.wordP l s).1,(Tb.wordP l s).2.2):=by unfold Tb.rowP;rw[if_neg h]
theorem z7g{s:Tb.St}(h:(Tb.wordP l s).2.2=0)(h2:(Tb.markP l Tb.mColon (Tb.wordP l s).1).2≠0):Tb.rowP l s=Tb.markP l Tb.mColon (Tb.wordP l s).1:=by unfold Tb.rowP;rw[if_pos h,if_neg h2]
theorem z7h{s:Tb.St}(h:(Tb.wordP l s).2.2=0)(h2:(Tb.markP l Tb.mColon (Tb.wordP l s).1).2=0):Tb.rowP l s=Tb.endP (Tb.wordP l s).2.1 s.pos (Tb.partsP l (Tb.wordP l s).2.1 3 0 (Tb.markP l Tb.mColon (Tb.wordP l s).1).1):=by unfold Tb.rowP;rw[if_pos h,if_pos h2]
theorem z64{op n j:Nat}{s:Tb.St}(h:(Tb.partP l op j s).2=0):Tb.partsP l op (n+1) j s=Tb.partsP l op n (j+1) (Tb.partP l op j s).1:=by
 rw[Tb.partsP,if_pos h]
theorem z63{op n j:Nat}{s:Tb.St}(h:(Tb.partP l op j s).2≠0):Tb.partsP l op (n+1) j s=Tb.partP l op j s:=by
 rw[Tb.partsP,if_neg h]
theorem j0v{op i:Nat}{r:Tb.St×Nat}(h:r.2≠0):Tb.endP op i r=r:=by unfold Tb.endP;rw[if_neg h]
theorem j0w{op i:Nat}{r:Tb.St}(h:Tb.labE op (r.rows.getD op Tb.PR.none)=0):Tb.endP op i (r,0)=(r,0):=by
 unfold Tb.endP;rw[if_pos rfl,if_pos h]
theorem z8g{op i:Nat}{r:Tb.St}(h:Tb.labE op (r.rows.getD op Tb.PR.none)≠0):Tb.endP op i (r,0)=({ r with pos:=i },7):=by
 unfold Tb.endP;rw[if_pos rfl,if_neg h]
structure RowIn (R Q P b0 b1 b2:Nat) (A:Option Addr) (c:Nat) (l:List Lx.Tk) (w:World) (op:Nat) (sm:Tb.St) (k:Nat) (sk:Tb.St) (W:World):Prop where
 rd:TRd R Q P b0 b1 b2 A c l sk W
 kept:Kept R Q w W
 same:Tb.partsP l op 3 0 sm=Tb.partsP l op (3-k) k sk
theorem z8t{op:Nat}{x:Tb.PR}:Tb.labE op x=0∨Tb.labE op x=7:=by
 unfold Tb.labE;split
 ·exact .inr rfl
 ·exact .inl rfl
theorem RowsQ.at_{R Q:Nat}{w:World}{l:List Tb.PR}(h:RowsQ R Q w l){k:Nat}(hk:k<l.length):∃ a0 a1 a2,w.cell? ⟨Q,k*3,none⟩=some a0∧w.cell? ⟨Q,k*3+1,none⟩=some a1∧w.cell? ⟨Q,k*3+2,none⟩=some a2 ∧
  AInts R Q w a0 (l.getD k Tb.PR.none).m∧AInts R Q w a1 (l.getD k Tb.PR.none).r∧AInts R Q w a2 (l.getD k Tb.PR.none).p:=by
 obtain⟨vs,h1,h2,h3⟩:=h;obtain⟨a0,a1,a2,e0,e1,e2,i0,i1,i2⟩:=h3 k l[k] (List.getElem?_eq_getElem hk);have hg:l.getD k Tb.PR.none=l[k]:=by rw[List.getD_eq_getElem?_getD,List.getElem?_eq_getElem hk];rfl
 rw[hg];exact⟨a0,a1,a2,by rw[h1.cell,List.getElem?_toArray];exact e0,by rw[h1.cell,List.getElem?_toArray];exact e1,by rw[h1.cell,List.getElem?_toArray];exact e2,i0,i1,i2⟩
theorem z3d{x:Tb.PR}(h:Tb.okRules x=true):Small x:=fun k=>by
 have h0:=Tb.right_len (Tb.okRules_all h 0 (by decide))
 have h1:=Tb.right_len (Tb.okRules_all h 1 (by decide))
 have h2:=Tb.right_len (Tb.okRules_all h 2 (by decide))
 unfold Tb.PR.nth at *
 by_cases e0:k=0
 ·rw[if_pos e0];exact Nat.le_trans h0 (by decide)
 ·rw[if_neg e0]
  by_cases e1:k=1
  ·rw[if_pos e1];exact Nat.le_trans h1 (by decide)
  ·rw[if_neg e1];exact Nat.le_trans h2 (by decide)
theorem z9u(hf:Fast R Q P b0 b1 b2)(hfi:Tb.Fine l)(hl:l.length≤200)(w:World)(h:TRd R Q P b0 b1 b2 A c l s w) :
  Calls Tryz.prog 136 #[.pointer (some ⟨R,0,none⟩)] w (ToldT R Q P b0 b1 b2 A c l w (Tb.rowP l s)):=by
 have c1:=h.c1;have hw:=z7w hf hfi w h hl;have HW:=η hw;have hst:=h.st;have HST:=η hst;clear hw h;by_cases hwe:(Tb.wordP l s).2.2=0
 ·obtain⟨op,hop,-,hwe2⟩:=Tb.wordP_ok hwe;have hsw:=Tb.wordP_stand hfi hst;by_cases hme:(Tb.markP l Tb.mColon (Tb.wordP l s).1).2=0
  ·have hres:=z7h hwe hme;have hsm:=Tb.markP_stand hfi Tb.colon_ne hsw;rw[hwe2] at HW hres hme hsm;dsimp only at hres hme hsm;have hpok:=fun h0=>Tb.partsP_ok hfi hop hsm h0
   have HPOK:=η hpok;have HRES:=η hres;have hmk:=fun W (hW:TRd R Q P b0 b1 b2 A c l ⟨s.pos+1,s.rows,s.had.set op true⟩ W)=>q6m hf hfi Tb.mColon Tb.colon_ne W hW hl
   obtain⟨sm,hsmm⟩:∃ sm,Tb.markP l Tb.mColon ⟨s.pos+1,s.rows,s.had.set op true⟩=(sm,0):=⟨_,Prod.ext rfl hme⟩;rw[hsmm] at hmk;rw[hsmm] at HRES HPOK hsm;have HMK:=η hmk;have HSM:=η hsm;clear hres hme hsm hpok hmk hsmm hsw hwe hwe2 hst;go_enter Tryz.func136,Tryz.ntmps136;go_wp2_with (fail);refine HW.out.mono ?_;rintro e w1 ⟨rfl,hT1,hK1⟩;have HMC:=η (HMK.out w1 hT1);have HK1:=η hK1;clear hT1 hK1;go_wp2_with (fail);refine HMC.out.mono ?_;rintro e w2 ⟨rfl,hT2,hK2⟩;have d2:=hT2.c2;have HIN:=η (show RowIn R Q P b0 b1 b2 A c l w op sm 0 sm w2 from⟨hT2,HK1.out.trans hK2,rfl⟩);clear hT2 hK2;go_wp2;go_loopw [33] (fun i wr=>∃(k:Nat) (sk:Tb.St),k≤3∧i=.int .i64 k∧Hid (RowIn R Q P b0 b1 b2 A c l w op sm k sk wr)) (fun i _=>3-(intOf i).toNat);case atStart=>exact⟨0,sm,by decide,rfl,HIN⟩
   case round =>
    obtain⟨k,sk,hk,rfl,HP⟩:=hrel;by_cases hlt:k<3
    ·obtain⟨g,bk,hpa⟩:=HP.out.rd.parts.at_ hlt;obtain⟨p0,p1,p2,-,-,-,-,-⟩:=hpa;have hal:Below wr.heap.size wr (wr.alloc (.cells (partC bk g) 167)):=(Below.refl _ wr).alloc (Nat.le_refl _) _;have hpa2:PartAt P b0 b1 b2 k (wr.alloc (.cells (partC bk g) 167)) g bk:=by
      obtain⟨g',bk',hpa'⟩:=(HP.out.rd.parts.keep hal).at_ hlt;obtain⟨q0,q1,q2,_⟩:=id hpa';have hPl:=HP.out.rd.parts.blk.lt;have e0:=(hal.cell (p:=⟨P,k*3,none⟩) hPl).trans p0;have e2:=(hal.cell (p:=⟨P,k*3+2,none⟩) hPl).trans p2;rw[q0] at e0;rw[q2] at e2;simp only[Option.some.injEq,Value.func.injEq,Fn.func.injEq,true_and,and_true] at e0 e2;have eb:bk'=bk:=by simpa using e0
      subst eb;subst e2;exact hpa'
     have hcall:=z7t hf hfi hl hop hlt (wr.alloc (.cells (partC bk g) 167)) (HP.out.rd.keep hf hal) hpa2;have hsame:=HP.out.same;rw[show 3-k=(2-k)+1 by omega] at hsame;unfold partC at hal hcall;unfold partV at hcall;have HAL:=η hal;have HSAME:=η hsame;obtain⟨⟨sn,en⟩,hr⟩:∃ r,Tb.partP l op k sk=r:=⟨_,rfl⟩;rw[hr] at hcall;have HR:=η hr;have HC:=η hcall;clear hal hcall hpa2 hsame hr;by_cases he:en=0
     ·subst he;go_wp2_with (fail);refine HC.out.mono ?_;rintro e w3 ⟨rfl,hT3,hK3⟩
      have HN:=η (show RowIn R Q P b0 b1 b2 A c l w op sm (k+1) sn w3 from⟨hT3,HP.out.kept.trans ((Kept.of HAL.out).trans hK3),by
       rw[HSAME.out,z64 (by rw[HR.out]),HR.out,show 3-(k+1)=2-k by omega]⟩)
      clear hT3 hK3 p0 p1 p2;go_wp2;go_roundw;case rel=>exact⟨k+1,sn,by omega,by go_num,HN⟩
      case measure=>simp[intOf];omega
     ·have he1:((en:Int) != 0)=true:=by rw[bne_iff_ne];omega
      have hrow:Tb.rowP l s=(sn,en):=by
       rw[HRES.out,HSAME.out,z63 (by rw[HR.out];exact he),HR.out,j0v he]
      have HROW:=η hrow;clear hrow he;go_wp2_with (fail);refine HC.out.mono ?_;rintro e w3 ⟨rfl,hT3,hK3⟩;have HT:=η hT3;have HK:=η (HP.out.kept.trans ((Kept.of HAL.out).trans hK3));clear hT3 hK3 p0 p1 p2;go_wp2;go_ret;rw[HROW.out];exact⟨rfl,HT.out,HK.out⟩
    ·obtain rfl:k=3:=by omega
     have hsame:Tb.partsP l op 3 0 sm=(sk,0):=HP.out.same;obtain⟨pos,x,hx1,hx2,-⟩:=HPOK.out (by rw[hsame]);rw[hsame] at hx1;have hx3:sk.rows.getD op Tb.PR.none=x:=by
      have e:sk=⟨pos,sm.rows.set op x,sm.had⟩:=hx1;rw[e];exact Tb.set_getD _ _ _ (by rw[HSM.out.rows];exact hop)
     have hsmall:=z3d hx2;obtain⟨a0,a1,a2,r0,r1,r2,i0,i1,i2⟩:=HP.out.rd.rows.at_ (k:=op) (by rw[HP.out.rd.st.rows];exact hop);rw[hx3] at i0 i1 i2;have hlab:∀ W,Below wr.heap.size wr W→Calls Tryz.prog 109 #[.slice (some ⟨P,0,none⟩) 3 3,.int .i64 (op:Int),.agg #[a0,a1,a2]] W (TellsN W (Tb.labE op x:Nat)):=fun W hb =>
      q75 hop W (HP.out.rd.ins.kept hf (.of hb)) (HP.out.rd.parts.keep hb) ((i0.kept (.of hb)).ints) ((i1.kept (.of hb)).ints) ((i2.kept (.of hb)).ints) hsmall
     have d2:=HP.out.rd.c2;have d3:=HP.out.rd.c3;have g2:=fun d os=>cell_regrown d2 d os
     have g3:=fun d os=>cell_regrown d3 d os
     have gr0:=fun d os=>cell_regrown r0 d os
     have gr1:=fun d os=>cell_regrown r1 d os
     have gr2:=fun d os=>cell_regrown r2 d os
     have hop2:(op:Int)<13:=by omega
     have HLAB:=η hlab;clear hlab hsmall i0 i1 i2;by_cases hz:Tb.labE op x=0
     ·have hrow:Tb.rowP l s=(sk,0):=by rw[HRES.out,hsame,j0w (by rw[hx3];exact hz)]
      rw[hz] at HLAB;have HROW:=η hrow;clear hrow hsame hx1 hx2 hx3 hz;go_wp2;refine wp_region_quiet_below (by kernel_rfl) (by kernel_rfl) ?_;repeat (quiet_step ((go_at_call 109;exact Calls.regrown_of (HLAB.out _ (below_regrown _ _ _)))))
      refine wpQuiet_nil ?_;rintro _ ⟨⟨d,os⟩,rfl⟩;have HT:=η (HP.out.rd.keep hf (below_regrown wr d os));have HK:=η (HP.out.kept.trans (Kept.of (below_regrown wr d os)));clear g2 g3 gr0 gr1 gr2;go_wp2;go_ret;rw[HROW.out];exact⟨rfl,HT.out,HK.out⟩
     ·have h7:Tb.labE op x=7:=by rcases z8t (op:=op) (x:=x) with e|e;exact absurd e hz;exact e
      have hrow:Tb.rowP l s=({ sk with pos:=s.pos },7):=by rw[HRES.out,hsame,z8g (by rw[hx3];exact hz)]
      rw[h7] at HLAB;have HROW:=η hrow;clear hrow hsame hx1 hx2 hx3 hz h7;go_wp2;refine wp_region_quiet_below (by kernel_rfl) (by kernel_rfl) ?_;repeat (quiet_step ((go_at_call 109;exact Calls.regrown_of (HLAB.out _ (below_regrown _ _ _)))))
      refine wpQuiet_nil ?_;rintro _ ⟨⟨d,os⟩,rfl⟩;have hT:=HP.out.rd.keep hf (below_regrown wr d os);obtain⟨W3,hW3⟩:∃ W,grow (redrawn wr d) os=W:=⟨_,rfl⟩;have hK:=HP.out.kept.trans (Kept.of (below_regrown wr d os));rw[hW3] at hT hK ⊢;have hfz:W3.frozen? ⟨R,1,none⟩=false:=hT.blk.frozen _;have hc1:=hT.c1;have HT:=η (hT.set_ hf (q22 _ s.pos) rfl ⟨HST.out.pos,hT.st.rows,hT.st.had⟩);have HK:=η (hK.set_ (p:=⟨R,1,none⟩) (.inl rfl) (.int .i64 (s.pos:Int)));clear g2 g3 gr0 gr1 gr2 hT hK hW3 r0 r1 r2 d2 d3;go_wp2;go_ret;rw[HROW.out];exact⟨rfl,HT.out,HK.out⟩
  ·have hres:=z7g hwe hme;rw[hwe2] at HW hres hme;dsimp only at hres hme;have hmk:=fun W (hW:TRd R Q P b0 b1 b2 A c l ⟨s.pos+1,s.rows,s.had.set op true⟩ W)=>q6m hf hfi Tb.mColon Tb.colon_ne W hW hl
   obtain⟨⟨sm,em⟩,hsmm⟩:∃ r,Tb.markP l Tb.mColon ⟨s.pos+1,s.rows,s.had.set op true⟩=r:=⟨_,rfl⟩;rw[hsmm] at hmk hres hme;rw[hres];have he1:((em:Int) != 0)=true:=by rw[bne_iff_ne];dsimp only at hme;omega
   have HMK:=η hmk;clear hres hme hmk hsmm hsw hwe hwe2 hst;go_enter Tryz.func136,Tryz.ntmps136;go_wp2_with (fail);refine HW.out.mono ?_;rintro e w1 ⟨rfl,hT1,hK1⟩;have HMC:=η (HMK.out w1 hT1);have HK1:=η hK1;clear hT1 hK1;go_wp2_with (fail);refine HMC.out.mono ?_;rintro e w2 ⟨rfl,hT2,hK2⟩;have HT:=η hT2;have HK:=η (HK1.out.trans hK2);clear hT2 hK2;go_wp2;go_ret;exact⟨rfl,HT.out,HK.out⟩
 ·have hres:=z7i hwe;rw[hres];obtain⟨⟨sw,ow,ew⟩,hw2⟩:∃ r,Tb.wordP l s=r:=⟨_,rfl⟩;rw[hw2] at HW hwe ⊢;have he1:((ew:Int) != 0)=true:=by rw[bne_iff_ne];dsimp only at hwe;omega
  clear hres hwe hst hw2;go_enter Tryz.func136,Tryz.ntmps136;go_wp2_with (fail);refine HW.out.mono ?_;rintro e w1 ⟨rfl,hT1,hK1⟩;have HT:=η hT1;have HK:=η hK1;clear hT1 hK1;go_wp2;go_ret;exact⟨rfl,HT.out,HK.out⟩
end
theorem z4d(b o c:Nat)(l:List Bool)(v:Bool)(w:World)(hc:∀(j:Nat) (u:Bool),l[j]? = some u→w.cell? ⟨b,o+j,none⟩=some (.bool u))(hl:l.length≤1000) :
  Calls Tryz.prog 158 #[.slice (some ⟨b,o,none⟩) l.length c,.bool v] w fun e w'=>(∃ n:Int,e=.returned (.int .i64 n)∧(decide (n ≥ 0)=l.contains v))∧w=w':=by
 have HC:=η hc;clear hc;go_enter Tryz.func158,Tryz.ntmps158;go_wp2;go_loopw [8] (fun i wr=>∃(k:Nat),k≤l.length∧i=.int .i64 k∧wr=w∧Hid (∀ j u,j<k→l[j]? = some u→u≠v)) (fun i _=>l.length-(intOf i).toNat);case atStart=>exact⟨0,Nat.zero_le _,rfl,rfl,η fun j u hj=>absurd hj (by omega)⟩
 case round =>
  obtain⟨k,hk,rfl,rfl,HO⟩:=hrel;by_cases hlt:k<l.length
  ·have hx:l[k]? = some l[k]:=List.getElem?_eq_getElem hlt;have hcell:=HC.out k _ hx;have HX:=η hx;have hmem:=List.getElem_mem hlt;have HM:=η hmem;clear hx hmem;generalize l[k]=x at *;by_cases he:x=v
   ·subst he;have HF:=η (show decide ((k:Int) ≥ 0)=l.contains x by rw[List.contains_iff_mem.2 HM.out];exact decide_eq_true (by omega));have hbe:(x==x)=true:=by simp
    go_wp2;go_ret;exact⟨⟨_,rfl,HF.out⟩,rfl⟩
   ·have HO2:Hid (∀ j u,j<k+1→l[j]? = some u→u≠v):=η fun j u hj hu=>by
     by_cases e:j=k
     ·subst e;rw[HX.out] at hu;injection hu with hu;rw[←hu];exact he
     ·exact HO.out j u (by omega) hu
    have hbe:(v==x)=false:=by cases v<;>cases x<;>simp_all
    go_wp2;go_roundw;case rel=>exact⟨k+1,by omega,by go_num,trivial,HO2⟩
    case measure=>simp[intOf];omega
  ·obtain rfl:k=l.length:=by omega
   have HF:=η (show decide ((-1:Int) ≥ 0)=l.contains v by
    cases hq:l.contains v with
    | false=>rfl
    | true =>
     obtain⟨j,hj1,hj2⟩:=List.getElem_of_mem (List.contains_iff_mem.1 hq)
     exact absurd hj2 (HO.out j _ hj1 (List.getElem?_eq_getElem hj1)))
   go_wp2;go_ret;exact⟨⟨_,rfl,HF.out⟩,rfl⟩
theorem q9p(b o c:Nat)(l:List Bool)(v:Bool)(w:World)(hc:∀(j:Nat) (u:Bool),l[j]? = some u→w.cell? ⟨b,o+j,none⟩=some (.bool u))(hl:l.length≤1000) :
  Calls Tryz.prog 137 #[.slice (some ⟨b,o,none⟩) l.length c,.bool v] w fun e w'=>e=.returned (.bool (l.contains v))∧w=w':=by
 have hi:=z4d b o c l v w hc hl;have HI:=η hi;clear hi hc;generalize l.length=n at *;go_enter Tryz.func137,Tryz.ntmps137;go_wp2_with (fail);refine HI.out.mono ?_;rintro e w1 ⟨⟨m,rfl,hm⟩,rfl⟩;have HM:=η hm;clear hm;go_wp2;go_ret;rw[←HM.out];exact⟨rfl,rfl⟩
def rposT(R:Nat)(W:World):Nat:=match W.cell? ⟨R,1,none⟩ with|some (.int _ n)=>n.toNat|_=>0
section
variable {R Q P b0 b1 b2 c:Nat} {A:Option Addr} {l:List Lx.Tk} {s:Tb.St}
theorem TRd.rpos{w:World}(h:TRd R Q P b0 b1 b2 A c l s w):rposT R w=s.pos:=by
 unfold rposT;rw[h.c1];exact Int.toNat_natCast _
structure TabIn (R Q P b0 b1 b2:Nat) (A:Option Addr) (c:Nat) (l:List Lx.Tk) (w:World) (r:Tb.St×Nat) (sk:Tb.St) (W:World):Prop where
 rd:TRd R Q P b0 b1 b2 A c l sk W
 kept:Kept R Q w W
 same:∃ m,l.length≤m+sk.pos∧r=Tb.tableP l m sk
theorem z5t{m:Nat}{s:Tb.St}(h:(Tb.tok l s.pos).kind=0)(hp:s.pos<l.length)(hm:l.length≤m+s.pos):Tb.tableP l m s=(s,if s.had.contains false=true then 9 else 0):=by
 obtain⟨m,rfl⟩:∃ k,m=k+1:=⟨m-1,by omega⟩;rw[Tb.tableP,if_pos h];split<;>rfl
theorem tableP_row{m:Nat}{s:Tb.St}(h:(Tb.tok l s.pos).kind≠0)(hp:s.pos<l.length)(hm:l.length≤m+s.pos)(hr:(Tb.rowP l s).2=0):∃ k,m=k+1∧Tb.tableP l m s=Tb.tableP l k (Tb.rowP l s).1:=by
 obtain⟨m,rfl⟩:∃ k,m=k+1:=⟨m-1,by omega⟩;exact⟨m,rfl,by rw[Tb.tableP,if_neg h,if_pos hr]⟩
theorem z5u{m:Nat}{s:Tb.St}(h:(Tb.tok l s.pos).kind≠0)(hp:s.pos<l.length)(hm:l.length≤m+s.pos)(hr:(Tb.rowP l s).2≠0):Tb.tableP l m s=Tb.rowP l s:=by
 obtain⟨m,rfl⟩:∃ k,m=k+1:=⟨m-1,by omega⟩;rw[Tb.tableP,if_neg h,if_neg hr]
theorem TRd.hads{w:World}(h:TRd R Q P b0 b1 b2 A c l s w):∀(j:Nat) (u:Bool),s.had[j]? = some u→w.cell? ⟨R,4+j,none⟩=some (.bool u):=fun j u hj=>by
 have hlt:=(List.getElem?_eq_some_iff.1 hj).1
 have:=h.had (k:=j) (by rw[←h.st.had];exact hlt)
 rw[List.getD_eq_getElem?_getD,hj] at this
 exact this
theorem z7r(hf:Fast R Q P b0 b1 b2)(hfi:Tb.Fine l)(hl:l.length≤200)(w:World)(h:TRd R Q P b0 b1 b2 A c l s w) :
  Calls Tryz.prog 95 #[.pointer (some ⟨R,0,none⟩)] w (ToldT R Q P b0 b1 b2 A c l w (Tb.tableP l l.length s)):=by
 obtain⟨r,hr⟩:∃ r,Tb.tableP l l.length s=r:=⟨_,rfl⟩;rw[hr];have HIN:=η (show TabIn R Q P b0 b1 b2 A c l w r s w from⟨h,Kept.refl _ _ _,l.length,by omega,hr.symm⟩);clear h hr;go_enter Tryz.func95,Tryz.ntmps95;go_wp2;go_loopw [4] (fun _ wr=>∃(sk:Tb.St),Hid (TabIn R Q P b0 b1 b2 A c l w r sk wr)) (fun _ wr=>l.length-rposT R wr);case atStart=>exact⟨s,HIN⟩
 case round =>
  obtain⟨sk,HP⟩:=hrel;have hrp:=HP.out.rd.rpos;have HRP:=η hrp;have hnx:=q3y wr HP.out.rd;obtain⟨m,hm1,hm2⟩:=HP.out.same;have hpos:=HP.out.rd.st.pos;have hend:=z5t (l:=l) (m:=m) (s:=sk);have hrow0:=tableP_row (l:=l) (m:=m) (s:=sk);have herr:=z5u (l:=l) (m:=m) (s:=sk);unfold tkv at hnx;generalize Tb.tok l sk.pos=t at *;obtain⟨kd,tx,ps⟩:=t;dsimp only at hnx hend hrow0 herr;have hfd:=fun w=>j0b kd ps tx w
  have HNX:=η hnx;clear hnx hrp;by_cases hk:kd=0
  ·subst hk;have hr:=hm2.trans (hend rfl hpos hm1);have HR:=η hr;clear hend hrow0 herr hm2 hr;go_wp2_with (fail);refine HNX.out.mono ?_;rintro e w1 ⟨rfl,hb1⟩;have hT:=HP.out.rd.keep hf hb1;have hcon:=q9p R 4 13 sk.had false w1 hT.hads (by rw[hT.st.had];decide);rw[hT.st.had] at hcon;have hR:=hT.lt;have HT:=η hT;have HK:=η (HP.out.kept.trans (Kept.of hb1));obtain⟨q,hq⟩:∃ q,sk.had.contains false=q:=⟨_,rfl⟩;rw[hq] at HR hcon;have HC:=η hcon;clear hT hb1 hcon hq;cases q
   ·go_wp2_with (fail);refine HC.out.mono ?_;rintro e w2 ⟨rfl,rfl⟩;go_wp2;go_ret;rw[HR.out];exact⟨rfl,HT.out,HK.out⟩
   ·go_wp2_with (fail);refine HC.out.mono ?_;rintro e w2 ⟨rfl,rfl⟩;go_wp2;go_ret;rw[HR.out];exact⟨rfl,HT.out,HK.out⟩
  ·have hk1:(kd != 0)=true:=by rw[bne_iff_ne];exact hk
   have hrow:=fun W (hb:Below wr.heap.size wr W)=>z9u hf hfi hl W (HP.out.rd.keep hf hb)
   have hst:=HP.out.rd.st;by_cases hr2:(Tb.rowP l sk).2=0
   ·obtain⟨op,x,pos,-,-,-,e1,e2⟩:=Tb.rowP_ok hfi hst hr2;obtain⟨k,rfl,hm3⟩:=hrow0 hk hpos hm1 hr2;have hpl:sk.pos<(Tb.rowP l sk).1.pos:=by rw[e1];exact e2
    obtain⟨⟨sn,en⟩,hrn⟩:∃ r,Tb.rowP l sk=r:=⟨_,rfl⟩;rw[hrn] at hrow hr2 hm3 hpl;dsimp only at hr2 hm3 hpl;subst hr2;have HROW:=η hrow;have HSAME:=η (show ∃ m,l.length≤m+sn.pos∧r=Tb.tableP l m sn from⟨k,by omega,hm2.trans hm3⟩);clear hrow hend hrow0 herr hm2 hm3 hst e1 e2 hrn;go_wp2_with (fail);refine HNX.out.mono ?_;rintro e w1 ⟨rfl,hb1⟩;have HRC:=η (HROW.out w1 hb1);have HB1:=η hb1;clear hb1;go_wp2_with (fail);refine HRC.out.mono ?_;rintro e w2 ⟨rfl,hT2,hK2⟩;have HN:=η (show TabIn R Q P b0 b1 b2 A c l w r sn w2 from⟨hT2,HP.out.kept.trans ((Kept.of HB1.out).trans hK2),HSAME.out⟩);have HRP2:=η hT2.rpos;clear hT2 hK2;go_wp2;go_roundw;case rel=>exact⟨sn,HN⟩
    case measure=>rw[HRP.out,HRP2.out];omega
   ·have hr3:=hm2.trans (herr hk hpos hm1 hr2);obtain⟨⟨sn,en⟩,hrn⟩:∃ r,Tb.rowP l sk=r:=⟨_,rfl⟩;rw[hrn] at hrow hr2 hr3;have he1:((en:Int) != 0)=true:=by rw[bne_iff_ne];dsimp only at hr2;omega
    have HROW:=η hrow;have HR:=η hr3;clear hrow hend hrow0 herr hm2 hr3 hst hrn hr2;go_wp2_with (fail);refine HNX.out.mono ?_;rintro e w1 ⟨rfl,hb1⟩;have HRC:=η (HROW.out w1 hb1);have HB1:=η hb1;clear hb1;go_wp2_with (fail);refine HRC.out.mono ?_;rintro e w2 ⟨rfl,hT2,hK2⟩;have HT:=η hT2;have HK:=η (HP.out.kept.trans ((Kept.of HB1.out).trans hK2));clear hT2 hK2;go_wp2;go_ret;rw[HR.out];exact⟨rfl,HT.out,HK.out⟩
end
def ParseRes(w:World)(r:List Tb.PR×Int×Nat)(e:Ending)(w':World):Prop :=
 ∃ v,e=.returned (.tuple #[.agg #[v],.int .i64 r.2.1,.int .i64 (r.2.2:Int)])∧IsTab w' w'.heap.size v r.1∧Below w.heap.size w w'
def nils(n:Nat):List Value:=List.replicate n (.slice none 0 0)
theorem q8v{n k:Nat}(h:k<n):(nils n)[k]? = some (.slice none 0 0):=by
 unfold nils;rw[List.getElem?_replicate,if_pos h]
theorem start_rows{Q R:Nat}{W:World}(hq:Blk W Q 55 (nils 39).toArray):RowsQ R Q W Tb.start.rows:=by
 refine⟨nils 39,hq,by simp[nils],fun k x hx=>?_⟩;have hk:k<13:=by have:=(List.getElem?_eq_some_iff.1 hx).1;simpa [Tb.start] using this
 have e:x=Tb.PR.none:=by
  have h1:(List.replicate 13 Tb.PR.none)[k]? = some x:=hx;rw[List.getElem?_replicate,if_pos hk] at h1;injection h1 with h1;exact h1.symm
 subst e;have hn:AInts R Q W (.slice none 0 0) []:=⟨none,0,rfl,fun h=>absurd rfl h,Nat.le_refl _⟩;exact⟨_,_,_,q8v (by omega),q8v (by omega),q8v (by omega),hn,hn,hn⟩
theorem z1k{Q P b0 b1 b2 B c:Nat}{A:Option Addr}{l:List Lx.Tk}{W:World}(hq:Blk W Q 55 (nils 39).toArray)(hp:Parts P b0 b1 b2 W)(hi:Ins W)(hr:Row W B A (tcells l))(hBQ:B≤Q)(hBW:B≤W.heap.size)(hl:0<l.length) :
  TRd W.heap.size Q P b0 b1 b2 A c l Tb.start (W.alloc (.cells (rcells A l.length c P Q Tb.start).toArray 147)):=by
 have hb:Below W.heap.size W (W.alloc (.cells (rcells A l.length c P Q Tb.start).toArray 147)):=(Below.refl _ W).alloc (Nat.le_refl _) _;refine⟨Blk.new _ _ _,fun hn=>?_,start_rows (hq.below hb hq.lt),hp.keep hb,hi.below hb hi.lt,Tb.start_stand hl⟩;obtain⟨ad,e,hab,hc⟩:=hr hn;exact⟨ad,e,⟨by simp;omega,by omega,by omega⟩,fun j u hu=>(hb.cell (by rw[q0a];omega)).trans (hc j u hu)⟩
theorem z62(s:ByteArray)(w:World)(hm:s.size≤maxLen)(he:(Lx.lex s.data.toList).2.2≠0):Calls Tryz.prog 67 #[.string s] w (ParseRes w (Tb.parse s.data.toList)):=by
 have hal:Below w.heap.size w (w.alloc (.cells #[.slice none 0 0] 28)):=(Below.refl _ w).alloc (Nat.le_refl _) _;have hlx:=z3v s (w.alloc (.cells #[.slice none 0 0] 28)) hm;have hres:Tb.parse s.data.toList=([],((Lx.lex s.data.toList).2.1:Int),(Lx.lex s.data.toList).2.2):=by unfold Tb.parse Tb.parseL;rw[if_neg he]
 rw[hres];generalize Lx.lex s.data.toList=x at *;obtain⟨l,a,n⟩:=x;dsimp only at he ⊢;have he1:((n:Int) != 0)=true:=by rw[bne_iff_ne];omega
 have HL:=η hlx;have HA:=η hal;have hbk:=Blk.new w 28 #[.slice none 0 0];have HK:=η hbk;clear hlx hal hres he hm hbk;go_enter Tryz.func67,Tryz.ntmps67;go_wp2_with (fail);refine HL.out.mono ?_;rintro e w1 ⟨v,rfl,-,hb1⟩;have hk1:=HK.out.below hb1 HK.out.lt;have hc:=hk1.cell 0;have hfz:=hk1.frozen 0;have hb2:=HA.out.trans (hb1.mono HA.out.size);have hk2:=hk1.set_ 0 (.slice none 0 0);have HB:=η (show Below w.heap.size w (w1.setCell ⟨w.heap.size,0,none⟩ (.slice none 0 0)) from hb2.setCell (Nat.le_refl _) _);clear hb1 hb2 hk1;have hcell:(w1.setCell ⟨w.heap.size,0,none⟩ (.slice none 0 0)).cell? ⟨w.heap.size,0,none⟩=some (.slice none 0 0):=hk2.cell 0;go_wp2;exact bodyPost_ret (v:=.tuple #[.agg #[.slice none 0 0],.int .i64 (a:Int),.int .i64 (n:Int)]) (by simp[results,Tryz.results67,go_sem,hcell]) rfl ⟨_,rfl,IsTab.nil _ _,HB.out⟩
theorem make_rows(W:World):(Instr.makeSlice 26 (.int .i64 13) (.int .i64 13)).run Tryz.prog W=.ok (.slice (some ⟨W.heap.size,0,none⟩) 13 13) (W.alloc (.cells (nils 39).toArray 55)):=by kernel_rfl
theorem z7x{B:Nat}{a w:World}(h:Below B a.drew w):Below B a w:=⟨h.os,h.tape,h.output,h.size,h.block⟩
theorem q2i{w:World}{g B n c:Nat}{t:TypeId}{a:Option Addr}{v u:Value}{l:List Int}(hk:Blk w g t #[.slice a n c])(h:IsInts w B v l):IsInts (w.setCell ⟨g,0,none⟩ u) B v l:=by
 obtain⟨A,d,e,hr,hd⟩:=h;refine⟨A,d,e,fun hn=>?_,hd⟩;obtain⟨ad,rfl,hb,hc⟩:=hr hn;have hne:ad.block≠g:=fun hg=>by
  obtain⟨x,r,hx⟩:=List.exists_cons_of_ne_nil hn;have h0:=hc 0 x (by rw[hx];rfl);have hint:∃ m,x=.int .i64 m:=by
   have:x ∈ ints l:=by rw[hx];exact .head _
   obtain⟨m,_,hm⟩:=List.mem_map.1 this;exact⟨m,hm.symm⟩
  obtain⟨m,rfl⟩:=hint;unfold Blk at hk;have hb2:(ad.add 0).block=g:=by rw[q0a];exact hg
  unfold World.cell? at h0;rw[hb2,hk] at h0;have h1:(#[Value.slice a n c]:Array Value)[(ad.add 0).off]? = some (.int .i64 m):=by
   have h2:(ad.add 0).spot=none∧[Value.slice a n c][(ad.add 0).off]? = some (.int .i64 m):=by simpa using h0
   simpa using h2.2
  rcases Nat.eq_zero_or_pos (ad.add 0).off with e0|e0
  ·rw[e0] at h1;cases h1
  ·rw[Array.getElem?_eq_none (by simp;omega)] at h1;cases h1
 refine⟨ad,rfl,hb,fun j y hy=>?_⟩;rw[World.cell?_setCell_other w ⟨g,0,none⟩ (ad.add j) u (fun e=>hne (by rw[←q0a ad j,←e]))];exact hc j y hy
theorem q9l{R Q:Nat}{w:World}{g n c:Nat}{t:TypeId}{a:Option Addr}{u:Value}{l:List Tb.PR}(hk:Blk w g t #[.slice a n c])(hg:g≠Q)(h:RowsQ R Q w l)(hl:l.length=13):IsTab (w.setCell ⟨g,0,none⟩ u) (w.setCell ⟨g,0,none⟩ u).heap.size (.slice (some ⟨Q,0,none⟩) 13 13) l:=by
 obtain⟨vs,h1,h2,h3⟩:=h;have h4:=h1.other (p:=⟨g,0,none⟩) hg u;have hsz:(w.setCell ⟨g,0,none⟩ u).heap.size=w.heap.size:=by simp[World.setCell]
 rw[hsz];refine⟨some ⟨Q,0,none⟩,13,by rw[hl],⟨vs,by omega,h4.row.more h1.lt,fun k x hx=>?_⟩,by omega⟩;obtain⟨a0,a1,a2,e0,e1,e2,i0,i1,i2⟩:=h3 k x hx;exact⟨a0,a1,a2,e0,e1,e2,q2i hk i0.ints,q2i hk i1.ints,q2i hk i2.ints⟩
structure Ready (w:World) (c:Nat) (l:List Lx.Tk) (A:Option Addr) (R Q P b0 b1 b2:Nat) (W:World):Prop where
 rd:TRd R Q P b0 b1 b2 A c l Tb.start W
 fast:Fast R Q P b0 b1 b2
 below:Below w.heap.size w W
 res:Blk W w.heap.size 28 #[.slice none 0 0]
 r:w.heap.size<R
 q:w.heap.size<Q
theorem z44(s:ByteArray)(w:World)(hm:s.size≤maxLen)(hi:Ins w){l:List Lx.Tk}{a:Nat}(he:Lx.lex s.data.toList=(l,a,0)):Calls Tryz.prog 67 #[.string s] w (ParseRes w (Tb.parse s.data.toList)):=by
 obtain⟨hfi,hl0,hl2,rfl⟩:=Tb.lex_fine he;have hal:Below w.heap.size w (w.alloc (.cells #[.slice none 0 0] 28)):=(Below.refl _ w).alloc (Nat.le_refl _) _;have hlx:=z3v s (w.alloc (.cells #[.slice none 0 0] 28)) hm;rw[he] at hlx;obtain⟨⟨sf,ef⟩,hsf⟩:∃ r,Tb.tableP l l.length Tb.start=r:=⟨_,rfl⟩;have hres:Tb.parse s.data.toList=if ef=0 then(sf.rows,0,0) else([],(Tb.tok l sf.pos).pos,ef):=by
  unfold Tb.parse Tb.parseL;rw[he];dsimp only;rw[if_pos rfl,hsf]
 obtain⟨res,hrs⟩:∃ res,Tb.parse s.data.toList=res:=⟨_,rfl⟩;rw[hrs] at hres ⊢;have HRES:=η hres;clear hrs;have htab:=fun(R Q P b0 b1 b2 c:Nat) (A:Option Addr) W (hf:Fast R Q P b0 b1 b2) (h:TRd R Q P b0 b1 b2 A c l Tb.start W)=>z7r hf hfi hl2 W h
 rw[hsf] at htab;have HL:=η hlx;have HA:=η hal;have HTB:=η htab;have HI:=η hi;have hg0:=hi.lt;have hbk:=Blk.new w 28 #[.slice none 0 0];have HK:=η hbk;have hpa:=fun W=>q9i W
 have HPA:=η hpa;have HL0:=η hl0;have hmk:=make_rows;clear hlx hal hres he hm hbk htab hi hsf hpa hl0;go_enter Tryz.func67,Tryz.ntmps67;go_wp2_with (fail);refine HL.out.mono ?_;rintro e w1 ⟨v,rfl,hv,hb1⟩;obtain⟨A,c,rfl,hrow,hlc⟩:=hv;have hk1:=HK.out.below hb1 HK.out.lt;have hb2:=HA.out.trans (hb1.mono HA.out.size);have HB2:=η hb2;have HK1:=η hk1;have HROW:=η hrow;have hz1:w.heap.size<w1.heap.size:=hk1.lt;clear hb1 hb2 hk1 hrow;go_wp2;go_region_with (go_at_call 81;refine(HPA.out _).mono ?_;rintro e w2 ⟨P,b0,b1,b2,rfl,hp,hb3,p0,p1,p2,p3⟩)
 ·have hrd:Ready w c l A (w2.heap.size+1) w2.heap.size P b0 b1 b2 ((w2.alloc (.cells (nils 39).toArray 55)).alloc (.cells (rcells A l.length c P w2.heap.size Tb.start).toArray 147)):=by
   have hb3:=z7x hb3;have hz2:w1.heap.size≤w2.heap.size:=hb3.size;have hbw:Below w.heap.size w w2:=HB2.out.trans (hb3.mono (Nat.le_of_lt hz1));have q0:w1.heap.size≤P:=p0;have q1:w1.heap.size≤b0:=p1;have q2:w1.heap.size≤b1:=p2;have q3:w1.heap.size≤b2:=p3;have l0:=hp.blk.lt;have l1:=hp.v0.lt;have l2:=hp.v1.lt;have l3:=hp.v2.lt;have hb4:Below w2.heap.size w2 (w2.alloc (.cells (nils 39).toArray 55)):=(Below.refl _ w2).alloc (Nat.le_refl _) _;have hsz:(w2.alloc (.cells (nils 39).toArray 55)).heap.size=w2.heap.size+1:=by simp
   have hrd:=z1k (Q:=w2.heap.size) (B:=w1.heap.size) (c:=c) (W:=w2.alloc (.cells (nils 39).toArray 55)) (Blk.new _ _ _) (hp.keep hb4) ((HI.out.below hbw hg0).below hb4 (by omega)) ((HROW.out.below hb3).below (hb4.mono hz2)) hz2 (by omega) HL0.out;rw[hsz] at hrd;refine⟨hrd,⟨by omega,⟨by omega,by omega⟩,⟨by omega,by omega⟩,⟨by omega,by omega⟩,⟨by omega,by omega⟩,⟨by omega,by omega⟩⟩,(hbw.trans (hb4.mono (by omega))).alloc (by omega) _,?_,by omega,by omega⟩;exact((HK1.out.below hb3 HK1.out.lt).alloc _).alloc _
  show Exit.then _ _ _ _ ((w2.alloc (.cells (nils 39).toArray 55)).alloc (.cells (rcells A l.length c P w2.heap.size Tb.start).toArray 147));obtain⟨W,hW⟩:∃ W,(w2.alloc (.cells (nils 39).toArray 55)).alloc (.cells (rcells A l.length c P w2.heap.size Tb.start).toArray 147)=W:=⟨_,rfl⟩;rw[hW] at hrd ⊢;have HRD:=η hrd;clear hrd hW hp hb3 p0 p1 p2 p3 hmk;obtain⟨R,hR⟩:∃ R,w2.heap.size+1=R:=⟨_,rfl⟩;obtain⟨Q,hQ⟩:∃ Q,w2.heap.size=Q:=⟨_,rfl⟩;rw[hR,hQ] at HRD ⊢;have HTC:=η (HTB.out R Q P b0 b1 b2 c A W HRD.out.fast HRD.out.rd);clear hR hQ;go_wp2_with (fail);refine HTC.out.mono ?_;rintro e w5 ⟨rfl,hT,hK⟩;have hne1:w.heap.size≠R:=by have:=HRD.out.r;omega
  have hne2:w.heap.size≠Q:=by have:=HRD.out.q;omega
  have hk5:Blk w5 w.heap.size 28 #[.slice none 0 0]:=(hK.block _ HRD.out.res.lt hne1 hne2).trans HRD.out.res;have hb5:Below w.heap.size w w5:=HRD.out.below.trans (hK.below HRD.out.below.size (Nat.le_of_lt HRD.out.r) (Nat.le_of_lt HRD.out.q));by_cases hz:ef=0
  ·subst hz;have hr:=HRES.out;rw[if_pos rfl] at hr;have HR:=η hr;have c3:=hT.c3;have hc:=hk5.cell 0;have hfz:=hk5.frozen 0;have hk6:=hk5.set_ 0 (.slice (some ⟨Q,0,none⟩) 13 13);have hcell:(w5.setCell ⟨w.heap.size,0,none⟩ (.slice (some ⟨Q,0,none⟩) 13 13)).cell? ⟨w.heap.size,0,none⟩=some (.slice (some ⟨Q,0,none⟩) 13 13):=hk6.cell 0;have hT6:IsTab (w5.setCell ⟨w.heap.size,0,none⟩ (.slice (some ⟨Q,0,none⟩) 13 13)) (w5.setCell ⟨w.heap.size,0,none⟩ (.slice (some ⟨Q,0,none⟩) 13 13)).heap.size (.slice (some ⟨Q,0,none⟩) 13 13) sf.rows:=q9l hk5 hne2 hT.rows hT.st.rows;have HT6:=η hT6;have HB6:=η (hb5.setCell (p:=⟨w.heap.size,0,none⟩) (Nat.le_refl _) (.slice (some ⟨Q,0,none⟩) 13 13));clear hr hT hK hb5 hT6 hk6;go_wp2;rw[HR.out];exact bodyPost_ret (v:=.tuple #[.agg #[.slice (some ⟨Q,0,none⟩) 13 13],.int .i64 0,.int .i64 0]) (by simp[results,Tryz.results67,go_sem,hcell]) rfl ⟨_,rfl,HT6.out,HB6.out⟩
  ·have he1:((ef:Int) != 0)=true:=by rw[bne_iff_ne];omega
   have hr:=HRES.out;rw[if_neg hz] at hr;have HR:=η hr;have hnx:=q3y w5 hT;have HK5:=η hk5;have HB5:=η hb5;unfold tkv at hnx;generalize Tb.tok l sf.pos=t at *;obtain⟨kd,tx,ps⟩:=t;dsimp only at hnx;have hfd:=fun w=>z32 kd ps tx w
   have HNX:=η hnx;clear hr hT hK hb5 hnx hk5 hz;go_wp2_with (fail);refine HNX.out.mono ?_;rintro e w6 ⟨rfl,hb6⟩;have hk6:=HK5.out.below hb6 HK5.out.lt;have hc:=hk6.cell 0;have hfz:=hk6.frozen 0;have hk7:=hk6.set_ 0 (.slice none 0 0);have hcell:(w6.setCell ⟨w.heap.size,0,none⟩ (.slice none 0 0)).cell? ⟨w.heap.size,0,none⟩=some (.slice none 0 0):=hk7.cell 0;have HB6:=η ((HB5.out.trans (hb6.mono HB5.out.size)).setCell (p:=⟨w.heap.size,0,none⟩) (Nat.le_refl _) (.slice none 0 0));clear hb6 hk6 hk7;go_wp2;rw[HR.out];exact bodyPost_ret (v:=.tuple #[.agg #[.slice none 0 0],.int .i64 ps,.int .i64 (ef:Int)]) (by simp[results,Tryz.results67,go_sem,hcell]) rfl ⟨_,rfl,IsTab.nil _ _,HB6.out⟩
 ·have hrd:Ready w c l A w2.heap.size w1.heap.size P b0 b1 b2 (w2.alloc (.cells (rcells A l.length c P w1.heap.size Tb.start).toArray 147)):=by
   have hb3:=z7x hb3;have hsz:(w1.alloc (.cells (nils 39).toArray 55)).heap.size=w1.heap.size+1:=by simp
   have hz2:w1.heap.size+1≤w2.heap.size:=by rw[←hsz];exact hb3.size
   have hb4:Below w1.heap.size w1 (w1.alloc (.cells (nils 39).toArray 55)):=(Below.refl _ w1).alloc (Nat.le_refl _) _;have hb5:Below w1.heap.size w1 w2:=hb4.trans (Below.mono (show Below (w1.alloc (.cells (nils 39).toArray 55)).heap.size (w1.alloc (.cells (nils 39).toArray 55)) w2 from hb3) (by omega));have hbw:Below w.heap.size w w2:=HB2.out.trans (hb5.mono (Nat.le_of_lt hz1));have q0:w1.heap.size+1≤P:=by rw[←hsz];exact p0
   have q1:w1.heap.size+1≤b0:=by rw[←hsz];exact p1
   have q2:w1.heap.size+1≤b1:=by rw[←hsz];exact p2
   have q3:w1.heap.size+1≤b2:=by rw[←hsz];exact p3
   have l0:=hp.blk.lt;have l1:=hp.v0.lt;have l2:=hp.v1.lt;have l3:=hp.v2.lt;have hq:Blk w2 w1.heap.size 55 (nils 39).toArray:=Blk.below (Blk.new w1 55 (nils 39).toArray) (show Below (w1.alloc (.cells (nils 39).toArray 55)).heap.size _ w2 from hb3) (by omega);have hrd:=z1k (Q:=w1.heap.size) (B:=w1.heap.size) (c:=c) (W:=w2) hq hp (HI.out.below hbw hg0) (HROW.out.below hb5) (Nat.le_refl _) (by omega) HL0.out;refine⟨hrd,⟨by omega,⟨by omega,by omega⟩,⟨by omega,by omega⟩,⟨by omega,by omega⟩,⟨by omega,by omega⟩,⟨by omega,by omega⟩⟩,hbw.alloc (by omega) _,?_,by omega,by omega⟩;exact(HK1.out.below hb5 HK1.out.lt).alloc _
  show Exit.then _ _ _ _ ((w2).alloc (.cells (rcells A l.length c P w1.heap.size Tb.start).toArray 147));obtain⟨W,hW⟩:∃ W,(w2).alloc (.cells (rcells A l.length c P w1.heap.size Tb.start).toArray 147)=W:=⟨_,rfl⟩;rw[hW] at hrd ⊢;have HRD:=η hrd;clear hrd hW hp hb3 p0 p1 p2 p3 hmk;obtain⟨R,hR⟩:∃ R,w2.heap.size=R:=⟨_,rfl⟩;obtain⟨Q,hQ⟩:∃ Q,w1.heap.size=Q:=⟨_,rfl⟩;rw[hR,hQ] at HRD ⊢;have HTC:=η (HTB.out R Q P b0 b1 b2 c A W HRD.out.fast HRD.out.rd);clear hR hQ;go_wp2_with (fail);refine HTC.out.mono ?_;rintro e w5 ⟨rfl,hT,hK⟩;have hne1:w.heap.size≠R:=by have:=HRD.out.r;omega
  have hne2:w.heap.size≠Q:=by have:=HRD.out.q;omega
  have hk5:Blk w5 w.heap.size 28 #[.slice none 0 0]:=(hK.block _ HRD.out.res.lt hne1 hne2).trans HRD.out.res;have hb5:Below w.heap.size w w5:=HRD.out.below.trans (hK.below HRD.out.below.size (Nat.le_of_lt HRD.out.r) (Nat.le_of_lt HRD.out.q));by_cases hz:ef=0
  ·subst hz;have hr:=HRES.out;rw[if_pos rfl] at hr;have HR:=η hr;have c3:=hT.c3;have hc:=hk5.cell 0;have hfz:=hk5.frozen 0;have hk6:=hk5.set_ 0 (.slice (some ⟨Q,0,none⟩) 13 13);have hcell:(w5.setCell ⟨w.heap.size,0,none⟩ (.slice (some ⟨Q,0,none⟩) 13 13)).cell? ⟨w.heap.size,0,none⟩=some (.slice (some ⟨Q,0,none⟩) 13 13):=hk6.cell 0;have hT6:IsTab (w5.setCell ⟨w.heap.size,0,none⟩ (.slice (some ⟨Q,0,none⟩) 13 13)) (w5.setCell ⟨w.heap.size,0,none⟩ (.slice (some ⟨Q,0,none⟩) 13 13)).heap.size (.slice (some ⟨Q,0,none⟩) 13 13) sf.rows:=q9l hk5 hne2 hT.rows hT.st.rows;have HT6:=η hT6;have HB6:=η (hb5.setCell (p:=⟨w.heap.size,0,none⟩) (Nat.le_refl _) (.slice (some ⟨Q,0,none⟩) 13 13));clear hr hT hK hb5 hT6 hk6;go_wp2;rw[HR.out];exact bodyPost_ret (v:=.tuple #[.agg #[.slice (some ⟨Q,0,none⟩) 13 13],.int .i64 0,.int .i64 0]) (by simp[results,Tryz.results67,go_sem,hcell]) rfl ⟨_,rfl,HT6.out,HB6.out⟩
  ·have he1:((ef:Int) != 0)=true:=by rw[bne_iff_ne];omega
   have hr:=HRES.out;rw[if_neg hz] at hr;have HR:=η hr;have hnx:=q3y w5 hT;have HK5:=η hk5;have HB5:=η hb5;unfold tkv at hnx;generalize Tb.tok l sf.pos=t at *;obtain⟨kd,tx,ps⟩:=t;dsimp only at hnx;have hfd:=fun w=>z32 kd ps tx w
   have HNX:=η hnx;clear hr hT hK hb5 hnx hk5 hz;go_wp2_with (fail);refine HNX.out.mono ?_;rintro e w6 ⟨rfl,hb6⟩;have hk6:=HK5.out.below hb6 HK5.out.lt;have hc:=hk6.cell 0;have hfz:=hk6.frozen 0;have hk7:=hk6.set_ 0 (.slice none 0 0);have hcell:(w6.setCell ⟨w.heap.size,0,none⟩ (.slice none 0 0)).cell? ⟨w.heap.size,0,none⟩=some (.slice none 0 0):=hk7.cell 0;have HB6:=η ((HB5.out.trans (hb6.mono HB5.out.size)).setCell (p:=⟨w.heap.size,0,none⟩) (Nat.le_refl _) (.slice none 0 0));clear hb6 hk6 hk7;go_wp2;rw[HR.out];exact bodyPost_ret (v:=.tuple #[.agg #[.slice none 0 0],.int .i64 ps,.int .i64 (ef:Int)]) (by simp[results,Tryz.results67,go_sem,hcell]) rfl ⟨_,rfl,IsTab.nil _ _,HB6.out⟩
theorem z61(s:ByteArray)(w:World)(hm:s.size≤maxLen)(hi:Ins w):Calls Tryz.prog 67 #[.string s] w (ParseRes w (Tb.parse s.data.toList)):=by
 by_cases he:(Lx.lex s.data.toList).2.2=0
 ·exact z44 s w hm hi (l:=(Lx.lex s.data.toList).1) (a:=(Lx.lex s.data.toList).2.1) (by rw[←he])
 ·exact z62 s w hm he
end Go.Proofs.YtjobifclmcdjcaaGreatDoor
