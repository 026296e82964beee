import Derived.Test.YtjobifclmcdjcaaGreatDoorQZStpK
import Derived.Test.YtjobifclmcdjcaaGreatDoorQZStpR
import Derived.Test.YtjobifclmcdjcaaGreatDoorQZTabO
import Derived.Test.YtjobifclmcdjcaaGreatDoorQZCodK
import Derived.Test.YtjobifclmcdjcaaGreatDoorQZFree
set_option maxHeartbeats 64000000
set_option maxRecDepth 100000
namespace Go.Proofs.YtjobifclmcdjcaaGreatDoor
open Go.RowKit Go.Shelf
attribute [local go_sem] Oper.semAt_some
def bIn10:St.State:=⟨⟨0,0⟩,[⟨3,0,0⟩],[],[⟨false,1,0⟩,⟨false,2,1⟩],[]⟩
def bOut10:St.State:=⟨⟨1,0⟩,[⟨3,0,0⟩],[],[⟨false,3,1⟩],[]⟩
theorem j0r:oneR bNames8 bUp8 Tb.usualRows bIn10=(bOut10,0,0):=by decide +kernel
def af10(B:Nat)(k:Nat)(v:Value)(W:World):Prop :=
 match k with
 | 1=>∃ x,v=.agg #[x]∧IsTab W W.heap.size x Tb.usualRows
 | 3=>∃ b,v=.slice (some ⟨b,0,none⟩) 1 1∧Blk W b 57 #[.int .i64 3,.int .i64 0,.int .i64 0]
 | 6=>∃ b,v=.slice (some ⟨b,0,none⟩) 2 2∧Blk W b 78 #[.bool false,.int .i64 1,.int .i64 0,.bool false,.int .i64 2,.int .i64 1]
 | 7=>∃ b b',v=.agg #[.int .i64 0,.int .i64 0,.slice (some ⟨b,0,none⟩) 1 1,.slice none 0 0,.slice (some ⟨b',0,none⟩) 2 2,.slice none 0 0]∧Blk W b 57 #[.int .i64 3,.int .i64 0,.int .i64 0]∧Blk W b' 78 #[.bool false,.int .i64 1,.int .i64 0,.bool false,.int .i64 2,.int .i64 1]
 | 8=>∃ A1 c1 A2 c2 A3 c3 A4 c4,v=.tuple #[.agg #[.int .i64 1,.int .i64 0,.slice A1 1 c1,.slice A2 0 c2,.slice A3 1 c3,.slice A4 0 c4],.int .i64 0,.int .i64 0]∧CopyOf B bOut10 (.slice A1 1 c1) (.slice A2 0 c2) (.slice A3 1 c3) (.slice A4 0 c4) W
 | 9=>∃ A1 c1 A2 c2 A3 c3 A4 c4,v=.tuple #[.agg #[.int .i64 1,.int .i64 0,.slice A1 1 c1,.slice A2 0 c2,.slice A3 1 c3,.slice A4 0 c4],.int .i64 0,.int .i64 0]∧CopyOf B bOut10 (.slice A1 1 c1) (.slice A2 0 c2) (.slice A3 1 c3) (.slice A4 0 c4) W
 | 10=>∃ A1 c1 A2 c2 A3 c3 A4 c4,v=.agg #[.int .i64 1,.int .i64 0,.slice A1 1 c1,.slice A2 0 c2,.slice A3 1 c3,.slice A4 0 c4]∧CopyOf B bOut10 (.slice A1 1 c1) (.slice A2 0 c2) (.slice A3 1 c3) (.slice A4 0 c4) W
 | _=>True
theorem af10.below{B k:Nat}{v:Value}{W W':World}(h:af10 B k v W)(hb:Below W.heap.size W W'):af10 B k v W':=by
 unfold af10 at h ⊢;split
 ·obtain⟨x,e,A,c,e2,h,hc⟩:=h;exact⟨x,e,A,c,e2,(h.below hb).more hb.size,hc⟩
 ·obtain⟨b,e,h⟩:=h;exact⟨b,e,h.below hb h.lt⟩
 ·obtain⟨b,e,h⟩:=h;exact⟨b,e,h.below hb h.lt⟩
 ·obtain⟨b,b',e,h,h'⟩:=h;exact⟨b,b',e,h.below hb h.lt,h'.below hb h'.lt⟩
 ·obtain⟨A1,c1,A2,c2,A3,c3,A4,c4,e,h⟩:=h;exact⟨A1,c1,A2,c2,A3,c3,A4,c4,e,h.below hb⟩
 ·obtain⟨A1,c1,A2,c2,A3,c3,A4,c4,e,h⟩:=h;exact⟨A1,c1,A2,c2,A3,c3,A4,c4,e,h.below hb⟩
 ·obtain⟨A1,c1,A2,c2,A3,c3,A4,c4,e,h⟩:=h;exact⟨A1,c1,A2,c2,A3,c3,A4,c4,e,h.below hb⟩
 ·trivial
def BoxT(B b:Nat)(d:Bool)(W:World):Prop :=
 if d then ∃ A1 c1 A2 c2 A3 c3 A4 c4,Blk W b 35 #[.int .i64 1,.int .i64 0,.slice A1 1 c1,.slice A2 0 c2,.slice A3 1 c3,.slice A4 0 c4]∧CopyOf B bOut10 (.slice A1 1 c1) (.slice A2 0 c2) (.slice A3 1 c3) (.slice A4 0 c4) W
 else Blk W b 35 #[.int .i64 0,.int .i64 0,.slice none 0 0,.slice none 0 0,.slice none 0 0,.slice none 0 0]
theorem BoxT.below{B b:Nat}{d:Bool}{W W':World}(h:BoxT B b d W)(hb:Below W.heap.size W W'):BoxT B b d W':=by
 unfold BoxT at h ⊢;split
 ·rename_i hd
  rw[if_pos hd] at h;obtain⟨A1,c1,A2,c2,A3,c3,A4,c4,e,h⟩:=h;exact⟨A1,c1,A2,c2,A3,c3,A4,c4,e.below hb e.lt,h.below hb⟩
 ·rename_i hd
  rw[if_neg hd] at h;exact h.below hb h.lt
structure AJ10 (w0:World) (done:Nat→Bool) (r:Nat→Value) (W:World):Prop where
 below:Below w0.heap.size w0 W
 f:done 14=false→∀ k,done k=true→af10 w0.heap.size k (r k) W
 p:done 9=true→∃ x,r 9=.tuple #[x,.int .i64 0,.int .i64 0]
 box:done 13=true→∃ b,r 13=.pointer (some ⟨b,0,none⟩)∧w0.heap.size≤b∧BoxT w0.heap.size b (done 14) W
section
variable {w0:World} {done:Nat→Bool} {r:Nat→Value} {W W':World}
theorem j2n{k j:Nat}(h:j≠k):Free.upd done k j=done j:=by unfold Free.upd;rw[if_neg h]
theorem j2q{k:Nat}:Free.upd done k k=true:=by unfold Free.upd;rw[if_pos rfl]
theorem j2o{k j:Nat}{v:Value}(h:j≠k):Free.updR r k v j=r j:=by unfold Free.updR;rw[if_neg h]
theorem j2p{k:Nat}{v:Value}:Free.updR r k v k=v:=by unfold Free.updR;rw[if_pos rfl]
theorem AJ10.start(r:Nat→Value):AJ10 w0 (fun _=>false) r w0.drew :=
 ⟨(Below.refl _ _).drew,(fun _ k h=>by cases h),(fun h=>by cases h),(fun h=>by cases h)⟩
theorem AJ10.made(h:AJ10 w0 done r W){k:Nat}{v:Value}(hk:(k != 13&&k != 14)=true)(hb:Below W.heap.size W W')(ha:done 14=false→af10 w0.heap.size k v W')(hp:k=9→∃ x,v=.tuple #[x,.int .i64 0,.int .i64 0]):AJ10 w0 (Free.upd done k) (Free.updR r k v) W':=by
 simp only[Bool.and_eq_true,bne_iff_ne] at hk;refine⟨h.below.trans (hb.mono h.below.size),fun hd j hj=>?_,fun hd=>?_,fun hd=>?_⟩
 ·rw[j2n (by omega)] at hd;by_cases e:j=k
  ·subst e;rw[j2p];exact ha hd
  ·rw[j2n e] at hj;rw[j2o e];exact(h.f hd j hj).below hb
 ·by_cases e:9=k
  ·subst e;rw[j2p];exact hp rfl
  ·rw[j2n e] at hd;rw[j2o e];exact h.p hd
 ·rw[j2n (by omega)] at hd;rw[j2o (by omega),j2n (by omega)];obtain⟨b,e,hl,hx⟩:=h.box hd;exact⟨b,e,hl,hx.below hb⟩
theorem AJ10.pass(h:AJ10 w0 done r W){k:Nat}{v:Value}(hk:(k != 13&&k != 14&&k != 9)=true)(ha:done 14=false→af10 w0.heap.size k v W):AJ10 w0 (Free.upd done k) (Free.updR r k v) W :=
 h.made (by simp at hk ⊢;exact hk.1) (Below.refl _ _) ha (fun e=>by subst e;simp at hk)
theorem AJ10.alloc_(h:AJ10 w0 done r W)(hd:done 14=false):AJ10 w0 (Free.upd done 13) (Free.updR r 13 (.pointer (some ⟨W.heap.size,0,none⟩))) (W.alloc (.cells #[.int .i64 0,.int .i64 0,.slice none 0 0,.slice none 0 0,.slice none 0 0,.slice none 0 0] 35)):=by
 have hb:=(Below.refl _ W).alloc (Nat.le_refl _) (.cells #[.int .i64 0,.int .i64 0,.slice none 0 0,.slice none 0 0,.slice none 0 0,.slice none 0 0] 35);refine⟨h.below.alloc h.below.size _,fun _ j hj=>?_,fun h9=>?_,fun _=>⟨W.heap.size,j2p,h.below.size,?_⟩⟩
 ·by_cases e:j=13
  ·subst e;trivial
  ·rw[j2n e] at hj;rw[j2o e];exact(h.f hd j hj).below hb
 ·rw[j2n (by omega)] at h9;rw[j2o (by omega)];exact h.p h9
 ·rw[j2n (by omega),hd];exact Blk.new _ _ _
theorem AJ10.store_(h:AJ10 w0 done r W)(_hd:done 14=false){b:Nat}{A1 A2 A3 A4:Option Addr}{c1 c2 c3 c4:Nat}(h13:r 13=.pointer (some ⟨b,0,none⟩))(hl:w0.heap.size≤b)(hbk:Blk W b 35 #[.int .i64 0,.int .i64 0,.slice none 0 0,.slice none 0 0,.slice none 0 0,.slice none 0 0])(hc:CopyOf w0.heap.size bOut10 (.slice A1 1 c1) (.slice A2 0 c2) (.slice A3 1 c3) (.slice A4 0 c4) W) :
  AJ10 w0 (Free.upd done 14) (Free.updR r 14 undef) ((((((W.setCell ⟨b,0,none⟩ (.int .i64 1)).setCell ⟨b,1,none⟩ (.int .i64 0)).setCell ⟨b,2,none⟩ (.slice A1 1 c1)).setCell ⟨b,3,none⟩ (.slice A2 0 c2)).setCell ⟨b,4,none⟩ (.slice A3 1 c3)).setCell ⟨b,5,none⟩ (.slice A4 0 c4)):=by
 obtain⟨WF,e,s1,s2,s3,s4⟩:=q5j hbk (.int .i64 1) (.int .i64 0) (.slice A1 1 c1) (.slice A2 0 c2) (.slice A3 1 c3) (.slice A4 0 c4);rw[e];refine⟨s2 _ _ h.below hl,fun h14=>?_,fun h9=>?_,fun _=>⟨b,?_,hl,?_⟩⟩
 ·rw[j2q] at h14;cases h14
 ·rw[j2n (by omega)] at h9;rw[j2o (by omega)];exact h.p h9
 ·rw[j2o (by omega)];exact h13
 ·rw[j2q];exact⟨A1,c1,A2,c2,A3,c3,A4,c4,s1,s3 _ _ _ _ _ _ hc⟩
end
theorem z36{v:Value}{W:World}{B:Nat}(h:af10 B 7 v W):IsSt W W.heap.size v bIn10:=by
 obtain⟨b,b',rfl,h1,h2⟩:=h;refine⟨_,_,_,_,rfl,⟨some ⟨b,0,none⟩,1,rfl,?_,Nat.le_refl _⟩,IsL.nil _ _ _,⟨some ⟨b',0,none⟩,2,rfl,?_,Nat.le_refl _⟩,IsL.nil _ _ _⟩
 ·exact h1.row.more h1.lt
 ·exact h2.row.more h2.lt
theorem q4h(w:World)(hi:Ins w):Calls Tryz.prog 13 #[] w (Tells w true):=by
 obtain⟨W0,hW0⟩:∃ W0:World,(((w.alloc (.cells #[.string ⟨#[97]⟩,.string ⟨#[98]⟩] 9)).alloc (.cells #[.int .u32 3,.int .u32 2] 75)).alloc (.cells #[.slice (some ⟨w.heap.size,0,none⟩) 2 2,.slice (some ⟨w.heap.size+1,0,none⟩) 2 2] 25))=W0:=⟨_,rfl⟩;have hlat:=z37 w;have hB:Below w.heap.size w W0:=by rw[←hW0];exact(((Below.refl _ w).alloc (Nat.le_refl _) _).alloc (by simp) _).alloc (by simp;omega) _
 have hsz:W0.heap.size=w.heap.size+3:=by rw[←hW0];simp
 have hbl:Blk W0 (w.heap.size+1+1) 25 #[.slice (some ⟨w.heap.size,0,none⟩) 2 2,.slice (some ⟨w.heap.size+1,0,none⟩) 2 2]:=by rw[←hW0];exact Blk.new' _ _ _ _ (by simp)
 rw[hW0] at hlat
 rw[←hsz] at hlat
 have hins:∀ W,Below W0.heap.size W0 W→Ins W∧0<W.heap.size:=fun W hb=>⟨(hi.below hB hi.lt).below hb (Nat.lt_of_lt_of_le hi.lt hB.size),Nat.lt_of_lt_of_le (Nat.lt_of_lt_of_le hi.lt hB.size) hb.size⟩
 have HU:=η (fun(W:World) (hb:Below W0.heap.size W0 W)=>z70 W (hins W hb).1);have HO:=η (fun(W:World) (hb:Below W0.heap.size W0 W) (tv:Value) (RA:Option Addr) (rc:Nat) (hst:IsSt W W.heap.size tv bIn10) (hr:RowsIn W W.heap.size RA Tb.usualRows)=>j0r▸q4t (l:=Tb.usualRows) rc W (hins W hb).1 (hins W hb).2 ((hlat.below hb).more hb.size) hst ⟨by decide,by decide,by decide,by decide⟩ hr z3e);have HB:=η hB;have HBL:=η hbl;have HW0:=η hW0;have HSZ:=η hsz;clear hB hbl hW0 hlat hsz hi hins;go_enter Tryz.func13,Tryz.ntmps13;go_wp2_with (fail);rw[HW0.out];refine Free.region_each (by kernel_rfl) (by kernel_rfl)
  (fun k=>[some (.agg #[.slice (some ⟨w.heap.size,0,none⟩) 2 2,.slice (some ⟨w.heap.size+1,0,none⟩) 2 2]),none,some (.agg #[.int .i64 3,.int .i64 0,.int .i64 0]),none,some (.agg #[.bool false,.int .i64 1,.int .i64 0]),some (.agg #[.bool false,.int .i64 2,.int .i64 1]),none,none,none,none,none,some (.int .i64 0),some (.int .i64 0),none,none,some (.int .i64 0),some (.int .i64 0)].getD k none)
  (AJ10 W0) (fun _=>undef) ?_ ?_ ?_
 ·exact AJ10.start _
 ·refine⟨?_,?_,?_,?_,?_,?_,?_,?_,?_,?_,?_,?_,?_,?_,?_,?_,?_,trivial⟩
  ·refine Free.step_val _ rfl rfl fun done r W ρ hρ hcst hfun hJ hV hC hd hdeps=>?_
   have e0:ρ (.tmp 1)=.pointer (some ⟨w.heap.size+1+1,0,none⟩):=by rw[hρ];rfl
   have hold:=HBL.out.below hJ.below (by rw[HSZ.out];omega);have c0:W.cell? ⟨w.heap.size+1+1,0,none⟩=some (.slice (some ⟨w.heap.size,0,none⟩) 2 2):=by rw[hold.cell];rfl
   have c1:W.cell? ⟨w.heap.size+1+1,1,none⟩=some (.slice (some ⟨w.heap.size+1,0,none⟩) 2 2):=by rw[hold.cell];rfl
   clear hρ;refine⟨?_,hJ.pass (by decide) fun _=>trivial⟩;go_simp
  ·refine Free.step_any rfl rfl fun done r W ρ hρ hcst hfun hJ hV hC hd hdeps=>?_
   clear hρ;go_simp;exact(HU.out W hJ.below).mono fun e w' ⟨v,he,hl,hb⟩=>⟨_,he,hJ.made (by decide) hb (fun _=>⟨v,rfl,hl⟩) (fun e=>absurd e (by decide))⟩
  ·refine Free.step_val _ rfl rfl fun done r W ρ hρ hcst hfun hJ hV hC hd hdeps=>?_
   clear hρ;refine⟨?_,hJ.pass (by decide) fun _=>trivial⟩;go_simp
  ·refine Free.step_any rfl rfl fun done r W ρ hρ hcst hfun hJ hV hC hd hdeps=>?_
   have e0:ρ (.tmp 11)=.agg #[.int .i64 3,.int .i64 0,.int .i64 0]:=by rw[hρ];exact hV 2 _ (hdeps 2 (by decide)) rfl
   clear hρ;have hf:=hJ.made (k:=3) (v:=.slice (some ⟨W.heap.size,0,none⟩) 1 1) (by decide) ((Below.refl _ W).alloc (Nat.le_refl _) (.cells #[.int .i64 3,.int .i64 0,.int .i64 0] 57)) (fun _=>⟨W.heap.size,rfl,Blk.new _ _ _⟩) (fun e=>absurd e (by decide));go_simp;exact hf
  ·refine Free.step_val _ rfl rfl fun done r W ρ hρ hcst hfun hJ hV hC hd hdeps=>?_
   clear hρ;refine⟨?_,hJ.pass (by decide) fun _=>trivial⟩;go_simp
  ·refine Free.step_val _ rfl rfl fun done r W ρ hρ hcst hfun hJ hV hC hd hdeps=>?_
   clear hρ;refine⟨?_,hJ.pass (by decide) fun _=>trivial⟩;go_simp
  ·refine Free.step_any rfl rfl fun done r W ρ hρ hcst hfun hJ hV hC hd hdeps=>?_
   have e0:ρ (.tmp 13)=.agg #[.bool false,.int .i64 1,.int .i64 0]:=by rw[hρ];exact hV 4 _ (hdeps 4 (by decide)) rfl
   have e1:ρ (.tmp 14)=.agg #[.bool false,.int .i64 2,.int .i64 1]:=by rw[hρ];exact hV 5 _ (hdeps 5 (by decide)) rfl
   clear hρ;have hf:=hJ.made (k:=6) (v:=.slice (some ⟨W.heap.size,0,none⟩) 2 2) (by decide) ((Below.refl _ W).alloc (Nat.le_refl _) (.cells #[.bool false,.int .i64 1,.int .i64 0,.bool false,.int .i64 2,.int .i64 1] 78)) (fun _=>⟨W.heap.size,rfl,Blk.new _ _ _⟩) (fun e=>absurd e (by decide));go_simp;exact hf
  ·refine Free.step_any rfl rfl fun done r W ρ hρ hcst hfun hJ hV hC hd hdeps=>?_
   have e0:ρ (.tmp 12)=r 3:=by rw[hρ];rfl
   have e1:ρ (.tmp 15)=r 6:=by rw[hρ];rfl
   have h14:done 14=false:=Free.not_done hC 14 10 (by rfl) (by decide) (Free.not_done hC 10 9 (by rfl) (by decide) (Free.not_done hC 9 8 (by rfl) (by decide) (Free.not_done hC 8 7 (by rfl) (by decide) hd)));obtain⟨b,hb3,hk3⟩:=hJ.f h14 3 (hdeps 3 (by decide));obtain⟨b',hb6,hk6⟩:=hJ.f h14 6 (hdeps 6 (by decide));rw[hb3] at e0;rw[hb6] at e1;have hf:=hJ.pass (k:=7) (v:=.agg #[.int .i64 0,.int .i64 0,.slice (some ⟨b,0,none⟩) 1 1,.slice none 0 0,.slice (some ⟨b',0,none⟩) 2 2,.slice none 0 0]) (by decide) (fun _=>⟨b,b',rfl,hk3,hk6⟩);clear hρ hb3 hb6;go_simp;exact hf
  ·refine Free.step_any rfl rfl fun done r W ρ hρ hcst hfun hJ hV hC hd hdeps=>?_
   have e0:ρ (.tmp 9)=.agg #[.slice (some ⟨w.heap.size,0,none⟩) 2 2,.slice (some ⟨w.heap.size+1,0,none⟩) 2 2]:=by rw[hρ];exact hV 0 _ (hdeps 0 (by decide)) rfl
   have e1:ρ (.tmp 10)=r 1:=by rw[hρ];rfl
   have e2:ρ (.tmp 16)=r 7:=by rw[hρ];rfl
   have h14:done 14=false:=Free.not_done hC 14 10 (by rfl) (by decide) (Free.not_done hC 10 9 (by rfl) (by decide) (Free.not_done hC 9 8 (by rfl) (by decide) hd));obtain⟨x,hb1,RA,rc,rfl,hr,-⟩:=hJ.f h14 1 (hdeps 1 (by decide));have hst:=z36 (hJ.f h14 7 (hdeps 7 (by decide)));have ho:=HO.out W hJ.below (r 7) RA rc hst hr;rw[hb1] at e1;clear hρ;go_simp;refine ho.mono ?_;rintro e w' ⟨a,b,A1,n1,d1,A2,n2,d2,A3,n3,d3,A4,n4,d4,rfl,hv,hc,hbw⟩;unfold stv at hv;simp only[Value.agg.injEq,Array.mk.injEq,List.cons.injEq,Value.int.injEq,true_and,and_true] at hv;obtain⟨rfl,rfl⟩:=hv;obtain⟨_,_,q1⟩:=q0b hc.code;obtain⟨_,_,q2⟩:=q0b hc.mem;obtain⟨_,_,q3⟩:=q0b hc.stack;obtain⟨_,_,q4⟩:=q0b hc.out;injection q1 with q1a q1 q1b;injection q2 with q2a q2 q2b;injection q3 with q3a q3 q3b;injection q4 with q4a q4 q4b;subst q1 q2 q3 q4;refine⟨_,rfl,hJ.made (by decide) hbw (fun _=>⟨A1,d1,A2,d2,A3,d3,A4,d4,rfl,hc.mono hJ.below.size⟩) (fun e=>absurd e (by decide))⟩
  ·refine Free.step_any rfl rfl fun done r W ρ hρ hcst hfun hJ hV hC hd hdeps=>?_
   have e0:ρ (.tmp 17)=r 8:=by rw[hρ];rfl
   have h14:done 14=false:=Free.not_done hC 14 10 (by rfl) (by decide) (Free.not_done hC 10 9 (by rfl) (by decide) hd);have hx:=hJ.f h14 8 (hdeps 8 (by decide));have hf:=hJ.made (k:=9) (v:=r 8) (by decide) (Below.refl _ _) (fun _=>hx) (fun _=>by obtain⟨A1,c1,A2,c2,A3,c3,A4,c4,e,h⟩:=hx;exact⟨_,e⟩);clear hρ hx;go_simp;exact hf
  ·refine Free.step_any rfl rfl fun done r W ρ hρ hcst hfun hJ hV hC hd hdeps=>?_
   have e0:ρ (.tmp 8)=r 9:=by rw[hρ];rfl
   have h14:done 14=false:=Free.not_done hC 14 10 (by rfl) (by decide) hd;obtain⟨A1,c1,A2,c2,A3,c3,A4,c4,e,hx⟩:=hJ.f h14 9 (hdeps 9 (by decide));rw[e] at e0;have hf:=hJ.pass (k:=10) (v:=.agg #[.int .i64 1,.int .i64 0,.slice A1 1 c1,.slice A2 0 c2,.slice A3 1 c3,.slice A4 0 c4]) (by decide) (fun _=>⟨A1,c1,A2,c2,A3,c3,A4,c4,rfl,hx⟩);clear hρ hx e;go_simp;exact hf
  ·refine Free.step_val _ rfl rfl fun done r W ρ hρ hcst hfun hJ hV hC hd hdeps=>?_
   have e0:ρ (.tmp 8)=r 9:=by rw[hρ];rfl
   obtain⟨x,e⟩:=hJ.p (hdeps 9 (by decide));rw[e] at e0;clear hρ e;refine⟨?_,hJ.pass (by decide) fun _=>trivial⟩;go_simp
  ·refine Free.step_val _ rfl rfl fun done r W ρ hρ hcst hfun hJ hV hC hd hdeps=>?_
   have e0:ρ (.tmp 8)=r 9:=by rw[hρ];rfl
   obtain⟨x,e⟩:=hJ.p (hdeps 9 (by decide));rw[e] at e0;clear hρ e;refine⟨?_,hJ.pass (by decide) fun _=>trivial⟩;go_simp
  ·refine Free.step_any rfl rfl fun done r W ρ hρ hcst hfun hJ hV hC hd hdeps=>?_
   have h14:done 14=false:=Free.not_done hC 14 13 (by rfl) (by decide) hd;have hf:=hJ.alloc_ h14;clear hρ;go_simp;exact hf
  ·refine Free.step_any rfl rfl fun done r W ρ hρ hcst hfun hJ hV hC hd hdeps=>?_
   have e0:ρ (.tmp 2)=r 13:=by rw[hρ];rfl
   have e1:ρ (.tmp 18)=r 10:=by rw[hρ];rfl
   obtain⟨b,hb13,hlb,hbx⟩:=hJ.box (hdeps 13 (by decide));obtain⟨A1,c1,A2,c2,A3,c3,A4,c4,e,hx⟩:=hJ.f hd 10 (hdeps 10 (by decide));rw[e] at e1;rw[hb13] at e0;unfold BoxT at hbx;rw[if_neg (by rw[hd];decide)] at hbx;have z0:=hbx.cell 0;have z1:=hbx.cell 1;have z2:=hbx.cell 2;have z3:=hbx.cell 3;have z4:=hbx.cell 4;have z5:=hbx.cell 5;have f0:=hbx.frozen 0;have f1:=hbx.frozen 1;have f2:=hbx.frozen 2;have f3:=hbx.frozen 3;have f4:=hbx.frozen 4;have f5:=hbx.frozen 5;have hf:=hJ.store_ hd hb13 hlb hbx hx;clear hρ hx e hb13 hbx;go_simp;exact hf
  ·refine Free.step_val _ rfl rfl fun done r W ρ hρ hcst hfun hJ hV hC hd hdeps=>?_
   have e0:ρ (.tmp 19)=.int .i64 0:=by rw[hρ];exact hV 11 _ (hdeps 11 (by decide)) rfl
   clear hρ;refine⟨?_,hJ.pass (by decide) fun _=>trivial⟩;go_simp
  ·refine Free.step_val _ rfl rfl fun done r W ρ hρ hcst hfun hJ hV hC hd hdeps=>?_
   have e0:ρ (.tmp 20)=.int .i64 0:=by rw[hρ];exact hV 12 _ (hdeps 12 (by decide)) rfl
   clear hρ;refine⟨?_,hJ.pass (by decide) fun _=>trivial⟩;go_simp
 ·intro done r W hall hJ hV;obtain⟨b,h13,hlb,hbx⟩:=hJ.box (hall 13 (by decide));rw[hall 14 (by decide)] at hbx;obtain⟨A1,c1,A2,c2,A3,c3,A4,c4,hbx,hcp⟩:=hbx;have e15:=hV 15 _ (hall 15 (by decide)) rfl;have e16:=hV 16 _ (hall 16 (by decide)) rfl;simp only[Free.putAll,Nat.zero_add,h13,e15,e16];have HBW:=η (HB.out.trans (hJ.below.mono HB.out.size));have hrow:Row W W.heap.size A3 (fcells svs bOut10.stack):=(ownT_row hcp.stack).1;clear hJ hV hall h13 e15 e16;have x0:W.cell? ⟨b,0,none⟩=some (.int .i64 1):=hbx.cell 0;have x4:W.cell? ⟨b,4,none⟩=some (.slice A3 1 c3):=hbx.cell 4;obtain⟨ad,t,rfl,hadb,ht,d0,d1,d2⟩:=q06 (k:=0) hrow (by decide);obtain rfl:(⟨false,3,1⟩:St.Slot)=t:=Option.some.inj ht;have d0:W.cell? ad=some (.bool false):=d0;have d1:W.cell? ⟨ad.block,ad.off+1,none⟩=some (.int .i64 3):=d1;have d2:W.cell? ⟨ad.block,ad.off+2,none⟩=some (.int .i64 1):=d2;have heq:=z5o ⟨false,3,1⟩ ⟨false,3,1⟩;rw[decide_eq_true rfl] at heq;dsimp only at heq;clear hrow hcp ht hbx;go_wp2;go_ret;exact⟨rfl,HBW.out⟩
end Go.Proofs.YtjobifclmcdjcaaGreatDoor
