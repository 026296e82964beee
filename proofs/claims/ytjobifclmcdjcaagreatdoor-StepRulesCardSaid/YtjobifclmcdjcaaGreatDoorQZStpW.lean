import Derived.Test.YtjobifclmcdjcaaGreatDoorQZStpS
import Derived.Test.YtjobifclmcdjcaaGreatDoorQZCodE
import Derived.Test.YtjobifclmcdjcaaGreatDoorQZStpR
import Derived.Test.YtjobifclmcdjcaaGreatDoorQZLawO
import Derived.Test.YtjobifclmcdjcaaGreatDoorQZCodA
set_option maxHeartbeats 64000000
set_option maxRecDepth 100000
namespace Go.Proofs.YtjobifclmcdjcaaGreatDoor
open Go.RowKit Go.Shelf Go.Sort
attribute [local go_sem] Oper.semAt_some
theorem q9u{k:Nat}{s:St.State}(h:St.rightB k s=true):SmallS s:=by
 unfold St.rightB at h;simp only[Bool.and_eq_true] at h;obtain⟨⟨⟨⟨r1,-⟩,⟨r3,-⟩⟩,⟨r4,-⟩⟩,⟨r5,-⟩⟩:=h;unfold Cd.rightB at r1;rw[Bool.and_eq_true] at r1;have a:=of_decide_eq_true r1.1;have b:=of_decide_eq_true r3;have c:=of_decide_eq_true r4;have d:=of_decide_eq_true r5;exact⟨by omega,by omega,by omega,by omega⟩
theorem q1s(s:St.State):sameB s s=true:=sameB_iff.2 rfl
structure Law10 (w:World) (x0 x1:Value) (names:List ByteArray) (up:List Nat) (tv:Value) (l:List Tb.PR) (cs:Array Value) (W:World):Prop where
 one:One w x0 x1 names up W
 tb:Blk W (w.heap.size+1) 28 #[tv]
 ta:IsTab W W.heap.size tv l
 st:Blk W (w.heap.size+2) 35 cs
theorem Law10.next{w:World}{x0 x1:Value}{names:List ByteArray}{up:List Nat}{tv:Value}{l:List Tb.PR}{cs:Array Value}{W W':World}(h:Law10 w x0 x1 names up tv l cs W)(hb:Below W.heap.size W W'):Law10 w x0 x1 names up tv l cs W' :=
 ⟨z41 _ _ _ _ _ _ _ h.one hb,h.tb.below hb h.tb.lt,(h.ta.below hb).more hb.size,h.st.below hb h.st.lt⟩
theorem Oned.told{o:St.State×Nat×Nat}{w:World}{e:Ending}{w':World}(h:Oned o w e w') :
  ∃ A1 n1 d1 A2 n2 d2 A3 n3 d3 A4 n4 d4,e=.returned (.tuple #[.agg #[.int .i64 o.1.pc.v,.int .i64 o.1.pc.l,.slice A1 n1 d1,.slice A2 n2 d2,.slice A3 n3 d3,.slice A4 n4 d4],.int .i64 (o.2.1:Int),.int .i64 (o.2.2:Int)]) ∧
   o.1.code.length=n1∧o.1.mem.length=n2∧o.1.stack.length=n3∧o.1.out.length=n4∧n1≤d1∧n2≤d2∧n3≤d3∧n4≤d4 ∧
   Row w' w'.heap.size A1 (icells o.1.code)∧Row w' w'.heap.size A4 (fcells avs o.1.out) ∧
   IsSt w' w'.heap.size (.agg #[.int .i64 o.1.pc.v,.int .i64 o.1.pc.l,.slice A1 n1 d1,.slice A2 n2 d2,.slice A3 n3 d3,.slice A4 n4 d4]) o.1∧Below w.heap.size w w':=by
 obtain⟨a,b,A1,n1,d1,A2,n2,d2,A3,n3,d3,A4,n4,d4,rfl,hv,hc,hb⟩:=h;obtain⟨_,_,q1⟩:=q0b hc.code;obtain⟨_,_,q2⟩:=q0b hc.mem;obtain⟨_,_,q3⟩:=q0b hc.stack;obtain⟨_,_,q4⟩:=q0b hc.out;have hi:=hc.isSt;rw[←hv] at hi;unfold stv at hv;simp only[Value.agg.injEq,Array.mk.injEq,List.cons.injEq,Value.int.injEq,true_and,and_true] at hv;obtain⟨rfl,rfl⟩:=hv;injection q1 with q1a q1 q1b;injection q2 with q2a q2 q2b;injection q3 with q3a q3 q3b;injection q4 with q4a q4 q4b;subst q1 q2 q3 q4;have r1:=ownT_row hc.code;have r4:=ownT_row hc.out;rw[←z8n] at r1;exact⟨A1,_,d1,A2,_,d2,A3,_,d3,A4,_,d4,rfl,rfl,rfl,rfl,rfl,r1.2,(ownT_row hc.mem).2,(ownT_row hc.stack).2,r4.2,r1.1,r4.1,hi,hb⟩
theorem q58{names:List ByteArray}{up:List Nat}{l:List Tb.PR}{s o1:St.State}{o2 o3:Nat}(h:oneR names up l s=(o1,o2,o3)) :
  (o3≠0∧o1=St.zero∧o2=0∧chk10 names up l s≠0)∨(o3=0∧chk10 names up l s=0∧Sp.step up.length (bottomR names up:Nat) (rwT up l) s=(o1,o2)):=by
 unfold oneR at h;split at h
 ·rename_i h0
  injection h with h1 h2;injection h2 with h2 h3;exact .inr ⟨h3.symm,h0,by rw[←h1,←h2]⟩
 ·rename_i h0
  injection h with h1 h2;injection h2 with h2 h3;exact .inl ⟨by rw[←h3];exact h0,h1.symm,h2.symm,h0⟩
theorem q38{names:List ByteArray}{up:List Nat}{l:List Tb.PR}{s o1:St.State}{o2:Nat}(h0:chk10 names up l s=0)(h:Sp.step up.length (bottomR names up:Nat) (rwT up l) s=(o1,o2)) :
  pubS names up o1=true∧SmallS o1∧o1.code=s.code∧o1.mem.length=s.mem.length∧o1.out.take s.out.length=s.out∧s.out.length≤o1.out.length∧(o2≠0→o1=s∧o2≤3)∧o1.out.length≤s.out.length+1∧o1.stack.length≤s.stack.length+1:=by
 obtain⟨z1,-,z4⟩:=q26 h0;have hs:=Sp.step_stays z4 (bottomR names up:Nat) (rwT up l);rw[h] at hs;refine⟨?_,q9u hs.right,hs.code,hs.mem,hs.out.1,hs.out.2,hs.same,hs.more.1,hs.more.2⟩;unfold pubS;rw[decide_eq_true z1,hs.right];rfl
theorem q9x{A A' TA:Option Addr}{n1:List ByteArray}{u1:List Nat}{l:List Tb.PR}{s0:St.State}{cA mA sA oA:Option Addr}{cc mc sc oc:Nat}(c c' tc:Nat)(w:World)(hi:Ins w)(hN:Row w w.heap.size A (strs n1))(hU:Ups w w.heap.size A' u1)(hT:RowsIn w w.heap.size TA l)(hst:StIn w w.heap.size s0 cA cc mA mc sA sc oA oc)(hc:n1.length≤c)(hc':u1.length≤c')(hm:c≤maxLen)(hm':c'≤maxLen)(hs:∀ s ∈ n1,s.size≤maxLen)(htc:l.length≤tc)(htm:tc≤maxLen) :
  Calls Tryz.prog 4 #[.agg #[.slice A n1.length c,.slice A' u1.length c'],.agg #[.slice TA l.length tc],incv s0 cA cc mA mc sA sc oA oc] w (Tells w true):=by
 have hfa:=fun W (hW:Below w.heap.size w W)=>q8p w.heap.size c c' W hW.size (hN.below hW) (hU.below hW) hc hc' hm hm' hs
 have hft:=fun W (hW:Below w.heap.size w W)=>q4p w.heap.size tc W hW.size (hT.below hW) htc htm
 have hcut:=fun W=>q5i W hst
 have his:=fun W (hb:Below w.heap.size w W)=>((hst.cut.below hb).more hb.size).isSt
 have HSM:=η (q4y s0);have hl1:(cutS s0).code.length=min 15 s0.code.length:=by unfold cutS;simp
 have hl2:(cutS s0).mem.length=min 15 s0.mem.length:=by unfold cutS;simp
 have hl3:(cutS s0).stack.length=min 15 s0.stack.length:=by unfold cutS;simp
 have hl4:(cutS s0).out.length=min 15 s0.out.length:=by unfold cutS;simp
 have hp1:(cutS s0).pc=s0.pc:=rfl;rw[q42] at his hcut;obtain⟨a,ha⟩:∃ a,cutS s0=a:=⟨_,rfl⟩;obtain⟨lt,hlt⟩:∃ lt,fewT l=lt:=⟨_,rfl⟩;rw[ha] at his HSM hl1 hl2 hl3 hl4 hp1;unfold Cut10 at hft;rw[hlt] at hft;have hsml:∀ x ∈ lt,Small x:=by rw[←hlt];exact q40 l
 unfold incv at hcut ⊢;have hrc:Row w w.heap.size cA (icells a.code):=by rw[←ha];exact hst.cut.rc.1
 have hro:Row w w.heap.size oA (fcells avs a.out):=by rw[←ha];exact hst.cut.ro.1
 have hpv:a.pc.v=s0.pc.v:=by rw[hp1]
 have HRC:=η hrc;have HRO:=η hro;clear hst ha hlt hp1 hrc hro;generalize s0.pc.v=pv at *;generalize s0.pc.l=pl at *;generalize hcn:min 15 s0.code.length=cN at *;generalize hmn:min 15 s0.mem.length=mN at *;generalize hsn:min 15 s0.stack.length=sN at *;generalize hon:min 15 s0.out.length=oN at *;generalize s0.code.length=cn at *;generalize s0.mem.length=mn at *;generalize s0.stack.length=sn at *;generalize s0.out.length=on at *;clear hcn hmn hsn hon;have hb0:=((((Below.refl _ w).alloc (Nat.le_refl _) (.cells #[.slice A n1.length c,.slice A' u1.length c'] 25)).alloc (by simp) (.cells #[.slice TA l.length tc] 28)).alloc (by simp;omega) (.cells #[.int .i64 pv,.int .i64 pl,.slice cA cn cc,.slice mA mn mc,.slice sA sn sc,.slice oA on oc] 35)).drew;obtain⟨W0,hW0⟩:∃ W0,((w.alloc (.cells #[.slice A n1.length c,.slice A' u1.length c'] 25)).alloc (.cells #[.slice TA l.length tc] 28)).alloc (.cells #[.int .i64 pv,.int .i64 pl,.slice cA cn cc,.slice mA mn mc,.slice sA sn sc,.slice oA on oc] 35)=W0:=⟨_,rfl⟩;have hp0:Blk W0 w.heap.size 25 #[.slice A n1.length c,.slice A' u1.length c']:=hW0▸((Blk.new _ _ _).alloc _).alloc _;have ht0:Blk W0 (w.heap.size+1) 28 #[.slice TA l.length tc]:=by
  have h1:=(Blk.new (w.alloc (.cells #[.slice A n1.length c,.slice A' u1.length c'] 25)) 28 #[.slice TA l.length tc]).alloc (.cells #[.int .i64 pv,.int .i64 pl,.slice cA cn cc,.slice mA mn mc,.slice sA sn sc,.slice oA on oc] 35);rw[show(w.alloc (.cells #[.slice A n1.length c,.slice A' u1.length c'] 25)).heap.size=w.heap.size+1 by simp] at h1;rw[←hW0];exact h1
 have hq0:Blk W0 (w.heap.size+2) 35 #[.int .i64 pv,.int .i64 pl,.slice cA cn cc,.slice mA mn mc,.slice sA sn sc,.slice oA on oc]:=by
  have h1:=Blk.new ((w.alloc (.cells #[.slice A n1.length c,.slice A' u1.length c'] 25)).alloc (.cells #[.slice TA l.length tc] 28)) 35 #[.int .i64 pv,.int .i64 pl,.slice cA cn cc,.slice mA mn mc,.slice sA sn sc,.slice oA on oc];rw[show((w.alloc (.cells #[.slice A n1.length c,.slice A' u1.length c'] 25)).alloc (.cells #[.slice TA l.length tc] 28)).heap.size=w.heap.size+2 by simp] at h1;rw[←hW0];exact h1
 have hz0:W0.heap.size=w.heap.size+3:=by rw[←hW0];simp
 rw[hW0] at hb0;have HFA:=η hfa;have HFT:=η hft;have HCUT:=η hcut;have HIA:=η his;have HP:=η hp0;have HT:=η ht0;have HQ:=η hq0;have HB0:=η hb0;have HZ0:=η hz0;have HI:=η hi;have HSL:=η hsml;have HL:=η (show a.code.length=cN∧a.mem.length=mN∧a.stack.length=sN∧a.out.length=oN∧a.pc.v=pv from⟨hl1,hl2,hl3,hl4,hpv⟩);obtain⟨l0,l1⟩:=ζ2 hp0;have t0:W0.cell? ⟨w.heap.size+1,0,none⟩=some (.slice TA l.length tc):=ht0.cell 0;obtain⟨b0,b1,b2,b3,b4,b5⟩:=ζ6 hq0;clear hfa hft hcut his hb0 hp0 hq0 ht0 hz0 hN hU hT hc hc' hm hm' hs htc htm hi hsml hl1 hl2 hl3 hl4 hpv;go_enter Tryz.func4,Tryz.ntmps4;go_wp2_with (fail);refine Free.region_seq [1,3,5,6,7,8] [0,2,4] 5 (fun W'=>W'.cell? ⟨w.heap.size,0,none⟩=some (.slice A n1.length c)∧W'.cell? ⟨w.heap.size,1,none⟩=some (.slice A' u1.length c')∧W'.cell? ⟨w.heap.size+1,0,none⟩=some (.slice TA l.length tc)∧W'.cell? ⟨w.heap.size+2,0,none⟩=some (.int .i64 pv)∧W'.cell? ⟨w.heap.size+2,1,none⟩=some (.int .i64 pl)∧W'.cell? ⟨w.heap.size+2,2,none⟩=some (.slice cA cn cc)∧W'.cell? ⟨w.heap.size+2,3,none⟩=some (.slice mA mn mc)∧W'.cell? ⟨w.heap.size+2,4,none⟩=some (.slice sA sn sc)∧W'.cell? ⟨w.heap.size+2,5,none⟩=some (.slice oA on oc)) (by kernel_rfl) (by kernel_rfl) (by kernel_rfl) (by kernel_rfl) (⟨l0,l1,t0,b0,b1,b2,b3,b4,b5⟩) (fun ops hops=>?_);clear hops;iterate 1
  refine Free.Seq.quiet (v:=?_) (a':=?_) rfl rfl (fun W' hW'=>?_) ?_ ?_
  rotate_left 2
  ·first|obtain⟨q0,q1,q2,q3,q4,q5,q6,q7,q8⟩:=hW' rfl|skip
   go_simp;try with_reducible rfl
  ·simp only[Act.put,List.setIfInBounds_toArray,List.set_cons_zero,List.set_cons_succ];try with_reducible rfl
 refine Free.Seq.loud_ rfl (.inl rfl) (fun K hK=>?_);go_simp;refine(HFA.out _ HB0.out).mono ?_;rintro e w1 ⟨v,names,up,rfl,hlw,hb1⟩;have hlat:∀ W2,Keeps w.heap.size (w.heap.size+3) w1 W2→IsLat W2 W2.heap.size v names up:=fun W2 k=>hlw W2 (k.mono_ (by show w.heap.size+3≤W0.heap.size;rw[HZ0.out];exact Nat.le_refl _))
 obtain⟨A1,k1,c1,A2,k2,c2,rfl⟩:=q8s (hlat w1 ⟨Nat.le_refl _,fun _ _ _=>rfl⟩);have hp1:=(HP.out.drew).below hb1 HP.out.lt;have ht1:=(HT.out.drew).below hb1 HT.out.lt;have hq1:=(HQ.out.drew).below hb1 HQ.out.lt;have HB1:=η (HB0.out.trans (hb1.mono HB0.out.size));have HLAT:=η hlat
 have HP1:=η hp1;have HT1:=η ht1;have HQ1:=η hq1;refine hK.out _ _ rfl (fun _=>⟨HP1.out.cell 0,HP1.out.cell 1,HT1.out.cell 0,HQ1.out.cell 0,HQ1.out.cell 1,HQ1.out.cell 2,HQ1.out.cell 3,HQ1.out.cell 4,HQ1.out.cell 5⟩) ?_;clear hK K hb1 hlw hp1 hq1 ht1 hlat
 iterate 1
  refine Free.Seq.quiet (v:=?_) (a':=?_) rfl rfl (fun W' hW'=>?_) ?_ ?_
  rotate_left 2
  ·first|obtain⟨q0,q1,q2,q3,q4,q5,q6,q7,q8⟩:=hW' rfl|skip
   go_simp;try with_reducible rfl
  ·simp only[Act.put,List.setIfInBounds_toArray,List.set_cons_zero,List.set_cons_succ];try with_reducible rfl
 refine Free.Seq.loud_ rfl (.inl rfl) (fun K hK=>?_);go_simp;refine(HFT.out w1 HB1.out).mono ?_;rintro e w2 ⟨v2,rfl,htw,hb2⟩;have htab:∀ W2,Keeps w.heap.size (w.heap.size+3) w2 W2→IsTab W2 W2.heap.size v2 lt:=fun W2 k=>htw W2 (k.mono_ (by have:=HQ1.out.lt;omega))
 obtain⟨T1,t1,rfl,-,-⟩:=htab w2 ⟨Nat.le_refl _,fun _ _ _=>rfl⟩;obtain⟨tn,htn⟩:∃ tn,lt.length=tn:=⟨_,rfl⟩;rw[htn] at htab;have HTN:=η htn;have hp2:=HP1.out.below hb2 HP1.out.lt;have ht2:=HT1.out.below hb2 HT1.out.lt;have hq2:=HQ1.out.below hb2 HQ1.out.lt;have HB2:=η (HB1.out.trans (hb2.mono HB1.out.size));have HKB2:Hid (Keeps w.heap.size (w.heap.size+3) w1 w2):=η (Keeps.below hb2);have HTAB:=η htab;have HP2:=η hp2;have HT2:=η ht2;have HQ2:=η hq2;dsimp only;rw[htn];refine hK.out _ _ rfl (fun _=>⟨HP2.out.cell 0,HP2.out.cell 1,HT2.out.cell 0,HQ2.out.cell 0,HQ2.out.cell 1,HQ2.out.cell 2,HQ2.out.cell 3,HQ2.out.cell 4,HQ2.out.cell 5⟩) ?_;clear hK K hb2 htw hp2 hq2 ht2 htab htn;iterate 1
  refine Free.Seq.quiet (v:=?_) (a':=?_) rfl rfl (fun W' hW'=>?_) ?_ ?_
  rotate_left 2
  ·first|obtain⟨q0,q1,q2,q3,q4,q5,q6,q7,q8⟩:=hW' rfl|skip
   go_simp;try with_reducible rfl
  ·simp only[Act.put,List.setIfInBounds_toArray,List.set_cons_zero,List.set_cons_succ];try with_reducible rfl
 refine Free.Seq.loud_ rfl (.inl rfl) (fun K hK=>?_);go_simp;refine(HCUT.out w2).mono ?_;rintro e w3 ⟨rfl,hb3⟩;have hp3:=HP2.out.below hb3 HP2.out.lt;have ht3:=HT2.out.below hb3 HT2.out.lt;have hq3:=HQ2.out.below hb3 HQ2.out.lt;have HB3:=η (HB2.out.trans (hb3.mono HB2.out.size));have hkt:Keeps w.heap.size (w.heap.size+3) w2 w3:=Keeps.below hb3;have hkb:Keeps w.heap.size (w.heap.size+3) w1 w3:=HKB2.out.trans_ hkt;have i0:=hp3.cell 0;have f0:=hp3.frozen 0;have i1:=hp3.cell 1;have f1:=hp3.frozen 1;have h0:=ht3.cell 0;have e0:=ht3.frozen 0;have j0:=hq3.cell 0;have g0:=hq3.frozen 0;have j1:=hq3.cell 1;have g1:=hq3.frozen 1;have j2:=hq3.cell 2;have g2:=hq3.frozen 2;have j3:=hq3.cell 3;have g3:=hq3.frozen 3;have j4:=hq3.cell 4;have g4:=hq3.frozen 4;have j5:=hq3.cell 5;have g5:=hq3.frozen 5;refine hK.out _ _ rfl (fun h=>absurd h (by decide)) ?_;clear hK K;refine Free.Seq.loud_ rfl (.inl rfl) (fun K hK=>?_);go_simp;refine hK.out _ _ rfl (fun h=>absurd h (by decide)) ?_;clear hK K;refine Free.Seq.loud_ rfl (.inl rfl) (fun K hK=>?_);go_simp;refine hK.out _ _ rfl (fun h=>absurd h (by decide)) ?_;clear hK K;refine Free.Seq.loud_ rfl (.inl rfl) (fun K hK=>?_);go_simp;refine hK.out _ _ rfl (fun h=>absurd h (by decide)) ?_;clear hK K;refine Free.Seq.nil_ ?_;obtain⟨W3,hW3⟩:∃ W3,(((((((((w3.setCell ⟨w.heap.size,0,none⟩ (.slice A1 k1 c1)).setCell ⟨w.heap.size,1,none⟩ (.slice A2 k2 c2)).setCell ⟨w.heap.size+1,0,none⟩ (.slice T1 tn t1)).setCell ⟨w.heap.size+2,0,none⟩ (.int .i64 pv)).setCell ⟨w.heap.size+2,1,none⟩ (.int .i64 pl)).setCell ⟨w.heap.size+2,2,none⟩ (.slice cA cN cc)).setCell ⟨w.heap.size+2,3,none⟩ (.slice mA mN mc)).setCell ⟨w.heap.size+2,4,none⟩ (.slice sA sN sc)).setCell ⟨w.heap.size+2,5,none⟩ (.slice oA oN oc))=W3:=⟨_,rfl⟩;have hlw:Law10 w (.slice A1 k1 c1) (.slice A2 k2 c2) names up (.slice T1 tn t1) lt #[.int .i64 pv,.int .i64 pl,.slice cA cN cc,.slice mA mN mc,.slice sA sN sc,.slice oA oN oc] W3:=by
  rw[←hW3];exact⟨⟨(((((((((hp3).set_ 0 _).set_ 1 _).other (by show w.heap.size+1≠w.heap.size;omega) _).other (by show w.heap.size+2≠w.heap.size;omega) _).other (by show w.heap.size+2≠w.heap.size;omega) _).other (by show w.heap.size+2≠w.heap.size;omega) _).other (by show w.heap.size+2≠w.heap.size;omega) _).other (by show w.heap.size+2≠w.heap.size;omega) _).other (by show w.heap.size+2≠w.heap.size;omega) _,HLAT.out _ ((((((((((hkb).trans_ (Keeps.set_ (p:=⟨w.heap.size,0,none⟩) (by show w.heap.size≤w.heap.size;omega) (by show w.heap.size<w.heap.size+3;omega))).trans_ (Keeps.set_ (p:=⟨w.heap.size,1,none⟩) (by show w.heap.size≤w.heap.size;omega) (by show w.heap.size<w.heap.size+3;omega))).trans_ (Keeps.set_ (p:=⟨w.heap.size+1,0,none⟩) (by show w.heap.size≤w.heap.size+1;omega) (by show w.heap.size+1<w.heap.size+3;omega))).trans_ (Keeps.set_ (p:=⟨w.heap.size+2,0,none⟩) (by show w.heap.size≤w.heap.size+2;omega) (by show w.heap.size+2<w.heap.size+3;omega))).trans_ (Keeps.set_ (p:=⟨w.heap.size+2,1,none⟩) (by show w.heap.size≤w.heap.size+2;omega) (by show w.heap.size+2<w.heap.size+3;omega))).trans_ (Keeps.set_ (p:=⟨w.heap.size+2,2,none⟩) (by show w.heap.size≤w.heap.size+2;omega) (by show w.heap.size+2<w.heap.size+3;omega))).trans_ (Keeps.set_ (p:=⟨w.heap.size+2,3,none⟩) (by show w.heap.size≤w.heap.size+2;omega) (by show w.heap.size+2<w.heap.size+3;omega))).trans_ (Keeps.set_ (p:=⟨w.heap.size+2,4,none⟩) (by show w.heap.size≤w.heap.size+2;omega) (by show w.heap.size+2<w.heap.size+3;omega))).trans_ (Keeps.set_ (p:=⟨w.heap.size+2,5,none⟩) (by show w.heap.size≤w.heap.size+2;omega) (by show w.heap.size+2<w.heap.size+3;omega))),(((((((((HB3.out).setCell (p:=⟨w.heap.size,0,none⟩) (by show w.heap.size≤w.heap.size;omega) _).setCell (p:=⟨w.heap.size,1,none⟩) (by show w.heap.size≤w.heap.size;omega) _).setCell (p:=⟨w.heap.size+1,0,none⟩) (by show w.heap.size≤w.heap.size+1;omega) _).setCell (p:=⟨w.heap.size+2,0,none⟩) (by show w.heap.size≤w.heap.size+2;omega) _).setCell (p:=⟨w.heap.size+2,1,none⟩) (by show w.heap.size≤w.heap.size+2;omega) _).setCell (p:=⟨w.heap.size+2,2,none⟩) (by show w.heap.size≤w.heap.size+2;omega) _).setCell (p:=⟨w.heap.size+2,3,none⟩) (by show w.heap.size≤w.heap.size+2;omega) _).setCell (p:=⟨w.heap.size+2,4,none⟩) (by show w.heap.size≤w.heap.size+2;omega) _).setCell (p:=⟨w.heap.size+2,5,none⟩) (by show w.heap.size≤w.heap.size+2;omega) _⟩,(((((((((ht3).other (by show w.heap.size≠w.heap.size+1;omega) _).other (by show w.heap.size≠w.heap.size+1;omega) _).set_ 0 _).other (by show w.heap.size+2≠w.heap.size+1;omega) _).other (by show w.heap.size+2≠w.heap.size+1;omega) _).other (by show w.heap.size+2≠w.heap.size+1;omega) _).other (by show w.heap.size+2≠w.heap.size+1;omega) _).other (by show w.heap.size+2≠w.heap.size+1;omega) _).other (by show w.heap.size+2≠w.heap.size+1;omega) _,HTAB.out _ ((((((((((hkt).trans_ (Keeps.set_ (p:=⟨w.heap.size,0,none⟩) (by show w.heap.size≤w.heap.size;omega) (by show w.heap.size<w.heap.size+3;omega))).trans_ (Keeps.set_ (p:=⟨w.heap.size,1,none⟩) (by show w.heap.size≤w.heap.size;omega) (by show w.heap.size<w.heap.size+3;omega))).trans_ (Keeps.set_ (p:=⟨w.heap.size+1,0,none⟩) (by show w.heap.size≤w.heap.size+1;omega) (by show w.heap.size+1<w.heap.size+3;omega))).trans_ (Keeps.set_ (p:=⟨w.heap.size+2,0,none⟩) (by show w.heap.size≤w.heap.size+2;omega) (by show w.heap.size+2<w.heap.size+3;omega))).trans_ (Keeps.set_ (p:=⟨w.heap.size+2,1,none⟩) (by show w.heap.size≤w.heap.size+2;omega) (by show w.heap.size+2<w.heap.size+3;omega))).trans_ (Keeps.set_ (p:=⟨w.heap.size+2,2,none⟩) (by show w.heap.size≤w.heap.size+2;omega) (by show w.heap.size+2<w.heap.size+3;omega))).trans_ (Keeps.set_ (p:=⟨w.heap.size+2,3,none⟩) (by show w.heap.size≤w.heap.size+2;omega) (by show w.heap.size+2<w.heap.size+3;omega))).trans_ (Keeps.set_ (p:=⟨w.heap.size+2,4,none⟩) (by show w.heap.size≤w.heap.size+2;omega) (by show w.heap.size+2<w.heap.size+3;omega))).trans_ (Keeps.set_ (p:=⟨w.heap.size+2,5,none⟩) (by show w.heap.size≤w.heap.size+2;omega) (by show w.heap.size+2<w.heap.size+3;omega))),(((((((((hq3).other (by show w.heap.size≠w.heap.size+2;omega) _).other (by show w.heap.size≠w.heap.size+2;omega) _).other (by show w.heap.size+1≠w.heap.size+2;omega) _).set_ 0 _).set_ 1 _).set_ 2 _).set_ 3 _).set_ 4 _).set_ 5 _⟩
 rw[hW3];have HLW:=η hlw;clear hW3 hlw hp3 hq3 ht3 hkb hkt HB2 HB1 HB3 HB0 HLAT HTAB HKB2 HP HT HQ HP1 HT1 HQ1 HP2 HT2 HQ2 HFA HFT HCUT HZ0 hb3 l0 l1 t0 b0 b1 b2 b3 b4 b5 i0 i1 f0 f1 h0 e0 j0 j1 j2 j3 j4 j5 g0 g1 g2 g3 g4 g5 hW0
 have HONE:Hid (∀ W,Law10 w (.slice A1 k1 c1) (.slice A2 k2 c2) names up (.slice T1 tn t1) lt #[.int .i64 pv,.int .i64 pl,.slice cA cN cc,.slice mA mN mc,.slice sA sN sc,.slice oA oN oc] W→Calls Tryz.prog 11 #[.agg #[.slice A1 k1 c1,.slice A2 k2 c2],.agg #[.slice T1 tn t1],.agg #[.int .i64 pv,.int .i64 pl,.slice cA cN cc,.slice mA mN mc,.slice sA sN sc,.slice oA oN oc]] W (Oned (oneR names up lt a) W)):=η (fun W hW=>by
  obtain⟨A,d,he,hr,-⟩:=hW.ta;injection he with h1 h2 h3;subst h1 h3
  exact(HTN.out▸(q4t (l:=lt) (RA:=T1) t1 W (HI.out.below hW.one.below HI.out.lt) (Nat.lt_of_lt_of_le HI.out.lt hW.one.below.size) hW.one.la (HIA.out W hW.one.below) HSM.out hr HSL.out)))
 have HAL:=η (fun W (hW:Law10 w (.slice A1 k1 c1) (.slice A2 k2 c2) names up (.slice T1 tn t1) lt #[.int .i64 pv,.int .i64 pl,.slice cA cN cc,.slice mA mN mc,.slice sA sN sc,.slice oA oN oc] W)=>q4h W (HI.out.below hW.one.below HI.out.lt));obtain⟨l0,l1⟩:=ζ2 HLW.out.one.a;have t0:W3.cell? ⟨w.heap.size+1,0,none⟩=some (.slice T1 tn t1):=HLW.out.tb.cell 0;obtain⟨b0,b1,b2,b3,b4,b5⟩:=ζ6 HLW.out.st;obtain⟨⟨o1,o2,o3⟩,ho⟩:∃ r,oneR names up lt a=r:=⟨_,rfl⟩;have ho1:=HONE.out W3 HLW.out;rw[ho] at ho1;have HO1:=η ho1;clear ho1;rcases q58 ho with⟨h3,rfl,rfl,-⟩|⟨rfl,hck,hst⟩
 ·have he3:((o3:Int) != 0)=true:=by rw[bne_iff_ne];omega
  clear ho h3;go_wp2_with (fail);refine HO1.out.mono ?_;rintro e w4 hx;obtain⟨D1,m1,d1,D2,m2,d2,D3,m3,d3,D4,m4,d4,rfl,hm1,hm2,hm3,hm4,hd1,hd2,hd3,hd4,hr1,hr4,his,hb⟩:=hx.told;dsimp only at hm1 hm2 hm3 hm4 hr1 hr4 his ⊢;simp only[St.zero,List.length_nil] at hm1 hm2 hm3 hm4;subst hm1 hm2 hm3 hm4;dsimp only[St.zero] at his hr1 hr4 ⊢;have hal:=(Below.refl _ w4).alloc (Nat.le_refl _) (.cells #[.int .i64 0,.int .i64 0,.slice D1 0 d1,.slice D2 0 d2,.slice D3 0 d3,.slice D4 0 d4] 35);have hbx:=Blk.new w4 35 #[.int .i64 0,.int .i64 0,.slice D1 0 d1,.slice D2 0 d2,.slice D3 0 d3,.slice D4 0 d4];have hb2:=hb.alloc hb.size (.cells #[.int .i64 0,.int .i64 0,.slice D1 0 d1,.slice D2 0 d2,.slice D3 0 d3,.slice D4 0 d4] 35);have his2:=(his.below hal).more hal.size;have hr1b:=(hr1.below hal).more hal.size;have hr4b:=(hr4.below hal).more hal.size;clear l0 l1 t0 b0 b1 b2 b3 b4 b5;obtain⟨W4,hW4⟩:∃ W4,w4.alloc (.cells #[.int .i64 0,.int .i64 0,.slice D1 0 d1,.slice D2 0 d2,.slice D3 0 d3,.slice D4 0 d4] 35)=W4:=⟨_,rfl⟩;rw[hW4] at hal hbx hb2 his2 hr1b hr4b;have hlw:=HLW.out.next hb2;clear HLW;have HLW:=η hlw;clear hlw;have HX:=η hbx;have HIS:=η his2;have HR1:=η hr1b;have HR4:=η hr4b;have hxl:=hbx.lt;clear hb his hal hbx hb2 his2 hr1 hr4 hr1b hr4b;obtain⟨l0,l1⟩:=ζ2 HLW.out.one.a;have t0:W4.cell? ⟨w.heap.size+1,0,none⟩=some (.slice T1 tn t1):=HLW.out.tb.cell 0;obtain⟨b0,b1,b2,b3,b4,b5⟩:=ζ6 HLW.out.st;obtain⟨x0,x1,x2,x3,x4,x5⟩:=ζ6 HX.out;have HAC:=η (HAL.out W4 HLW.out);go_wp2_with (fail);refine HAC.out.mono ?_;rintro e w5 ⟨rfl,hb⟩;have hbl:=HLW.out.one.below.trans (hb.mono HLW.out.one.below.size);go_wp2;go_ret;exact⟨rfl,hbl⟩
 ·obtain⟨hpub,hsmo,hcode,hmem,hout,houtl,hsame,hmore1,hmore2⟩:=q38 hck hst;obtain⟨la1,la2,la3,la4,-⟩:=HL.out;clear ho hck hst;go_wp2_with (fail);refine HO1.out.mono ?_;rintro e w4 hx;obtain⟨D1,m1,d1,D2,m2,d2,D3,m3,d3,D4,m4,d4,rfl,hm1,hm2,hm3,hm4,hd1,hd2,hd3,hd4,hr1,hr4,his,hb⟩:=hx.told;dsimp only at hm1 hm2 hm3 hm4 hr1 hr4 his ⊢;rw[hcode,la1] at hm1;rw[hmem,la2] at hm2;rw[hm4,la4] at hmore1;rw[hm3,la3] at hmore2;rw[hm4,la4] at houtl;rw[la4] at hout;subst hm1 hm2;have hal:=(Below.refl _ w4).alloc (Nat.le_refl _) (.cells #[.int .i64 o1.pc.v,.int .i64 o1.pc.l,.slice D1 cN d1,.slice D2 mN d2,.slice D3 m3 d3,.slice D4 m4 d4] 35);have hbx:=Blk.new w4 35 #[.int .i64 o1.pc.v,.int .i64 o1.pc.l,.slice D1 cN d1,.slice D2 mN d2,.slice D3 m3 d3,.slice D4 m4 d4];have hb2:=hb.alloc hb.size (.cells #[.int .i64 o1.pc.v,.int .i64 o1.pc.l,.slice D1 cN d1,.slice D2 mN d2,.slice D3 m3 d3,.slice D4 m4 d4] 35);have his2:=(his.below hal).more hal.size;have hr1b:=(hr1.below hal).more hal.size;have hr4b:=(hr4.below hal).more hal.size;clear l0 l1 t0 b0 b1 b2 b3 b4 b5;obtain⟨W4,hW4⟩:∃ W4,w4.alloc (.cells #[.int .i64 o1.pc.v,.int .i64 o1.pc.l,.slice D1 cN d1,.slice D2 mN d2,.slice D3 m3 d3,.slice D4 m4 d4] 35)=W4:=⟨_,rfl⟩;rw[hW4] at hal hbx hb2 his2 hr1b hr4b;have hlw:=HLW.out.next hb2;clear HLW;have HLW:=η hlw;clear hlw;have HX:=η hbx;have HIS:=η his2;have HR1:=η hr1b;have HR4:=η hr4b;have hxl:=hbx.lt;clear hb his hal hbx hb2 his2 hr1 hr4 hr1b hr4b;obtain⟨l0,l1⟩:=ζ2 HLW.out.one.a;have t0:W4.cell? ⟨w.heap.size+1,0,none⟩=some (.slice T1 tn t1):=HLW.out.tb.cell 0;obtain⟨b0,b1,b2,b3,b4,b5⟩:=ζ6 HLW.out.st;obtain⟨x0,x1,x2,x3,x4,x5⟩:=ζ6 HX.out;have HRI:=η (fun W (hW:Law10 w (.slice A1 k1 c1) (.slice A2 k2 c2) names up (.slice T1 tn t1) lt #[.int .i64 pv,.int .i64 pl,.slice cA cN cc,.slice mA mN mc,.slice sA sN sc,.slice oA oN oc] W) (his:IsSt W W.heap.size (.agg #[.int .i64 o1.pc.v,.int .i64 o1.pc.l,.slice D1 cN d1,.slice D2 mN d2,.slice D3 m3 d3,.slice D4 m4 d4]) o1)=>hpub▸q5m W hW.one.la his hsmo)
  have HSC:Hid (∀ W,Law10 w (.slice A1 k1 c1) (.slice A2 k2 c2) names up (.slice T1 tn t1) lt #[.int .i64 pv,.int .i64 pl,.slice cA cN cc,.slice mA mN mc,.slice sA sN sc,.slice oA oN oc] W→Row W W.heap.size D1 (icells o1.code)→Calls Tryz.prog 17 #[.slice D1 cN d1,.slice cA cN cc] W (Tells W true)):=η (fun W hW hr=>by
   have h:=z08 (a:=o1.code) (b:=a.code) d1 cc W hr ((HRC.out.below hW.one.below).more hW.one.below.size) hsmo.code HSM.out.code;rw[decide_eq_true hcode,hcode,la1] at h
   exact h)
  have HSO:Hid (∀ W,Law10 w (.slice A1 k1 c1) (.slice A2 k2 c2) names up (.slice T1 tn t1) lt #[.int .i64 pv,.int .i64 pl,.slice cA cN cc,.slice mA mN mc,.slice sA sN sc,.slice oA oN oc] W→Row W W.heap.size D4 (fcells avs o1.out)→Calls Tryz.prog 18 #[.slice D4 oN d4,.slice oA oN oc] W (Tells W true)):=η (fun W hW hr=>by
   have hr2:Row W W.heap.size D4 (fcells avs a.out):=by rw[←hout,q2n q2h];exact hr.take _
   have h:=z1s (a:=a.out) (b:=a.out) d4 oc W hr2 ((HRO.out.below hW.one.below).more hW.one.below.size) HSM.out.out HSM.out.out;rw[decide_eq_true rfl,la4] at h
   exact h)
  have q5:decide ((m4:Int)<(oN:Int))=false:=decide_eq_false (by omega);have q6:¬((m4:Int)<(oN:Int)):=by omega
  have q8:decide (m4<oN)=false:=decide_eq_false (by omega);have q9:(m4<oN)=False:=eq_false (by omega);have q7:oN≤d4:=by omega
  have q10:sN≤1000:=la3▸HSM.out.stack;have q11:oN≤1000:=la4▸HSM.out.out;clear hcode hmem hout hpub la1 la2 la3 la4 hm3 hm4;go_wp2_with (fail);refine Free.region_seq [2,9,39,43] [0,1,6,8,14,17,23,26,32,34,38] 43 (fun W'=>W'.cell? ⟨w.heap.size,0,none⟩=some (.slice A1 k1 c1)∧W'.cell? ⟨w.heap.size,1,none⟩=some (.slice A2 k2 c2)∧W'.cell? ⟨w4.heap.size,0,none⟩=some (.int .i64 o1.pc.v)∧W'.cell? ⟨w4.heap.size,1,none⟩=some (.int .i64 o1.pc.l)∧W'.cell? ⟨w4.heap.size,2,none⟩=some (.slice D1 cN d1)∧W'.cell? ⟨w4.heap.size,3,none⟩=some (.slice D2 mN d2)∧W'.cell? ⟨w4.heap.size,4,none⟩=some (.slice D3 m3 d3)∧W'.cell? ⟨w4.heap.size,5,none⟩=some (.slice D4 m4 d4)∧W'.cell? ⟨w.heap.size+2,2,none⟩=some (.slice cA cN cc)∧W'.cell? ⟨w.heap.size+2,3,none⟩=some (.slice mA mN mc)∧W'.cell? ⟨w.heap.size+2,5,none⟩=some (.slice oA oN oc)) (by kernel_rfl) (by kernel_rfl) (by kernel_rfl) (by kernel_rfl) (⟨HLW.out.one.a.cell 0,HLW.out.one.a.cell 1,HX.out.cell 0,HX.out.cell 1,HX.out.cell 2,HX.out.cell 3,HX.out.cell 4,HX.out.cell 5,HLW.out.st.cell 2,HLW.out.st.cell 3,HLW.out.st.cell 5⟩) (fun ops hops=>?_);have HOPS:=η hops;clear hops;iterate 2
   refine Free.Seq.quiet (v:=?_) (a':=?_) rfl rfl (fun W' hW'=>?_) ?_ ?_
   rotate_left 2
   ·first|obtain⟨l0,l1,x0,x1,x2,x3,x4,x5,b2,b3,b5⟩:=hW' rfl|skip
    go_simp;try with_reducible rfl
   ·simp only[Act.put,List.setIfInBounds_toArray,List.set_cons_zero,List.set_cons_succ];try with_reducible rfl
  refine Free.Seq.loud_ rfl (.inl rfl) (fun K hK=>?_);go_simp;refine(HRI.out W4.drew (HLW.out.next (Below.refl _ W4).drew) ((HIS.out.below (Below.refl _ W4).drew).more (Nat.le_refl _))).mono ?_;rintro e w5 ⟨rfl,hb⟩;have hb:=(Below.refl _ W4).drew.trans hb;clear l0 l1 t0 b0 b1 b2 b3 b4 b5;clear x0 x1 x2 x3 x4 x5;have hx2:=HX.out.below hb HX.out.lt;have hi2:=(HIS.out.below hb).more hb.size;have hs1:=(HR1.out.below hb).more hb.size;have hs4:=(HR4.out.below hb).more hb.size;have hlw:=HLW.out.next hb;clear HLW;have HLW:=η hlw;clear hlw;clear HX HIS HR1 HR4;have HX:=η hx2;have HIS:=η hi2;have HR1:=η hs1;have HR4:=η hs4;clear hb hx2 hi2 hs1 hs4;refine hK.out _ _ rfl (fun _=>⟨HLW.out.one.a.cell 0,HLW.out.one.a.cell 1,HX.out.cell 0,HX.out.cell 1,HX.out.cell 2,HX.out.cell 3,HX.out.cell 4,HX.out.cell 5,HLW.out.st.cell 2,HLW.out.st.cell 3,HLW.out.st.cell 5⟩) ?_;clear hK K;iterate 2
   refine Free.Seq.quiet (v:=?_) (a':=?_) rfl rfl (fun W' hW'=>?_) ?_ ?_
   rotate_left 2
   ·first|obtain⟨l0,l1,x0,x1,x2,x3,x4,x5,b2,b3,b5⟩:=hW' rfl|skip
    go_simp;try with_reducible rfl
   ·simp only[Act.put,List.setIfInBounds_toArray,List.set_cons_zero,List.set_cons_succ];try with_reducible rfl
  iterate 4
   refine Free.Seq.quiet (v:=?_) (a':=?_) rfl (by rw[HOPS.out];rfl) (fun W' hW'=>?_) ?_ ?_
   rotate_left 2
   ·first|obtain⟨l0,l1,x0,x1,x2,x3,x4,x5,b2,b3,b5⟩:=hW' rfl|skip
    go_simp;try with_reducible rfl
   ·simp only[Act.put,List.setIfInBounds_toArray,List.set_cons_zero,List.set_cons_succ];try with_reducible rfl
  refine Free.Seq.loud_ rfl (.inr (by rw[HOPS.out];rfl)) (fun K hK=>?_);rw[if_pos (show Region.wanted _ _=true by rw[HOPS.out];rfl)];go_simp;refine(HSC.out w5 HLW.out HR1.out).mono ?_;rintro e w6 ⟨rfl,hb⟩;have hx2:=HX.out.below hb HX.out.lt;have hi2:=(HIS.out.below hb).more hb.size;have hs1:=(HR1.out.below hb).more hb.size;have hs4:=(HR4.out.below hb).more hb.size;have hlw:=HLW.out.next hb;clear HLW;have HLW:=η hlw;clear hlw;clear HX HIS HR1 HR4;have HX:=η hx2;have HIS:=η hi2;have HR1:=η hs1;have HR4:=η hs4;clear hb hx2 hi2 hs1 hs4;refine hK.out _ _ rfl (fun _=>⟨HLW.out.one.a.cell 0,HLW.out.one.a.cell 1,HX.out.cell 0,HX.out.cell 1,HX.out.cell 2,HX.out.cell 3,HX.out.cell 4,HX.out.cell 5,HLW.out.st.cell 2,HLW.out.st.cell 3,HLW.out.st.cell 5⟩) ?_;clear hK K;iterate 1
   refine Free.Seq.quiet (v:=?_) (a':=?_) rfl (by rw[HOPS.out];rfl) (fun W' hW'=>?_) ?_ ?_
   rotate_left 2
   ·first|obtain⟨l0,l1,x0,x1,x2,x3,x4,x5,b2,b3,b5⟩:=hW' rfl|skip
    go_simp;try with_reducible rfl
   ·simp only[Act.put,List.setIfInBounds_toArray,List.set_cons_zero,List.set_cons_succ];try with_reducible rfl
  iterate 2
   refine Free.Seq.quiet (v:=?_) (a':=?_) rfl rfl (fun W' hW'=>?_) ?_ ?_
   rotate_left 2
   ·first|obtain⟨l0,l1,x0,x1,x2,x3,x4,x5,b2,b3,b5⟩:=hW' rfl|skip
    go_simp;try with_reducible rfl
   ·simp only[Act.put,List.setIfInBounds_toArray,List.set_cons_zero,List.set_cons_succ];try with_reducible rfl
  iterate 7
   refine Free.Seq.quiet (v:=?_) (a':=?_) rfl (by rw[HOPS.out];rfl) (fun W' hW'=>?_) ?_ ?_
   rotate_left 2
   ·first|obtain⟨l0,l1,x0,x1,x2,x3,x4,x5,b2,b3,b5⟩:=hW' rfl|skip
    go_simp;try with_reducible rfl
   ·simp only[Act.put,List.setIfInBounds_toArray,List.set_cons_zero,List.set_cons_succ];try with_reducible rfl
  iterate 2
   refine Free.Seq.quiet (v:=?_) (a':=?_) rfl rfl (fun W' hW'=>?_) ?_ ?_
   rotate_left 2
   ·first|obtain⟨l0,l1,x0,x1,x2,x3,x4,x5,b2,b3,b5⟩:=hW' rfl|skip
    go_simp;try with_reducible rfl
   ·simp only[Act.put,List.setIfInBounds_toArray,List.set_cons_zero,List.set_cons_succ];try with_reducible rfl
  iterate 7
   refine Free.Seq.quiet (v:=?_) (a':=?_) rfl (by rw[HOPS.out];rfl) (fun W' hW'=>?_) ?_ ?_
   rotate_left 2
   ·first|obtain⟨l0,l1,x0,x1,x2,x3,x4,x5,b2,b3,b5⟩:=hW' rfl|skip
    go_simp;try with_reducible rfl
   ·simp only[Act.put,List.setIfInBounds_toArray,List.set_cons_zero,List.set_cons_succ];try with_reducible rfl
  iterate 2
   refine Free.Seq.quiet (v:=?_) (a':=?_) rfl rfl (fun W' hW'=>?_) ?_ ?_
   rotate_left 2
   ·first|obtain⟨l0,l1,x0,x1,x2,x3,x4,x5,b2,b3,b5⟩:=hW' rfl|skip
    go_simp;try with_reducible rfl
   ·simp only[Act.put,List.setIfInBounds_toArray,List.set_cons_zero,List.set_cons_succ];try with_reducible rfl
  iterate 8
   refine Free.Seq.quiet (v:=?_) (a':=?_) rfl (by rw[HOPS.out];rfl) (fun W' hW'=>?_) ?_ ?_
   rotate_left 2
   ·first|obtain⟨l0,l1,x0,x1,x2,x3,x4,x5,b2,b3,b5⟩:=hW' rfl|skip
    go_simp;try with_reducible rfl
   ·simp only[Act.put,List.setIfInBounds_toArray,List.set_cons_zero,List.set_cons_succ];try with_reducible rfl
  refine Free.Seq.loud_ rfl (.inr (by rw[HOPS.out];rfl)) (fun K hK=>?_);rw[if_pos (show Region.wanted _ _=true by rw[HOPS.out];rfl)];go_simp;refine(HSO.out w6 HLW.out HR4.out).mono ?_;rintro e w7 ⟨rfl,hb⟩;have hx2:=HX.out.below hb HX.out.lt;have hi2:=(HIS.out.below hb).more hb.size;have hs1:=(HR1.out.below hb).more hb.size;have hs4:=(HR4.out.below hb).more hb.size;have hlw:=HLW.out.next hb;clear HLW;have HLW:=η hlw;clear hlw;clear HX HIS HR1 HR4;have HX:=η hx2;have HIS:=η hi2;have HR1:=η hs1;have HR4:=η hs4;clear hb hx2 hi2 hs1 hs4;refine hK.out _ _ rfl (fun _=>⟨HLW.out.one.a.cell 0,HLW.out.one.a.cell 1,HX.out.cell 0,HX.out.cell 1,HX.out.cell 2,HX.out.cell 3,HX.out.cell 4,HX.out.cell 5,HLW.out.st.cell 2,HLW.out.st.cell 3,HLW.out.st.cell 5⟩) ?_;clear hK K;iterate 1
   refine Free.Seq.quiet (v:=?_) (a':=?_) rfl (by rw[HOPS.out];rfl) (fun W' hW'=>?_) ?_ ?_
   rotate_left 2
   ·skip
    go_simp;try with_reducible rfl
   ·simp only[Act.put,List.setIfInBounds_toArray,List.set_cons_zero,List.set_cons_succ];try with_reducible rfl
  iterate 2
   refine Free.Seq.quiet (v:=?_) (a':=?_) rfl rfl (fun W' hW'=>?_) ?_ ?_
   rotate_left 2
   ·skip
    go_simp;try with_reducible rfl
   ·simp only[Act.put,List.setIfInBounds_toArray,List.set_cons_zero,List.set_cons_succ];try with_reducible rfl
  refine Free.Seq.loud_ rfl (.inr (by rw[HOPS.out];rfl)) (fun K hK=>?_);rw[if_pos (show Region.wanted _ _=true by rw[HOPS.out];rfl)];go_simp;refine(HAL.out w7 HLW.out).mono ?_;rintro e W9 ⟨rfl,hb⟩;have hx2:=HX.out.below hb HX.out.lt;have hi2:=(HIS.out.below hb).more hb.size;have hs1:=(HR1.out.below hb).more hb.size;have hs4:=(HR4.out.below hb).more hb.size;have hlw:=HLW.out.next hb;clear HLW;have HLW:=η hlw;clear hlw;clear HX HIS HR1 HR4;have HX:=η hx2;have HIS:=η hi2;have HR1:=η hs1;have HR4:=η hs4;clear hb hx2 hi2 hs1 hs4;refine hK.out _ _ rfl (fun h=>absurd h (by decide)) ?_;clear hK K;iterate 1
   refine Free.Seq.quiet (v:=?_) (a':=?_) rfl (by rw[HOPS.out];rfl) (fun W' hW'=>?_) ?_ ?_
   rotate_left 2
   ·skip
    go_simp;try with_reducible rfl
   ·simp only[Act.put,List.setIfInBounds_toArray,List.set_cons_zero,List.set_cons_succ];try with_reducible rfl
  iterate 1
   refine Free.Seq.quiet (v:=?_) (a':=?_) rfl rfl (fun W' hW'=>?_) ?_ ?_
   rotate_left 2
   ·skip
    go_simp;try with_reducible rfl
   ·simp only[Act.put,List.setIfInBounds_toArray,List.set_cons_zero,List.set_cons_succ];try with_reducible rfl
  refine Free.Seq.nil_ ?_;obtain⟨l0,l1⟩:=ζ2 HLW.out.one.a;have t0:W9.cell? ⟨w.heap.size+1,0,none⟩=some (.slice T1 tn t1):=HLW.out.tb.cell 0;obtain⟨b0,b1,b2,b3,b4,b5⟩:=ζ6 HLW.out.st;have hxl9:=HX.out.lt;obtain⟨x0,x1,x2,x3,x4,x5⟩:=ζ6 HX.out;clear HRI HSC HSO HOPS q5 q6 q7 q8 q9 HONE HO1 HAL;by_cases h2:o2=0
  ·subst h2;have q1:decide ((m4:Int)≤(oN:Int)+1)=true:=decide_eq_true (by omega);have q2:decide ((m3:Int)≤(sN:Int)+1)=true:=decide_eq_true (by omega);have q3:(m4:Int)≤(oN:Int)+1:=by omega
   have q4:(m3:Int)≤(sN:Int)+1:=by omega
   go_wp2;go_ret;exact⟨rfl,HLW.out.one.below⟩
  ·obtain⟨hoa,ho3⟩:=hsame h2;have q0:((o2:Int) != 0)=true:=by rw[bne_iff_ne];omega
   have q1:(0:Int)<(o2:Int):=by omega
   have q2:(o2:Int)≤3:=by omega
   have hsm:=q2l W9 (hoa▸HIS.out) (HIA.out W9 HLW.out.one.below) HSM.out HSM.out;rw[q1s] at hsm;have HSA:=η hsm;clear hsm;go_wp2_with (fail);refine HSA.out.mono ?_;rintro e w10 ⟨rfl,hb⟩;have hbl:=HLW.out.one.below.trans (hb.mono HLW.out.one.below.size);go_wp2;go_ret;exact⟨rfl,hbl⟩
theorem q97{ad:Addr}(c n:Nat)(vs:List Value)(w:World)(h:Row w w.heap.size (some ad) vs)(hv:vs.length=n*3)(hu:∀ u ∈ vs,u.oneCell'=true)(hl:n≤1000000) :
  Calls Tryz.prog 19 #[.slice (some ad) n c] w fun e w'=>∃ v,e=.returned v∧w'.ownsRow w.heap.size 55 3 v n vs∧Below w.heap.size w w':=by
 have hnil:=fun(W:World)=>Lib.run_eql_slice_nil (P:=Tryz.prog) W 26 55 (some ad) n c 0 0 Tryz.underlying26
 obtain⟨i0,hi,hz0,hz1,hz2⟩:=info_parts Tryz.infoRow;have H:=η h;clear h;go_enter Tryz.func19,Tryz.ntmps19;go_wp2_with (at_builtin;refine wpList_append_own _ rfl _ _ 26 rfl w.heap.size 55 i0 (.agg #[.slice none 0 0,.slice none 0 0,.slice none 0 0]) 3 72 Tryz.underlying26 hi hz0 hz1 hz2 rfl (by decide) (.slice (some ⟨w.heap.size,0,none⟩) 0 0) 0 [] rfl ?c0 ad n c (vs) rfl ?c1 ?c2 ?c3 ?c4 ?c5 ?c6 ?_);case c0=>exact q1z w 55 3
 case c1=>exact hv
 case c2 =>
  intro j u hu;obtain⟨ad',e,hb,hc⟩:=(Row.below H.out ((Below.refl _ w).alloc (Nat.le_refl _) _)) (by rintro e;rw[e] at hu;simp at hu);injection e with e;subst e;exact hc j u hu
 case c3=>exact hu
 case c4=>unfold maxLen;omega
 case c5=>omega
 case c6=>simp
 intro v' w' hown hg _;have HO:=η hown;have HG:=η hg;clear hown hg;go_wp2;go_ret;exact⟨v',rfl,by simpa using HO.out,((Below.refl _ w).alloc (Nat.le_refl _) _).grown HG.out (by simp) (fun k he=>by cases he;exact Nat.le_refl _)⟩
theorem j17(kk:Int):∃ K:Nat,K<13∧(wrap64 (kk.tmod 13+13)).tmod 13=(K:Int):=by
 have h1:-13<kk.tmod 13:=Int.lt_tmod_of_pos _ (by decide);have h2:kk.tmod 13<13:=Int.tmod_lt_of_pos _ (by decide);have h3:wrap64 (kk.tmod 13+13)=kk.tmod 13+13:=by unfold wrap64;omega
 rw[h3];have h4:(kk.tmod 13+13).tmod 13<13:=Int.tmod_lt_of_pos _ (by decide);have h5:0≤(kk.tmod 13+13).tmod 13:=Int.tmod_nonneg _ (by omega);exact⟨((kk.tmod 13+13).tmod 13).toNat,by omega,by omega⟩
def newR:Tb.PR:=⟨[2],[7],[7]⟩
theorem j1d:∀ k,k<13→Tb.rowE k newR=0:=by decide +kernel
theorem z4z:Small newR:=by
 intro k;unfold Tb.PR.nth newR;by_cases e0:k=0
 ·rw[if_pos e0];decide
 ·rw[if_neg e0];by_cases e1:k=1
  ·rw[if_pos e1];decide
  ·rw[if_neg e1];decide
theorem j1e(up:List Nat)(labs:List Int):Jg.Is (Jg.val (jops up labs) [2])=false:=rfl
theorem z7n{l:List Tb.PR}(h:∀ x ∈ l,Small x)(k:Nat):∀ x ∈ l.set k newR,Small x:=fun x hx=>by
 rcases List.mem_or_eq_of_mem_set hx with h1|rfl
 ·exact h x h1
 ·exact z4z
theorem z3p{names:List ByteArray}{up:List Nat}{l:List Tb.PR}{s:St.State}(h:chk10 names up l s=0){k:Nat}(hk:k<13):chk10 names up (l.set k newR) s=0:=by
 obtain⟨z1,⟨z2,z3⟩,z4⟩:=q26 h;have hc:Tb.check (l.set k newR)=(0,0):=by
  unfold Tb.check;rw[List.length_set,if_pos z2];refine Tb.firstBad_of fun j x hx=>?_
  rw[Nat.zero_add];by_cases e:k=j
  ·subst e;rw[List.getElem?_set_self (by omega)] at hx;injection hx with hx;rw[←hx];exact j1d k hk
  ·rw[List.getElem?_set_ne e] at hx;exact z3 j x hx
 unfold chk10;rw[if_pos z1,hc,if_pos rfl,if_pos z4]
theorem j1i{names:List ByteArray}{up:List Nat}{l:List Tb.PR}{s:St.State}(h:chk10 names up l s=0){k:Nat}(hk:k<13) :
  ∃ p1 p2,oneR names up (l.set k newR) s=(p1,p2,0)∧Sp.step up.length (bottomR names up:Nat) (rwT up (l.set k newR)) s=(p1,p2):=by
 refine⟨(Sp.step up.length (bottomR names up:Nat) (rwT up (l.set k newR)) s).1,(Sp.step up.length (bottomR names up:Nat) (rwT up (l.set k newR)) s).2,?_,rfl⟩;unfold oneR;rw[if_pos (z3p h hk)]
theorem z9d{k:Nat}{s:St.State}(h:St.rightB k s=true){x:Cd.In}(hx:s.code[s.pc.v.toNat]? = some x):0≤x.op∧x.op<13:=by
 unfold St.rightB at h;simp only[Bool.and_eq_true] at h;obtain⟨⟨⟨⟨r1,-⟩,-⟩,-⟩,-⟩:=h;unfold Cd.rightB at r1;rw[Bool.and_eq_true] at r1;have:=List.all_eq_true.1 r1.2 x (List.mem_of_getElem? hx);unfold Cd.inB at this;split at this
 ·rename_i e;omega
 ·have:=of_decide_eq_true this;omega
theorem z9g{k:Nat}{s:St.State}(h:St.rightB k s=true):0≤s.pc.v:=by
 unfold St.rightB at h;simp only[Bool.and_eq_true] at h;obtain⟨⟨⟨⟨-,⟨h1,-⟩⟩,-⟩,-⟩,-⟩:=h;unfold St.pcB at h1;have:=of_decide_eq_true h1;omega
theorem z91{up:List Nat}{bot:Int}{l:List Tb.PR}{s:St.State}{k:Nat}(h:∀ x,s.code[s.pc.v.toNat]? = some x→0≤x.op∧x.op≠(k:Int)):Sp.step up.length bot (rwT up (l.set k newR)) s=Sp.step up.length bot (rwT up l) s:=by
 refine Sp.step_row fun x hx=>?_
 obtain⟨h0,h1⟩:=h x hx;unfold rwT;have e:(l.set k newR).getD x.op.toNat Tb.PR.none=l.getD x.op.toNat Tb.PR.none:=by
  rw[List.getD_eq_getElem?_getD,List.getD_eq_getElem?_getD,List.getElem?_set_ne (by omega)]
 rw[e]
theorem j1r{up:List Nat}{bot:Int}{l:List Tb.PR}{s:St.State}{k:Nat}{x:Cd.In}(hx:s.code[s.pc.v.toNat]? = some x)(he:x.op=(k:Int))(hl:k<l.length) :
  (Sp.step up.length bot (rwT up (l.set k newR)) s).2≠0∧(Sp.step up.length bot (rwT up (l.set k newR)) s).1=s ∧
   ((Sp.step up.length bot (rwT up l) s).2=(Sp.step up.length bot (rwT up (l.set k newR)) s).2∨(Sp.step up.length bot (rwT up l) s).2=0∨(Sp.step up.length bot (rwT up l) s).2=2∨((Sp.step up.length bot (rwT up l) s).2=3∧(Sp.step up.length bot (rwT up (l.set k newR)) s).2=2)):=by
 refine Sp.step_false hx fun labs=>?_
 unfold rwT;dsimp only;rw[he,Int.toNat_natCast,List.getD_eq_getElem?_getD,List.getElem?_set_self hl];exact j1e up labs
theorem RowsIn.cells3{w:World}{B:Nat}{A:Option Addr}{l:List Tb.PR}(h:RowsIn w B A l)(hl:0<l.length):∃(ad:Addr) (vs:List Value),A=some ad∧vs.length=l.length*3∧Row w B A vs∧(∀ u ∈ vs,u.oneCell'=true) ∧
  ∀ k x,l[k]? = some x→∃ a0 a1 a2,vs[k*3]? = some a0∧vs[k*3+1]? = some a1∧vs[k*3+2]? = some a2∧IsInts w B a0 x.m∧IsInts w B a1 x.r∧IsInts w B a2 x.p:=by
 obtain⟨vs,h1,h2,h3⟩:=h;obtain⟨ad,e,-,-⟩:=h2 (by rintro rfl;simp at h1;omega);refine⟨ad,vs,e,h1,h2,fun u hu=>?_,h3⟩;obtain⟨j,hj⟩:=List.getElem?_of_mem hu;have hjl:=(List.getElem?_eq_some_iff.1 hj).1;obtain⟨a0,a1,a2,e0,e1,e2,⟨A0,c0,rfl,-,-⟩,⟨A1,c1,rfl,-,-⟩,⟨A2,c2,rfl,-,-⟩⟩:=h3 (j / 3) _ (List.getElem?_eq_getElem (by omega));have hm:j=j / 3*3∨j=j / 3*3+1∨j=j / 3*3+2:=by omega
 rcases hm with e|e|e
 ·rw[e,e0] at hj;injection hj with hj;subst hj;rfl
 ·rw[e,e1] at hj;injection hj with hj;subst hj;rfl
 ·rw[e,e2] at hj;injection hj with hj;subst hj;rfl
theorem j1m{W:World}{base n:Nat}{v:Value}{vs:List Value}(h:W.ownsRow base 55 3 v n vs)(hn:0<n) :
  ∃ g cap cur,v=.slice (some ⟨g,0,none⟩) n cap∧base≤g∧n≤cap∧Blk W g 55 cur∧∀(j:Nat) (u:Value),vs[j]? = some u→cur[j]? = some u:=by
 have hown:=h;rcases h.2 with⟨rfl,h0⟩|⟨g,cap,cur,rfl,hb,hh,hkc,hcm,hcs,ht⟩
 ·omega
 ·refine⟨g,cap,cur,rfl,hb,hkc,hh,fun j u hu=>?_⟩;have h1:=hown.cells rfl j u hu;have h2:=Blk.cell (W:=W) hh j;have e:(⟨g,0,none⟩:Addr).add j=⟨g,j,none⟩:=by unfold Addr.add;split<;>simp_all
  rw[←h2,←e];exact h1
theorem z9w{w W:World}{B g op:Nat}{l:List Tb.PR}{vs:List Value}{cur:Array Value}{s0 s1 s2:Value}{x:Tb.PR}(hvs:vs.length=l.length*3)(hop:op<l.length)(h3:∀ k y,l[k]? = some y→∃ a0 a1 a2,vs[k*3]? = some a0∧vs[k*3+1]? = some a1∧vs[k*3+2]? = some a2∧IsInts w B a0 y.m∧IsInts w B a1 y.r∧IsInts w B a2 y.p)(hcur:∀(j:Nat) (u:Value),vs[j]? = some u→cur[j]? = some u)(hbk:Blk W g 55 (((cur.setIfInBounds (op*3) s0).setIfInBounds (op*3+1) s1).setIfInBounds (op*3+2) s2))(hb:Below B w W)(hB:B≤W.heap.size)(i0:IsInts W W.heap.size s0 x.m)(i1:IsInts W W.heap.size s1 x.r)(i2:IsInts W W.heap.size s2 x.p):RowsIn W W.heap.size (some ⟨g,0,none⟩) (l.set op x):=by
 refine⟨((vs.set (op*3) s0).set (op*3+1) s1).set (op*3+2) s2,by simp[hvs],fun _=>⟨_,rfl,hbk.lt,fun j u hu=>?_⟩,fun k y hy=>?_⟩
 ·have e:(⟨g,0,none⟩:Addr).add j=⟨g,j,none⟩:=by unfold Addr.add;split<;>simp_all
  rw[e,hbk.cell];have hjl:j<vs.length:=by have:=(List.getElem?_eq_some_iff.1 hu).1;simpa using this
  have hcl:j<cur.size:=(Array.getElem?_eq_some_iff.1 (hcur j _ (List.getElem?_eq_getElem hjl))).1;simp only[List.getElem?_set,List.length_set,Array.getElem?_setIfInBounds,Array.size_setIfInBounds] at hu ⊢;by_cases e2:op*3+2=j
  ·rw[if_pos e2] at hu ⊢;rw[if_pos (by omega)] at hu ⊢;exact hu
  ·rw[if_neg e2] at hu ⊢;by_cases e1:op*3+1=j
   ·rw[if_pos e1] at hu ⊢;rw[if_pos (by omega)] at hu ⊢;exact hu
   ·rw[if_neg e1] at hu ⊢;by_cases e0:op*3=j
    ·rw[if_pos e0] at hu ⊢;rw[if_pos (by omega)] at hu ⊢;exact hu
    ·rw[if_neg e0] at hu ⊢;exact hcur j u hu
 ·have hkl:k<l.length:=by have:=(List.getElem?_eq_some_iff.1 hy).1;simpa using this
  by_cases e:op=k
  ·subst e;rw[List.getElem?_set_self hop] at hy;injection hy with hy;subst hy;refine⟨s0,s1,s2,?_,?_,?_,i0,i1,i2⟩
   ·rw[List.getElem?_set_ne (by omega),List.getElem?_set_ne (by omega),List.getElem?_set_self (by omega)]
   ·rw[List.getElem?_set_ne (by omega),List.getElem?_set_self (by simp;omega)]
   ·rw[List.getElem?_set_self (by simp;omega)]
  ·rw[List.getElem?_set_ne e] at hy;obtain⟨a0,a1,a2,e0,e1,e2,r0,r1,r2⟩:=h3 k y hy;refine⟨a0,a1,a2,?_,?_,?_,(r0.below hb).more hB,(r1.below hb).more hB,(r2.below hb).more hB⟩
   ·rw[List.getElem?_set_ne (by omega),List.getElem?_set_ne (by omega),List.getElem?_set_ne (by omega)];exact e0
   ·rw[List.getElem?_set_ne (by omega),List.getElem?_set_ne (by omega),List.getElem?_set_ne (by omega)];exact e1
   ·rw[List.getElem?_set_ne (by omega),List.getElem?_set_ne (by omega),List.getElem?_set_ne (by omega)];exact e2
theorem q9w{A A' TA : Option Addr}{n1 : List ByteArray}{u1 : List Nat}{l : List Tb.PR}{s0 : St.State}{cA mA sA oA : Option Addr}{cc mc sc oc : Nat}(c c' tc : Nat)(n : Int)(w : World)(hi : Ins w)(hN : Row w w.heap.size A (strs n1))(hU : Ups w w.heap.size A' u1)(hT : RowsIn w w.heap.size TA l)(hst : StIn w w.heap.size s0 cA cc mA mc sA sc oA oc)(hc : n1.length ≤ c)(hc' : u1.length ≤ c')(hm : c ≤ maxLen)(hm' : c' ≤ maxLen)(hs : ∀ s ∈ n1, s.size ≤ maxLen)(htc : l.length ≤ tc)(htm : tc ≤ maxLen) :
    Calls Tryz.prog 5 #[.agg #[.slice A n1.length c, .slice A' u1.length c'], .agg #[.slice TA l.length tc], incv s0 cA cc mA mc sA sc oA oc, .int .i64 n] w (Tells w true) := by
  have hfa := fun W (hW : Below w.heap.size w W) => q8p w.heap.size c c' W hW.size (hN.below hW) (hU.below hW) hc hc' hm hm' hs
  have hft := fun W (hW : Below w.heap.size w W) => q4p w.heap.size tc W hW.size (hT.below hW) htc htm
  have hcut := fun W => q5i W hst
  have his := fun W (hb : Below w.heap.size w W) => ((hst.cut.below hb).more hb.size).isSt
  have HSM := η (q4y s0);have hl1 : (cutS s0).code.length = min 15 s0.code.length := by unfold cutS; simp
  have hl2 : (cutS s0).mem.length = min 15 s0.mem.length := by unfold cutS; simp
  have hl3 : (cutS s0).stack.length = min 15 s0.stack.length := by unfold cutS; simp
  have hl4 : (cutS s0).out.length = min 15 s0.out.length := by unfold cutS; simp
  have hp1 : (cutS s0).pc = s0.pc := rfl;rw [q42] at his hcut;obtain ⟨a, ha⟩ : ∃ a, cutS s0 = a := ⟨_, rfl⟩;obtain ⟨lt, hlt⟩ : ∃ lt, fewT l = lt := ⟨_, rfl⟩;rw [ha] at his HSM hl1 hl2 hl3 hl4 hp1;unfold Cut10 at hft;rw [hlt] at hft;have hsml : ∀ x ∈ lt, Small x := by rw [← hlt]; exact q40 l
  unfold incv at hcut ⊢;have hrc : Row w w.heap.size cA (icells a.code) := by rw [← ha]; exact hst.cut.rc.1
  have hro : Row w w.heap.size oA (fcells avs a.out) := by rw [← ha]; exact hst.cut.ro.1
  have hpv : a.pc.v = s0.pc.v := by rw [hp1]
  have HRC := η hrc;have HRO := η hro;clear hst ha hlt hp1 hrc hro;generalize s0.pc.v = pv at *;generalize s0.pc.l = pl at *;generalize hcn : min 15 s0.code.length = cN at *;generalize hmn : min 15 s0.mem.length = mN at *;generalize hsn : min 15 s0.stack.length = sN at *;generalize hon : min 15 s0.out.length = oN at *;generalize s0.code.length = cn at *;generalize s0.mem.length = mn at *;generalize s0.stack.length = sn at *;generalize s0.out.length = on at *;clear hcn hmn hsn hon;have hb0 := ((((Below.refl _ w).alloc (Nat.le_refl _) (.cells #[.slice A n1.length c, .slice A' u1.length c'] 25)).alloc (by simp) (.cells #[.slice TA l.length tc] 28)).alloc (by simp; omega) (.cells #[.int .i64 pv, .int .i64 pl, .slice cA cn cc, .slice mA mn mc, .slice sA sn sc, .slice oA on oc] 35)).drew;obtain ⟨W0, hW0⟩ : ∃ W0, ((w.alloc (.cells #[.slice A n1.length c, .slice A' u1.length c'] 25)).alloc (.cells #[.slice TA l.length tc] 28)).alloc (.cells #[.int .i64 pv, .int .i64 pl, .slice cA cn cc, .slice mA mn mc, .slice sA sn sc, .slice oA on oc] 35) = W0 := ⟨_, rfl⟩;have hp0 : Blk W0 w.heap.size 25 #[.slice A n1.length c, .slice A' u1.length c'] := hW0 ▸ ((Blk.new _ _ _).alloc _).alloc _;have ht0 : Blk W0 (w.heap.size + 1) 28 #[.slice TA l.length tc] := by
    have h1 := (Blk.new (w.alloc (.cells #[.slice A n1.length c, .slice A' u1.length c'] 25)) 28 #[.slice TA l.length tc]).alloc (.cells #[.int .i64 pv, .int .i64 pl, .slice cA cn cc, .slice mA mn mc, .slice sA sn sc, .slice oA on oc] 35);rw [show (w.alloc (.cells #[.slice A n1.length c, .slice A' u1.length c'] 25)).heap.size = w.heap.size + 1 by simp] at h1;rw [← hW0]; exact h1
  have hq0 : Blk W0 (w.heap.size + 2) 35 #[.int .i64 pv, .int .i64 pl, .slice cA cn cc, .slice mA mn mc, .slice sA sn sc, .slice oA on oc] := by
    have h1 := Blk.new ((w.alloc (.cells #[.slice A n1.length c, .slice A' u1.length c'] 25)).alloc (.cells #[.slice TA l.length tc] 28)) 35 #[.int .i64 pv, .int .i64 pl, .slice cA cn cc, .slice mA mn mc, .slice sA sn sc, .slice oA on oc];rw [show ((w.alloc (.cells #[.slice A n1.length c, .slice A' u1.length c'] 25)).alloc (.cells #[.slice TA l.length tc] 28)).heap.size = w.heap.size + 2 by simp] at h1;rw [← hW0]; exact h1
  have hz0 : W0.heap.size = w.heap.size + 3 := by rw [← hW0]; simp
  rw [hW0] at hb0;have HFA := η hfa;have HFT := η hft;have HCUT := η hcut;have HIA := η his;have HP := η hp0;have HT := η ht0;have HQ := η hq0;have HB0 := η hb0;have HZ0 := η hz0;have HI := η hi;have HSL := η hsml;have HL := η (show a.code.length = cN ∧ a.mem.length = mN ∧ a.stack.length = sN ∧ a.out.length = oN ∧ a.pc.v = pv from ⟨hl1, hl2, hl3, hl4, hpv⟩);obtain ⟨l0, l1⟩ := ζ2 hp0;have t0 : W0.cell? ⟨w.heap.size + 1, 0, none⟩ = some (.slice TA l.length tc) := ht0.cell 0;obtain ⟨b0, b1, b2, b3, b4, b5⟩ := ζ6 hq0;clear hfa hft hcut his hb0 hp0 hq0 ht0 hz0 hN hU hT hc hc' hm hm' hs htc htm hi hsml hl1 hl2 hl3 hl4 hpv;go_enter Tryz.func5, Tryz.ntmps5;go_wp2_with (fail);refine Free.region_seq [1, 3, 5, 6, 7, 8] [0, 2, 4] 5 (fun W' => W'.cell? ⟨w.heap.size, 0, none⟩ = some (.slice A n1.length c) ∧ W'.cell? ⟨w.heap.size, 1, none⟩ = some (.slice A' u1.length c') ∧ W'.cell? ⟨w.heap.size + 1, 0, none⟩ = some (.slice TA l.length tc) ∧ W'.cell? ⟨w.heap.size + 2, 0, none⟩ = some (.int .i64 pv) ∧ W'.cell? ⟨w.heap.size + 2, 1, none⟩ = some (.int .i64 pl) ∧ W'.cell? ⟨w.heap.size + 2, 2, none⟩ = some (.slice cA cn cc) ∧ W'.cell? ⟨w.heap.size + 2, 3, none⟩ = some (.slice mA mn mc) ∧ W'.cell? ⟨w.heap.size + 2, 4, none⟩ = some (.slice sA sn sc) ∧ W'.cell? ⟨w.heap.size + 2, 5, none⟩ = some (.slice oA on oc)) (by kernel_rfl) (by kernel_rfl) (by kernel_rfl) (by kernel_rfl) (⟨l0, l1, t0, b0, b1, b2, b3, b4, b5⟩) (fun ops hops => ?_);clear hops;iterate 1
    refine Free.Seq.quiet (v := ?_) (a' := ?_) rfl rfl (fun W' hW' => ?_) ?_ ?_
    rotate_left 2
    · first | obtain ⟨q0, q1, q2, q3, q4, q5, q6, q7, q8⟩ := hW' rfl | skip
      go_simp;try with_reducible rfl
    · simp only [Act.put, List.setIfInBounds_toArray, List.set_cons_zero, List.set_cons_succ]
      try with_reducible rfl
  refine Free.Seq.loud_ rfl (.inl rfl) (fun K hK => ?_);go_simp;refine (HFA.out _ HB0.out).mono ?_;rintro e w1 ⟨v, names, up, rfl, hlw, hb1⟩;have hlat : ∀ W2, Keeps w.heap.size (w.heap.size + 3) w1 W2 → IsLat W2 W2.heap.size v names up := fun W2 k => hlw W2 (k.mono_ (by show w.heap.size + 3 ≤ W0.heap.size; rw [HZ0.out]; exact Nat.le_refl _))
  obtain ⟨A1, k1, c1, A2, k2, c2, rfl⟩ := q8s (hlat w1 ⟨Nat.le_refl _, fun _ _ _ => rfl⟩);have hp1 := (HP.out.drew).below hb1 HP.out.lt;have ht1 := (HT.out.drew).below hb1 HT.out.lt;have hq1 := (HQ.out.drew).below hb1 HQ.out.lt;have HB1 := η (HB0.out.trans (hb1.mono HB0.out.size));have HLAT := η hlat
  have HP1 := η hp1;have HT1 := η ht1;have HQ1 := η hq1;refine hK.out _ _ rfl (fun _ => ⟨HP1.out.cell 0, HP1.out.cell 1, HT1.out.cell 0, HQ1.out.cell 0, HQ1.out.cell 1, HQ1.out.cell 2, HQ1.out.cell 3, HQ1.out.cell 4, HQ1.out.cell 5⟩) ?_;clear hK K hb1 hlw hp1 hq1 ht1 hlat
  iterate 1
    refine Free.Seq.quiet (v := ?_) (a' := ?_) rfl rfl (fun W' hW' => ?_) ?_ ?_
    rotate_left 2
    · first | obtain ⟨q0, q1, q2, q3, q4, q5, q6, q7, q8⟩ := hW' rfl | skip
      go_simp;try with_reducible rfl
    · simp only [Act.put, List.setIfInBounds_toArray, List.set_cons_zero, List.set_cons_succ]
      try with_reducible rfl
  refine Free.Seq.loud_ rfl (.inl rfl) (fun K hK => ?_);go_simp;refine (HFT.out w1 HB1.out).mono ?_;rintro e w2 ⟨v2, rfl, htw, hb2⟩;have htab : ∀ W2, Keeps w.heap.size (w.heap.size + 3) w2 W2 → IsTab W2 W2.heap.size v2 lt := fun W2 k => htw W2 (k.mono_ (by have := HQ1.out.lt; omega))
  obtain ⟨T1, t1, rfl, -, -⟩ := htab w2 ⟨Nat.le_refl _, fun _ _ _ => rfl⟩;obtain ⟨tn, htn⟩ : ∃ tn, lt.length = tn := ⟨_, rfl⟩;rw [htn] at htab;have HTN := η htn;have hp2 := HP1.out.below hb2 HP1.out.lt;have ht2 := HT1.out.below hb2 HT1.out.lt;have hq2 := HQ1.out.below hb2 HQ1.out.lt;have HB2 := η (HB1.out.trans (hb2.mono HB1.out.size));have HKB2 : Hid (Keeps w.heap.size (w.heap.size + 3) w1 w2) := η (Keeps.below hb2);have HTAB := η htab;have HP2 := η hp2;have HT2 := η ht2;have HQ2 := η hq2;dsimp only;rw [htn];refine hK.out _ _ rfl (fun _ => ⟨HP2.out.cell 0, HP2.out.cell 1, HT2.out.cell 0, HQ2.out.cell 0, HQ2.out.cell 1, HQ2.out.cell 2, HQ2.out.cell 3, HQ2.out.cell 4, HQ2.out.cell 5⟩) ?_;clear hK K hb2 htw hp2 hq2 ht2 htab htn;iterate 1
    refine Free.Seq.quiet (v := ?_) (a' := ?_) rfl rfl (fun W' hW' => ?_) ?_ ?_
    rotate_left 2
    · first | obtain ⟨q0, q1, q2, q3, q4, q5, q6, q7, q8⟩ := hW' rfl | skip
      go_simp;try with_reducible rfl
    · simp only [Act.put, List.setIfInBounds_toArray, List.set_cons_zero, List.set_cons_succ]
      try with_reducible rfl
  refine Free.Seq.loud_ rfl (.inl rfl) (fun K hK => ?_);go_simp;refine (HCUT.out w2).mono ?_;rintro e w3 ⟨rfl, hb3⟩;have hp3 := HP2.out.below hb3 HP2.out.lt;have ht3 := HT2.out.below hb3 HT2.out.lt;have hq3 := HQ2.out.below hb3 HQ2.out.lt;have HB3 := η (HB2.out.trans (hb3.mono HB2.out.size));have hkt : Keeps w.heap.size (w.heap.size + 3) w2 w3 := Keeps.below hb3;have hkb : Keeps w.heap.size (w.heap.size + 3) w1 w3 := HKB2.out.trans_ hkt;have i0 := hp3.cell 0;have f0 := hp3.frozen 0;have i1 := hp3.cell 1;have f1 := hp3.frozen 1;have h0 := ht3.cell 0;have e0 := ht3.frozen 0;have j0 := hq3.cell 0;have g0 := hq3.frozen 0;have j1 := hq3.cell 1;have g1 := hq3.frozen 1;have j2 := hq3.cell 2;have g2 := hq3.frozen 2;have j3 := hq3.cell 3;have g3 := hq3.frozen 3;have j4 := hq3.cell 4;have g4 := hq3.frozen 4;have j5 := hq3.cell 5;have g5 := hq3.frozen 5;refine hK.out _ _ rfl (fun h => absurd h (by decide)) ?_;clear hK K;refine Free.Seq.loud_ rfl (.inl rfl) (fun K hK => ?_);go_simp;refine hK.out _ _ rfl (fun h => absurd h (by decide)) ?_;clear hK K;refine Free.Seq.loud_ rfl (.inl rfl) (fun K hK => ?_);go_simp;refine hK.out _ _ rfl (fun h => absurd h (by decide)) ?_;clear hK K;refine Free.Seq.loud_ rfl (.inl rfl) (fun K hK => ?_);go_simp;refine hK.out _ _ rfl (fun h => absurd h (by decide)) ?_;clear hK K;refine Free.Seq.nil_ ?_;obtain ⟨W3, hW3⟩ : ∃ W3, (((((((((w3.setCell ⟨w.heap.size, 0, none⟩ (.slice A1 k1 c1)).setCell ⟨w.heap.size, 1, none⟩ (.slice A2 k2 c2)).setCell ⟨w.heap.size + 1, 0, none⟩ (.slice T1 tn t1)).setCell ⟨w.heap.size + 2, 0, none⟩ (.int .i64 pv)).setCell ⟨w.heap.size + 2, 1, none⟩ (.int .i64 pl)).setCell ⟨w.heap.size + 2, 2, none⟩ (.slice cA cN cc)).setCell ⟨w.heap.size + 2, 3, none⟩ (.slice mA mN mc)).setCell ⟨w.heap.size + 2, 4, none⟩ (.slice sA sN sc)).setCell ⟨w.heap.size + 2, 5, none⟩ (.slice oA oN oc)) = W3 := ⟨_, rfl⟩;have hlw : Law10 w (.slice A1 k1 c1) (.slice A2 k2 c2) names up (.slice T1 tn t1) lt #[.int .i64 pv, .int .i64 pl, .slice cA cN cc, .slice mA mN mc, .slice sA sN sc, .slice oA oN oc] W3 := by
    rw [← hW3];exact ⟨⟨(((((((((hp3).set_ 0 _).set_ 1 _).other (by show w.heap.size + 1 ≠ w.heap.size; omega) _).other (by show w.heap.size + 2 ≠ w.heap.size; omega) _).other (by show w.heap.size + 2 ≠ w.heap.size; omega) _).other (by show w.heap.size + 2 ≠ w.heap.size; omega) _).other (by show w.heap.size + 2 ≠ w.heap.size; omega) _).other (by show w.heap.size + 2 ≠ w.heap.size; omega) _).other (by show w.heap.size + 2 ≠ w.heap.size; omega) _, HLAT.out _ ((((((((((hkb).trans_ (Keeps.set_ (p := ⟨w.heap.size, 0, none⟩) (by show w.heap.size ≤ w.heap.size; omega) (by show w.heap.size < w.heap.size + 3; omega))).trans_ (Keeps.set_ (p := ⟨w.heap.size, 1, none⟩) (by show w.heap.size ≤ w.heap.size; omega) (by show w.heap.size < w.heap.size + 3; omega))).trans_ (Keeps.set_ (p := ⟨w.heap.size + 1, 0, none⟩) (by show w.heap.size ≤ w.heap.size + 1; omega) (by show w.heap.size + 1 < w.heap.size + 3; omega))).trans_ (Keeps.set_ (p := ⟨w.heap.size + 2, 0, none⟩) (by show w.heap.size ≤ w.heap.size + 2; omega) (by show w.heap.size + 2 < w.heap.size + 3; omega))).trans_ (Keeps.set_ (p := ⟨w.heap.size + 2, 1, none⟩) (by show w.heap.size ≤ w.heap.size + 2; omega) (by show w.heap.size + 2 < w.heap.size + 3; omega))).trans_ (Keeps.set_ (p := ⟨w.heap.size + 2, 2, none⟩) (by show w.heap.size ≤ w.heap.size + 2; omega) (by show w.heap.size + 2 < w.heap.size + 3; omega))).trans_ (Keeps.set_ (p := ⟨w.heap.size + 2, 3, none⟩) (by show w.heap.size ≤ w.heap.size + 2; omega) (by show w.heap.size + 2 < w.heap.size + 3; omega))).trans_ (Keeps.set_ (p := ⟨w.heap.size + 2, 4, none⟩) (by show w.heap.size ≤ w.heap.size + 2; omega) (by show w.heap.size + 2 < w.heap.size + 3; omega))).trans_ (Keeps.set_ (p := ⟨w.heap.size + 2, 5, none⟩) (by show w.heap.size ≤ w.heap.size + 2; omega) (by show w.heap.size + 2 < w.heap.size + 3; omega))), (((((((((HB3.out).setCell (p := ⟨w.heap.size, 0, none⟩) (by show w.heap.size ≤ w.heap.size; omega) _).setCell (p := ⟨w.heap.size, 1, none⟩) (by show w.heap.size ≤ w.heap.size; omega) _).setCell (p := ⟨w.heap.size + 1, 0, none⟩) (by show w.heap.size ≤ w.heap.size + 1; omega) _).setCell (p := ⟨w.heap.size + 2, 0, none⟩) (by show w.heap.size ≤ w.heap.size + 2; omega) _).setCell (p := ⟨w.heap.size + 2, 1, none⟩) (by show w.heap.size ≤ w.heap.size + 2; omega) _).setCell (p := ⟨w.heap.size + 2, 2, none⟩) (by show w.heap.size ≤ w.heap.size + 2; omega) _).setCell (p := ⟨w.heap.size + 2, 3, none⟩) (by show w.heap.size ≤ w.heap.size + 2; omega) _).setCell (p := ⟨w.heap.size + 2, 4, none⟩) (by show w.heap.size ≤ w.heap.size + 2; omega) _).setCell (p := ⟨w.heap.size + 2, 5, none⟩) (by show w.heap.size ≤ w.heap.size + 2; omega) _⟩, (((((((((ht3).other (by show w.heap.size ≠ w.heap.size + 1; omega) _).other (by show w.heap.size ≠ w.heap.size + 1; omega) _).set_ 0 _).other (by show w.heap.size + 2 ≠ w.heap.size + 1; omega) _).other (by show w.heap.size + 2 ≠ w.heap.size + 1; omega) _).other (by show w.heap.size + 2 ≠ w.heap.size + 1; omega) _).other (by show w.heap.size + 2 ≠ w.heap.size + 1; omega) _).other (by show w.heap.size + 2 ≠ w.heap.size + 1; omega) _).other (by show w.heap.size + 2 ≠ w.heap.size + 1; omega) _, HTAB.out _ ((((((((((hkt).trans_ (Keeps.set_ (p := ⟨w.heap.size, 0, none⟩) (by show w.heap.size ≤ w.heap.size; omega) (by show w.heap.size < w.heap.size + 3; omega))).trans_ (Keeps.set_ (p := ⟨w.heap.size, 1, none⟩) (by show w.heap.size ≤ w.heap.size; omega) (by show w.heap.size < w.heap.size + 3; omega))).trans_ (Keeps.set_ (p := ⟨w.heap.size + 1, 0, none⟩) (by show w.heap.size ≤ w.heap.size + 1; omega) (by show w.heap.size + 1 < w.heap.size + 3; omega))).trans_ (Keeps.set_ (p := ⟨w.heap.size + 2, 0, none⟩) (by show w.heap.size ≤ w.heap.size + 2; omega) (by show w.heap.size + 2 < w.heap.size + 3; omega))).trans_ (Keeps.set_ (p := ⟨w.heap.size + 2, 1, none⟩) (by show w.heap.size ≤ w.heap.size + 2; omega) (by show w.heap.size + 2 < w.heap.size + 3; omega))).trans_ (Keeps.set_ (p := ⟨w.heap.size + 2, 2, none⟩) (by show w.heap.size ≤ w.heap.size + 2; omega) (by show w.heap.size + 2 < w.heap.size + 3; omega))).trans_ (Keeps.set_ (p := ⟨w.heap.size + 2, 3, none⟩) (by show w.heap.size ≤ w.heap.size + 2; omega) (by show w.heap.size + 2 < w.heap.size + 3; omega))).trans_ (Keeps.set_ (p := ⟨w.heap.size + 2, 4, none⟩) (by show w.heap.size ≤ w.heap.size + 2; omega) (by show w.heap.size + 2 < w.heap.size + 3; omega))).trans_ (Keeps.set_ (p := ⟨w.heap.size + 2, 5, none⟩) (by show w.heap.size ≤ w.heap.size + 2; omega) (by show w.heap.size + 2 < w.heap.size + 3; omega))), (((((((((hq3).other (by show w.heap.size ≠ w.heap.size + 2; omega) _).other (by show w.heap.size ≠ w.heap.size + 2; omega) _).other (by show w.heap.size + 1 ≠ w.heap.size + 2; omega) _).set_ 0 _).set_ 1 _).set_ 2 _).set_ 3 _).set_ 4 _).set_ 5 _⟩
  rw [hW3];have HLW := η hlw;clear hW3 hlw hp3 hq3 ht3 hkb hkt HB2 HB1 HB3 HB0 HLAT HTAB HKB2 HP HT HQ HP1 HT1 HQ1 HP2 HT2 HQ2 HFA HFT HCUT HZ0 hb3 l0 l1 t0 b0 b1 b2 b3 b4 b5 i0 i1 f0 f1 h0 e0 j0 j1 j2 j3 j4 j5 g0 g1 g2 g3 g4 g5 hW0
  have HONE : Hid (∀ W, Law10 w (.slice A1 k1 c1) (.slice A2 k2 c2) names up (.slice T1 tn t1) lt #[.int .i64 pv, .int .i64 pl, .slice cA cN cc, .slice mA mN mc, .slice sA sN sc, .slice oA oN oc] W → Calls Tryz.prog 11 #[.agg #[.slice A1 k1 c1, .slice A2 k2 c2], .agg #[.slice T1 tn t1], .agg #[.int .i64 pv, .int .i64 pl, .slice cA cN cc, .slice mA mN mc, .slice sA sN sc, .slice oA oN oc]] W (Oned (oneR names up lt a) W)) := η (fun W hW => by
    obtain ⟨A, d, he, hr, -⟩ := hW.ta;injection he with h1 h2 h3;subst h1 h3
    exact (HTN.out ▸ (q4t (l := lt) (RA := T1) t1 W (HI.out.below hW.one.below HI.out.lt) (Nat.lt_of_lt_of_le HI.out.lt hW.one.below.size) hW.one.la (HIA.out W hW.one.below) HSM.out hr HSL.out)))
  have HAL := η (fun W (hW : Law10 w (.slice A1 k1 c1) (.slice A2 k2 c2) names up (.slice T1 tn t1) lt #[.int .i64 pv, .int .i64 pl, .slice cA cN cc, .slice mA mN mc, .slice sA sN sc, .slice oA oN oc] W) => q4h W (HI.out.below hW.one.below HI.out.lt));obtain ⟨l0, l1⟩ := ζ2 HLW.out.one.a;have t0 : W3.cell? ⟨w.heap.size + 1, 0, none⟩ = some (.slice T1 tn t1) := HLW.out.tb.cell 0;obtain ⟨b0, b1, b2, b3, b4, b5⟩ := ζ6 HLW.out.st;obtain ⟨K, hK13, hop⟩ := j17 n;obtain ⟨⟨o1, o2, o3⟩, ho⟩ : ∃ r, oneR names up lt a = r := ⟨_, rfl⟩;have ho1 := HONE.out W3 HLW.out;rw [ho] at ho1;have HO1 := η ho1;clear ho1;rcases q58 ho with ⟨h3, rfl, rfl, -⟩ | ⟨rfl, hck, hst⟩
  · have he3 : ((o3 : Int) != 0) = true := by rw [bne_iff_ne]; omega
    clear ho h3;go_wp2_with (fail);refine HO1.out.mono ?_;rintro e w4 hx;obtain ⟨D1, m1, d1, D2, m2, d2, D3, m3, d3, D4, m4, d4, rfl, hm1, hm2, hm3, hm4, hd1, hd2, hd3, hd4, hr1, hr4, his, hb⟩ := hx.told;dsimp only at hm1 hm2 hm3 hm4 hr1 hr4 his ⊢;simp only [St.zero, List.length_nil] at hm1 hm2 hm3 hm4;subst hm1 hm2 hm3 hm4;dsimp only [St.zero] at his hr1 hr4 ⊢;have hal := (Below.refl _ w4).alloc (Nat.le_refl _) (.cells #[.int .i64 0, .int .i64 0, .slice D1 0 d1, .slice D2 0 d2, .slice D3 0 d3, .slice D4 0 d4] 35);have hbx := Blk.new w4 35 #[.int .i64 0, .int .i64 0, .slice D1 0 d1, .slice D2 0 d2, .slice D3 0 d3, .slice D4 0 d4];have hb2 := hb.alloc hb.size (.cells #[.int .i64 0, .int .i64 0, .slice D1 0 d1, .slice D2 0 d2, .slice D3 0 d3, .slice D4 0 d4] 35);have his2 := (his.below hal).more hal.size;have hr1b := (hr1.below hal).more hal.size;have hr4b := (hr4.below hal).more hal.size;clear l0 l1 t0 b0 b1 b2 b3 b4 b5;obtain ⟨W4, hW4⟩ : ∃ W4, w4.alloc (.cells #[.int .i64 0, .int .i64 0, .slice D1 0 d1, .slice D2 0 d2, .slice D3 0 d3, .slice D4 0 d4] 35) = W4 := ⟨_, rfl⟩;rw [hW4] at hal hbx hb2 his2 hr1b hr4b;have hlw := HLW.out.next hb2;clear HLW;have HLW := η hlw;clear hlw;have HX := η hbx;have HIS := η his2;have HR1 := η hr1b;have HR4 := η hr4b;have hxl := hbx.lt;clear hb his hal hbx hb2 his2 hr1 hr4 hr1b hr4b;obtain ⟨l0, l1⟩ := ζ2 HLW.out.one.a;have t0 : W4.cell? ⟨w.heap.size + 1, 0, none⟩ = some (.slice T1 tn t1) := HLW.out.tb.cell 0;obtain ⟨b0, b1, b2, b3, b4, b5⟩ := ζ6 HLW.out.st;obtain ⟨x0, x1, x2, x3, x4, x5⟩ := ζ6 HX.out;have HAC := η (HAL.out W4 HLW.out);go_wp2_with (fail);refine HAC.out.mono ?_;rintro e w5 ⟨rfl, hb⟩;have hbl := HLW.out.one.below.trans (hb.mono HLW.out.one.below.size);go_wp2;go_ret;exact ⟨rfl, hbl⟩
  · obtain ⟨-, hsmo, -, -, -, -, hsame, -, -⟩ := q38 hck hst
    obtain ⟨p1, p2, hq, hst2⟩ := j1i hck hK13;obtain ⟨-, hsmp, -, -, -, -, hsamep, -, -⟩ := q38 (z3p hck hK13) hst2;obtain ⟨-, ⟨hl13, -⟩, hra⟩ := q26 hck;have hpv0 : 0 ≤ pv := HL.out.2.2.2.2 ▸ z9g hra;have hKt : K < tn := by rw [← HTN.out, hl13]; exact hK13
    have HPL : Hid (((∀ x, a.code[pv.toNat]? = some x → x.op ≠ (K : Int)) → p1 = o1 ∧ p2 = o2) ∧ (∀ x, a.code[pv.toNat]? = some x → x.op = (K : Int) → p2 ≠ 0 ∧ p1 = a ∧ (o2 = p2 ∨ o2 = 0 ∨ o2 = 2 ∨ (o2 = 3 ∧ p2 = 2)))) := by
      refine η ⟨fun h => ?_, fun x hx he => ?_⟩
      · have h1 := z91 (up := up) (bot := (bottomR names up : Nat)) (l := lt) (s := a) (k := K) (fun x hx => ⟨(z9d hra hx).1, h x (by rw [← HL.out.2.2.2.2]; exact hx)⟩)
        rw [hst, hst2] at h1;injection h1 with h1 h2;exact ⟨h1, h2⟩
      · have h1 := j1r (up := up) (bot := (bottomR names up : Nat)) (l := lt) (s := a) (k := K) (x := x) (by rw [HL.out.2.2.2.2]; exact hx) he (by rw [hl13]; exact hK13)
        rw [hst, hst2] at h1;exact h1
    have HO2 : Hid (∀ (g cap : Nat) W, Law10 w (.slice A1 k1 c1) (.slice A2 k2 c2) names up (.slice T1 tn t1) lt #[.int .i64 pv, .int .i64 pl, .slice cA cN cc, .slice mA mN mc, .slice sA sN sc, .slice oA oN oc] W → RowsIn W W.heap.size (some ⟨g, 0, none⟩) (lt.set K newR) → Calls Tryz.prog 11 #[.agg #[.slice A1 k1 c1, .slice A2 k2 c2], .agg #[.slice (some ⟨g, 0, none⟩) tn cap], .agg #[.int .i64 pv, .int .i64 pl, .slice cA cN cc, .slice mA mN mc, .slice sA sN sc, .slice oA oN oc]] W (Oned (p1, p2, 0) W)) := η (fun g cap W hW hr => by
      have h := q4t (l := lt.set K newR) (RA := some ⟨g, 0, none⟩) cap W (HI.out.below hW.one.below HI.out.lt) (Nat.lt_of_lt_of_le HI.out.lt hW.one.below.size) hW.one.la (HIA.out W hW.one.below) HSM.out hr (z7n HSL.out K);rw [hq, List.length_set, HTN.out] at h
      exact h)
    have hp3 : p2 ≠ 0 → p2 ≤ 3 := fun h => (hsamep h).2
    have ho3 : o2 ≤ 3 := by by_cases h : o2 = 0; · omega
                            · exact (hsame h).2
    clear ho hck hst hst2 hq hra hsame hsamep;go_wp2_with (fail);refine HO1.out.mono ?_;rintro e w4 hx;obtain ⟨D1, m1, d1, D2, m2, d2, D3, m3, d3, D4, m4, d4, rfl, hm1, hm2, hm3, hm4, hd1, hd2, hd3, hd4, hr1, hr4, his, hb⟩ := hx.told;dsimp only at hm1 hm2 hm3 hm4 hr1 hr4 his ⊢;have hal := (Below.refl _ w4).alloc (Nat.le_refl _) (.cells #[.int .i64 o1.pc.v, .int .i64 o1.pc.l, .slice D1 m1 d1, .slice D2 m2 d2, .slice D3 m3 d3, .slice D4 m4 d4] 35);have hbx := Blk.new w4 35 #[.int .i64 o1.pc.v, .int .i64 o1.pc.l, .slice D1 m1 d1, .slice D2 m2 d2, .slice D3 m3 d3, .slice D4 m4 d4];have hb2 := hb.alloc hb.size (.cells #[.int .i64 o1.pc.v, .int .i64 o1.pc.l, .slice D1 m1 d1, .slice D2 m2 d2, .slice D3 m3 d3, .slice D4 m4 d4] 35);have his2 := (his.below hal).more hal.size;have hr1b := (hr1.below hal).more hal.size;have hr4b := (hr4.below hal).more hal.size;clear l0 l1 t0 b0 b1 b2 b3 b4 b5;obtain ⟨W4, hW4⟩ : ∃ W4, w4.alloc (.cells #[.int .i64 o1.pc.v, .int .i64 o1.pc.l, .slice D1 m1 d1, .slice D2 m2 d2, .slice D3 m3 d3, .slice D4 m4 d4] 35) = W4 := ⟨_, rfl⟩;rw [hW4] at hal hbx hb2 his2 hr1b hr4b;have hlw := HLW.out.next hb2;clear HLW;have HLW := η hlw;clear hlw;have HX := η hbx;have HIS := η his2;have HR1 := η hr1b;have HR4 := η hr4b;have hxl := hbx.lt;clear hb his hal hbx hb2 his2 hr1 hr4 hr1b hr4b;obtain ⟨l0, l1⟩ := ζ2 HLW.out.one.a;have t0 : W4.cell? ⟨w.heap.size + 1, 0, none⟩ = some (.slice T1 tn t1) := HLW.out.tb.cell 0;obtain ⟨b0, b1, b2, b3, b4, b5⟩ := ζ6 HLW.out.st;obtain ⟨x0, x1, x2, x3, x4, x5⟩ := ζ6 HX.out;clear HR1 HR4;obtain ⟨Aq, dq, heq, hrq, -⟩ := HLW.out.ta;injection heq with he1 he2 he3;subst he1 he3;clear he2;obtain ⟨ad, vs, hT1, hvl, hvr, hvo, hv3⟩ := hrq.cells3 (by omega);rw [hT1] at hvr;rw [HTN.out] at hvl;have hcl := q97 t1 tn vs W4 hvr hvl hvo (by have := HTN.out; have := HTN.out ▸ hl13; omega);rw [← hT1] at hcl;have HCL := η hcl;clear hcl hT1;have HV3 := η hv3;have HVL := η hvl;clear hrq hvr hvo hv3 hvl;go_wp2_with (fail);refine HCL.out.mono ?_;rintro e w5 ⟨v5, rfl, hown, hb⟩;obtain ⟨g, cap, cur, rfl, hgB, hcap, hbk, hcur⟩ := j1m hown (by omega);have hg5 := hbk.lt;obtain ⟨W5, hW5⟩ : ∃ W5, w5.alloc (.cells #[.slice (some ⟨g, 0, none⟩) tn cap] 28) = W5 := ⟨_, rfl⟩;obtain ⟨Wa, hWa⟩ : ∃ Wa, W5.alloc (.cells #[.int .i64 2] 3) = Wa := ⟨_, rfl⟩;obtain ⟨Wb, hWb⟩ : ∃ Wb, Wa.alloc (.cells #[.int .i64 7] 3) = Wb := ⟨_, rfl⟩;obtain ⟨Wc, hWc⟩ : ∃ Wc, Wb.alloc (.cells #[.int .i64 7] 3) = Wc := ⟨_, rfl⟩;have hB5 : Below W4.heap.size W4 W5 := hW5 ▸ hb.alloc hb.size _;have hBa : Below W4.heap.size W4 Wa := hWa ▸ hB5.alloc hB5.size _;have hBb : Below W4.heap.size W4 Wb := hWb ▸ hBa.alloc hBa.size _;have hBc : Below W4.heap.size W4 Wc := hWc ▸ hBb.alloc hBb.size _;have ht5 : Blk W5 w5.heap.size 28 #[.slice (some ⟨g, 0, none⟩) tn cap] := hW5 ▸ Blk.new _ _ _;have hk5 : Blk W5 g 55 cur := hW5 ▸ hbk.alloc _;have ha1 : Blk Wa W5.heap.size 3 #[.int .i64 2] := hWa ▸ Blk.new _ _ _;have hta : Blk Wa w5.heap.size 28 #[.slice (some ⟨g, 0, none⟩) tn cap] := hWa ▸ ht5.alloc _;have hka : Blk Wa g 55 cur := hWa ▸ hk5.alloc _;have ha2 : Blk Wb W5.heap.size 3 #[.int .i64 2] := hWb ▸ ha1.alloc _;have hb1 : Blk Wb Wa.heap.size 3 #[.int .i64 7] := hWb ▸ Blk.new _ _ _;have htb : Blk Wb w5.heap.size 28 #[.slice (some ⟨g, 0, none⟩) tn cap] := hWb ▸ hta.alloc _;have hkb : Blk Wb g 55 cur := hWb ▸ hka.alloc _;have ha3 : Blk Wc W5.heap.size 3 #[.int .i64 2] := hWc ▸ ha2.alloc _;have hb2 : Blk Wc Wa.heap.size 3 #[.int .i64 7] := hWc ▸ hb1.alloc _;have hc1 : Blk Wc Wb.heap.size 3 #[.int .i64 7] := hWc ▸ Blk.new _ _ _;have htc : Blk Wc w5.heap.size 28 #[.slice (some ⟨g, 0, none⟩) tn cap] := hWc ▸ htb.alloc _;have hkc : Blk Wc g 55 cur := hWc ▸ hkb.alloc _;have hs5 : W5.heap.size = w5.heap.size + 1 := by rw [← hW5]; simp
    have hsa : Wa.heap.size = W5.heap.size + 1 := by rw [← hWa]; simp
    have hsb : Wb.heap.size = Wa.heap.size + 1 := by rw [← hWb]; simp
    obtain ⟨W7, hW7⟩ : ∃ W7, ((Wc.setCell ⟨g, K * 3, none⟩ (.slice (some ⟨W5.heap.size, 0, none⟩) 1 1)).setCell ⟨g, K * 3 + 1, none⟩ (.slice (some ⟨Wa.heap.size, 0, none⟩) 1 1)).setCell ⟨g, K * 3 + 2, none⟩ (.slice (some ⟨Wb.heap.size, 0, none⟩) 1 1) = W7 := ⟨_, rfl⟩;have hB7 : Below W4.heap.size W4 W7 := hW7 ▸ (((hBc.setCell (p := ⟨g, K * 3, none⟩) hgB _).setCell (p := ⟨g, K * 3 + 1, none⟩) hgB _).setCell (p := ⟨g, K * 3 + 2, none⟩) hgB _);have hk7 : Blk W7 g 55 (((cur.setIfInBounds (K * 3) (.slice (some ⟨W5.heap.size, 0, none⟩) 1 1)).setIfInBounds (K * 3 + 1) (.slice (some ⟨Wa.heap.size, 0, none⟩) 1 1)).setIfInBounds (K * 3 + 2) (.slice (some ⟨Wb.heap.size, 0, none⟩) 1 1)) := hW7 ▸ (((hkc.set_ _ _).set_ _ _).set_ _ _);have oth : ∀ (b : Nat) (t : TypeId) (cs : Array Value), b ≠ g → Blk Wc b t cs → Blk W7 b t cs := fun b t cs hn h => hW7 ▸ (((h.other (p := ⟨g, K * 3, none⟩) (fun e => hn e.symm) _).other (p := ⟨g, K * 3 + 1, none⟩) (fun e => hn e.symm) _).other (p := ⟨g, K * 3 + 2, none⟩) (fun e => hn e.symm) _)
    have ha7 := oth _ _ _ (by omega) ha3;have hb7 := oth _ _ _ (by omega) hb2;have hc7 := oth _ _ _ (by omega) hc1;have ht7 := oth _ _ _ (by omega) htc;have hr7 : RowsIn W7 W7.heap.size (some ⟨g, 0, none⟩) (lt.set K newR) := z9w (w := W4) (B := W4.heap.size) (by rw [HTN.out]; exact HVL.out) (by rw [HTN.out]; exact hKt) HV3.out hcur hk7 hB7 hB7.size
      ⟨_, 1, rfl, ha7.row.more ha7.lt, Nat.le_refl _⟩ ⟨_, 1, rfl, hb7.row.more hb7.lt, Nat.le_refl _⟩ ⟨_, 1, rfl, hc7.row.more hc7.lt, Nat.le_refl _⟩
    have z0 : Wc.frozen? ⟨g, K * 3, none⟩ = false := hkc.frozen _;have z1 : (Wc.setCell ⟨g, K * 3, none⟩ (.slice (some ⟨W5.heap.size, 0, none⟩) 1 1)).frozen? ⟨g, K * 3 + 1, none⟩ = false := (hkc.set_ _ _).frozen _;have z2 : ((Wc.setCell ⟨g, K * 3, none⟩ (.slice (some ⟨W5.heap.size, 0, none⟩) 1 1)).setCell ⟨g, K * 3 + 1, none⟩ (.slice (some ⟨Wa.heap.size, 0, none⟩) 1 1)).frozen? ⟨g, K * 3 + 2, none⟩ = false := ((hkc.set_ _ _).set_ _ _).frozen _;have cells_at : ∀ j, j < tn * 3 → ∃ u, cur[j]? = some u := fun j hj => ⟨_, hcur j _ (List.getElem?_eq_getElem (by rw [HVL.out]; exact hj))⟩
    obtain ⟨u0, hu0⟩ := cells_at (K * 3) (by omega);obtain ⟨u1, hu1⟩ := cells_at (K * 3 + 1) (by omega);obtain ⟨u2, hu2⟩ := cells_at (K * 3 + 2) (by omega);have f0 : Wc.cell? ⟨g, K * 3, none⟩ = some u0 := by rw [hkc.cell]; exact hu0
    have f1 : Wc.cell? ⟨g, K * 3 + 1, none⟩ = some u1 := by rw [hkc.cell]; exact hu1
    have f2 : Wc.cell? ⟨g, K * 3 + 2, none⟩ = some u2 := by rw [hkc.cell]; exact hu2
    have w5t : W5.cell? ⟨w5.heap.size, 0, none⟩ = some (.slice (some ⟨g, 0, none⟩) tn cap) := ht5.cell 0;have w7t : W7.cell? ⟨w5.heap.size, 0, none⟩ = some (.slice (some ⟨g, 0, none⟩) tn cap) := ht7.cell 0;have hx7 := HX.out.below hB7 HX.out.lt;have hi7 := (HIS.out.below hB7).more hB7.size;clear hb;clear l0 l1 t0 b0 b1 b2 b3 b4 b5;clear x0 x1 x2 x3 x4 x5;have hlw := HLW.out.next hB7;clear HLW;have HLW := η hlw;clear hlw;clear HX HIS;have HX := η hx7;have HIS := η hi7;have HO3 := η (HO2.out g cap W7 HLW.out hr7);have HS5 := η hs5;clear hx7 hi7 hr7 hB5 hBa hBb hBc hB7 ht5 hk5 ha1 hta hka ha2 hb1 htb hkb ha3 hb2 hc1 htc hkc hs5 hsa hsb hk7 oth ha7 hb7 hc7 ht7 cells_at hu0 hu1 hu2 hbk hown hcur HCL HO2 HO1 HONE HV3 HVL;have hKi : (K : Int) < (tn : Int) := by omega
    have hK0 : (0 : Int) ≤ (K : Int) := by omega
    obtain ⟨l0, l1⟩ := ζ2 HLW.out.one.a;have t0 : W7.cell? ⟨w.heap.size + 1, 0, none⟩ = some (.slice T1 tn t1) := HLW.out.tb.cell 0;obtain ⟨b0, b1, b2, b3, b4, b5⟩ := ζ6 HLW.out.st;obtain ⟨x0, x1, x2, x3, x4, x5⟩ := ζ6 HX.out;go_wp2_with (fail);refine HO3.out.mono ?_;rintro e w8 hx;obtain ⟨E1, r1, e1, E2, r2, e2, E3, r3, e3, E4, r4, e4, rfl, hn1, hn2, hn3, hn4, -, -, -, -, -, -, hjs, hb⟩ := hx.told;dsimp only at hn1 hn2 hn3 hn4 hjs ⊢;clear hn1 hn2 hn3 hn4 hx;have hal := (Below.refl _ w8).alloc (Nat.le_refl _) (.cells #[.int .i64 p1.pc.v, .int .i64 p1.pc.l, .slice E1 r1 e1, .slice E2 r2 e2, .slice E3 r3 e3, .slice E4 r4 e4] 35);have hbx := Blk.new w8 35 #[.int .i64 p1.pc.v, .int .i64 p1.pc.l, .slice E1 r1 e1, .slice E2 r2 e2, .slice E3 r3 e3, .slice E4 r4 e4];have hb2 := hb.alloc hb.size (.cells #[.int .i64 p1.pc.v, .int .i64 p1.pc.l, .slice E1 r1 e1, .slice E2 r2 e2, .slice E3 r3 e3, .slice E4 r4 e4] 35);have hjs2 := (hjs.below hal).more hal.size;obtain ⟨W9, hW9⟩ : ∃ W9, w8.alloc (.cells #[.int .i64 p1.pc.v, .int .i64 p1.pc.l, .slice E1 r1 e1, .slice E2 r2 e2, .slice E3 r3 e3, .slice E4 r4 e4] 35) = W9 := ⟨_, rfl⟩;rw [hW9] at hal hbx hb2 hjs2;have hx9 := HX.out.below hb2 HX.out.lt;have hi9 := (HIS.out.below hb2).more hb2.size;clear l0 l1 t0 b0 b1 b2 b3 b4 b5;clear x0 x1 x2 x3 x4 x5;have hlw := HLW.out.next hb2;clear HLW;have HLW := η hlw;clear hlw;clear HX HIS;have HX := η hx9;have HIS := η hi9;have HY := η hbx;have HYS := η hjs2;have hxl := hx9.lt;have hyl := hbx.lt;clear hx9 hi9 hbx hjs2 hal hb hb2 hjs;have HAC := η (HAL.out W9 HLW.out);obtain ⟨l0, l1⟩ := ζ2 HLW.out.one.a;have t0 : W9.cell? ⟨w.heap.size + 1, 0, none⟩ = some (.slice T1 tn t1) := HLW.out.tb.cell 0;obtain ⟨b0, b1, b2, b3, b4, b5⟩ := ζ6 HLW.out.st;obtain ⟨x0, x1, x2, x3, x4, x5⟩ := ζ6 HX.out;obtain ⟨y0, y1, y2, y3, y4, y5⟩ := ζ6 HY.out;go_wp2_with (fail);refine HAC.out.mono ?_;rintro e w10 ⟨rfl, hb⟩;clear l0 l1 t0 b0 b1 b2 b3 b4 b5;clear x0 x1 x2 x3 x4 x5;clear y0 y1 y2 y3 y4 y5;clear hxl hyl;have hx2 := HX.out.below hb HX.out.lt;have hi2 := (HIS.out.below hb).more hb.size;have hy2 := HY.out.below hb HY.out.lt;have hj2 := (HYS.out.below hb).more hb.size;have hlw := HLW.out.next hb;clear HLW;have HLW := η hlw;clear hlw;clear HX HIS HY HYS;have HX := η hx2;have HIS := η hi2;have HY := η hy2;have HYS := η hj2;have hxl := hx2.lt;have hyl := hy2.lt;clear hb hx2 hi2 hy2 hj2;obtain ⟨l0, l1⟩ := ζ2 HLW.out.one.a;have t0 : w10.cell? ⟨w.heap.size + 1, 0, none⟩ = some (.slice T1 tn t1) := HLW.out.tb.cell 0;obtain ⟨b0, b1, b2, b3, b4, b5⟩ := ζ6 HLW.out.st;obtain ⟨x0, x1, x2, x3, x4, x5⟩ := ζ6 HX.out;obtain ⟨y0, y1, y2, y3, y4, y5⟩ := ζ6 HY.out;clear HAC HAL HO3;by_cases hpc : (cN : Int) ≤ pv
    · have q0 : decide ((cN : Int) ≤ pv) = true := decide_eq_true hpc
      have hpe := HPL.out.1 (fun x hx => by
        have := (List.getElem?_eq_some_iff.1 hx).1;have := HL.out.1
        omega)
      clear HPL;have hsb : sameB o1 p1 = true := by rw [hpe.1]; exact q1s _
      have q1 : ((p2 : Int) == (o2 : Int)) = true := by rw [hpe.2]; simp
      have hsm := q2l w10 HIS.out HYS.out hsmo hsmp;rw [hsb] at hsm;have HSA := η hsm;clear hsm hpe hsb;go_wp2_with (fail);refine HSA.out.mono ?_;rintro e w11 ⟨rfl, hb⟩;have hbl := HLW.out.one.below.trans (hb.mono HLW.out.one.below.size);go_wp2;go_ret;exact ⟨rfl, hbl⟩
    · have q0 : decide ((cN : Int) ≤ pv) = false := decide_eq_false hpc
      have hlt : pv < (cN : Int) := by omega
      obtain ⟨kp, rfl⟩ : ∃ kp : Nat, pv = (kp : Int) := ⟨pv.toNat, by omega⟩;have hkl : kp < a.code.length := by rw [HL.out.1]; omega
      obtain ⟨ca, x, rfl, hcb, hx, c0, c1, c2⟩ := q17 (HRC.out.below HLW.out.one.below) hkl;clear c1 c2 hkl;rw [Int.toNat_natCast] at HPL;by_cases he : x.op = (K : Int)
      · have q2 : (x.op != (K : Int)) = false := by rw [he]; simp
        obtain ⟨h1, h2, h3⟩ := HPL.out.2 x hx he;have hsb : sameB p1 a = true := by rw [h2]; exact q1s _
        have hsm := q2l w10 HYS.out (HIA.out w10 HLW.out.one.below) hsmp HSM.out;rw [hsb] at hsm;have HSA := η hsm;have hp33 := hp3 h1;clear hsm HPL hsb h2 hp3 hx;have hpp : p2 = 1 ∨ p2 = 2 ∨ p2 = 3 := by omega
        have hoo : o2 = 0 ∨ o2 = 1 ∨ o2 = 2 ∨ o2 = 3 := by omega
        rcases hpp with rfl | rfl | rfl <;> rcases hoo with rfl | rfl | rfl | rfl <;> first
          | (exfalso; omega)
          | (clear h1 h3 hp33 ho3
             go_wp2_with (fail);refine HSA.out.mono ?_;rintro e w11 ⟨rfl, hb⟩;have hbl := HLW.out.one.below.trans (hb.mono HLW.out.one.below.size);go_wp2;go_ret
             exact ⟨rfl, hbl⟩)
      · have q2 : (x.op != (K : Int)) = true := by rw [bne_iff_ne]; exact he
        have hpe := HPL.out.1 (fun y hy => by rw [hx] at hy; injection hy with hy; rw [← hy]; exact he);clear HPL;have hsb : sameB o1 p1 = true := by rw [hpe.1]; exact q1s _
        have q1 : ((p2 : Int) == (o2 : Int)) = true := by rw [hpe.2]; simp
        have hsm := q2l w10 HIS.out HYS.out hsmo hsmp;rw [hsb] at hsm;have HSA := η hsm;clear hsm hpe hsb;go_wp2_with (fail);refine HSA.out.mono ?_;rintro e w11 ⟨rfl, hb⟩;have hbl := HLW.out.one.below.trans (hb.mono HLW.out.one.below.size);go_wp2;go_ret;exact ⟨rfl, hbl⟩
end Go.Proofs.YtjobifclmcdjcaaGreatDoor
