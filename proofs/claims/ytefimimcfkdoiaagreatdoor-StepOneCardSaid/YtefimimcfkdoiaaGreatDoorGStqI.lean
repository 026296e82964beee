import Derived.Test.YtefimimcfkdoiaaGreatDoorGStqH
import Derived.Test.YtefimimcfkdoiaaGreatDoorGStpW
import Derived.Test.YtefimimcfkdoiaaGreatDoorGCodE
set_option maxHeartbeats 64000000
set_option maxRecDepth 100000
namespace Go.Proofs.YtefimimcfkdoiaaGreatDoor
open Go.RowKit Go.Shelf Go.Sort
attribute [local go_sem] Oper.semAt_some
theorem fewT_fits10 (l:List Tb.PR):∀ x ∈ fewT l,Fits x:=fun x hx=>by
 obtain ⟨y,_,rfl⟩:=List.mem_map.1 hx
 exact ⟨by simp [cutR6]; omega,by simp [cutR6]; omega,by simp [cutR6]; omega⟩
theorem rMay10_v {v tv:Value} {names:List ByteArray} {up:List Nat} {s:St.State} {RA:Option Addr} {l:List Tb.PR} (rc:Nat) (w:World) (h:IsLat w w.heap.size v names up) (hs:IsSt w w.heap.size tv s) (hsm:SmallS s) (hr:RowsIn w w.heap.size RA l) (hf:∀ x ∈ l,Fits x) :
  Calls Tryz.prog 10 #[v,.agg #[.slice RA l.length rc],tv] w fun e w'=>e=.returned (.int .i64 (chk10 names up l s:Nat))∧Below w.heap.size w w':=by
 obtain ⟨⟨N,U,c1,c2,rfl,hN,hU⟩,-⟩:=id h
 obtain ⟨_,_,_,_,_,_,_,_,_,_,_,_,_,_,rfl,ho⟩:=isSt_op10 hs
 exact rMay10_any rc w h ho hsm hr hf
theorem rStep10_v {v tv:Value} {names:List ByteArray} {up:List Nat} {s:St.State} {RA:Option Addr} {l:List Tb.PR} (rc:Nat) (w:World) (h:IsLat w w.heap.size v names up) (hs:IsSt w w.heap.size tv s) (hr:RowsIn w w.heap.size RA l) (hck:chk10 names up l s=0) :
  Calls Tryz.prog 13 #[v,.agg #[.slice RA l.length rc],tv] w (ToldO10 w (Sp.step up.length ((bottomR names up:Nat):Int) (rwT up l) s)):=by
 obtain ⟨⟨N,U,c1,c2,rfl,hN,hU⟩,-⟩:=id h
 obtain ⟨pv,_,_,_,_,_,_,_,_,_,_,_,_,_,rfl,ho⟩:=isSt_op10 hs
 obtain ⟨p,hp⟩:∃ p:Nat,pv=(p:Int):=⟨pv.toNat,by
  have:=(Sp.right_len (chk_zero hck).2.2).2.2.2.2.1
  rw [ho.pv] at this
  omega⟩
 subst hp
 exact rStep10_any rc p w h ho hr hck
theorem zero_small10:SmallS St.zero:=⟨by decide,by decide,by decide,by decide⟩
theorem stepOne_any {A A' TA:Option Addr} {n1:List ByteArray} {u1:List Nat} {l:List Tb.PR} {s0:St.State} {cA mA sA oA:Option Addr} {cc mc sc oc:Nat} (c c' tc:Nat) (w:World) (hi:Ins w) (hN:Row w w.heap.size A (strs n1)) (hU:Ups w w.heap.size A' u1) (hT:RowsIn w w.heap.size TA l) (hst:StIn w w.heap.size s0 cA cc mA mc sA sc oA oc) (hc:n1.length≤c) (hc':u1.length≤c') (hm:c≤maxLen) (hm':c'≤maxLen) (hs:∀ s ∈ n1,s.size≤maxLen) (htc:l.length≤tc) (htm:tc≤maxLen) :
  Calls Tryz.prog 3 #[.agg #[.slice A n1.length c,.slice A' u1.length c'],.agg #[.slice TA l.length tc],incv s0 cA cc mA mc sA sc oA oc] w (Tells w true):=by
 have hfa:=fun W (hW:Below w.heap.size w W)=>few_any w.heap.size c c' W hW.size (hN.below hW) (hU.below hW) hc hc' hm hm' hs
 have hft:=fun W (hW:Below w.heap.size w W)=>rows10_keep w.heap.size tc W hW.size (hT.below hW) htc htm
 have hcut:=fun W=>scut_any10 W hst
 have his:=fun W (hb:Below w.heap.size w W)=>((hst.cut.below hb).more hb.size).isSt
 have HSM:=η (cutS_small s0)
 have hl1:(cutS s0).code.length=min 15 s0.code.length:=by unfold cutS; simp
 have hl2:(cutS s0).mem.length=min 15 s0.mem.length:=by unfold cutS; simp
 have hl3:(cutS s0).stack.length=min 15 s0.stack.length:=by unfold cutS; simp
 have hl4:(cutS s0).out.length=min 15 s0.out.length:=by unfold cutS; simp
 have hp1:(cutS s0).pc=s0.pc:=rfl
 rw [incv_cut] at his hcut
 obtain ⟨a,ha⟩:∃ a,cutS s0=a:=⟨_,rfl⟩
 obtain ⟨lt,hlt⟩:∃ lt,fewT l=lt:=⟨_,rfl⟩
 rw [ha] at his HSM hl1 hl2 hl3 hl4 hp1
 unfold Cut10 at hft
 rw [hlt] at hft
 have hsml:∀ x ∈ lt,Small x:=by rw [← hlt]; exact fewT_small l
 have HFI:=η (show ∀ x ∈ lt,Fits x by rw [← hlt]; exact fewT_fits10 l)
 unfold incv at hcut ⊢
 have hrc:Row w w.heap.size cA (icells a.code):=by rw [← ha]; exact hst.cut.rc.1
 have hro:Row w w.heap.size oA (fcells avs a.out):=by rw [← ha]; exact hst.cut.ro.1
 have hpv:a.pc.v=s0.pc.v:=by rw [hp1]
 have HRC:=η hrc
 have HRO:=η hro
 clear hst ha hlt hp1 hrc hro
 generalize s0.pc.v=pv at *
 generalize s0.pc.l=pl at *
 generalize hcn:min 15 s0.code.length=cN at *
 generalize hmn:min 15 s0.mem.length=mN at *
 generalize hsn:min 15 s0.stack.length=sN at *
 generalize hon:min 15 s0.out.length=oN at *
 generalize s0.code.length=cn at *
 generalize s0.mem.length=mn at *
 generalize s0.stack.length=sn at *
 generalize s0.out.length=on at *
 clear hcn hmn hsn hon
 have hb0:=((((Below.refl _ w).alloc (Nat.le_refl _) (.cells #[.slice A n1.length c,.slice A' u1.length c'] 25)).alloc (by simp) (.cells #[.slice TA l.length tc] 28)).alloc (by simp; omega) (.cells #[.int .i64 pv,.int .i64 pl,.slice cA cn cc,.slice mA mn mc,.slice sA sn sc,.slice oA on oc] 35)).drew
 obtain ⟨W0,hW0⟩:∃ W0,((w.alloc (.cells #[.slice A n1.length c,.slice A' u1.length c'] 25)).alloc (.cells #[.slice TA l.length tc] 28)).alloc (.cells #[.int .i64 pv,.int .i64 pl,.slice cA cn cc,.slice mA mn mc,.slice sA sn sc,.slice oA on oc] 35)=W0:=⟨_,rfl⟩
 have hp0:Blk W0 w.heap.size 25 #[.slice A n1.length c,.slice A' u1.length c']:=hW0 ▸ ((Blk.new _ _ _).alloc _).alloc _
 have ht0:Blk W0 (w.heap.size+1) 28 #[.slice TA l.length tc]:=by
  have h1:=(Blk.new (w.alloc (.cells #[.slice A n1.length c,.slice A' u1.length c'] 25)) 28 #[.slice TA l.length tc]).alloc (.cells #[.int .i64 pv,.int .i64 pl,.slice cA cn cc,.slice mA mn mc,.slice sA sn sc,.slice oA on oc] 35)
  rw [show (w.alloc (.cells #[.slice A n1.length c,.slice A' u1.length c'] 25)).heap.size=w.heap.size+1 by simp] at h1
  rw [← hW0]; exact h1
 have hq0:Blk W0 (w.heap.size+2) 35 #[.int .i64 pv,.int .i64 pl,.slice cA cn cc,.slice mA mn mc,.slice sA sn sc,.slice oA on oc]:=by
  have h1:=Blk.new ((w.alloc (.cells #[.slice A n1.length c,.slice A' u1.length c'] 25)).alloc (.cells #[.slice TA l.length tc] 28)) 35 #[.int .i64 pv,.int .i64 pl,.slice cA cn cc,.slice mA mn mc,.slice sA sn sc,.slice oA on oc]
  rw [show ((w.alloc (.cells #[.slice A n1.length c,.slice A' u1.length c'] 25)).alloc (.cells #[.slice TA l.length tc] 28)).heap.size=w.heap.size+2 by simp] at h1
  rw [← hW0]; exact h1
 have hz0:W0.heap.size=w.heap.size+3:=by rw [← hW0]; simp
 rw [hW0] at hb0
 have HFA:=η hfa
 have HFT:=η hft
 have HCUT:=η hcut
 have HIA:=η his
 have HP:=η hp0
 have HT:=η ht0
 have HQ:=η hq0
 have HB0:=η hb0
 have HZ0:=η hz0
 have HI:=η hi
 have HSL:=η hsml
 have HL:=η (show a.code.length=cN∧a.mem.length=mN∧a.stack.length=sN∧a.out.length=oN∧a.pc.v=pv from ⟨hl1,hl2,hl3,hl4,hpv⟩)
 obtain ⟨l0,l1⟩:=ζ2 hp0
 have t0:W0.cell? ⟨w.heap.size+1,0,none⟩=some (.slice TA l.length tc):=ht0.cell 0
 obtain ⟨b0,b1,b2,b3,b4,b5⟩:=ζ6 hq0
 clear hfa hft hcut his hb0 hp0 hq0 ht0 hz0 hN hU hT hc hc' hm hm' hs htc htm hi hsml hl1 hl2 hl3 hl4 hpv
 go_enter Tryz.func3,Tryz.ntmps3
 go_wp2_with (fail)
 refine Free.region_seq [1,3,5,6,7,8] [0,2,4] 5 (fun W'=>W'.cell? ⟨w.heap.size,0,none⟩=some (.slice A n1.length c)∧W'.cell? ⟨w.heap.size,1,none⟩=some (.slice A' u1.length c')∧W'.cell? ⟨w.heap.size+1,0,none⟩=some (.slice TA l.length tc)∧W'.cell? ⟨w.heap.size+2,0,none⟩=some (.int .i64 pv)∧W'.cell? ⟨w.heap.size+2,1,none⟩=some (.int .i64 pl)∧W'.cell? ⟨w.heap.size+2,2,none⟩=some (.slice cA cn cc)∧W'.cell? ⟨w.heap.size+2,3,none⟩=some (.slice mA mn mc)∧W'.cell? ⟨w.heap.size+2,4,none⟩=some (.slice sA sn sc)∧W'.cell? ⟨w.heap.size+2,5,none⟩=some (.slice oA on oc)) (by kernel_rfl) (by kernel_rfl) (by kernel_rfl) (by kernel_rfl) (⟨l0,l1,t0,b0,b1,b2,b3,b4,b5⟩) (fun ops hops=>?_)
 clear hops
 iterate 1
  refine Free.Seq.quiet (v:=?_) (a':=?_) rfl rfl (fun W' hW'=>?_) ?_ ?_
  rotate_left 2
  ·first | obtain ⟨q0,q1,q2,q3,q4,q5,q6,q7,q8⟩:=hW' rfl | skip
   go_simp
   try with_reducible rfl
  ·simp only [Act.put,List.setIfInBounds_toArray,List.set_cons_zero,List.set_cons_succ]
   try with_reducible rfl
 refine Free.Seq.loud_ rfl (.inl rfl) (fun K hK=>?_)
 go_simp
 refine (HFA.out _ HB0.out).mono ?_
 rintro e w1 ⟨v,names,up,rfl,hlw,hb1⟩
 have hlat:∀ W2,Keeps w.heap.size (w.heap.size+3) w1 W2→IsLat W2 W2.heap.size v names up:=fun W2 k=>hlw W2 (k.mono_ (by show w.heap.size+3≤W0.heap.size; rw [HZ0.out]; exact Nat.le_refl _))
 obtain ⟨A1,k1,c1,A2,k2,c2,rfl⟩:=lat_two (hlat w1 ⟨Nat.le_refl _,fun _ _ _=>rfl⟩)
 have hp1:=(HP.out.drew).below hb1 HP.out.lt
 have ht1:=(HT.out.drew).below hb1 HT.out.lt
 have hq1:=(HQ.out.drew).below hb1 HQ.out.lt
 have HB1:=η (HB0.out.trans (hb1.mono HB0.out.size))
 have HLAT:=η hlat
 have HP1:=η hp1
 have HT1:=η ht1
 have HQ1:=η hq1
 refine hK.out _ _ rfl (fun _=>⟨HP1.out.cell 0,HP1.out.cell 1,HT1.out.cell 0,HQ1.out.cell 0,HQ1.out.cell 1,HQ1.out.cell 2,HQ1.out.cell 3,HQ1.out.cell 4,HQ1.out.cell 5⟩) ?_
 clear hK K hb1 hlw hp1 hq1 ht1 hlat
 iterate 1
  refine Free.Seq.quiet (v:=?_) (a':=?_) rfl rfl (fun W' hW'=>?_) ?_ ?_
  rotate_left 2
  ·first | obtain ⟨q0,q1,q2,q3,q4,q5,q6,q7,q8⟩:=hW' rfl | skip
   go_simp
   try with_reducible rfl
  ·simp only [Act.put,List.setIfInBounds_toArray,List.set_cons_zero,List.set_cons_succ]
   try with_reducible rfl
 refine Free.Seq.loud_ rfl (.inl rfl) (fun K hK=>?_)
 go_simp
 refine (HFT.out w1 HB1.out).mono ?_
 rintro e w2 ⟨v2,rfl,htw,hb2⟩
 have htab:∀ W2,Keeps w.heap.size (w.heap.size+3) w2 W2→IsTab W2 W2.heap.size v2 lt:=fun W2 k=>htw W2 (k.mono_ (by have:=HQ1.out.lt; omega))
 obtain ⟨T1,t1,rfl,-,-⟩:=htab w2 ⟨Nat.le_refl _,fun _ _ _=>rfl⟩
 obtain ⟨tn,htn⟩:∃ tn,lt.length=tn:=⟨_,rfl⟩
 rw [htn] at htab
 have HTN:=η htn
 have hp2:=HP1.out.below hb2 HP1.out.lt
 have ht2:=HT1.out.below hb2 HT1.out.lt
 have hq2:=HQ1.out.below hb2 HQ1.out.lt
 have HB2:=η (HB1.out.trans (hb2.mono HB1.out.size))
 have HKB2:Hid (Keeps w.heap.size (w.heap.size+3) w1 w2):=η (Keeps.below hb2)
 have HTAB:=η htab
 have HP2:=η hp2
 have HT2:=η ht2
 have HQ2:=η hq2
 dsimp only
 rw [htn]
 refine hK.out _ _ rfl (fun _=>⟨HP2.out.cell 0,HP2.out.cell 1,HT2.out.cell 0,HQ2.out.cell 0,HQ2.out.cell 1,HQ2.out.cell 2,HQ2.out.cell 3,HQ2.out.cell 4,HQ2.out.cell 5⟩) ?_
 clear hK K hb2 htw hp2 hq2 ht2 htab htn
 iterate 1
  refine Free.Seq.quiet (v:=?_) (a':=?_) rfl rfl (fun W' hW'=>?_) ?_ ?_
  rotate_left 2
  ·first | obtain ⟨q0,q1,q2,q3,q4,q5,q6,q7,q8⟩:=hW' rfl | skip
   go_simp
   try with_reducible rfl
  ·simp only [Act.put,List.setIfInBounds_toArray,List.set_cons_zero,List.set_cons_succ]
   try with_reducible rfl
 refine Free.Seq.loud_ rfl (.inl rfl) (fun K hK=>?_)
 go_simp
 refine (HCUT.out w2).mono ?_
 rintro e w3 ⟨rfl,hb3⟩
 have hp3:=HP2.out.below hb3 HP2.out.lt
 have ht3:=HT2.out.below hb3 HT2.out.lt
 have hq3:=HQ2.out.below hb3 HQ2.out.lt
 have HB3:=η (HB2.out.trans (hb3.mono HB2.out.size))
 have hkt:Keeps w.heap.size (w.heap.size+3) w2 w3:=Keeps.below hb3
 have hkb:Keeps w.heap.size (w.heap.size+3) w1 w3:=HKB2.out.trans_ hkt
 have i0:=hp3.cell 0
 have f0:=hp3.frozen 0
 have i1:=hp3.cell 1
 have f1:=hp3.frozen 1
 have h0:=ht3.cell 0
 have e0:=ht3.frozen 0
 have j0:=hq3.cell 0
 have g0:=hq3.frozen 0
 have j1:=hq3.cell 1
 have g1:=hq3.frozen 1
 have j2:=hq3.cell 2
 have g2:=hq3.frozen 2
 have j3:=hq3.cell 3
 have g3:=hq3.frozen 3
 have j4:=hq3.cell 4
 have g4:=hq3.frozen 4
 have j5:=hq3.cell 5
 have g5:=hq3.frozen 5
 refine hK.out _ _ rfl (fun h=>absurd h (by decide)) ?_
 clear hK K
 refine Free.Seq.loud_ rfl (.inl rfl) (fun K hK=>?_)
 go_simp
 refine hK.out _ _ rfl (fun h=>absurd h (by decide)) ?_
 clear hK K
 refine Free.Seq.loud_ rfl (.inl rfl) (fun K hK=>?_)
 go_simp
 refine hK.out _ _ rfl (fun h=>absurd h (by decide)) ?_
 clear hK K
 refine Free.Seq.loud_ rfl (.inl rfl) (fun K hK=>?_)
 go_simp
 refine hK.out _ _ rfl (fun h=>absurd h (by decide)) ?_
 clear hK K
 refine Free.Seq.nil_ ?_
 obtain ⟨W3,hW3⟩:∃ W3,(((((((((w3.setCell ⟨w.heap.size,0,none⟩ (.slice A1 k1 c1)).setCell ⟨w.heap.size,1,none⟩ (.slice A2 k2 c2)).setCell ⟨w.heap.size+1,0,none⟩ (.slice T1 tn t1)).setCell ⟨w.heap.size+2,0,none⟩ (.int .i64 pv)).setCell ⟨w.heap.size+2,1,none⟩ (.int .i64 pl)).setCell ⟨w.heap.size+2,2,none⟩ (.slice cA cN cc)).setCell ⟨w.heap.size+2,3,none⟩ (.slice mA mN mc)).setCell ⟨w.heap.size+2,4,none⟩ (.slice sA sN sc)).setCell ⟨w.heap.size+2,5,none⟩ (.slice oA oN oc))=W3:=⟨_,rfl⟩
 have hlw:Law10 w (.slice A1 k1 c1) (.slice A2 k2 c2) names up (.slice T1 tn t1) lt #[.int .i64 pv,.int .i64 pl,.slice cA cN cc,.slice mA mN mc,.slice sA sN sc,.slice oA oN oc] W3:=by
  rw [← hW3]
  exact ⟨⟨(((((((((hp3).set_ 0 _).set_ 1 _).other (by show w.heap.size+1≠w.heap.size; omega) _).other (by show w.heap.size+2≠w.heap.size; omega) _).other (by show w.heap.size+2≠w.heap.size; omega) _).other (by show w.heap.size+2≠w.heap.size; omega) _).other (by show w.heap.size+2≠w.heap.size; omega) _).other (by show w.heap.size+2≠w.heap.size; omega) _).other (by show w.heap.size+2≠w.heap.size; omega) _,HLAT.out _ ((((((((((hkb).trans_ (Keeps.set_ (p:=⟨w.heap.size,0,none⟩) (by show w.heap.size≤w.heap.size; omega) (by show w.heap.size < w.heap.size+3; omega))).trans_ (Keeps.set_ (p:=⟨w.heap.size,1,none⟩) (by show w.heap.size≤w.heap.size; omega) (by show w.heap.size < w.heap.size+3; omega))).trans_ (Keeps.set_ (p:=⟨w.heap.size+1,0,none⟩) (by show w.heap.size≤w.heap.size+1; omega) (by show w.heap.size+1 < w.heap.size+3; omega))).trans_ (Keeps.set_ (p:=⟨w.heap.size+2,0,none⟩) (by show w.heap.size≤w.heap.size+2; omega) (by show w.heap.size+2 < w.heap.size+3; omega))).trans_ (Keeps.set_ (p:=⟨w.heap.size+2,1,none⟩) (by show w.heap.size≤w.heap.size+2; omega) (by show w.heap.size+2 < w.heap.size+3; omega))).trans_ (Keeps.set_ (p:=⟨w.heap.size+2,2,none⟩) (by show w.heap.size≤w.heap.size+2; omega) (by show w.heap.size+2 < w.heap.size+3; omega))).trans_ (Keeps.set_ (p:=⟨w.heap.size+2,3,none⟩) (by show w.heap.size≤w.heap.size+2; omega) (by show w.heap.size+2 < w.heap.size+3; omega))).trans_ (Keeps.set_ (p:=⟨w.heap.size+2,4,none⟩) (by show w.heap.size≤w.heap.size+2; omega) (by show w.heap.size+2 < w.heap.size+3; omega))).trans_ (Keeps.set_ (p:=⟨w.heap.size+2,5,none⟩) (by show w.heap.size≤w.heap.size+2; omega) (by show w.heap.size+2 < w.heap.size+3; omega))),(((((((((HB3.out).setCell (p:=⟨w.heap.size,0,none⟩) (by show w.heap.size≤w.heap.size; omega) _).setCell (p:=⟨w.heap.size,1,none⟩) (by show w.heap.size≤w.heap.size; omega) _).setCell (p:=⟨w.heap.size+1,0,none⟩) (by show w.heap.size≤w.heap.size+1; omega) _).setCell (p:=⟨w.heap.size+2,0,none⟩) (by show w.heap.size≤w.heap.size+2; omega) _).setCell (p:=⟨w.heap.size+2,1,none⟩) (by show w.heap.size≤w.heap.size+2; omega) _).setCell (p:=⟨w.heap.size+2,2,none⟩) (by show w.heap.size≤w.heap.size+2; omega) _).setCell (p:=⟨w.heap.size+2,3,none⟩) (by show w.heap.size≤w.heap.size+2; omega) _).setCell (p:=⟨w.heap.size+2,4,none⟩) (by show w.heap.size≤w.heap.size+2; omega) _).setCell (p:=⟨w.heap.size+2,5,none⟩) (by show w.heap.size≤w.heap.size+2; omega) _⟩,(((((((((ht3).other (by show w.heap.size≠w.heap.size+1; omega) _).other (by show w.heap.size≠w.heap.size+1; omega) _).set_ 0 _).other (by show w.heap.size+2≠w.heap.size+1; omega) _).other (by show w.heap.size+2≠w.heap.size+1; omega) _).other (by show w.heap.size+2≠w.heap.size+1; omega) _).other (by show w.heap.size+2≠w.heap.size+1; omega) _).other (by show w.heap.size+2≠w.heap.size+1; omega) _).other (by show w.heap.size+2≠w.heap.size+1; omega) _,HTAB.out _ ((((((((((hkt).trans_ (Keeps.set_ (p:=⟨w.heap.size,0,none⟩) (by show w.heap.size≤w.heap.size; omega) (by show w.heap.size < w.heap.size+3; omega))).trans_ (Keeps.set_ (p:=⟨w.heap.size,1,none⟩) (by show w.heap.size≤w.heap.size; omega) (by show w.heap.size < w.heap.size+3; omega))).trans_ (Keeps.set_ (p:=⟨w.heap.size+1,0,none⟩) (by show w.heap.size≤w.heap.size+1; omega) (by show w.heap.size+1 < w.heap.size+3; omega))).trans_ (Keeps.set_ (p:=⟨w.heap.size+2,0,none⟩) (by show w.heap.size≤w.heap.size+2; omega) (by show w.heap.size+2 < w.heap.size+3; omega))).trans_ (Keeps.set_ (p:=⟨w.heap.size+2,1,none⟩) (by show w.heap.size≤w.heap.size+2; omega) (by show w.heap.size+2 < w.heap.size+3; omega))).trans_ (Keeps.set_ (p:=⟨w.heap.size+2,2,none⟩) (by show w.heap.size≤w.heap.size+2; omega) (by show w.heap.size+2 < w.heap.size+3; omega))).trans_ (Keeps.set_ (p:=⟨w.heap.size+2,3,none⟩) (by show w.heap.size≤w.heap.size+2; omega) (by show w.heap.size+2 < w.heap.size+3; omega))).trans_ (Keeps.set_ (p:=⟨w.heap.size+2,4,none⟩) (by show w.heap.size≤w.heap.size+2; omega) (by show w.heap.size+2 < w.heap.size+3; omega))).trans_ (Keeps.set_ (p:=⟨w.heap.size+2,5,none⟩) (by show w.heap.size≤w.heap.size+2; omega) (by show w.heap.size+2 < w.heap.size+3; omega))),(((((((((hq3).other (by show w.heap.size≠w.heap.size+2; omega) _).other (by show w.heap.size≠w.heap.size+2; omega) _).other (by show w.heap.size+1≠w.heap.size+2; omega) _).set_ 0 _).set_ 1 _).set_ 2 _).set_ 3 _).set_ 4 _).set_ 5 _⟩
 rw [hW3]
 have HLW:=η hlw
 clear hW3 hlw hp3 hq3 ht3 hkb hkt HB2 HB1 HB3 HB0 HLAT HTAB HKB2 HP HT HQ HP1 HT1 HQ1 HP2 HT2 HQ2 HFA HFT HCUT HZ0 hb3 l0 l1 t0 b0 b1 b2 b3 b4 b5 i0 i1 f0 f1 h0 e0 j0 j1 j2 j3 j4 j5 g0 g1 g2 g3 g4 g5 hW0
 have HONE:Hid (∀ W,Law10 w (.slice A1 k1 c1) (.slice A2 k2 c2) names up (.slice T1 tn t1) lt #[.int .i64 pv,.int .i64 pl,.slice cA cN cc,.slice mA mN mc,.slice sA sN sc,.slice oA oN oc] W→Calls Tryz.prog 9 #[.agg #[.slice A1 k1 c1,.slice A2 k2 c2],.agg #[.slice T1 tn t1],.agg #[.int .i64 pv,.int .i64 pl,.slice cA cN cc,.slice mA mN mc,.slice sA sN sc,.slice oA oN oc]] W (Oned (oneR names up lt a) W)):=η (fun W hW=>by
  obtain ⟨A,d,he,hr,-⟩:=hW.ta
  injection he with h1 h2 h3
  subst h1 h3
  exact (HTN.out ▸ (one_any (l:=lt) (RA:=T1) t1 W (HI.out.below hW.one.below HI.out.lt) (Nat.lt_of_lt_of_le HI.out.lt hW.one.below.size) hW.one.la (HIA.out W hW.one.below) HSM.out hr HSL.out)))
 have HAL:=η (fun W (hW:Law10 w (.slice A1 k1 c1) (.slice A2 k2 c2) names up (.slice T1 tn t1) lt #[.int .i64 pv,.int .i64 pl,.slice cA cN cc,.slice mA mN mc,.slice sA sN sc,.slice oA oN oc] W)=>alive10_any W (HI.out.below hW.one.below HI.out.lt))
 obtain ⟨l0,l1⟩:=ζ2 HLW.out.one.a
 have t0:W3.cell? ⟨w.heap.size+1,0,none⟩=some (.slice T1 tn t1):=HLW.out.tb.cell 0
 obtain ⟨b0,b1,b2,b3,b4,b5⟩:=ζ6 HLW.out.st
 obtain ⟨⟨o1,o2,o3⟩,ho⟩:∃ r,oneR names up lt a=r:=⟨_,rfl⟩
 have ho1:=HONE.out W3 HLW.out
 rw [ho] at ho1
 have HO1:=η ho1
 clear ho1
 have HMY:Hid (∀ W,Law10 w (.slice A1 k1 c1) (.slice A2 k2 c2) names up (.slice T1 tn t1) lt #[.int .i64 pv,.int .i64 pl,.slice cA cN cc,.slice mA mN mc,.slice sA sN sc,.slice oA oN oc] W→Calls Tryz.prog 10 #[.agg #[.slice A1 k1 c1,.slice A2 k2 c2],.agg #[.slice T1 tn t1],.agg #[.int .i64 pv,.int .i64 pl,.slice cA cN cc,.slice mA mN mc,.slice sA sN sc,.slice oA oN oc]] W (fun e w'=>e=.returned (.int .i64 (chk10 names up lt a:Nat))∧Below W.heap.size W w')):=η (fun W hW=>by
  obtain ⟨A,d,he,hr,-⟩:=hW.ta
  injection he with h1 h2 h3
  subst h1 h3
  exact (HTN.out ▸ rMay10_v (l:=lt) (RA:=T1) t1 W hW.one.la (HIA.out W hW.one.below) HSM.out hr HFI.out))
 rcases one_cases ho with ⟨h3,rfl,rfl,hck⟩ | ⟨rfl,hck,hst⟩
 ·have hc3:chk10 names up lt a=o3:=by
   unfold oneR at ho
   rw [if_neg hck] at ho
   injection ho with _ h
   injection h
  have he3:((o3:Int) != 0)=true:=by rw [bne_iff_ne]; omega
  rw [hc3] at HMY
  clear ho h3 hck hc3
  go_wp2_with (fail)
  refine HO1.out.mono ?_
  rintro e w4 hx
  obtain ⟨D1,m1,d1,D2,m2,d2,D3,m3,d3,D4,m4,d4,rfl,hm1,hm2,hm3,hm4,hd1,hd2,hd3,hd4,hr1,hr4,his,hb⟩:=hx.told
  dsimp only at hm1 hm2 hm3 hm4 hr1 hr4 his ⊢
  simp only [St.zero,List.length_nil] at hm1 hm2 hm3 hm4
  subst hm1 hm2 hm3 hm4
  dsimp only [St.zero] at his hr1 hr4 ⊢
  have hal:=(Below.refl _ w4).alloc (Nat.le_refl _) (.cells #[.int .i64 0,.int .i64 0,.slice D1 0 d1,.slice D2 0 d2,.slice D3 0 d3,.slice D4 0 d4] 35)
  have hbx:=Blk.new w4 35 #[.int .i64 0,.int .i64 0,.slice D1 0 d1,.slice D2 0 d2,.slice D3 0 d3,.slice D4 0 d4]
  have hb2:=hb.alloc hb.size (.cells #[.int .i64 0,.int .i64 0,.slice D1 0 d1,.slice D2 0 d2,.slice D3 0 d3,.slice D4 0 d4] 35)
  have his2:=(his.below hal).more hal.size
  have hr1b:=(hr1.below hal).more hal.size
  have hr4b:=(hr4.below hal).more hal.size
  clear l0 l1 t0 b0 b1 b2 b3 b4 b5
  obtain ⟨W4,hW4⟩:∃ W4,w4.alloc (.cells #[.int .i64 0,.int .i64 0,.slice D1 0 d1,.slice D2 0 d2,.slice D3 0 d3,.slice D4 0 d4] 35)=W4:=⟨_,rfl⟩
  rw [hW4] at hal hbx hb2 his2 hr1b hr4b
  have hlw:=HLW.out.next hb2
  clear HLW
  have HLW:=η hlw
  clear hlw
  have HX:=η hbx
  have HIS:=η his2
  have HR1:=η hr1b
  have HR4:=η hr4b
  have hxl:=hbx.lt
  clear hb his hal hbx hb2 his2 hr1 hr4 hr1b hr4b
  obtain ⟨l0,l1⟩:=ζ2 HLW.out.one.a
  have t0:W4.cell? ⟨w.heap.size+1,0,none⟩=some (.slice T1 tn t1):=HLW.out.tb.cell 0
  obtain ⟨b0,b1,b2,b3,b4,b5⟩:=ζ6 HLW.out.st
  obtain ⟨x0,x1,x2,x3,x4,x5⟩:=ζ6 HX.out
  clear HR1 HR4
  have HMC:=η (HMY.out W4 HLW.out)
  go_wp2_with (fail)
  refine HMC.out.mono ?_
  rintro e w5 ⟨rfl,hb⟩
  clear l0 l1 t0 b0 b1 b2 b3 b4 b5
  clear x0 x1 x2 x3 x4 x5
  have hx2:=HX.out.below hb HX.out.lt
  have hi2:=(HIS.out.below hb).more hb.size
  have hlw:=HLW.out.next hb
  clear HLW
  have HLW:=η hlw
  clear hlw
  clear HX HIS
  have HX:=η hx2
  have HIS:=η hi2
  have hxl:=hx2.lt
  clear hb hx2 hi2
  obtain ⟨l0,l1⟩:=ζ2 HLW.out.one.a
  have t0:w5.cell? ⟨w.heap.size+1,0,none⟩=some (.slice T1 tn t1):=HLW.out.tb.cell 0
  obtain ⟨b0,b1,b2,b3,b4,b5⟩:=ζ6 HLW.out.st
  obtain ⟨x0,x1,x2,x3,x4,x5⟩:=ζ6 HX.out
  have HAC:=η (HAL.out w5 HLW.out)
  clear HMC HMY HONE HO1 HAL
  go_wp2_with (fail)
  refine HAC.out.mono ?_
  rintro e w6 ⟨rfl,hb⟩
  clear l0 l1 t0 b0 b1 b2 b3 b4 b5
  clear x0 x1 x2 x3 x4 x5
  have hx2:=HX.out.below hb HX.out.lt
  have hi2:=(HIS.out.below hb).more hb.size
  have hlw:=HLW.out.next hb
  clear HLW
  have HLW:=η hlw
  clear hlw
  clear HX HIS
  have HX:=η hx2
  have HIS:=η hi2
  have hxl:=hx2.lt
  clear hb hx2 hi2
  obtain ⟨l0,l1⟩:=ζ2 HLW.out.one.a
  have t0:w6.cell? ⟨w.heap.size+1,0,none⟩=some (.slice T1 tn t1):=HLW.out.tb.cell 0
  obtain ⟨b0,b1,b2,b3,b4,b5⟩:=ζ6 HLW.out.st
  obtain ⟨x0,x1,x2,x3,x4,x5⟩:=ζ6 HX.out
  have hsm:=rSame9_any (s:=St.zero) (t:=St.zero) w6 HIS.out (IsSt.zero w6 w6.heap.size) zero_small10 zero_small10
  rw [sameB_refl10] at hsm
  unfold zstv at hsm
  have HSA:=η hsm
  clear hsm HAC
  go_wp2_with (fail)
  refine HSA.out.mono ?_
  rintro e w7 ⟨rfl,hb⟩
  have hbl:=HLW.out.one.below.trans (hb.mono HLW.out.one.below.size)
  go_wp2
  go_ret
  exact ⟨rfl,hbl⟩
 ·obtain ⟨-,hsmo,-⟩:=one_stays hck hst
  have HST:Hid (∀ W,Law10 w (.slice A1 k1 c1) (.slice A2 k2 c2) names up (.slice T1 tn t1) lt #[.int .i64 pv,.int .i64 pl,.slice cA cN cc,.slice mA mN mc,.slice sA sN sc,.slice oA oN oc] W→Calls Tryz.prog 13 #[.agg #[.slice A1 k1 c1,.slice A2 k2 c2],.agg #[.slice T1 tn t1],.agg #[.int .i64 pv,.int .i64 pl,.slice cA cN cc,.slice mA mN mc,.slice sA sN sc,.slice oA oN oc]] W (ToldO10 W (o1,o2))):=η (fun W hW=>by
   obtain ⟨A,d,he,hr,-⟩:=hW.ta
   injection he with h1 h2 h3
   subst h1 h3
   exact (HTN.out ▸ hst ▸ rStep10_v (l:=lt) (RA:=T1) t1 W hW.one.la (HIA.out W hW.one.below) hr hck))
  rw [hck] at HMY
  have HSMO:=η hsmo
  clear ho hck hst hsmo
  go_wp2_with (fail)
  refine HO1.out.mono ?_
  rintro e w4 hx
  obtain ⟨D1,m1,d1,D2,m2,d2,D3,m3,d3,D4,m4,d4,rfl,hm1,hm2,hm3,hm4,hd1,hd2,hd3,hd4,hr1,hr4,his,hb⟩:=hx.told
  dsimp only at hm1 hm2 hm3 hm4 hr1 hr4 his ⊢
  have hal:=(Below.refl _ w4).alloc (Nat.le_refl _) (.cells #[.int .i64 o1.pc.v,.int .i64 o1.pc.l,.slice D1 m1 d1,.slice D2 m2 d2,.slice D3 m3 d3,.slice D4 m4 d4] 35)
  have hbx:=Blk.new w4 35 #[.int .i64 o1.pc.v,.int .i64 o1.pc.l,.slice D1 m1 d1,.slice D2 m2 d2,.slice D3 m3 d3,.slice D4 m4 d4]
  have hb2:=hb.alloc hb.size (.cells #[.int .i64 o1.pc.v,.int .i64 o1.pc.l,.slice D1 m1 d1,.slice D2 m2 d2,.slice D3 m3 d3,.slice D4 m4 d4] 35)
  have his2:=(his.below hal).more hal.size
  have hr1b:=(hr1.below hal).more hal.size
  have hr4b:=(hr4.below hal).more hal.size
  clear l0 l1 t0 b0 b1 b2 b3 b4 b5
  obtain ⟨W4,hW4⟩:∃ W4,w4.alloc (.cells #[.int .i64 o1.pc.v,.int .i64 o1.pc.l,.slice D1 m1 d1,.slice D2 m2 d2,.slice D3 m3 d3,.slice D4 m4 d4] 35)=W4:=⟨_,rfl⟩
  rw [hW4] at hal hbx hb2 his2 hr1b hr4b
  have hlw:=HLW.out.next hb2
  clear HLW
  have HLW:=η hlw
  clear hlw
  have HX:=η hbx
  have HIS:=η his2
  have HR1:=η hr1b
  have HR4:=η hr4b
  have hxl:=hbx.lt
  clear hb his hal hbx hb2 his2 hr1 hr4 hr1b hr4b
  obtain ⟨l0,l1⟩:=ζ2 HLW.out.one.a
  have t0:W4.cell? ⟨w.heap.size+1,0,none⟩=some (.slice T1 tn t1):=HLW.out.tb.cell 0
  obtain ⟨b0,b1,b2,b3,b4,b5⟩:=ζ6 HLW.out.st
  obtain ⟨x0,x1,x2,x3,x4,x5⟩:=ζ6 HX.out
  clear HR1 HR4
  have HMC:=η (HMY.out W4 HLW.out)
  go_wp2_with (fail)
  refine HMC.out.mono ?_
  rintro e w5 ⟨rfl,hb⟩
  clear l0 l1 t0 b0 b1 b2 b3 b4 b5
  clear x0 x1 x2 x3 x4 x5
  have hx2:=HX.out.below hb HX.out.lt
  have hi2:=(HIS.out.below hb).more hb.size
  have hlw:=HLW.out.next hb
  clear HLW
  have HLW:=η hlw
  clear hlw
  clear HX HIS
  have HX:=η hx2
  have HIS:=η hi2
  have hxl:=hx2.lt
  clear hb hx2 hi2
  obtain ⟨l0,l1⟩:=ζ2 HLW.out.one.a
  have t0:w5.cell? ⟨w.heap.size+1,0,none⟩=some (.slice T1 tn t1):=HLW.out.tb.cell 0
  obtain ⟨b0,b1,b2,b3,b4,b5⟩:=ζ6 HLW.out.st
  obtain ⟨x0,x1,x2,x3,x4,x5⟩:=ζ6 HX.out
  have HSC:=η (HST.out w5 HLW.out)
  clear HMC HMY HONE HO1 HST
  go_wp2_with (fail)
  refine HSC.out.mono ?_
  rintro e w6 ⟨ea,eb,E1,r1,e1,E2,r2,e2,E3,r3,e3,E4,r4,e4,rfl,hop,hb⟩
  dsimp only at hop ⊢
  have hos:=hop.isSt
  clear l0 l1 t0 b0 b1 b2 b3 b4 b5
  clear x0 x1 x2 x3 x4 x5
  have hx2:=HX.out.below hb HX.out.lt
  have hi2:=(HIS.out.below hb).more hb.size
  have hlw:=HLW.out.next hb
  clear HLW
  have HLW:=η hlw
  clear hlw
  clear HX HIS
  have HX:=η hx2
  have HIS:=η hi2
  have hxl:=hx2.lt
  clear hb hx2 hi2
  have hb:=(Below.refl _ w6).alloc (Nat.le_refl _) (.cells #[.int .i64 ea,.int .i64 eb,.slice E1 r1 e1,.slice E2 r2 e2,.slice E3 r3 e3,.slice E4 r4 e4,.int .i64 (o2:Int)] 46)
  have hbo:=Blk.new w6 46 #[.int .i64 ea,.int .i64 eb,.slice E1 r1 e1,.slice E2 r2 e2,.slice E3 r3 e3,.slice E4 r4 e4,.int .i64 (o2:Int)]
  have hos2:=(hos.below hb).more hb.size
  obtain ⟨W7,hW7⟩:∃ W7,w6.alloc (.cells #[.int .i64 ea,.int .i64 eb,.slice E1 r1 e1,.slice E2 r2 e2,.slice E3 r3 e3,.slice E4 r4 e4,.int .i64 (o2:Int)] 46)=W7:=⟨_,rfl⟩
  rw [hW7] at hb hbo hos2
  have HO7:=η hbo
  have HOS:=η hos2
  clear hop hos hos2 hbo HSC
  have hx2:=HX.out.below hb HX.out.lt
  have hi2:=(HIS.out.below hb).more hb.size
  have hlw:=HLW.out.next hb
  clear HLW
  have HLW:=η hlw
  clear hlw
  clear HX HIS
  have HX:=η hx2
  have HIS:=η hi2
  have hxl:=hx2.lt
  clear hb hx2 hi2
  obtain ⟨l0,l1⟩:=ζ2 HLW.out.one.a
  have t0:W7.cell? ⟨w.heap.size+1,0,none⟩=some (.slice T1 tn t1):=HLW.out.tb.cell 0
  obtain ⟨b0,b1,b2,b3,b4,b5⟩:=ζ6 HLW.out.st
  obtain ⟨x0,x1,x2,x3,x4,x5⟩:=ζ6 HX.out
  obtain ⟨p0,p1,p2,p3,p4,p5,p6⟩:=ζ7 HO7.out
  have HAC:=η (HAL.out W7 HLW.out)
  go_wp2_with (fail)
  refine HAC.out.mono ?_
  rintro e w8 ⟨rfl,hb⟩
  have ho2:=HO7.out.below hb HO7.out.lt
  have hos2:=(HOS.out.below hb).more hb.size
  clear HO7 HOS p0 p1 p2 p3 p4 p5 p6
  have HO7:=η ho2
  have HOS:=η hos2
  clear ho2 hos2 HAL HAC
  clear l0 l1 t0 b0 b1 b2 b3 b4 b5
  clear x0 x1 x2 x3 x4 x5
  have hx2:=HX.out.below hb HX.out.lt
  have hi2:=(HIS.out.below hb).more hb.size
  have hlw:=HLW.out.next hb
  clear HLW
  have HLW:=η hlw
  clear hlw
  clear HX HIS
  have HX:=η hx2
  have HIS:=η hi2
  have hxl:=hx2.lt
  clear hb hx2 hi2
  obtain ⟨l0,l1⟩:=ζ2 HLW.out.one.a
  have t0:w8.cell? ⟨w.heap.size+1,0,none⟩=some (.slice T1 tn t1):=HLW.out.tb.cell 0
  obtain ⟨b0,b1,b2,b3,b4,b5⟩:=ζ6 HLW.out.st
  obtain ⟨x0,x1,x2,x3,x4,x5⟩:=ζ6 HX.out
  obtain ⟨p0,p1,p2,p3,p4,p5,p6⟩:=ζ7 HO7.out
  have hsm:=rSame9_any w8 HIS.out HOS.out HSMO.out HSMO.out
  rw [sameB_refl10] at hsm
  have HSA:=η hsm
  clear hsm
  go_wp2_with (fail)
  refine HSA.out.mono ?_
  rintro e w9 ⟨rfl,hb⟩
  have hbl:=HLW.out.one.below.trans (hb.mono HLW.out.one.below.size)
  go_wp2
  go_ret
  exact ⟨rfl,hbl⟩
end Go.Proofs.YtefimimcfkdoiaaGreatDoor
