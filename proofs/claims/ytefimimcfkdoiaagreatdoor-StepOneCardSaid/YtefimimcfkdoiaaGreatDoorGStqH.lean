import Derived.Test.YtefimimcfkdoiaaGreatDoorGStqE
import Derived.Test.YtefimimcfkdoiaaGreatDoorGStqF
import Derived.Test.YtefimimcfkdoiaaGreatDoorGStqG
import Derived.Test.YtefimimcfkdoiaaGreatDoorGJudI
import Derived.Test.YtefimimcfkdoiaaGreatDoorGFree
set_option maxHeartbeats 64000000
set_option maxRecDepth 100000
namespace Go.Proofs.YtefimimcfkdoiaaGreatDoor
open Go.RowKit Go.Shelf Go.Sort
attribute [local go_sem] Oper.semAt_some
theorem fieldJ0 (b:Bool) (a f:Int) (W:World):(Instr.field 73 (.agg #[.bool b,.int .i64 a,.int .i64 f]) 0).run Tryz.prog W=.ok (.bool b) W:=by kernel_rfl
theorem fieldJ1 (b:Bool) (a f:Int) (W:World):(Instr.field 73 (.agg #[.bool b,.int .i64 a,.int .i64 f]) 1).run Tryz.prog W=.ok (.int .i64 a) W:=by kernel_rfl
def ToldO10 (w:World) (r:St.State × Nat) (e:Ending) (w':World):Prop :=
 ∃ a b A1 n1 d1 A2 n2 d2 A3 n3 d3 A4 n4 d4,e=.returned (.agg #[.int .i64 a,.int .i64 b,.slice A1 n1 d1,.slice A2 n2 d2,.slice A3 n3 d3,.slice A4 n4 d4,.int .i64 (r.2:Int)])∧Op10 w' r.1 a b A1 n1 d1 A2 n2 d2 A3 n3 d3 A4 n4 d4∧Below w.heap.size w w'
theorem if_neg_t10 {α:Type} {a b c:α} (h:(if true=false then a else b)=c):b=c:=by rw [← h,if_neg (by decide)]
theorem bot_in10 {names:List ByteArray} {up:List Nat} (hz:checkN names up=0):Sp.InR up.length (((jops up []).bot:Nat):Int):=by
 have h:=(latt_of hz).bot_to up.length (Nat.le_refl _)
 rw [← (latt_of hz).bottom] at h
 exact ⟨by omega,by have:=h.1; show ((Lat.leastN up (Lat.allS up.length):Nat):Int) < _; omega⟩
theorem rStep10_any {N U:Option Addr} {names:List ByteArray} {up:List Nat} {c1 c2:Nat} {pl:Int} {cA mA sA oA:Option Addr} {cN cc mN mc sN sc oN oc:Nat} {s:St.State} {RA:Option Addr} {l:List Tb.PR} (rc p:Nat) (w:World) (hla:IsLat w w.heap.size (.agg #[.slice N names.length c1,.slice U up.length c2]) names up) (h:Op10 w s (p:Int) pl cA cN cc mA mN mc sA sN sc oA oN oc) (hr:RowsIn w w.heap.size RA l) (hck:chk10 names up l s=0) :
  Calls Tryz.prog 13 #[.agg #[.slice N names.length c1,.slice U up.length c2],.agg #[.slice RA l.length rc],.agg #[.int .i64 (p:Int),.int .i64 pl,.slice cA cN cc,.slice mA mN mc,.slice sA sN sc,.slice oA oN oc]] w (ToldO10 w (Sp.step up.length ((bottomR names up:Nat):Int) (rwT up l) s)):=by
 obtain ⟨hz,⟨hl13,hok⟩,hright⟩:=chk_zero hck
 obtain ⟨b1,b2,b3,b4,b5,b6⟩:=Sp.right_len hright
 rw [h.cn] at b1
 rw [h.mn] at b2
 rw [h.sn] at b3
 rw [h.on] at b4
 rw [h.pv] at b6
 obtain ⟨res,hres⟩:∃ res,Sp.step up.length ((bottomR names up:Nat):Int) (rwT up l) s=res:=⟨_,rfl⟩
 rw [hres]
 have HZ:=η hz
 have HL13:=η hl13
 have HOK:=η hok
 have HRIGHT:=η hright
 have HOP0:=η h
 have HLA:=η hla
 have HR:=η hr
 have HRC:=η h.rc
 have HRO:=η h.ro
 have HRS:=η h.rs
 have HCN:=η h.cn
 have HMN:=η h.mn
 have HSN:=η h.sn
 have HON:=η h.on
 have HPV:=η h.pv
 have HPL:=η h.pl
 clear hz hl13 hok hright b5
 have hb1:=(Below.refl _ w).alloc (Nat.le_refl _) (.cells #[.slice N names.length c1,.slice U up.length c2] 25)
 have Bl:=Blk.new w 25 #[.slice N names.length c1,.slice U up.length c2]
 obtain ⟨W1,hW1⟩:∃ W1,w.alloc (.cells #[.slice N names.length c1,.slice U up.length c2] 25)=W1:=⟨_,rfl⟩
 have hz1:W1.heap.size=w.heap.size+1:=by rw [← hW1]; simp
 rw [hW1] at hb1 Bl
 have hb2:=hb1.alloc hb1.size (.cells #[.slice RA l.length rc] 28)
 replace Bl:=Bl.alloc (.cells #[.slice RA l.length rc] 28)
 have Bt:=Blk.new W1 28 #[.slice RA l.length rc]
 rw [hz1] at Bt
 obtain ⟨W2,hW2⟩:∃ W2,W1.alloc (.cells #[.slice RA l.length rc] 28)=W2:=⟨_,rfl⟩
 have hz2:W2.heap.size=w.heap.size+2:=by rw [← hW2]; simp; omega
 rw [hW2] at hb2 Bl Bt
 have hb3:=hb2.alloc hb2.size (.cells #[.int .i64 (p:Int),.int .i64 pl,.slice cA cN cc,.slice mA mN mc,.slice sA sN sc,.slice oA oN oc] 35)
 replace Bl:=Bl.alloc (.cells #[.int .i64 (p:Int),.int .i64 pl,.slice cA cN cc,.slice mA mN mc,.slice sA sN sc,.slice oA oN oc] 35)
 replace Bt:=Bt.alloc (.cells #[.int .i64 (p:Int),.int .i64 pl,.slice cA cN cc,.slice mA mN mc,.slice sA sN sc,.slice oA oN oc] 35)
 have Bs:=Blk.new W2 35 #[.int .i64 (p:Int),.int .i64 pl,.slice cA cN cc,.slice mA mN mc,.slice sA sN sc,.slice oA oN oc]
 rw [hz2] at Bs
 obtain ⟨W3,hW3⟩:∃ W3,W2.alloc (.cells #[.int .i64 (p:Int),.int .i64 pl,.slice cA cN cc,.slice mA mN mc,.slice sA sN sc,.slice oA oN oc] 35)=W3:=⟨_,rfl⟩
 have hz3:W3.heap.size=w.heap.size+3:=by rw [← hW3]; simp; omega
 rw [hW3] at hb3 Bl Bt Bs
 have hb4:=hb3.alloc hb3.size (.cells #[.int .i64 0,.int .i64 0,.slice none 0 0,.slice none 0 0,.slice none 0 0,.slice none 0 0,.int .i64 0] 46)
 replace Bl:=Bl.alloc (.cells #[.int .i64 0,.int .i64 0,.slice none 0 0,.slice none 0 0,.slice none 0 0,.slice none 0 0,.int .i64 0] 46)
 replace Bt:=Bt.alloc (.cells #[.int .i64 0,.int .i64 0,.slice none 0 0,.slice none 0 0,.slice none 0 0,.slice none 0 0,.int .i64 0] 46)
 replace Bs:=Bs.alloc (.cells #[.int .i64 0,.int .i64 0,.slice none 0 0,.slice none 0 0,.slice none 0 0,.slice none 0 0,.int .i64 0] 46)
 have Bo:=Blk.new W3 46 #[.int .i64 0,.int .i64 0,.slice none 0 0,.slice none 0 0,.slice none 0 0,.slice none 0 0,.int .i64 0]
 rw [hz3] at Bo
 obtain ⟨W4,hW4⟩:∃ W4,W3.alloc (.cells #[.int .i64 0,.int .i64 0,.slice none 0 0,.slice none 0 0,.slice none 0 0,.slice none 0 0,.int .i64 0] 46)=W4:=⟨_,rfl⟩
 have hz4:W4.heap.size=w.heap.size+4:=by rw [← hW4]; simp; omega
 rw [hW4] at hb4 Bl Bt Bs Bo
 have Hl:=η Bl
 have Ht:=η Bt
 have Hs:=η Bs
 have Ho:=η Bo
 have HBW:=η hb4
 clear hb1 hb2 hb3 hb4 Bl Bt Bs Bo
 have HRES0:=η hres
 clear hres h hla hr hck
 by_cases hpc:p < cN
 ·obtain ⟨x,hx⟩:∃ x,s.code[p]? = some x:=⟨_,List.getElem?_eq_getElem (by rw [HCN.out]; exact hpc)⟩
  have hin:=(Sp.right_labs HRIGHT.out).2.2.2 x (List.mem_of_getElem? hx)
  obtain ⟨o',xn,xl⟩:=x
  have hops:=Sp.ops_of hin
  dsimp only at hops
  obtain ⟨o,ho⟩:∃ o:Nat,o'=(o:Int):=⟨o'.toNat,by omega⟩
  subst ho
  have ho13:o < 13:=by omega
  have HXN:=η (show (o:Int)=9→0≤xn from fun h=>(hops.2.1 h).1)
  have hneeds:=fun W (hb:Below w.heap.size w W)=>rNeeds10_any p W ((HLA.out.below hb).more hb.size) HZ.out (HOP0.out.below hb) hx hin (by omega) (by omega) (by omega)
  obtain ⟨bt,hbt⟩:∃ bt:Int,((bottomR names up:Nat):Int)=bt:=⟨_,rfl⟩
  obtain ⟨nd,hnd⟩:∃ nd,Sp.needs bt s ⟨o,xn,xl⟩=nd:=⟨_,rfl⟩
  have hinr:Sp.InR up.length bt:=by
   rw [← hbt,bottomR_ok HZ.out []]
   exact bot_in10 HZ.out
  have HLAB:=η (fun (hi:nd.is=true)=>hnd ▸ Sp.needs_labs HRIGHT.out hin hinr (hnd ▸ hi))
  have HBEL:=η (show nd.below≤s.stack.length from hnd ▸ Sp.needs_below)
  have HAB:=η (fun (hi:nd.is=true) (h34:(o:Int)=3∨(o:Int)=4)=>hnd ▸ Sp.needs_ab HRIGHT.out (bot:=bt) (x:=⟨o,xn,xl⟩) h34 (hnd ▸ hi))
  have HCE:=η (fun (hi:nd.is=true) (h56:(o:Int)=5∨(o:Int)=6)=>hnd ▸ Sp.needs_cell (bot:=bt) (s:=s) (x:=⟨o,xn,xl⟩) h56 (hnd ▸ hi))
  have HAG:=η (fun (hi:nd.is=true) (h9:(o:Int)=9)=>hnd ▸ Sp.needs_args (bot:=bt) (s:=s) (x:=⟨o,xn,xl⟩) h9 (HXN.out h9) (hnd ▸ hi))
  have hres1:Sp.thenT up.length bt s ⟨o,xn,xl⟩ (rwT up l o)=res:=by
   rw [← HRES0.out]
   unfold Sp.step
   rw [HPV.out,Int.toNat_natCast,hx,hbt]
  rw [Sp.then_parts hnd] at hres1
  dsimp only at hres1
  rw [HPL.out] at hres1
  rw [hbt,hnd] at hneeds
  obtain ⟨ni,⟨ar,av,al⟩,⟨br,bv,bl⟩,⟨rr,rv,rl⟩,n1,n2,n3,nb⟩:=nd
  unfold nv10 at hneeds
  dsimp only at hneeds hres1
  have HND:=η hneeds
  have HRES1:=η hres1
  have HX:=η hx
  have HIN:=η hin
  clear hneeds hres1 hx hin hnd hinr hbt hops
  have qpc:decide ((cN:Int)≤(p:Int))=false:=decide_eq_false (by omega)
  obtain ⟨u1_0,u1_1,u1_2,u1_3,u1_4,u1_5⟩:=ζ6 Hs.out
  obtain ⟨u2_0,u2_1⟩:=ζ2 Hl.out
  go_enter Tryz.func13,Tryz.ntmps13
  go_wp2_with (fail)
  refine (HND.out W4 HBW.out).mono ?_
  rintro e' w1 ⟨rfl,hb⟩
  replace Hl:=bk1q Hl hb
  replace Ht:=bk1q Ht hb
  replace Hs:=bk1q Hs hb
  replace Ho:=bk1q Ho hb
  replace HBW:=bw1q HBW hb
  clear hb
  clear u1_0 u1_1 u1_2 u1_3 u1_4 u1_5 u2_0 u2_1
  clear HND
  obtain ⟨X3,hX3⟩:∃ X3,w1.alloc (.cells #[.bool false,.bool false,.int .i64 0,.int .i64 0,.bool false,.int .i64 0,.int .i64 0,.bool false,.int .i64 0,.int .i64 0,.int .i64 0,.int .i64 0,.int .i64 0,.int .i64 0] 70)=X3:=⟨_,rfl⟩
  have hal:=alwq hX3
  have hz3_l:=Hl.out.lt
  have hz3_t:=Ht.out.lt
  have hz3_s:=Hs.out.lt
  have hz3_o:=Ho.out.lt
  have hzb3:=HBW.out.size
  replace Hl:=bk1q Hl hal
  replace Ht:=bk1q Ht hal
  replace Hs:=bk1q Hs hal
  replace Ho:=bk1q Ho hal
  replace HBW:=bw1q HBW hal
  have Hn:=bkaq hX3
  clear hal
  obtain ⟨nY1,nY2,nY3,nY4,nY5,nY6,nY7,nY8,nY9,nY10,nY11,nY12,nY13,nY14,ne0,ne1,ne2,ne3,ne4,ne5,ne6,ne7,ne8,ne9,ne10,ne11,ne12,ne13,nf0,nf1,nf2,nf3,nf4,nf5,nf6,nf7,nf8,nf9,nf10,nf11,nf12,nf13,ng0,ng1,ng2,ng3,ng4,ng5,ng6,ng7,ng8,ng9,ng10,ng11,ng12,ng13,nH,hs_⟩:=n14_steps Hn (.bool ni) (.bool ar) (.int .i64 av) (.int .i64 al) (.bool br) (.int .i64 bv) (.int .i64 bl) (.bool rr) (.int .i64 rv) (.int .i64 rl) (.int .i64 n1) (.int .i64 n2) (.int .i64 n3) (.int .i64 (nb:Int))
  replace Hl:=bk2q Hl hs_ (by omega)
  replace Ht:=bk2q Ht hs_ (by omega)
  replace Hs:=bk2q Hs hs_ (by omega)
  replace Ho:=bk2q Ho hs_ (by omega)
  replace HBW:=bw2q HBW hs_ (by omega)
  clear hs_
  clear Hn
  have Hn:=nH
  clear nH
  obtain ⟨cd,hcd,hcb,t0,t1,t2⟩:=ins_at10 ((HRC.out.below HBW.out).more HBW.out.size) HX.out
  subst hcd
  dsimp only at t0 t1 t2
  obtain ⟨u4_0,u4_1,u4_2,u4_3,u4_4,u4_5⟩:=cel6q Hs
  obtain ⟨X5,hX5⟩:∃ X5,nY14.alloc (.cells #[.int .i64 (o:Int),.int .i64 xn,.int .i64 xl] 57)=X5:=⟨_,rfl⟩
  have hal:=alwq hX5
  have hz5_l:=Hl.out.lt
  have hz5_t:=Ht.out.lt
  have hz5_s:=Hs.out.lt
  have hz5_o:=Ho.out.lt
  have hz5_n:=Hn.out.lt
  have hzb5:=HBW.out.size
  replace Hl:=bk1q Hl hal
  replace Ht:=bk1q Ht hal
  replace Hs:=bk1q Hs hal
  replace Ho:=bk1q Ho hal
  replace Hn:=bk1q Hn hal
  replace HBW:=bw1q HBW hal
  have Hx:=bkaq hX5
  clear hal
  cases ni with
  | false =>
   have HRES:Hid ((s,3)=res):=η (by rw [← HRES1.out,if_pos rfl])
   obtain ⟨u6_0,u6_1,u6_2,u6_3,u6_4,u6_5,u6_6,u6_7,u6_8,u6_9,u6_10,u6_11,u6_12,u6_13⟩:=cel14q Hn
   obtain ⟨u7_0,u7_1,u7_2,u7_3,u7_4,u7_5⟩:=cel6q Hs
   obtain ⟨u8_0,u8_1,u8_2⟩:=cel3q Hx
   obtain ⟨rY1,rY2,rY3,rY4,rY5,rY6,rY7,re0,re1,re2,re3,re4,re5,re6,rf0,rf1,rf2,rf3,rf4,rf5,rf6,rg0,rg1,rg2,rg3,rg4,rg5,rg6,rH,hs_⟩:=n7_steps Ho (.int .i64 (p:Int)) (.int .i64 pl) (.slice (some cd) cN cc) (.slice mA mN mc) (.slice sA sN sc) (.slice oA oN oc) (.int .i64 3)
   replace Hl:=bk2q Hl hs_ (by omega)
   replace Ht:=bk2q Ht hs_ (by omega)
   replace Hs:=bk2q Hs hs_ (by omega)
   replace Hn:=bk2q Hn hs_ (by omega)
   replace Hx:=bk2q Hx hs_ (by omega)
   replace HBW:=bw2q HBW hs_ (by omega)
   clear hs_
   clear Ho
   have Ho:=rH
   clear rH
   obtain ⟨z0,z1,z2,z3,z4,z5,z6⟩:=cel7q Ho
   go_wp2_with (exact bodyPost_ret (v:=.agg #[.int .i64 (p:Int),.int .i64 pl,.slice (some cd) cN cc,.slice mA mN mc,.slice sA sN sc,.slice oA oN oc,.int .i64 3]) (by simp [results,Tryz.results13,go_sem,z0,z1,z2,z3,z4,z5,z6]) rfl (by rw [← HRES.out]; exact ⟨_,_,_,_,_,_,_,_,_,_,_,_,_,_,rfl,HOP0.out.below HBW.out,HBW.out⟩))
  | true =>
   replace HRES1:=η (if_neg_t10 HRES1.out)
   obtain ⟨u6_0,u6_1,u6_2,u6_3,u6_4,u6_5,u6_6,u6_7,u6_8,u6_9,u6_10,u6_11,u6_12,u6_13⟩:=cel14q Hn
   obtain ⟨u7_0,u7_1,u7_2⟩:=cel3q Hx
   by_cases h12:o=12
   ·have q12:((o:Int) == 12)=true:=by rw [h12]; rfl
    have HRES:Hid ((s,1)=res):=η (by rw [← HRES1.out,if_pos (by omega)])
    clear h12
    obtain ⟨u8_0,u8_1,u8_2,u8_3,u8_4,u8_5⟩:=cel6q Hs
    obtain ⟨rY1,rY2,rY3,rY4,rY5,rY6,rY7,re0,re1,re2,re3,re4,re5,re6,rf0,rf1,rf2,rf3,rf4,rf5,rf6,rg0,rg1,rg2,rg3,rg4,rg5,rg6,rH,hs_⟩:=n7_steps Ho (.int .i64 (p:Int)) (.int .i64 pl) (.slice (some cd) cN cc) (.slice mA mN mc) (.slice sA sN sc) (.slice oA oN oc) (.int .i64 1)
    replace Hl:=bk2q Hl hs_ (by omega)
    replace Ht:=bk2q Ht hs_ (by omega)
    replace Hs:=bk2q Hs hs_ (by omega)
    replace Hn:=bk2q Hn hs_ (by omega)
    replace Hx:=bk2q Hx hs_ (by omega)
    replace HBW:=bw2q HBW hs_ (by omega)
    clear hs_
    clear Ho
    have Ho:=rH
    clear rH
    obtain ⟨z0,z1,z2,z3,z4,z5,z6⟩:=cel7q Ho
    go_wp2_with (exact bodyPost_ret (v:=.agg #[.int .i64 (p:Int),.int .i64 pl,.slice (some cd) cN cc,.slice mA mN mc,.slice sA sN sc,.slice oA oN oc,.int .i64 1]) (by simp [results,Tryz.results13,go_sem,z0,z1,z2,z3,z4,z5,z6]) rfl (by rw [← HRES.out]; exact ⟨_,_,_,_,_,_,_,_,_,_,_,_,_,_,rfl,HOP0.out.below HBW.out,HBW.out⟩))
   ·have q12:((o:Int) == 12)=false:=by rw [beq_eq_false_iff_ne]; omega
    replace HRES1:=η ((if_neg (show ¬ ((o:Int)=12) by omega)).symm.trans HRES1.out)
    clear h12
    obtain ⟨u8_0,u8_1,u8_2,u8_3,u8_4,u8_5⟩:=cel6q Hs
    obtain ⟨X9,hX9⟩:∃ X9,X5.alloc (.cells #[.int .i64 pl,.int .i64 n1,.int .i64 n2,.int .i64 n3] 3)=X9:=⟨_,rfl⟩
    have hal:=alwq hX9
    have hz9_l:=Hl.out.lt
    have hz9_t:=Ht.out.lt
    have hz9_s:=Hs.out.lt
    have hz9_o:=Ho.out.lt
    have hz9_n:=Hn.out.lt
    have hz9_x:=Hx.out.lt
    have hzb9:=HBW.out.size
    replace Hl:=bk1q Hl hal
    replace Ht:=bk1q Ht hal
    replace Hs:=bk1q Hs hal
    replace Ho:=bk1q Ho hal
    replace Hn:=bk1q Hn hal
    replace Hx:=bk1q Hx hal
    replace HBW:=bw1q HBW hal
    have Hlab:=bkaq hX9
    clear hal
    have hkl:o < l.length:=by rw [HL13.out]; exact ho13
    obtain ⟨td,a0,a1,a2,hRA,hab,r0,r1,r2,i0,i1,i2⟩:=(HR.out.below HBW.out).at_ hkl
    have hoke:=HOK.out o l[o] (List.getElem?_eq_getElem hkl)
    have hrt:Rl.right l[o].m false=true∧Rl.right l[o].r true=true∧Rl.right l[o].p true=true:=by
     unfold Tb.rowE at hoke
     split at hoke
     ·rename_i h1
      unfold Tb.okRules at h1
      simpa [Bool.and_eq_true] using h1
     ·cases hoke
    have hrw:rwT up l (o:Int)=⟨fun labs=>Jg.Is (Jg.val (jops up labs) l[o].m),fun labs=>((Jg.A (Jg.val (jops up labs) l[o].r):Nat):Int),fun labs=>((Jg.A (Jg.val (jops up labs) l[o].p):Nat):Int)⟩:=by
     unfold rwT
     rw [Int.toNat_natCast,List.getD_eq_getElem?_getD,List.getElem?_eq_getElem hkl,Option.getD_some]
    obtain ⟨jm,hjm⟩:∃ rm,l[o].m=rm:=⟨_,rfl⟩
    obtain ⟨jr,hjr⟩:∃ rr,l[o].r=rr:=⟨_,rfl⟩
    obtain ⟨jp,hjp⟩:∃ rp,l[o].p=rp:=⟨_,rfl⟩
    rw [hjm,hjr,hjp] at hrt hrw
    rw [hjm] at i0
    rw [hjr] at i1
    rw [hjp] at i2
    obtain ⟨A0,k0,rfl,ir0,ic0⟩:=i0
    obtain ⟨A1,k1,rfl,ir1,ic1⟩:=i1
    obtain ⟨A2,k2,rfl,ir2,ic2⟩:=i2
    have hlabs:labsOk up [pl,n1,n2,n3]=true:=decide_eq_true ⟨rfl,fun a ha=>by
     simp only [List.mem_cons,List.not_mem_nil,or_false] at ha
     obtain ⟨g1,g2,g3⟩:=HLAB.out rfl
     rcases ha with rfl | rfl | rfl | rfl
     ·exact HPL.out ▸ (Sp.right_labs HRIGHT.out).1
     ·exact g1
     ·exact g2
     ·exact g3⟩
    have hj0:jWhy names up jm [pl,n1,n2,n3] false=0:=by unfold jWhy; rw [if_pos HZ.out,if_pos hrt.1,if_pos hlabs]
    have hj1:jWhy names up jr [pl,n1,n2,n3] true=0:=by unfold jWhy; rw [if_pos HZ.out,if_pos hrt.2.1,if_pos hlabs]
    have hj2:jWhy names up jp [pl,n1,n2,n3] true=0:=by unfold jWhy; rw [if_pos HZ.out,if_pos hrt.2.2,if_pos hlabs]
    have hm40:jm.length≤1000000:=by have:=(of_decide_eq_true hrt.1).1; omega
    have hr40:jr.length≤1000000:=by have:=(of_decide_eq_true hrt.2.1).1; omega
    have hp40:jp.length≤1000000:=by have:=(of_decide_eq_true hrt.2.2).1; omega
    obtain ⟨mv,hmv⟩:∃ mv,Jg.Is (Jg.val (jops up [pl,n1,n2,n3]) jm)=mv:=⟨_,rfl⟩
    obtain ⟨cv,hcv⟩:∃ rv,Jg.A (Jg.val (jops up [pl,n1,n2,n3]) jr)=rv:=⟨_,rfl⟩
    obtain ⟨ev,hev⟩:∃ pv,Jg.A (Jg.val (jops up [pl,n1,n2,n3]) jp)=pv:=⟨_,rfl⟩
    have HMAY:=η (show (rwT up l (o:Int)).may [pl,n1,n2,n3]=mv by rw [hrw]; exact hmv)
    have HRV:=η (show (rwT up l (o:Int)).res [pl,n1,n2,n3]=(cv:Int) by rw [hrw]; exact congrArg Nat.cast hcv)
    have HPVV:=η (show (rwT up l (o:Int)).pc [pl,n1,n2,n3]=(ev:Int) by rw [hrw]; exact congrArg Nat.cast hev)
    have hjudge:∀ (R:Option Addr) (kk:Nat) (rule:List Int) (sort:Bool),Row X9 w.heap.size R (ints rule)→rule.length≤1000000→jWhy names up rule [pl,n1,n2,n3] sort=0→∀ (W:World),Below X9.heap.size X9 W→Blk W X5.heap.size 3 #[.int .i64 pl,.int .i64 n1,.int .i64 n2,.int .i64 n3]→Calls Tryz.prog 27 #[.agg #[.slice N names.length c1,.slice U up.length c2],.slice R rule.length kk,.slice (some ⟨X5.heap.size,0,none⟩) 4 4] W (GaveV W (Jg.val (jops up [pl,n1,n2,n3]) rule) 0):=fun R kk rule sort hr1 h40 hj W hb hl=>by
     have hb2:=HBW.out.trans (hb.mono HBW.out.size)
     exact rJudge_any (labs:=[pl,n1,n2,n3]) kk 4 sort hj h40 W ((HLA.out.below hb2).more hb2.size) ((hr1.below (hb.mono HBW.out.size)).more hb2.size) (hl.row.more hl.lt)
    have HJM:=η (hjudge A0 k0 jm false ir0 hm40 hj0)
    have HJR:=η (hjudge A1 k1 jr true ir1 hr40 hj1)
    have HJP:=η (hjudge A2 k2 jp true ir2 hp40 hj2)
    obtain ⟨ym,hym⟩:∃ y,Jg.val (jops up [pl,n1,n2,n3]) jm=y:=⟨_,rfl⟩
    obtain ⟨yr,hyr⟩:∃ y,Jg.val (jops up [pl,n1,n2,n3]) jr=y:=⟨_,rfl⟩
    obtain ⟨yp,hyp⟩:∃ y,Jg.val (jops up [pl,n1,n2,n3]) jp=y:=⟨_,rfl⟩
    rw [hym] at HJM hmv
    rw [hyr] at HJR hcv
    rw [hyp] at HJP hev
    unfold GaveV at HJM HJR HJP
    rw [hmv] at HJM
    rw [hcv] at HJR
    rw [hev] at HJP
    obtain ⟨am,ham⟩:∃ a,Jg.A ym=a:=⟨_,rfl⟩
    obtain ⟨br',hbr'⟩:∃ a,Jg.Is yr=a:=⟨_,rfl⟩
    obtain ⟨bp',hbp'⟩:∃ a,Jg.Is yp=a:=⟨_,rfl⟩
    rw [ham] at HJM
    rw [hbr'] at HJR
    rw [hbp'] at HJP
    obtain ⟨lm,hlm⟩:∃ n,jm.length=n:=⟨_,rfl⟩
    obtain ⟨lr,hlr⟩:∃ n,jr.length=n:=⟨_,rfl⟩
    obtain ⟨lp,hlp⟩:∃ n,jp.length=n:=⟨_,rfl⟩
    rw [hlm] at HJM r0
    rw [hlr] at HJR r1
    rw [hlp] at HJP r2
    subst hRA
    have htab:(td.add (o * 3)).block < X9.heap.size:=by rw [add_block]; have:=HBW.out.size; omega
    clear hlm hlr hlp ham hbr' hbp' hym hyr hyp hmv hcv hev hj0 hj1 hj2 hm40 hr40 hp40 hrt hlabs hoke hjm hjr hjp hrw ir0 ir1 ir2 ic0 ic1 ic2 hjudge
    have hkl2:(o:Int) < (l.length:Int):=by omega
    have fj0:=fieldJ0
    have fj1:=fieldJ1
    have u10_0:X9.cell? ⟨w.heap.size+1,0,none⟩=some (.slice (some td) l.length rc):=Ht.out.cell 0
    obtain ⟨u11_0,u11_1,u11_2⟩:=cel3q Hx
    obtain ⟨X12,hX12⟩:∃ X12,X9.alloc (.cells #[.slice A0 lm k0,.slice A1 lr k1,.slice A2 lp k2] 55)=X12:=⟨_,rfl⟩
    have hal:=alwq hX12
    have hz12_l:=Hl.out.lt
    have hz12_t:=Ht.out.lt
    have hz12_s:=Hs.out.lt
    have hz12_o:=Ho.out.lt
    have hz12_n:=Hn.out.lt
    have hz12_x:=Hx.out.lt
    have hz12_lab:=Hlab.out.lt
    have hzb12:=HBW.out.size
    replace Hl:=bk1q Hl hal
    replace Ht:=bk1q Ht hal
    replace Hs:=bk1q Hs hal
    replace Ho:=bk1q Ho hal
    replace Hn:=bk1q Hn hal
    replace Hx:=bk1q Hx hal
    replace Hlab:=bk1q Hlab hal
    replace HBW:=bw1q HBW hal
    have Hrow:=bkaq hX12
    clear hal
    have HBJ:=η (show Below X9.heap.size X9 X12 from alwq hX12)
    obtain ⟨u13_0,u13_1,u13_2⟩:=cel3q Hrow
    obtain ⟨u14_0,u14_1⟩:=ζ2 Hl.out
    go_wp2_with (fail)
    refine (HJM.out X12 HBJ.out Hlab.out).mono ?_
    rintro e' w2 ⟨rfl,hb⟩
    replace HBJ:=bw1q HBJ hb
    replace Hl:=bk1q Hl hb
    replace Ht:=bk1q Ht hb
    replace Hs:=bk1q Hs hb
    replace Ho:=bk1q Ho hb
    replace Hn:=bk1q Hn hb
    replace Hx:=bk1q Hx hb
    replace Hlab:=bk1q Hlab hb
    replace Hrow:=bk1q Hrow hb
    replace HBW:=bw1q HBW hb
    clear hb
    clear u4_0 u4_1 u4_2 u4_3 u4_4 u4_5 u6_0 u6_1 u6_2 u6_3 u6_4 u6_5 u6_6 u6_7 u6_8 u6_9 u6_10 u6_11 u6_12 u6_13 u7_0 u7_1 u7_2 u8_0 u8_1 u8_2 u8_3 u8_4 u8_5 u10_0 u11_0 u11_1 u11_2 u13_0 u13_1 u13_2 u14_0 u14_1
    clear HJM
    cases mv with
    | false =>
     have HRES:Hid ((s,2)=res):=η (by rw [← HRES1.out,if_pos HMAY.out])
     obtain ⟨u15_0,u15_1,u15_2,u15_3,u15_4,u15_5⟩:=cel6q Hs
     obtain ⟨rY1,rY2,rY3,rY4,rY5,rY6,rY7,re0,re1,re2,re3,re4,re5,re6,rf0,rf1,rf2,rf3,rf4,rf5,rf6,rg0,rg1,rg2,rg3,rg4,rg5,rg6,rH,hs_⟩:=n7_steps Ho (.int .i64 (p:Int)) (.int .i64 pl) (.slice (some cd) cN cc) (.slice mA mN mc) (.slice sA sN sc) (.slice oA oN oc) (.int .i64 2)
     replace Hl:=bk2q Hl hs_ (by omega)
     replace Ht:=bk2q Ht hs_ (by omega)
     replace Hs:=bk2q Hs hs_ (by omega)
     replace Hn:=bk2q Hn hs_ (by omega)
     replace Hx:=bk2q Hx hs_ (by omega)
     replace Hlab:=bk2q Hlab hs_ (by omega)
     replace Hrow:=bk2q Hrow hs_ (by omega)
     replace HBW:=bw2q HBW hs_ (by omega)
     clear hs_
     clear Ho
     have Ho:=rH
     clear rH
     obtain ⟨z0,z1,z2,z3,z4,z5,z6⟩:=cel7q Ho
     go_wp2_with (exact bodyPost_ret (v:=.agg #[.int .i64 (p:Int),.int .i64 pl,.slice (some cd) cN cc,.slice mA mN mc,.slice sA sN sc,.slice oA oN oc,.int .i64 2]) (by simp [results,Tryz.results13,go_sem,z0,z1,z2,z3,z4,z5,z6]) rfl (by rw [← HRES.out]; exact ⟨_,_,_,_,_,_,_,_,_,_,_,_,_,_,rfl,HOP0.out.below HBW.out,HBW.out⟩))
    | true =>
     replace HRES1:=η ((if_neg (show ¬ ((rwT up l (o:Int)).may [pl,n1,n2,n3]=false) by rw [HMAY.out]; decide)).symm.trans HRES1.out)
     rw [HRV.out,HPVV.out] at HRES1
     clear HMAY HRV HPVV
     obtain ⟨u15_0,u15_1,u15_2⟩:=cel3q Hrow
     obtain ⟨u16_0,u16_1⟩:=ζ2 Hl.out
     go_wp2_with (fail)
     refine (HJR.out w2 HBJ.out Hlab.out).mono ?_
     rintro e' w3 ⟨rfl,hb⟩
     replace HBJ:=bw1q HBJ hb
     replace Hl:=bk1q Hl hb
     replace Ht:=bk1q Ht hb
     replace Hs:=bk1q Hs hb
     replace Ho:=bk1q Ho hb
     replace Hn:=bk1q Hn hb
     replace Hx:=bk1q Hx hb
     replace Hlab:=bk1q Hlab hb
     replace Hrow:=bk1q Hrow hb
     replace HBW:=bw1q HBW hb
     clear hb
     clear u15_0 u15_1 u15_2 u16_0 u16_1
     clear HJR
     obtain ⟨M,hM⟩:∃ M,Sp.memT s ⟨o,xn,xl⟩ ⟨true,⟨ar,av,al⟩,⟨br,bv,bl⟩,⟨rr,rv,rl⟩,n1,n2,n3,nb⟩ cv=M:=⟨_,rfl⟩
     obtain ⟨L,hL⟩:∃ L,Sp.stackT s ⟨o,xn,xl⟩ ⟨true,⟨ar,av,al⟩,⟨br,bv,bl⟩,⟨rr,rv,rl⟩,n1,n2,n3,nb⟩ cv=L:=⟨_,rfl⟩
     obtain ⟨nx,hnx⟩:∃ nx,Sp.nextT s ⟨o,xn,xl⟩ ⟨true,⟨ar,av,al⟩,⟨br,bv,bl⟩,⟨rr,rv,rl⟩,n1,n2,n3,nb⟩=nx:=⟨_,rfl⟩
     have hmem:=fun W (hb:Below w.heap.size w W)=>rMem10_any (ni:=true) (ar:=ar) (av:=av) (al:=al) (br:=br) (bv:=bv) (bl:=bl) (rr:=rr) (rv:=rv) (rl:=rl) (n1:=n1) (n2:=n2) (n3:=n3) (nb:=nb) p o cv W (HOP0.out.below hb) HX.out (fun e=>(HCE.out (by trivial) (.inr (by omega))).1) (by omega)
     rw [hM] at hmem
     have HMEM:=η hmem
     have hstk:=fun W (hb:Below w.heap.size w W)=>rStack10_any (ni:=true) (ar:=ar) (av:=av) (al:=al) (br:=br) (bv:=bv) (bl:=bl) (rr:=rr) (rv:=rv) (rl:=rl) (n1:=n1) (n2:=n2) (n3:=n3) (nb:=nb) p o cv W (HOP0.out.below hb) HX.out (by omega) (by omega) (by have:=HBEL.out; have:=HSN.out; (try dsimp only at this); omega) (HAB.out (by trivial)) (fun e=>by have:=HCE.out (by trivial) (.inl e); rw [HMN.out] at this; exact this) (fun e=>by have:=HAG.out (by trivial) e; have h2:=HSN.out; have h3:=HXN.out e; (try dsimp only at this); omega)
     rw [hL] at hstk
     have HSTK:=η hstk
     have hnxt:=fun W (hb:Below w.heap.size w W)=>rNext10_any (ni:=true) (ar:=ar) (av:=av) (al:=al) (br:=br) (bv:=bv) (bl:=bl) (rr:=rr) (rv:=rv) (rl:=rl) (n1:=n1) (n2:=n2) (n3:=n3) (nb:=nb) p o W (HOP0.out.below hb) HX.out (by omega)
     rw [hnx] at hnxt
     have HNX:=η hnxt
     have HOUT:=η (show Sp.outS s ⟨o,xn,xl⟩ ⟨true,⟨ar,av,al⟩,⟨br,bv,bl⟩,⟨rr,rv,rl⟩,n1,n2,n3,nb⟩ cv ev=⟨⟨nx,ev⟩,s.code,M,L,Sp.outT s ⟨o,xn,xl⟩ ⟨true,⟨ar,av,al⟩,⟨br,bv,bl⟩,⟨rr,rv,rl⟩,n1,n2,n3,nb⟩ cv⟩ by unfold Sp.outS; rw [hM,hL,hnx])
     rw [HOUT.out] at HRES1
     have HMLN:=η (show M.length=mN by rw [← hM,Sp.memT_length]; exact HMN.out)
     have HLLN:=η (show L.length≤s.stack.length+1 by rw [← hL]; exact Sp.stackT_le _ _ _ _)
     clear hmem hstk hnxt hM hL hnx HOUT
     have HSK:Hid (∀ W,Below w3.heap.size w3 W→W.cell? ⟨w.heap.size+2,0,none⟩=some (.int .i64 (p:Int))∧W.cell? ⟨w.heap.size+2,1,none⟩=some (.int .i64 pl)∧W.cell? ⟨w.heap.size+2,2,none⟩=some (.slice (some cd) cN cc)∧W.cell? ⟨w.heap.size+2,3,none⟩=some (.slice mA mN mc)∧W.cell? ⟨w.heap.size+2,4,none⟩=some (.slice sA sN sc)∧W.cell? ⟨w.heap.size+2,5,none⟩=some (.slice oA oN oc)∧W.cell? ⟨w1.heap.size,0,none⟩=some (.bool true)∧W.cell? ⟨w1.heap.size,1,none⟩=some (.bool ar)∧W.cell? ⟨w1.heap.size,2,none⟩=some (.int .i64 av)∧W.cell? ⟨w1.heap.size,3,none⟩=some (.int .i64 al)∧W.cell? ⟨w1.heap.size,4,none⟩=some (.bool br)∧W.cell? ⟨w1.heap.size,5,none⟩=some (.int .i64 bv)∧W.cell? ⟨w1.heap.size,6,none⟩=some (.int .i64 bl)∧W.cell? ⟨w1.heap.size,7,none⟩=some (.bool rr)∧W.cell? ⟨w1.heap.size,8,none⟩=some (.int .i64 rv)∧W.cell? ⟨w1.heap.size,9,none⟩=some (.int .i64 rl)∧W.cell? ⟨w1.heap.size,10,none⟩=some (.int .i64 n1)∧W.cell? ⟨w1.heap.size,11,none⟩=some (.int .i64 n2)∧W.cell? ⟨w1.heap.size,12,none⟩=some (.int .i64 n3)∧W.cell? ⟨w1.heap.size,13,none⟩=some (.int .i64 (nb:Int))):=η fun W hb =>
      have h1:=Hs.out.below hb Hs.out.lt
      have h2:=Hn.out.below hb Hn.out.lt
      ⟨h1.cell 0,h1.cell 1,h1.cell 2,h1.cell 3,h1.cell 4,h1.cell 5,h2.cell 0,h2.cell 1,h2.cell 2,h2.cell 3,h2.cell 4,h2.cell 5,h2.cell 6,h2.cell 7,h2.cell 8,h2.cell 9,h2.cell 10,h2.cell 11,h2.cell 12,h2.cell 13⟩
     have BR:=η (Below.refl w3.heap.size w3)
     have BD:=η ((Below.refl w3.heap.size w3).drew)
     have BDA:=η (((Below.refl w3.heap.size w3).alloc (Nat.le_refl _) (.cells #[.int .i64 0,.int .i64 0,.slice none 0 0,.slice none 0 0,.slice none 0 0,.slice none 0 0] 35)).drew)
     have HWV:=η HBW.out.size
     have HWB:Hid (∀ W,Below w3.heap.size w3 W→Below w.heap.size w W):=η fun W hb=>HBW.out.trans (hb.mono HBW.out.size)
     go_wp2_with (fail)
     go_cut [12] from 74 to 87 (fun bx wx=>∃ (b:Nat) (mB tA:Option Addr) (md tn tc:Nat),bx=.pointer (some ⟨b,0,none⟩)∧w3.heap.size≤b∧Hid (Below w3.heap.size w3 wx)∧Hid (Blk wx b 35 #[.int .i64 0,.int .i64 0,.slice (some cd) cN cc,.slice mB mN md,.slice tA tn tc,.slice oA oN oc])∧Hid (RG w.heap.size w3.heap.size b wx mB (fcells avs M)∧mN≤md∧RG w.heap.size w3.heap.size b wx tA (fcells svs L)∧L.length=tn∧tn≤tc))
     case first =>
      go_region_held3 (fun W=>W.cell? ⟨w.heap.size+2,0,none⟩=some (.int .i64 (p:Int))∧W.cell? ⟨w.heap.size+2,1,none⟩=some (.int .i64 pl)∧W.cell? ⟨w.heap.size+2,2,none⟩=some (.slice (some cd) cN cc)∧W.cell? ⟨w.heap.size+2,3,none⟩=some (.slice mA mN mc)∧W.cell? ⟨w.heap.size+2,4,none⟩=some (.slice sA sN sc)∧W.cell? ⟨w.heap.size+2,5,none⟩=some (.slice oA oN oc)∧W.cell? ⟨w1.heap.size,0,none⟩=some (.bool true)∧W.cell? ⟨w1.heap.size,1,none⟩=some (.bool ar)∧W.cell? ⟨w1.heap.size,2,none⟩=some (.int .i64 av)∧W.cell? ⟨w1.heap.size,3,none⟩=some (.int .i64 al)∧W.cell? ⟨w1.heap.size,4,none⟩=some (.bool br)∧W.cell? ⟨w1.heap.size,5,none⟩=some (.int .i64 bv)∧W.cell? ⟨w1.heap.size,6,none⟩=some (.int .i64 bl)∧W.cell? ⟨w1.heap.size,7,none⟩=some (.bool rr)∧W.cell? ⟨w1.heap.size,8,none⟩=some (.int .i64 rv)∧W.cell? ⟨w1.heap.size,9,none⟩=some (.int .i64 rl)∧W.cell? ⟨w1.heap.size,10,none⟩=some (.int .i64 n1)∧W.cell? ⟨w1.heap.size,11,none⟩=some (.int .i64 n2)∧W.cell? ⟨w1.heap.size,12,none⟩=some (.int .i64 n3)∧W.cell? ⟨w1.heap.size,13,none⟩=some (.int .i64 (nb:Int)))
       (first | (refine HSK.out _ ?_; first | with_reducible exact BR.out | with_reducible exact BD.out | with_reducible exact BDA.out | with_reducible exact hA | with_reducible exact hA.alloc hA.size _ | with_reducible exact hB | with_reducible exact hAA | with_reducible exact hYY))
       (first
        | (go_at_call 28; refine (HMEM.out _ (HWB.out _ ?_)).mono ?_; (first | with_reducible exact BD.out | with_reducible exact BDA.out); rintro e wa ⟨mB,md,rfl,hown,hba⟩; have hA:Below w3.heap.size w3 wa:=(by first | with_reducible exact BD.out.trans (hba.mono BD.out.size) | with_reducible exact BDA.out.trans (hba.mono BDA.out.size)); have HOA:=η hown; clear hown)
        | (go_at_call 29; refine (HSTK.out _ (HWB.out _ ?_)).mono ?_; (first | with_reducible exact hA | with_reducible exact hA.alloc hA.size _); rintro e wb ⟨tA,tn,tc,rfl,htn,htr,htk,hbb,hto⟩; have hB:Below w3.heap.size w3 wb:=(by first | with_reducible exact hA.trans (hbb.mono hA.size) | with_reducible exact (hA.alloc hA.size _).trans (hbb.mono (hA.alloc hA.size _).size)); (first
          | (have hG:=((Blk.new w3 35 #[.int .i64 0,.int .i64 0,.slice none 0 0,.slice none 0 0,.slice none 0 0,.slice none 0 0]).drew.below hba (Blk.new w3 35 #[.int .i64 0,.int .i64 0,.slice none 0 0,.slice none 0 0,.slice none 0 0,.slice none 0 0]).drew.lt).below hbb ((Blk.new w3 35 #[.int .i64 0,.int .i64 0,.slice none 0 0,.slice none 0 0,.slice none 0 0,.slice none 0 0]).drew.below hba (Blk.new w3 35 #[.int .i64 0,.int .i64 0,.slice none 0 0,.slice none 0 0,.slice none 0 0,.slice none 0 0]).drew.lt).lt; have HG:=η hG; have hAA:=hB; have hsz:=Nat.le_refl w3.heap.size; have hgm:=rg1q (η (RG.ofOwn (w0:=w.heap.size) (B:=w3.heap.size) (b:=w3.heap.size) HOA.out (by simp) (.inl (by simp)))) hbb; have hgt:=η (RG.ofStack (B:=w3.heap.size) (b:=w3.heap.size) hto htr HRS.out (HWB.out _ hB) hA.size (.inl (Nat.lt_of_lt_of_le (by simp) hba.size))))
          | (have hG:=(Blk.new wa 35 #[.int .i64 0,.int .i64 0,.slice none 0 0,.slice none 0 0,.slice none 0 0,.slice none 0 0]).below hbb (Blk.new wa 35 #[.int .i64 0,.int .i64 0,.slice none 0 0,.slice none 0 0,.slice none 0 0,.slice none 0 0]).lt; have HG:=η hG; have hAA:=hB; have hsz:=hA.size; have hgm:=rg1q (rg1q (η (RG.ofOwn (w0:=w.heap.size) (B:=w3.heap.size) (b:=wa.heap.size) HOA.out (by simp) (.inr (Nat.le_refl _)))) ((Below.refl _ wa).alloc (Nat.le_refl _) (.cells #[.int .i64 0,.int .i64 0,.slice none 0 0,.slice none 0 0,.slice none 0 0,.slice none 0 0] 35))) hbb; have hgt:=η (RG.ofStack (B:=w3.heap.size) (b:=wa.heap.size) hto htr HRS.out (HWB.out _ hB) (hA.alloc hA.size _).size (.inl (by simp))))
          | (obtain ⟨WB,hWB⟩:∃ WB,wb.alloc (.cells #[.int .i64 0,.int .i64 0,.slice none 0 0,.slice none 0 0,.slice none 0 0,.slice none 0 0] 35)=WB:=⟨_,rfl⟩; have hG:Blk WB wb.heap.size 35 #[.int .i64 0,.int .i64 0,.slice none 0 0,.slice none 0 0,.slice none 0 0,.slice none 0 0]:=hWB ▸ Blk.new _ _ _; have hAA:Below w3.heap.size w3 WB:=hWB ▸ hB.alloc hB.size _; have HG:=η hG; have hsz:=hB.size; have hal9:Below wb.heap.size wb WB:=hWB ▸ (Below.refl _ wb).alloc (Nat.le_refl _) _; have hgm:=rg1q (rg1q (η (RG.ofOwn (w0:=w.heap.size) (B:=w3.heap.size) (b:=wb.heap.size) HOA.out (by simp) (.inr hbb.size))) hbb) hal9; have hgt:=rg1q (η (RG.ofStack (B:=w3.heap.size) (b:=wb.heap.size) hto htr HRS.out (HWB.out _ hB) hA.size (.inr (Nat.le_refl _)))) hal9; clear hal9)); obtain ⟨Y1,Y2,Y3,Y4,Y5,Y6,e0,e1,e2,e3,e4,e5,f0,f1,f2,f3,f4,f5,g0,g1,g2,g3,g4,g5,HR9,hk9⟩:=n6_steps HG (.int .i64 0) (.int .i64 0) (.slice (some cd) cN cc) (.slice mB mN md) (.slice tA tn tc) (.slice oA oN oc); have hYY:Below w3.heap.size w3 Y6:=hAA.trans (hk9.below hAA.size hsz hsz); have HROWS:=η (And.intro (rg2q hgm hk9 ⟨Nat.le_trans HWV.out hsz,.inr rfl⟩).out (And.intro (ownT_row HOA.out).2 (And.intro (rg2q hgt hk9 ⟨Nat.le_trans HWV.out hsz,.inr rfl⟩).out (And.intro htn htk)))); clear hk9 hgm hgt htr hto hG htn htk))
      all_goals go_wp2_with fail
      all_goals go_meet
      all_goals exact ⟨_,_,_,_,_,_,rfl,hsz,η hYY,HR9,HROWS⟩
     case rest =>
      obtain ⟨b,mB,tA,md,tn,tc,rfl,hbb,HBC,Hq,HROWS⟩:=hcut
      have HGM:=η HROWS.out.1
      have HGT:=η HROWS.out.2.2.1
      have HROWQ:=η (And.intro HROWS.out.2.1 HROWS.out.2.2.2)
      clear HROWS
      have hlab_:=Hlab.out.lt
      have hrow_:=Hrow.out.lt
      have hx_:=Hx.out.lt
      have hn_:=Hn.out.lt
      have ho_:=Ho.out.lt
      replace Hl:=bk1q Hl HBC.out
      replace Ht:=bk1q Ht HBC.out
      replace Hs:=bk1q Hs HBC.out
      replace Ho:=bk1q Ho HBC.out
      replace Hn:=bk1q Hn HBC.out
      replace Hx:=bk1q Hx HBC.out
      replace Hlab:=bk1q Hlab HBC.out
      replace Hrow:=bk1q Hrow HBC.out
      replace HBW:=bw1q HBW HBC.out
      replace HBJ:=bw1q HBJ HBC.out
      clear HSK BR BD BDA HBC HWB HWV HMEM HSTK
      have HSK:Hid (∀ W',Below wc.heap.size wc W'→W'.cell? ⟨w.heap.size+2,0,none⟩=some (.int .i64 (p:Int))∧W'.cell? ⟨w.heap.size+2,1,none⟩=some (.int .i64 pl)∧W'.cell? ⟨w.heap.size+2,2,none⟩=some (.slice (some cd) cN cc)∧W'.cell? ⟨w.heap.size+2,3,none⟩=some (.slice mA mN mc)∧W'.cell? ⟨w.heap.size+2,4,none⟩=some (.slice sA sN sc)∧W'.cell? ⟨w.heap.size+2,5,none⟩=some (.slice oA oN oc)∧W'.cell? ⟨w1.heap.size,0,none⟩=some (.bool true)∧W'.cell? ⟨w1.heap.size,1,none⟩=some (.bool ar)∧W'.cell? ⟨w1.heap.size,2,none⟩=some (.int .i64 av)∧W'.cell? ⟨w1.heap.size,3,none⟩=some (.int .i64 al)∧W'.cell? ⟨w1.heap.size,4,none⟩=some (.bool br)∧W'.cell? ⟨w1.heap.size,5,none⟩=some (.int .i64 bv)∧W'.cell? ⟨w1.heap.size,6,none⟩=some (.int .i64 bl)∧W'.cell? ⟨w1.heap.size,7,none⟩=some (.bool rr)∧W'.cell? ⟨w1.heap.size,8,none⟩=some (.int .i64 rv)∧W'.cell? ⟨w1.heap.size,9,none⟩=some (.int .i64 rl)∧W'.cell? ⟨w1.heap.size,10,none⟩=some (.int .i64 n1)∧W'.cell? ⟨w1.heap.size,11,none⟩=some (.int .i64 n2)∧W'.cell? ⟨w1.heap.size,12,none⟩=some (.int .i64 n3)∧W'.cell? ⟨w1.heap.size,13,none⟩=some (.int .i64 (nb:Int))∧W'.cell? ⟨w.heap.size,0,none⟩=some (.slice N names.length c1)∧W'.cell? ⟨w.heap.size,1,none⟩=some (.slice U up.length c2)∧W'.cell? ⟨X9.heap.size,2,none⟩=some (.slice A2 lp k2)):=η fun W' hb =>
       have h1:=Hs.out.below hb Hs.out.lt
       have h2:=Hn.out.below hb Hn.out.lt
       have h3:=Hl.out.below hb Hl.out.lt
       have h4:=Hrow.out.below hb Hrow.out.lt
       ⟨h1.cell 0,h1.cell 1,h1.cell 2,h1.cell 3,h1.cell 4,h1.cell 5,h2.cell 0,h2.cell 1,h2.cell 2,h2.cell 3,h2.cell 4,h2.cell 5,h2.cell 6,h2.cell 7,h2.cell 8,h2.cell 9,h2.cell 10,h2.cell 11,h2.cell 12,h2.cell 13,h3.cell 0,h3.cell 1,h4.cell 2⟩
      go_wp2_with (fail)
      refine Free.region_seq [2,7,11] [0,1,3,5] 11 (fun W'=>W'.cell? ⟨w.heap.size+2,0,none⟩=some (.int .i64 (p:Int))∧W'.cell? ⟨w.heap.size+2,1,none⟩=some (.int .i64 pl)∧W'.cell? ⟨w.heap.size+2,2,none⟩=some (.slice (some cd) cN cc)∧W'.cell? ⟨w.heap.size+2,3,none⟩=some (.slice mA mN mc)∧W'.cell? ⟨w.heap.size+2,4,none⟩=some (.slice sA sN sc)∧W'.cell? ⟨w.heap.size+2,5,none⟩=some (.slice oA oN oc)∧W'.cell? ⟨w1.heap.size,0,none⟩=some (.bool true)∧W'.cell? ⟨w1.heap.size,1,none⟩=some (.bool ar)∧W'.cell? ⟨w1.heap.size,2,none⟩=some (.int .i64 av)∧W'.cell? ⟨w1.heap.size,3,none⟩=some (.int .i64 al)∧W'.cell? ⟨w1.heap.size,4,none⟩=some (.bool br)∧W'.cell? ⟨w1.heap.size,5,none⟩=some (.int .i64 bv)∧W'.cell? ⟨w1.heap.size,6,none⟩=some (.int .i64 bl)∧W'.cell? ⟨w1.heap.size,7,none⟩=some (.bool rr)∧W'.cell? ⟨w1.heap.size,8,none⟩=some (.int .i64 rv)∧W'.cell? ⟨w1.heap.size,9,none⟩=some (.int .i64 rl)∧W'.cell? ⟨w1.heap.size,10,none⟩=some (.int .i64 n1)∧W'.cell? ⟨w1.heap.size,11,none⟩=some (.int .i64 n2)∧W'.cell? ⟨w1.heap.size,12,none⟩=some (.int .i64 n3)∧W'.cell? ⟨w1.heap.size,13,none⟩=some (.int .i64 (nb:Int))∧W'.cell? ⟨w.heap.size,0,none⟩=some (.slice N names.length c1)∧W'.cell? ⟨w.heap.size,1,none⟩=some (.slice U up.length c2)∧W'.cell? ⟨X9.heap.size,2,none⟩=some (.slice A2 lp k2)) (by kernel_rfl) (by kernel_rfl) (by kernel_rfl) (by kernel_rfl) (HSK.out _ (Below.refl _ wc).drew) (fun ops hops=>?_)
      clear hops
      iterate 2
       refine Free.Seq.quiet (v:=?_) (a':=?_) rfl rfl (fun W' hW'=>?_) ?_ ?_
       rotate_left 2
       ·first | obtain ⟨v0,v1,v2,v3,v4,v5,v6,v7,v8,v9,v10,v11,v12,v13,v14,v15,v16,v17,v18,v19,v20,v21,v22⟩:=hW' rfl | skip
        go_simp
        try with_reducible rfl
       ·simp only [Act.put,List.setIfInBounds_toArray,List.set_cons_zero,List.set_cons_succ]
        try with_reducible rfl
      refine Free.Seq.loud_ rfl (.inl rfl) (fun K hK=>?_)
      go_simp
      refine (HNX.out wc.drew (HBW.out.trans ((Below.refl _ wc).drew.mono HBW.out.size))).mono ?_
      rintro e w5 ⟨rfl,hb⟩
      have hb:=(Below.refl _ wc).drew.trans hb
      have HSB:=η hb
      refine hK.out _ _ rfl (fun _=>HSK.out _ HSB.out) ?_
      clear hK K
      replace Hl:=bk1q Hl hb
      replace Ht:=bk1q Ht hb
      replace Hs:=bk1q Hs hb
      replace Ho:=bk1q Ho hb
      replace Hn:=bk1q Hn hb
      replace Hx:=bk1q Hx hb
      replace Hlab:=bk1q Hlab hb
      replace Hrow:=bk1q Hrow hb
      replace Hq:=bk1q Hq hb
      replace HGM:=rg1q HGM hb
      replace HGT:=rg1q HGT hb
      replace HBW:=bw1q HBW hb
      replace HBJ:=bw1q HBJ hb
      clear hb HNX
      iterate 4
       refine Free.Seq.quiet (v:=?_) (a':=?_) rfl rfl (fun W' hW'=>?_) ?_ ?_
       rotate_left 2
       ·first | obtain ⟨v0,v1,v2,v3,v4,v5,v6,v7,v8,v9,v10,v11,v12,v13,v14,v15,v16,v17,v18,v19,v20,v21,v22⟩:=hW' rfl | skip
        go_simp
        try with_reducible rfl
       ·simp only [Act.put,List.setIfInBounds_toArray,List.set_cons_zero,List.set_cons_succ]
        try with_reducible rfl
      refine Free.Seq.loud_ rfl (.inl rfl) (fun K hK=>?_)
      go_simp
      refine (HJP.out w5 HBJ.out Hlab.out).mono ?_
      rintro e w6 ⟨rfl,hb⟩
      refine hK.out _ _ rfl (fun _=>HSK.out _ (HSB.out.trans (hb.mono HSB.out.size))) ?_
      clear hK K HJP HSK HSB
      replace Hl:=bk1q Hl hb
      replace Ht:=bk1q Ht hb
      replace Hs:=bk1q Hs hb
      replace Ho:=bk1q Ho hb
      replace Hn:=bk1q Hn hb
      replace Hx:=bk1q Hx hb
      replace Hlab:=bk1q Hlab hb
      replace Hrow:=bk1q Hrow hb
      replace Hq:=bk1q Hq hb
      replace HGM:=rg1q HGM hb
      replace HGT:=rg1q HGT hb
      replace HBW:=bw1q HBW hb
      clear hb
      obtain ⟨X17,hX17⟩:∃ X17,((w6.setCell ⟨b,0,none⟩ (.int .i64 nx)).setCell ⟨b,1,none⟩ (.int .i64 (ev:Int)))=X17:=⟨_,rfl⟩
      have hs_:=kp2_0q hX17
      have o17_0:w6.cell? ⟨b,0,none⟩=some (.int .i64 0):=Hq.out.cell 0
      have r17_0:=Hq.out.frozen 0
      have o17_1:w6.cell? ⟨b,1,none⟩=some (.int .i64 0):=Hq.out.cell 1
      have r17_1:=Hq.out.frozen 1
      replace Hq:=put2_6_0q Hq hX17
      replace Hl:=bk2q Hl hs_ (by omega)
      replace Ht:=bk2q Ht hs_ (by omega)
      replace Hs:=bk2q Hs hs_ (by omega)
      replace Ho:=bk2q Ho hs_ (by omega)
      replace Hn:=bk2q Hn hs_ (by omega)
      replace Hx:=bk2q Hx hs_ (by omega)
      replace Hlab:=bk2q Hlab hs_ (by omega)
      replace Hrow:=bk2q Hrow hs_ (by omega)
      replace HGM:=rg2q HGM hs_ (by omega)
      replace HGT:=rg2q HGT hs_ (by omega)
      replace HBW:=bw2q HBW hs_ (by omega)
      clear hs_
      iterate 3
       refine Free.Seq.quiet (v:=?_) (a':=?_) rfl rfl (fun W' hW'=>?_) ?_ ?_
       rotate_left 2
       ·skip
        go_simp
        try with_reducible rfl
       ·simp only [Act.put,List.setIfInBounds_toArray,List.set_cons_zero,List.set_cons_succ]
        try with_reducible rfl
      refine Free.Seq.loud_ rfl (.inl rfl) (fun K hK=>?_)
      go_simp
      refine hK.out _ _ rfl (fun h=>absurd h (by decide)) ?_
      clear hK K
      refine Free.Seq.nil_ ?_
      clear o17_0 r17_0 o17_1 r17_1
      by_cases h11:o=11
      ·have q11:((o:Int) == 11)=true:=by rw [h11]; rfl
       have hot:Sp.outT s ⟨o,xn,xl⟩ ⟨true,⟨ar,av,al⟩,⟨br,bv,bl⟩,⟨rr,rv,rl⟩,n1,n2,n3,nb⟩ cv=s.out++[⟨av,cv⟩]:=by unfold Sp.outT; rw [if_pos (show (o:Int)=11 by omega)]
       rw [hot] at HRES1
       clear h11 hot
       obtain ⟨u18_0,u18_1,u18_2⟩:=cel3q Hx
       obtain ⟨i0,hi,hz0,hz1,hz2⟩:=info_parts Tryz.infoAtom
       obtain ⟨U0,hU0⟩:∃ U0,X17.alloc (.cells #[] 30)=U0:=⟨_,rfl⟩
       have hbU0:Below X17.heap.size X17 U0:=alwq hU0
       have hown0:=own_emptyK X17 30 2
       rw [hU0] at hown0
       have s5:U0.cell? ⟨w.heap.size+2,5,none⟩=some (.slice oA oN oc):=(Hs.out.below hbU0 Hs.out.lt).cell 5
       have hrw:=(HRO.out.below (HBW.out.trans (hbU0.mono HBW.out.size))).more (Nat.le_trans HBW.out.size hbU0.size)
       obtain ⟨y1,U1,hrun,hown,hb2,-⟩:=append_run10 (P:=Tryz.prog) X17.heap.size 32 32 30 i0 (.agg #[.int .i64 0,.int .i64 0]) 2 16 Tryz.underlying32 hi hz0 hz1 hz2 rfl (by decide)
        _ 0 [] hown0 oA oN oc (fcells avs s.out) (by rw [fcells_length avs_len,HON.out]) hrw (fcells_one avs_one s.out) (by unfold maxLen; omega) (by omega) hbU0.size
       rw [Nat.zero_add,List.nil_append] at hown
       have hbU1:Below X17.heap.size X17 U1:=hbU0.trans hb2
       have n2c:U1.cell? ⟨w1.heap.size,2,none⟩=some (.int .i64 av):=(Hn.out.below hbU1 Hn.out.lt).cell 2
       have hown3:=hown.alloc (.cells #[.int .i64 av,.int .i64 (cv:Int)] 30)
       have hlt3:=(Blk.new U1 30 #[.int .i64 av,.int .i64 (cv:Int)]).lt
       have hr3:=(Blk.new U1 30 #[.int .i64 av,.int .i64 (cv:Int)]).row
       have hbU2:=hbU1.alloc hbU1.size (.cells #[.int .i64 av,.int .i64 (cv:Int)] 30)
       obtain ⟨U2,hU2⟩:∃ U2,U1.alloc (.cells #[.int .i64 av,.int .i64 (cv:Int)] 30)=U2:=⟨_,rfl⟩
       rw [hU2] at hown3 hlt3 hr3 hbU2
       obtain ⟨y3,U3,hrun2,hown4,hb4,-⟩:=append_run10 (P:=Tryz.prog) X17.heap.size 32 32 30 i0 (.agg #[.int .i64 0,.int .i64 0]) 2 16 Tryz.underlying32 hi hz0 hz1 hz2 rfl (by decide)
        _ oN _ hown3 (some ⟨U1.heap.size,0,none⟩) 1 1 [.int .i64 av,.int .i64 (cv:Int)] rfl (hr3.more hlt3) (by intro u hu; simp at hu; rcases hu with rfl | rfl <;> rfl) (by unfold maxLen; omega) (by omega) hbU2.size
       obtain ⟨A4,c4,rfl⟩:=ownT_slice hown4
       have hb:Below X17.heap.size X17 U3:=hbU2.trans hb4
       have hkc4:=(ownT_row hown4).2
       have hbq:=Hq.out.lt
       have HGO:Hid (RG w.heap.size X17.heap.size b U3 A4 (fcells avs (s.out++[(⟨av,(cv:Int)⟩:St.Atom)]))):=η (by rw [fcells_snoc10]; exact RG.ofOwn hown4 (Nat.le_refl _) (.inl hbq))
       have HRUN:=η hrun
       have HRUN2:=η hrun2
       replace Hl:=bk1q Hl hb
       replace Ht:=bk1q Ht hb
       replace Hs:=bk1q Hs hb
       replace Ho:=bk1q Ho hb
       replace Hn:=bk1q Hn hb
       replace Hx:=bk1q Hx hb
       replace Hlab:=bk1q Hlab hb
       replace Hrow:=bk1q Hrow hb
       replace Hq:=bk1q Hq hb
       replace HGM:=rg1q HGM hb
       replace HGT:=rg1q HGT hb
       replace HBW:=bw1q HBW hb
       clear hb hrun hrun2 hown hown0 hown3 hown4 hb2 hb4 hbU0 hbU1 hbU2 hr3 hlt3 hrw hi hz0 hz1 hz2
       obtain ⟨X19,hX19⟩:∃ X19,(U3.setCell ⟨b,5,none⟩ (.slice A4 (oN+1) c4))=X19:=⟨_,rfl⟩
       have hs_:=kp1q hX19
       have o19_5:U3.cell? ⟨b,5,none⟩=some (.slice oA oN oc):=Hq.out.cell 5
       have r19_5:=Hq.out.frozen 5
       replace Hq:=put1_6_5q Hq hX19
       replace Hl:=bk2q Hl hs_ (by omega)
       replace Ht:=bk2q Ht hs_ (by omega)
       replace Hs:=bk2q Hs hs_ (by omega)
       replace Ho:=bk2q Ho hs_ (by omega)
       replace Hn:=bk2q Hn hs_ (by omega)
       replace Hx:=bk2q Hx hs_ (by omega)
       replace Hlab:=bk2q Hlab hs_ (by omega)
       replace Hrow:=bk2q Hrow hs_ (by omega)
       replace HGM:=rg2q HGM hs_ (by omega)
       replace HGT:=rg2q HGT hs_ (by omega)
       replace HGO:=rg2q HGO hs_ (by omega)
       replace HBW:=bw2q HBW hs_ (by omega)
       clear hs_
       have hop1:Op10 X19 (⟨⟨nx,(ev:Int)⟩,s.code,M,L,(s.out++[(⟨av,(cv:Int)⟩:St.Atom)])⟩:St.State) nx ev (some cd) cN cc mB mN md tA tn tc A4 (oN+1) c4:=⟨rfl,rfl,HCN.out,HMLN.out,HROWQ.out.2.1,(by rw [List.length_append,HON.out]; rfl),(HRC.out.below HBW.out).more HBW.out.size,HGM.out.row,HGT.out.row,HGO.out.row,HOP0.out.kc,HROWQ.out.1,HROWQ.out.2.2,hkc4⟩
       have hsmo:SmallS (⟨⟨nx,(ev:Int)⟩,s.code,M,L,(s.out++[(⟨av,(cv:Int)⟩:St.Atom)])⟩:St.State):=⟨by show s.code.length≤_; rw [HCN.out]; omega,by show M.length≤_; rw [HMLN.out]; omega,by show L.length≤_; have:=HLLN.out; have:=HSN.out; omega,by show (s.out++[(⟨av,(cv:Int)⟩:St.Atom)]).length≤_; have:(s.out++[(⟨av,(cv:Int)⟩:St.Atom)]).length=(oN+1):=(by rw [List.length_append,HON.out]; rfl); omega⟩
       obtain ⟨rb,hrb⟩:∃ rb,St.rightB up.length (⟨⟨nx,(ev:Int)⟩,s.code,M,L,(s.out++[(⟨av,(cv:Int)⟩:St.Atom)])⟩:St.State)=rb:=⟨_,rfl⟩
       have hrt:=rRight9_any X19 ((HLA.out.below HBW.out).more HBW.out.size) hop1.isSt hsmo
       rw [hrb] at hrt HRES1
       have HRT:=η hrt
       clear hrt hsmo hop1 hrb
       obtain ⟨u20_0,u20_1⟩:=ζ2 Hl.out
       obtain ⟨u21_0,u21_1,u21_2,u21_3,u21_4,u21_5⟩:=cel6q Hq
       go_wp2_with (at_builtin; first | (refine wpList_append_run rfl _ _ 32 32 rfl _ _ rfl rfl _ _ HRUN.out ?_) | (refine wpList_append_run rfl _ _ 32 32 rfl _ _ rfl rfl _ _ HRUN2.out ?_))
       refine (HRT.out).mono ?_
       rintro e' w9 ⟨rfl,hb⟩
       replace Hl:=bk1q Hl hb
       replace Ht:=bk1q Ht hb
       replace Hs:=bk1q Hs hb
       replace Ho:=bk1q Ho hb
       replace Hn:=bk1q Hn hb
       replace Hx:=bk1q Hx hb
       replace Hlab:=bk1q Hlab hb
       replace Hrow:=bk1q Hrow hb
       replace Hq:=bk1q Hq hb
       replace HGM:=rg1q HGM hb
       replace HGT:=rg1q HGT hb
       replace HGO:=rg1q HGO hb
       replace HBW:=bw1q HBW hb
       clear hb
       clear u18_0 u18_1 u18_2 o19_5 r19_5 u20_0 u20_1 u21_0 u21_1 u21_2 u21_3 u21_4 u21_5
       cases rb with
       | false =>
        have HRES:Hid ((s,3)=res):=η (by rw [← HRES1.out,if_neg (by decide)])
        obtain ⟨u22_0,u22_1,u22_2,u22_3,u22_4,u22_5⟩:=cel6q Hs
        obtain ⟨rY1,rY2,rY3,rY4,rY5,rY6,rY7,re0,re1,re2,re3,re4,re5,re6,rf0,rf1,rf2,rf3,rf4,rf5,rf6,rg0,rg1,rg2,rg3,rg4,rg5,rg6,rH,hs_⟩:=n7_steps Ho (.int .i64 (p:Int)) (.int .i64 pl) (.slice (some cd) cN cc) (.slice mA mN mc) (.slice sA sN sc) (.slice oA oN oc) (.int .i64 3)
        replace Hl:=bk2q Hl hs_ (by omega)
        replace Ht:=bk2q Ht hs_ (by omega)
        replace Hs:=bk2q Hs hs_ (by omega)
        replace Hn:=bk2q Hn hs_ (by omega)
        replace Hx:=bk2q Hx hs_ (by omega)
        replace Hlab:=bk2q Hlab hs_ (by omega)
        replace Hrow:=bk2q Hrow hs_ (by omega)
        replace Hq:=bk2q Hq hs_ (by omega)
        replace HGM:=rg2q HGM hs_ (by omega)
        replace HGT:=rg2q HGT hs_ (by omega)
        replace HGO:=rg2q HGO hs_ (by omega)
        replace HBW:=bw2q HBW hs_ (by omega)
        clear hs_
        clear Ho
        have Ho:=rH
        clear rH
        obtain ⟨z0,z1,z2,z3,z4,z5,z6⟩:=cel7q Ho
        go_wp2_with (exact bodyPost_ret (v:=.agg #[.int .i64 (p:Int),.int .i64 pl,.slice (some cd) cN cc,.slice mA mN mc,.slice sA sN sc,.slice oA oN oc,.int .i64 3]) (by simp [results,Tryz.results13,go_sem,z0,z1,z2,z3,z4,z5,z6]) rfl (by rw [← HRES.out]; exact ⟨_,_,_,_,_,_,_,_,_,_,_,_,_,_,rfl,HOP0.out.below HBW.out,HBW.out⟩))
       | true =>
        have HRES:Hid (((⟨⟨nx,(ev:Int)⟩,s.code,M,L,(s.out++[(⟨av,(cv:Int)⟩:St.Atom)])⟩:St.State),0)=res):=η (by rw [← HRES1.out,if_pos rfl])
        obtain ⟨u22_0,u22_1,u22_2,u22_3,u22_4,u22_5⟩:=cel6q Hq
        obtain ⟨rY1,rY2,rY3,rY4,rY5,rY6,rY7,re0,re1,re2,re3,re4,re5,re6,rf0,rf1,rf2,rf3,rf4,rf5,rf6,rg0,rg1,rg2,rg3,rg4,rg5,rg6,rH,hs_⟩:=n7_steps Ho (.int .i64 nx) (.int .i64 (ev:Int)) (.slice (some cd) cN cc) (.slice mB mN md) (.slice tA tn tc) (.slice A4 (oN+1) c4) (.int .i64 0)
        replace Hl:=bk2q Hl hs_ (by omega)
        replace Ht:=bk2q Ht hs_ (by omega)
        replace Hs:=bk2q Hs hs_ (by omega)
        replace Hn:=bk2q Hn hs_ (by omega)
        replace Hx:=bk2q Hx hs_ (by omega)
        replace Hlab:=bk2q Hlab hs_ (by omega)
        replace Hrow:=bk2q Hrow hs_ (by omega)
        replace Hq:=bk2q Hq hs_ (by omega)
        replace HGM:=rg2q HGM hs_ (by omega)
        replace HGT:=rg2q HGT hs_ (by omega)
        replace HGO:=rg2q HGO hs_ (by omega)
        replace HBW:=bw2q HBW hs_ (by omega)
        clear hs_
        clear Ho
        have Ho:=rH
        clear rH
        obtain ⟨z0,z1,z2,z3,z4,z5,z6⟩:=cel7q Ho
        go_wp2_with (exact bodyPost_ret (v:=.agg #[.int .i64 nx,.int .i64 (ev:Int),.slice (some cd) cN cc,.slice mB mN md,.slice tA tn tc,.slice A4 (oN+1) c4,.int .i64 0]) (by simp [results,Tryz.results13,go_sem,z0,z1,z2,z3,z4,z5,z6]) rfl (by rw [← HRES.out]; exact ⟨_,_,_,_,_,_,_,_,_,_,_,_,_,_,rfl,(show Op10 rY7 (⟨⟨nx,(ev:Int)⟩,s.code,M,L,(s.out++[(⟨av,(cv:Int)⟩:St.Atom)])⟩:St.State) nx ev (some cd) cN cc mB mN md tA tn tc A4 (oN+1) c4 from ⟨rfl,rfl,HCN.out,HMLN.out,HROWQ.out.2.1,(by rw [List.length_append,HON.out]; rfl),(HRC.out.below HBW.out).more HBW.out.size,HGM.out.row,HGT.out.row,HGO.out.row,HOP0.out.kc,HROWQ.out.1,HROWQ.out.2.2,hkc4⟩),HBW.out⟩))
      ·have q11:((o:Int) == 11)=false:=by rw [beq_eq_false_iff_ne]; omega
       have hot:Sp.outT s ⟨o,xn,xl⟩ ⟨true,⟨ar,av,al⟩,⟨br,bv,bl⟩,⟨rr,rv,rl⟩,n1,n2,n3,nb⟩ cv=s.out:=by unfold Sp.outT; rw [if_neg (show ¬ (o:Int)=11 by omega)]
       rw [hot] at HRES1
       clear h11 hot
       obtain ⟨u18_0,u18_1,u18_2⟩:=cel3q Hx
       have hko:=HOP0.out.ko
       have hop1:Op10 X17 (⟨⟨nx,(ev:Int)⟩,s.code,M,L,s.out⟩:St.State) nx ev (some cd) cN cc mB mN md tA tn tc oA oN oc:=⟨rfl,rfl,HCN.out,HMLN.out,HROWQ.out.2.1,HON.out,(HRC.out.below HBW.out).more HBW.out.size,HGM.out.row,HGT.out.row,((HRO.out.below HBW.out).more HBW.out.size),HOP0.out.kc,HROWQ.out.1,HROWQ.out.2.2,hko⟩
       have hsmo:SmallS (⟨⟨nx,(ev:Int)⟩,s.code,M,L,s.out⟩:St.State):=⟨by show s.code.length≤_; rw [HCN.out]; omega,by show M.length≤_; rw [HMLN.out]; omega,by show L.length≤_; have:=HLLN.out; have:=HSN.out; omega,by show s.out.length≤_; have:s.out.length=oN:=HON.out; omega⟩
       obtain ⟨rb,hrb⟩:∃ rb,St.rightB up.length (⟨⟨nx,(ev:Int)⟩,s.code,M,L,s.out⟩:St.State)=rb:=⟨_,rfl⟩
       have hrt:=rRight9_any X17 ((HLA.out.below HBW.out).more HBW.out.size) hop1.isSt hsmo
       rw [hrb] at hrt HRES1
       have HRT:=η hrt
       clear hrt hsmo hop1 hrb
       obtain ⟨u19_0,u19_1⟩:=ζ2 Hl.out
       obtain ⟨u20_0,u20_1,u20_2,u20_3,u20_4,u20_5⟩:=cel6q Hq
       go_wp2_with (fail)
       refine (HRT.out).mono ?_
       rintro e' w9 ⟨rfl,hb⟩
       replace Hl:=bk1q Hl hb
       replace Ht:=bk1q Ht hb
       replace Hs:=bk1q Hs hb
       replace Ho:=bk1q Ho hb
       replace Hn:=bk1q Hn hb
       replace Hx:=bk1q Hx hb
       replace Hlab:=bk1q Hlab hb
       replace Hrow:=bk1q Hrow hb
       replace Hq:=bk1q Hq hb
       replace HGM:=rg1q HGM hb
       replace HGT:=rg1q HGT hb
       replace HBW:=bw1q HBW hb
       clear hb
       clear u18_0 u18_1 u18_2 u19_0 u19_1 u20_0 u20_1 u20_2 u20_3 u20_4 u20_5
       cases rb with
       | false =>
        have HRES:Hid ((s,3)=res):=η (by rw [← HRES1.out,if_neg (by decide)])
        obtain ⟨u21_0,u21_1,u21_2,u21_3,u21_4,u21_5⟩:=cel6q Hs
        obtain ⟨rY1,rY2,rY3,rY4,rY5,rY6,rY7,re0,re1,re2,re3,re4,re5,re6,rf0,rf1,rf2,rf3,rf4,rf5,rf6,rg0,rg1,rg2,rg3,rg4,rg5,rg6,rH,hs_⟩:=n7_steps Ho (.int .i64 (p:Int)) (.int .i64 pl) (.slice (some cd) cN cc) (.slice mA mN mc) (.slice sA sN sc) (.slice oA oN oc) (.int .i64 3)
        replace Hl:=bk2q Hl hs_ (by omega)
        replace Ht:=bk2q Ht hs_ (by omega)
        replace Hs:=bk2q Hs hs_ (by omega)
        replace Hn:=bk2q Hn hs_ (by omega)
        replace Hx:=bk2q Hx hs_ (by omega)
        replace Hlab:=bk2q Hlab hs_ (by omega)
        replace Hrow:=bk2q Hrow hs_ (by omega)
        replace Hq:=bk2q Hq hs_ (by omega)
        replace HGM:=rg2q HGM hs_ (by omega)
        replace HGT:=rg2q HGT hs_ (by omega)
        replace HBW:=bw2q HBW hs_ (by omega)
        clear hs_
        clear Ho
        have Ho:=rH
        clear rH
        obtain ⟨z0,z1,z2,z3,z4,z5,z6⟩:=cel7q Ho
        go_wp2_with (exact bodyPost_ret (v:=.agg #[.int .i64 (p:Int),.int .i64 pl,.slice (some cd) cN cc,.slice mA mN mc,.slice sA sN sc,.slice oA oN oc,.int .i64 3]) (by simp [results,Tryz.results13,go_sem,z0,z1,z2,z3,z4,z5,z6]) rfl (by rw [← HRES.out]; exact ⟨_,_,_,_,_,_,_,_,_,_,_,_,_,_,rfl,HOP0.out.below HBW.out,HBW.out⟩))
       | true =>
        have HRES:Hid (((⟨⟨nx,(ev:Int)⟩,s.code,M,L,s.out⟩:St.State),0)=res):=η (by rw [← HRES1.out,if_pos rfl])
        obtain ⟨u21_0,u21_1,u21_2,u21_3,u21_4,u21_5⟩:=cel6q Hq
        obtain ⟨rY1,rY2,rY3,rY4,rY5,rY6,rY7,re0,re1,re2,re3,re4,re5,re6,rf0,rf1,rf2,rf3,rf4,rf5,rf6,rg0,rg1,rg2,rg3,rg4,rg5,rg6,rH,hs_⟩:=n7_steps Ho (.int .i64 nx) (.int .i64 (ev:Int)) (.slice (some cd) cN cc) (.slice mB mN md) (.slice tA tn tc) (.slice oA oN oc) (.int .i64 0)
        replace Hl:=bk2q Hl hs_ (by omega)
        replace Ht:=bk2q Ht hs_ (by omega)
        replace Hs:=bk2q Hs hs_ (by omega)
        replace Hn:=bk2q Hn hs_ (by omega)
        replace Hx:=bk2q Hx hs_ (by omega)
        replace Hlab:=bk2q Hlab hs_ (by omega)
        replace Hrow:=bk2q Hrow hs_ (by omega)
        replace Hq:=bk2q Hq hs_ (by omega)
        replace HGM:=rg2q HGM hs_ (by omega)
        replace HGT:=rg2q HGT hs_ (by omega)
        replace HBW:=bw2q HBW hs_ (by omega)
        clear hs_
        clear Ho
        have Ho:=rH
        clear rH
        obtain ⟨z0,z1,z2,z3,z4,z5,z6⟩:=cel7q Ho
        go_wp2_with (exact bodyPost_ret (v:=.agg #[.int .i64 nx,.int .i64 (ev:Int),.slice (some cd) cN cc,.slice mB mN md,.slice tA tn tc,.slice oA oN oc,.int .i64 0]) (by simp [results,Tryz.results13,go_sem,z0,z1,z2,z3,z4,z5,z6]) rfl (by rw [← HRES.out]; exact ⟨_,_,_,_,_,_,_,_,_,_,_,_,_,_,rfl,(show Op10 rY7 (⟨⟨nx,(ev:Int)⟩,s.code,M,L,s.out⟩:St.State) nx ev (some cd) cN cc mB mN md tA tn tc oA oN oc from ⟨rfl,rfl,HCN.out,HMLN.out,HROWQ.out.2.1,HON.out,(HRC.out.below HBW.out).more HBW.out.size,HGM.out.row,HGT.out.row,((HRO.out.below HBW.out).more HBW.out.size),HOP0.out.kc,HROWQ.out.1,HROWQ.out.2.2,hko⟩),HBW.out⟩))
 ·have qpc:decide ((cN:Int)≤(p:Int))=true:=decide_eq_true (by omega)
  have HRES:Hid ((s,3)=res):=η (by rw [← HRES0.out]; unfold Sp.step; rw [HPV.out,Int.toNat_natCast,List.getElem?_eq_none (by rw [HCN.out]; omega)])
  obtain ⟨u1_0,u1_1,u1_2,u1_3,u1_4,u1_5⟩:=cel6q Hs
  go_enter Tryz.func13,Tryz.ntmps13
  obtain ⟨rY1,rY2,rY3,rY4,rY5,rY6,rY7,re0,re1,re2,re3,re4,re5,re6,rf0,rf1,rf2,rf3,rf4,rf5,rf6,rg0,rg1,rg2,rg3,rg4,rg5,rg6,rH,hs_⟩:=n7_steps Ho (.int .i64 (p:Int)) (.int .i64 pl) (.slice cA cN cc) (.slice mA mN mc) (.slice sA sN sc) (.slice oA oN oc) (.int .i64 3)
  replace Hl:=bk2q Hl hs_ (by omega)
  replace Ht:=bk2q Ht hs_ (by omega)
  replace Hs:=bk2q Hs hs_ (by omega)
  replace HBW:=bw2q HBW hs_ (by omega)
  clear hs_
  clear Ho
  have Ho:=rH
  clear rH
  obtain ⟨z0,z1,z2,z3,z4,z5,z6⟩:=cel7q Ho
  go_wp2_with (exact bodyPost_ret (v:=.agg #[.int .i64 (p:Int),.int .i64 pl,.slice cA cN cc,.slice mA mN mc,.slice sA sN sc,.slice oA oN oc,.int .i64 3]) (by simp [results,Tryz.results13,go_sem,z0,z1,z2,z3,z4,z5,z6]) rfl (by rw [← HRES.out]; exact ⟨_,_,_,_,_,_,_,_,_,_,_,_,_,_,rfl,HOP0.out.below HBW.out,HBW.out⟩))
end Go.Proofs.YtefimimcfkdoiaaGreatDoor
